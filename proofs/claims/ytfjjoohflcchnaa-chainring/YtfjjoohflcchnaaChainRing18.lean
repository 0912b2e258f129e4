/- ChainRing: of a ring the last who writes down is told, under every schedule. Part 18 of 37. (Joined, by program, of: GDrive8.) -/
import Derived.Test.YtfjjoohflcchnaaChainRing17
set_option linter.unusedSimpArgs false
set_option linter.unusedVariables false
namespace Go.Proofs.Ytfjjoohflcchnaa.Gen
open Go Go.Lift Go.Conc Go.RowKit
open Go.ConcN (upd upd_same upd_ne)
variable {mc : Mc} {fid : FuncId} {P : Pkg mc fid}

inductive Scripts (P : Pkg mc fid) (bb : Nat) (kb : List Nat) : Nat → (Nat → Option Obj) → (Nat → Prop) → List (Scr mc) → Prop
  | nil {k : Nat} {Mm : Nat → Option Obj} {Fut : Nat → Prop} : Scripts P bb kb k Mm Fut []
  | cons {k : Nat} {Mm : Nat → Option Obj} {Fut : Nat → Prop} {s : Scr mc} {ss : List (Scr mc)} : Script P Mm Fut k bb kb s → (∀ h tb gc b0, (∀ b, Mm b ≠ none → b ≠ b0) → Scripts P bb kb (k + 1) (fun b => if b = (s.X h tb gc b0).ab then none else Mm b) (fun b => Fut b ∧ b ≠ (s.X h tb gc b0).ab) ss) → Scripts P bb kb k Mm Fut (s :: ss)
/-- What hiring comes to. -/
inductive Hires (nk : Mc) : Nat → List (Scr mc) → TS → (Nat → Ph) → TS → (Nat → Ph) → Prop
  | nil {k : Nat} {S : TS} {l : Nat → Ph} : Hires nk k [] S l S l
  | cons {k : Nat} {s : Scr mc} {ss : List (Scr mc)} {S S' : TS} {l l' : Nat → Ph} (tv : Value) (tb gc : Nat) : Hires nk (k + 1) ss (flow k nk s.calls 0 false s.ans (hiredS S tv tb gc)).1 (upd l k (flow k nk s.calls 0 false s.ans (hiredS S tv tb gc)).2) S' l' → Hires nk k (s :: ss) S l S' l'
def lens (ss : List (Scr mc)) : Nat := (ss.map fun s => s.calls.length).sum
theorem flow_le (i : Nat) (m : Mc) : ∀ (rest : List Cl) (ii : Nat) (sk : Bool) (ans : List (Int × Int)) (S : TS), (flow i m rest ii sk ans S).1.n ≤ S.n + 2 * rest.length
  | [], ii, sk, ans, S => Nat.le_refl _
  | c :: rest, ii, true, ans, S => by
    have := flow_le i m rest (ii + 1) true (ans.set ii (4, 0)) S
    show (flow i m rest (ii + 1) true (ans.set ii (4, 0)) S).1.n ≤ _
    simp only [List.length_cons]; omega
  | c :: rest, ii, false, ans, S => by
    have key : ∀ (a : Int × Int), (flow i m rest (ii + 1) (a.1 == 4) (ans.set ii a) (noted (noted S undef i 9 (-1) ii 0) undef i 10 (-1) ii a.1)).1.n ≤ S.n + 2 * (c :: rest).length := fun a => by
      have := flow_le i m rest (ii + 1) (a.1 == 4) (ans.set ii a) (noted (noted S undef i 9 (-1) ii 0) undef i 10 (-1) ii a.1)
      have e : (noted (noted S undef i 9 (-1) ii 0) undef i 10 (-1) ii a.1).n = S.n + 2 := rfl
      simp only [List.length_cons]; omega
    have seat : ∀ (s o j : Int), (waiting (noted S undef i 9 (-1) ii 0) i (thrI S i) s o j).n ≤ S.n + 2 * (c :: rest).length := fun s o j => by
      show S.n + 1 ≤ _
      simp only [List.length_cons]; omega
    unfold flow
    split
    · exact key (_, _)
    · exact seat _ _ _
    · split
      · exact key _
      · exact seat _ _ _

/-- Which scripts the threads have. -/
def XsOf (k : Nat) (ss : List (Scr mc)) (X : Nat → Fix mc) : Prop := ∀ j s, ss[j]? = some s → ∃ h tb gc b0, X (k + j) = s.X h tb gc b0

theorem Holds.lower {k N N' : Nat} {X : Nat → Fix mc} {l : Nat → Ph} {E : Nat → Nat → Prop} {M : Nat → Nat → Option Obj} {Mm : Keep} {z : Nat → Option Nat} {cont : Addr → Value} {Ch : Nat → Prop} {S : TS} {K : List (Nat × Int)} {v : World} {B : Nat} {Mb : Nat → Prop} {Inb : Nat → Option Seat} {h : Nat} {T : Trace} {gs : Array Goroutine} {w : World} {q : Nat → Nat}
    (H : Holds k N X l E M Mm z cont Ch S K v B Mb Inb h T gs w q) (hN : N' ≤ N) : Holds k N' X l E M Mm z cont Ch S K v B Mb Inb h T gs w q :=
  ⟨H.ring, H.mb, H.b, H.rel, H.mem, H.crew, ⟨fun i hi => by obtain ⟨n, h1, h2⟩ := H.seats.seat i hi; exact ⟨n, by omega, h2⟩, H.seats.none, H.seats.main⟩, H.len, H.stt⟩

theorem hires_run (P : Pkg mc fid) {N n bb cap : Nat} {cs : List Frame} {K : List (Nat × Int)} (hkk : KOk mc K) (hn8 : n ≤ 8) : ∀ (ss : List (Scr mc)) (k : Nat) (X : Nat → Fix mc) (l : Nat → Ph) (E : Nat → Nat → Prop) (M : Nat → Nat → Option Obj) (Mm : Keep) (z : Nat → Option Nat) (cont : Addr → Value) (Ch : Nat → Prop) (S : TS) (v : World) (B : Nat) (Mb : Nat → Prop) (Inb : Nat → Option Seat) (T : Trace) (gs : Array Goroutine) (w : World) (q : Nat → Nat) (sl : Option (Nat × Nat)) (u : Nat → Value) (Fut : Nat → Prop),
    k + ss.length = n → Scripts P bb (K.map (·.1)) k Mm.M Fut ss → (∀ b, Fut b → Mm.M b ≠ none) → (∀ i, i < k → ∀ b, Fut b → M i b = none) → S.n + 2 * lens ss ≤ 1000000 →
    Holds k N X l E M Mm z cont Ch S K v B Mb Inb 0 T gs w q → gs[0]? = some (G (hFr S.wb (.slice (some ⟨bb, 0, none⟩) n cap) n k u) cs) →
    ∃ (N' : Nat) (gs' : Array Goroutine) (w' : World) (sl' : Option (Nat × Nat)) (T' : Trace) (q' : Nat → Nat) (B' : Nat) (Mb' : Nat → Prop) (Inb' : Nat → Option Seat) (z' : Nat → Option Nat) (cont' : Addr → Value) (Ch' : Nat → Prop) (S' : TS) (v' : World) (X' : Nat → Fix mc) (l' : Nat → Ph) (E' : Nat → Nat → Prop) (M' : Nat → Nat → Option Obj) (Mm' : Keep) (u' : Nat → Value),
      runNT Try.prog N' (crowd gs w sl) T = (.next (crowd gs' w' sl'), T') ∧ gs'.size = gs.size + ss.length ∧ gs'[0]? = some (G (hFr S'.wb (.slice (some ⟨bb, 0, none⟩) n cap) n n u') cs) ∧ Hires mc k ss (nv S) l (nv S') l' ∧
      Holds n N X' l' E' M' Mm' z' cont' Ch' S' K v' B' Mb' Inb' 0 T' gs' w' q' ∧ (∀ j, j < k → X' j = X j) ∧ XsOf k ss X' ∧ (Mm'.os = Mm.os ∧ Mm'.out = Mm.out) ∧ (∀ b o, Mm'.M b = some o → Mm.M b = some o) ∧ (∀ b o, Mm.M b = some o → Mm'.M b = some o ∨ ∃ j, k ≤ j ∧ j < n ∧ b = (X' j).ab ∧ b ≠ (X' j).bb) ∧ S'.sched = S.sched := by
  intro ss
  induction ss with
  | nil =>
    intro k X l E M Mm z cont Ch S v B Mb Inb T gs w q sl u Fut hkn _ _ _ _ H hg
    obtain rfl : k = n := by simpa using hkn
    exact ⟨0, gs, w, sl, T, q, B, Mb, Inb, z, cont, Ch, S, v, X, l, E, M, Mm, u, rfl, rfl, hg, .nil, H, fun _ _ => rfl, (fun j s h => by simp at h), ⟨rfl, rfl⟩, fun _ _ h => h, fun _ _ h => .inl h, rfl⟩
  | cons s ss ih =>
    intro k X l E M Mm z cont Ch S v B Mb Inb T gs w q sl u Fut hkn hsc hfm hfut hlen H hg
    cases hsc with
    | cons sc hmore =>
      have hk : k < n := by simp only [List.length_cons] at hkn; omega
      have hls : lens (s :: ss) = s.calls.length + lens ss := by simp [lens]
      have hl : ∀ tv tb gc, (flow k mc s.calls 0 false s.ans (nv (hiredS S tv tb gc))).1.n * 40 ≤ 140737488355328 := fun tv tb gc => by
        have := flow_le k mc s.calls 0 false s.ans (nv (hiredS S tv tb gc))
        have e : (nv (hiredS S tv tb gc)).n = S.n := rfl
        omega
      obtain ⟨N1, gs1, w1, sl1, T1, q1, B1, Mb1, Inb1, z1, cont1, Ch1, S1, v1, E1, M1, u1, tv, tb, gc, Y, r1, hz1, h1, hS1, ⟨b0, hY, hb0⟩, H1, hf1⟩ := hire_one P H hg hk hn8 sl hfm hfut sc hkk hl
      have hn1 : S1.n + 2 * lens ss ≤ 1000000 := by
        have e1 : (nv S1).n = (flow k mc s.calls 0 false s.ans (nv (hiredS S tv tb gc))).1.n := congrArg TS.n hS1
        have e2 : (nv S1).n = S1.n := rfl
        have := flow_le k mc s.calls 0 false s.ans (nv (hiredS S tv tb gc))
        have e : (nv (hiredS S tv tb gc)).n = S.n := rfl
        omega
      have hsc1 : S1.sched = S.sched := (congrArg TS.sched hS1).trans (flow_sta k mc s.calls 0 false s.ans (nv (hiredS S tv tb gc))).sched
      obtain ⟨N2, gs2, w2, sl2, T2, q2, B2, Mb2, Inb2, z2, cont2, Ch2, S2, v2, X2, l2, E2, M2, Mm2, u2, r2, hz2, h2, hH2, H2, hX2, hXs2, hio2, hMa2, hMb2, hsc2⟩ := ih (k + 1) (upd X k Y) _ E1 M1 _ z1 cont1 Ch1 S1 v1 B1 Mb1 Inb1 T1 gs1 w1 q1 sl1 u1 (fun b => Fut b ∧ b ≠ Y.ab) (by simp only [List.length_cons] at hkn; omega) (by rw [hY]; exact hmore _ tb gc b0 hb0) (fun b hb => by
        show (if b = Y.ab then none else Mm.M b) ≠ none
        rw [if_neg hb.2]; exact hfm b hb.1) (fun i hi b hb => hf1 i hi b hb.1 hb.2) hn1 H1 h1
      have hYk : X2 k = Y := by rw [hX2 k (by omega), upd_same]
      refine ⟨N1 + N2, gs2, w2, sl2, T2, q2, B2, Mb2, Inb2, z2, cont2, Ch2, S2, v2, X2, l2, E2, M2, Mm2, u2, runNT_then r1 r2, by simp only [List.length_cons]; omega, h2, .cons tv tb gc (by rw [hS1] at hH2; exact hH2), H2, fun j hj => by rw [hX2 j (by omega), upd_ne _ _ (by omega)], fun j s' hj => ?_, hio2, fun b o hb => ?_, fun b o hb => ?_, hsc2.trans hsc1⟩
      · match j, hj with
        | 0, hj =>
          obtain rfl : s = s' := by simpa using hj
          exact ⟨gs.size, tb, gc, b0, by rw [Nat.add_zero, hYk, hY]⟩
        | j + 1, hj =>
          obtain ⟨h, tb', gc', b', e⟩ := hXs2 j s' (by simpa using hj)
          exact ⟨h, tb', gc', b', by rw [show k + (j + 1) = k + 1 + j by omega]; exact e⟩
      · have := hMa2 b o hb
        have h' : (if b = Y.ab then none else Mm.M b) = some o := this
        split at h'
        · cases h'
        · exact h'
      · by_cases e : b = Y.ab
        · have hpos : 0 < gs.size := (Array.getElem?_eq_some_iff.1 hg).1
          exact .inr ⟨k, Nat.le_refl _, hk, by rw [hYk]; exact e, by rw [hYk, hY, (sc.fix gs.size tb gc b0 hpos hb0).2.2.2.2.2.1]; exact hb0 b (by rw [hb]; simp)⟩
        · rcases hMb2 b o (by show (if b = Y.ab then none else Mm.M b) = some o; rw [if_neg e]; exact hb) with h | ⟨j, h1, h2, h3⟩
          · exact .inl h
          · exact .inr ⟨j, by omega, h2, h3⟩

/-- The world in company holds it, too. -/
theorem has_rel {z : Nat → Option Nat} {S : TS} {K : List (Nat × Int)} {v w : World} {m : Nat → Option Obj} (hm : Mem z S K v) (hr : Rel z v w) (h : Has m v) (hf : ∀ b, m b ≠ none → ¬ Own S K b) : Has m w := fun b o hb => by
  have hz : z b = none := by
    cases hz : z b with
    | none => rfl
    | some n =>
      exfalso
      refine hf b (by rw [hb]; simp) ?_
      rcases hm.rep.kept b n hz with ⟨rfl, _⟩ | ⟨i, t, ht, rfl, _⟩
      · exact .inl ⟨0, rfl⟩
      · exact .inl ⟨i + 5, by simp [blk, ht]⟩
  rw [hr.heap, hz, h b o hb]
  simp [zap_none]

set_option maxHeartbeats 1000000 in
/-- TURN.RUN, WHOLE: from its entry to behind it, main alone at both ends. -/
theorem run35_all (P : Pkg mc fid) {K : List (Nat × Int)} (hkk : KOk mc K) {n bb cap : Nat} {cs : List Frame} {bc : Frame} {ac : Act} {ops : Array Oper} {q0 : Nat} {rest : List Nat} {oc : Oper} {k0 : List Item} (hoc : ops[q0]? = some oc) {S : TS} {w : World} {B : Nat} {T : Trace} {gs : Array Goroutine} {q : Nat → Nat} (sl : Option (Nat × Nat)) {Mm : Keep} {Fut : Nat → Prop} {ss : List (Scr mc)} (NT : Nat)
    (hL : Leavers Try.prog T gs q) (hP : Past (fun _ => False) B T) (hB : B ≤ w.heap.size)
    (hg : gs[0]? = some (G ((base 86).at { tmps := #[Pt S.wb 0, .slice (some ⟨bb, 0, none⟩) n cap] ++ Array.replicate 60 undef, defers := [] } [.code B35]) (bc.at ac (.inRegion ops (q0 :: rest) :: k0) :: cs)))
    (hm : Mem zn S K w) (hthr : S.thr = []) (hran : S.ran = false) (hbk : Open w S.bk) (hM : Has Mm.M w) (hMo : ∀ b, Mm.M b ≠ none → ¬ Own S K b) (hMb : Mm.M S.bk = none) (hio : w.os = Mm.os ∧ w.output = Mm.out)
    (hfm : ∀ b, Fut b → Mm.M b ≠ none) (sc : Scripts P bb (K.map (·.1)) 0 Mm.M Fut ss) (hn : ss.length = n) (hn8 : n ≤ 8) (hlen : S.n + 2 * lens ss ≤ 1000000) (hsl : S.sched.length ≤ 4611686018427387904) (hsc : ∀ x ∈ S.sched, -9223372036854775808 ≤ x ∧ x < 9223372036854775808) (l0 : Nat → Ph)
    (hturn : ∀ S1 l1, Hires mc 0 ss (nv { S with ran := true }) l0 S1 l1 → ∃ m p', m ≤ NT ∧ Turns mc m ⟨S1, K, l1⟩ p' ∧ p'.S.n * 40 ≤ 140737488355328) :
    ∃ (N' : Nat) (gs' : Array Goroutine) (w' : World) (sl' : Option (Nat × Nat)) (T' : Trace) (q' : Nat → Nat) (B' : Nat) (S' : TS) (X : Nat → Fix mc) (Mm' : Keep) (S1 : TS) (l1 : Nat → Ph) (m : Nat) (p' : PSt),
      runNT Try.prog N' (crowd gs w sl) T = (.next (crowd gs' w' sl'), T') ∧ gs'.size = gs.size + n ∧ gs'[0]? = some (G (bc.at (ac.put oc.dst (.tuple #[])) (.inRegion ops rest :: k0)) cs) ∧
      Leavers Try.prog T' gs' q' ∧ Past (fun _ => False) B' T' ∧ B' ≤ w'.heap.size ∧ Mem zn S' p'.K w' ∧ nv S' = p'.S ∧ Hires mc 0 ss (nv { S with ran := true }) l0 S1 l1 ∧ Turns mc m ⟨S1, K, l1⟩ p' ∧
      Has Mm'.M w' ∧ (∀ b, Mm'.M b ≠ none → ¬ Own S' p'.K b) ∧ (w'.os = Mm.os ∧ w'.output = Mm.out) ∧ XsOf 0 ss X ∧ (∀ i, i < n → PM (X i) (p'.l i).ans w' ∧ ∃ a, p'.l i = .done a) ∧ (∀ b o, Mm'.M b = some o → Mm.M b = some o) ∧ (∀ b o, Mm.M b = some o → Mm'.M b = some o ∨ ∃ j, j < n ∧ b = (X j).ab ∧ b ≠ (X j).bb) := by
  have hbkw : S.bk ≠ S.wb := fun e => by
    obtain ⟨cp, m, hh⟩ := hbk
    rw [e, hm.rep.wor] at hh
    cases hh
  have hbkO : ¬ Own S K S.bk := fun ho => by
    obtain ⟨cp, m, hh⟩ := hbk
    obtain ⟨x, e, f, h1⟩ := hm.row ho
    rw [h1] at hh; cases hh
  obtain ⟨z, hz⟩ : ∃ z : Nat → Option Nat, z = fun b => if b = S.wb then some 8 else none := ⟨_, rfl⟩
  have hzwb : z S.wb = some 8 := by rw [hz]; simp
  have hzno : ∀ b, b ≠ S.wb → z b = none := fun b hb => by rw [hz]; simp [hb]
  obtain ⟨v, hvw, hmv, hvo, hvu⟩ := hm.freeze (z := z) (fun b n hb => by
    by_cases e : b = S.wb
    · rw [e, hzwb] at hb; cases hb; exact .inl ⟨e, rfl⟩
    · rw [hzno b e] at hb; cases hb)
  have hsame : ∀ b, b ≠ S.wb → v.heap[b]? = w.heap[b]? := fun b hb => by
    have := hvw.heap b
    rw [hzno b hb] at this
    rw [this]
    cases v.heap[b]? <;> simp [zap_none]
  have hMw : ∀ b, Mm.M b ≠ none → b ≠ S.wb := fun b hb e => hMo b hb (.inl ⟨0, by rw [e]; rfl⟩)
  have hMv : Has Mm.M v := fun b o hb => by rw [hsame b (hMw b (by rw [hb]; simp))]; exact hM b o hb
  have hOv : Open v S.bk := by
    obtain ⟨cp, m, hh⟩ := hbk
    exact ⟨cp, m, by rw [hsame _ hbkw]; exact hh⟩
  have hK : KC (ScZ z) (fun _ => .chan (some S.bk)) w := fun a ha => by
    obtain ⟨b, o, sp⟩ := a
    have h1 : sp = none := ha.1
    have h2 : z b = some o := ha.2
    by_cases e : b = S.wb
    · rw [e, hzwb] at h2
      cases h2
      rw [e, h1]
      exact hm.rep.wcell.2.2.2.2.2.2.2.2
    · rw [hzno b e] at h2; cases h2
  have C0 : Ring Try.prog (KC (ScZ z) (fun _ => .chan (some S.bk))) (StillC (ScZ z)) B (fun g => g = 0) (fun _ => none) 0 T gs w q := ring_begin (fun x hx => by obtain ⟨a, rfl, _⟩ := hx; rfl) hL hP hK
  have hn0 : NoRow (fun c => c = S.bk) v := fun c hc => by
    subst hc
    obtain ⟨cp, m, hh⟩ := hOv
    exact ⟨_, hh, fun _ _ _ e => by cases e⟩
  -- RUN's ENTRY
  have hG : GoesI Try.prog ((0 : Nat) == 0) (DT (ScZ z) (fun c => c = S.bk)) (fun g w' => (∃ u, g = G (hFr S.wb (.slice (some ⟨bb, 0, none⟩) n cap) n 0 u) (bc.at ac (.inRegion ops (q0 :: rest) :: k0) :: cs)) ∧ ∃ v', Rel z v' w' ∧ Evo z S K v { S with ran := true } K v') (G ((base 86).at { tmps := #[Pt S.wb 0, .slice (some ⟨bb, 0, none⟩) n cap] ++ Array.replicate 60 undef, defers := [] } [.code B35]) (bc.at ac (.inRegion ops (q0 :: rest) :: k0) :: cs)) w :=
    run35_in (some ⟨bb, 0, none⟩) n cap _ hvw hn0 hmv hran (fun v' w' u hr hn he => GoesI.stop fun d => ⟨⟨u, rfl⟩, v', hr.re rfl rfl rfl rfl rfl rfl, he⟩) B35 rfl
  obtain ⟨N1, gs1, a1, w1, sl1, T1, q1, B1, r1, z1, h1, ⟨⟨u1, rfl⟩, v1, hr1, he1⟩, ⟨hB1, hB1b, hB1c⟩, C1⟩ := hold_goes (Inb := fun _ => none) (Mem := fun g => g = 0) (fun w d h => kc_at w d h) (dh_of_dt (fun i s c e => by cases e)) hG gs sl T q B hg C0
  have hp1 : EvoP (fun _ => False) z S K v { S with ran := true } K v1 := he1.toP
  have hO1 : Open v1 S.bk := open_stay hmv hp1 hOv (fun _ h => h.elim)
  have hM1 := keepM hp1 hMv hMo (fun _ _ h => h)
  have H0 : Holds 0 NT (fun _ => ⟨0, 0, 0, 0, 0, [], none, 0, 0, undef, 0, 0, 0, 0, #[], fun _ => none, []⟩ : Nat → Fix mc) l0 (fun _ _ => False) (fun _ _ => none) Mm z (fun _ => .chan (some S.bk)) (fun c => c = S.bk) { S with ran := true } K v1 B1 (fun g => g = 0) (fun _ => none) 0 T1 gs1 w1 q1 := by
    refine ⟨C1, rfl, by omega, hr1, he1.mem, ⟨Nat.zero_le _, fun i hi => by omega, fun i hi => by omega, fun i j hi => by omega, fun i j hi => by omega, fun i hi => by omega, fun i hi => by omega, fun i hi => by omega, ⟨hzwb, rfl, rfl⟩, fun c hc => ?_, fun c hc => ?_, fun i hi => by omega, fun i j hi => by omega, ⟨hM1.1, hM1.2, fun b hb hc => ?_, fun i hi => by omega, ?_, ?_⟩⟩, ⟨fun i hi => by omega, fun _ _ _ => rfl, fun s c h => by cases h⟩, by show S.thr.length = 0; rw [hthr]; rfl, fun i hi => by omega⟩
    · rw [hc]; exact hzno _ hbkw
    · rw [hc]; exact hO1
    · rw [hc] at hb; exact hb hMb
    · rw [he1.fr.os, hvo]; exact hio.1
    · rw [he1.fr.output, hvu]; exact hio.2
  -- ALL ARE HIRED
  obtain ⟨N2, gs2, w2, sl2, T2, q2, B2, Mb2, Inb2, z2, cont2, Ch2, S2, v2, X2, l2, E2, M2, Mm2, u2, r2, hz2, h2, hH2, H2, _, hXs, hio2, hMa, hMb', hsc2⟩ := hires_run P hkk hn8 ss 0 _ l0 _ _ Mm z _ _ { S with ran := true } v1 B1 _ _ T1 gs1 w1 q1 sl1 u1 Fut (by omega) sc hfm (fun i hi => by omega) hlen H0 h1
  obtain ⟨m, p', hmNT, hT, hpn⟩ := hturn (nv S2) l2 hH2
  -- TO THE LOOP OF TURNS
  have hG3 : GoesI Try.prog ((0 : Nat) == 0) (DT (ScZ z2) Ch2) (fun g w' => (∃ u, g = G (tFr S2.wb u) (bc.at ac (.inRegion ops (q0 :: rest) :: k0) :: cs)) ∧ Rel z2 v2 w') (G (hFr S2.wb (.slice (some ⟨bb, 0, none⟩) n cap) n n u2) (bc.at ac (.inRegion ops (q0 :: rest) :: k0) :: cs)) w2 :=
    hire_done _ n u2 _ (fun u => GoesI.stop fun d => ⟨⟨u, rfl⟩, H2.rel.re rfl rfl rfl rfl rfl rfl⟩)
  obtain ⟨N3, gs3, a3, w3, sl3, T3, q3, B3, r3, z3, h3, ⟨⟨u3, rfl⟩, hr3⟩, ⟨hB3, hB3b, hB3c⟩, C3⟩ := hold_goes (fun w d h => kc_at w d h) (dh_of_dt (seat_ch H2.crew H2.seats)) hG3 gs2 sl2 T2 q2 B2 h2 H2.ring
  have H3 : Holds n NT X2 l2 E2 M2 Mm2 z2 cont2 Ch2 S2 K v2 B3 Mb2 Inb2 0 T3 gs3 w3 q3 := ⟨C3, H2.mb, by have := H2.b; omega, hr3, H2.mem, by rw [z3]; exact H2.crew, H2.seats, H2.len, H2.stt⟩
  -- THE TURNS
  have es : S2.sched = S.sched := hsc2
  obtain ⟨N4, gs4, w4, sl4, T4, q4, B4, Mb4, Inb4, S4, v4, E4, M4, r4, z4, h4, hS4, H4, hd⟩ := turns_run hoc hn8 m ⟨nv S2, K, l2⟩ p' hT l2 E2 M2 S2 K v2 B3 Mb2 Inb2 T3 gs3 w3 q3 sl3 u3 rfl rfl rfl (by rw [es]; exact hsl) (by rw [es]; exact hsc) hpn (H3.lower hmNT) h3
  obtain ⟨hL4, hP4⟩ := ring_end H4.ring H4.mb (fun i hi => by
    by_cases hx : ∃ j, j < n ∧ (X2 j).h = i
    · obtain ⟨j, hj, rfl⟩ := hx
      obtain ⟨_, _, hs⟩ := H4.seats.seat j hj
      obtain ⟨a, ha⟩ := hd j hj
      rw [hs, ha]
      rfl
    · exact H4.seats.none i hi (fun j hj e => hx ⟨j, hj, e⟩))
  have cr4 := H4.crew
  refine ⟨N1 + N2 + N3 + N4, gs4, w4, sl4, T4, q4, B4, S4, X2, Mm2, nv S2, l2, m, p', runNT_then (runNT_then (runNT_then r1 r2) r3) r4, by omega, h4, hL4, hP4, H4.b, H4.mem.thaw H4.rel, hS4, hH2, hT, has_rel H4.mem H4.rel cr4.mine.1 cr4.mine.2.1, cr4.mine.2.1, ?_, hXs, fun i hi => ⟨(cr4.sees i hi).1.pm w4 (has_rel H4.mem H4.rel (cr4.sees i hi).2.1 (cr4.sees i hi).2.2), hd i hi⟩, hMa, fun b o hb => ?_⟩
  · rw [H4.rel.os, H4.rel.output, cr4.mine.2.2.2.2.1, cr4.mine.2.2.2.2.2]
    exact hio2
  · rcases hMb' b o hb with h | ⟨j, _, h1, h2⟩
    · exact .inl h
    · exact .inr ⟨j, h1, h2⟩
end Go.Proofs.Ytfjjoohflcchnaa.Gen
