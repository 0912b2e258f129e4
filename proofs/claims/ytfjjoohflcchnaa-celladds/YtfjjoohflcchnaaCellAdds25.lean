/- CellAdds returns true, whatever the schedule, the start and the numbers, and leaves what it was given as it was: of the law's statement as given, with no condition of our own. Part 25 of 34. (Joined, by program, of: Drive8, Alone, Run20.) -/
import Derived.Test.YtfjjoohflcchnaaCellAdds24
import Derived.Laws.MakeOwn
import Derived.Deep.OwnRows
set_option linter.unusedSimpArgs false
set_option linter.unusedVariables false
namespace Go.Proofs.Ytfjjoohflcchnaa
open Go Go.Lift Go.Conc Go.RowKit
open Go.ConcN (upd upd_same upd_ne)

inductive Scripts (bb : Nat) (kb : List Nat) : Nat → (Nat → Option Obj) → (Nat → Prop) → List Scr → Prop
  | nil {k : Nat} {Mm : Nat → Option Obj} {Fut : Nat → Prop} : Scripts bb kb k Mm Fut []
  | cons {k : Nat} {Mm : Nat → Option Obj} {Fut : Nat → Prop} {s : Scr} {ss : List Scr} : Script Mm Fut k bb kb s → (∀ h tb gc b0, (∀ b, Mm b ≠ none → b ≠ b0) → Scripts bb kb (k + 1) (fun b => if b = (s.X h tb gc b0).ab then none else Mm b) (fun b => Fut b ∧ b ≠ (s.X h tb gc b0).ab) ss) → Scripts bb kb k Mm Fut (s :: ss)
/-- What hiring comes to. -/
inductive Hires (nk : Nat) : Nat → List Scr → TS → (Nat → Ph) → TS → (Nat → Ph) → Prop
  | nil {k : Nat} {S : TS} {l : Nat → Ph} : Hires nk k [] S l S l
  | cons {k : Nat} {s : Scr} {ss : List Scr} {S S' : TS} {l l' : Nat → Ph} (tv : Value) (tb gc : Nat) : Hires nk (k + 1) ss (flow k nk s.calls 0 false s.ans (hiredS S tv tb gc)).1 (upd l k (flow k nk s.calls 0 false s.ans (hiredS S tv tb gc)).2) S' l' → Hires nk k (s :: ss) S l S' l'
def lens (ss : List Scr) : Nat := (ss.map fun s => s.calls.length).sum
theorem flow_le (i nk : Nat) : ∀ (rest : List Cl) (ii : Nat) (sk : Bool) (ans : List (Int × Int)) (S : TS), (flow i nk rest ii sk ans S).1.n ≤ S.n + 2 * rest.length
  | [], ii, sk, ans, S => Nat.le_refl _
  | c :: rest, ii, true, ans, S => by
    have := flow_le i nk rest (ii + 1) true (ans.set ii (4, 0)) S
    show (flow i nk rest (ii + 1) true (ans.set ii (4, 0)) S).1.n ≤ _
    simp only [List.length_cons]; omega
  | c :: rest, ii, false, ans, S => by
    rw [flow_cons]
    split
    · show S.n + 1 ≤ _
      simp only [List.length_cons]; omega
    · have := flow_le i nk rest (ii + 1) false (ans.set ii (1, 0)) (noted (noted S undef i 9 (-1) ii 0) undef i 10 (-1) ii 1)
      have e : (noted (noted S undef i 9 (-1) ii 0) undef i 10 (-1) ii 1).n = S.n + 2 := rfl
      simp only [List.length_cons]; omega

/-- Which scripts the threads have. -/
def XsOf (k : Nat) (ss : List Scr) (X : Nat → Fix) : Prop := ∀ j s, ss[j]? = some s → ∃ h tb gc b0, X (k + j) = s.X h tb gc b0

theorem Holds.lower {k N N' : Nat} {X : Nat → Fix} {l : Nat → Ph} {E : Nat → Nat → Prop} {M : Nat → Nat → Option Obj} {Mm : Keep} {z : Nat → Option Nat} {cont : Addr → Value} {Ch : Nat → Prop} {S : TS} {K : List (Nat × Int)} {v : World} {B : Nat} {Mb : Nat → Prop} {Inb : Nat → Option Seat} {h : Nat} {T : Trace} {gs : Array Goroutine} {w : World} {q : Nat → Nat}
    (H : Holds k N X l E M Mm z cont Ch S K v B Mb Inb h T gs w q) (hN : N' ≤ N) : Holds k N' X l E M Mm z cont Ch S K v B Mb Inb h T gs w q :=
  ⟨H.ring, H.mb, H.b, H.rel, H.mem, H.crew, ⟨fun i hi => by obtain ⟨n, h1, h2⟩ := H.seats.seat i hi; exact ⟨n, by omega, h2⟩, H.seats.none, H.seats.main⟩, H.len, H.stt⟩

theorem hires_run (hCD : CallDef) {N n bb cap : Nat} {cs : List Frame} {K : List (Nat × Int)} (hn8 : n ≤ 8) : ∀ (ss : List Scr) (k : Nat) (X : Nat → Fix) (l : Nat → Ph) (E : Nat → Nat → Prop) (M : Nat → Nat → Option Obj) (Mm : Keep) (z : Nat → Option Nat) (cont : Addr → Value) (Ch : Nat → Prop) (S : TS) (v : World) (B : Nat) (Mb : Nat → Prop) (Inb : Nat → Option Seat) (T : Trace) (gs : Array Goroutine) (w : World) (q : Nat → Nat) (sl : Option (Nat × Nat)) (u : Nat → Value) (Fut : Nat → Prop),
    k + ss.length = n → Scripts bb (K.map (·.1)) k Mm.M Fut ss → (∀ b, Fut b → Mm.M b ≠ none) → (∀ i, i < k → ∀ b, Fut b → M i b = none) → S.n + 2 * lens ss ≤ 1000000 →
    Holds k N X l E M Mm z cont Ch S K v B Mb Inb 0 T gs w q → gs[0]? = some (G (hFr S.wb (.slice (some ⟨bb, 0, none⟩) n cap) n k u) cs) →
    ∃ (N' : Nat) (gs' : Array Goroutine) (w' : World) (sl' : Option (Nat × Nat)) (T' : Trace) (q' : Nat → Nat) (B' : Nat) (Mb' : Nat → Prop) (Inb' : Nat → Option Seat) (z' : Nat → Option Nat) (cont' : Addr → Value) (Ch' : Nat → Prop) (S' : TS) (v' : World) (X' : Nat → Fix) (l' : Nat → Ph) (E' : Nat → Nat → Prop) (M' : Nat → Nat → Option Obj) (Mm' : Keep) (u' : Nat → Value),
      runNT Try.prog N' (crowd gs w sl) T = (.next (crowd gs' w' sl'), T') ∧ gs'.size = gs.size + ss.length ∧ gs'[0]? = some (G (hFr S'.wb (.slice (some ⟨bb, 0, none⟩) n cap) n n u') cs) ∧ Hires K.length k ss (nv S) l (nv S') l' ∧
      Holds n N X' l' E' M' Mm' z' cont' Ch' S' K v' B' Mb' Inb' 0 T' gs' w' q' ∧ (∀ j, j < k → X' j = X j) ∧ XsOf k ss X' ∧ (Mm'.os = Mm.os ∧ Mm'.out = Mm.out) ∧ (∀ b o, Mm'.M b = some o → Mm.M b = some o) ∧ (∀ b o, Mm.M b = some o → Mm'.M b = some o ∨ ∃ j, k ≤ j ∧ j < n ∧ b = (X' j).ab ∧ b ≠ (X' j).bb) ∧ S'.sched = S.sched := by
  intro ss
  induction ss with
  | nil =>
    intro k X l E M Mm z cont Ch S v B Mb Inb T gs w q sl u Fut hkn _ _ _ _ H hg
    obtain rfl : k = n := by simpa using hkn
    exact ⟨0, gs, w, sl, T, q, B, Mb, Inb, z, cont, Ch, S, v, X, l, E, M, Mm, u, rfl, rfl, hg, .nil, H, fun _ _ => rfl, (fun j s h => by simp at h), ⟨rfl, rfl⟩, fun _ _ h => h, fun _ _ h => .inl h, rfl⟩
  | cons s ss ih =>
    intro k X l E M Mm z cont Ch S v B Mb Inb T gs w q sl u Fut hkn hsc hfm hfut hlen H hg
    cases hsc with
    | cons sc hmore =>
      have hk : k < n := by simp only [List.length_cons] at hkn; omega
      have hls : lens (s :: ss) = s.calls.length + lens ss := by simp [lens]
      have hl : ∀ tv tb gc, (flow k K.length s.calls 0 false s.ans (nv (hiredS S tv tb gc))).1.n * 40 ≤ 140737488355328 := fun tv tb gc => by
        have := flow_le k K.length s.calls 0 false s.ans (nv (hiredS S tv tb gc))
        have e : (nv (hiredS S tv tb gc)).n = S.n := rfl
        omega
      obtain ⟨N1, gs1, w1, sl1, T1, q1, B1, Mb1, Inb1, z1, cont1, Ch1, S1, v1, E1, M1, u1, tv, tb, gc, Y, r1, hz1, h1, hS1, ⟨b0, hY, hb0⟩, H1, hf1⟩ := hire_one hCD H hg hk hn8 sl hfm hfut sc hl
      have hn1 : S1.n + 2 * lens ss ≤ 1000000 := by
        have e1 : (nv S1).n = (flow k K.length s.calls 0 false s.ans (nv (hiredS S tv tb gc))).1.n := congrArg TS.n hS1
        have e2 : (nv S1).n = S1.n := rfl
        have := flow_le k K.length s.calls 0 false s.ans (nv (hiredS S tv tb gc))
        have e : (nv (hiredS S tv tb gc)).n = S.n := rfl
        omega
      have hsc1 : S1.sched = S.sched := (congrArg TS.sched hS1).trans (flow_sta k K.length s.calls 0 false s.ans (nv (hiredS S tv tb gc))).sched
      obtain ⟨N2, gs2, w2, sl2, T2, q2, B2, Mb2, Inb2, z2, cont2, Ch2, S2, v2, X2, l2, E2, M2, Mm2, u2, r2, hz2, h2, hH2, H2, hX2, hXs2, hio2, hMa2, hMb2, hsc2⟩ := ih (k + 1) (upd X k Y) _ E1 M1 _ z1 cont1 Ch1 S1 v1 B1 Mb1 Inb1 T1 gs1 w1 q1 sl1 u1 (fun b => Fut b ∧ b ≠ Y.ab) (by simp only [List.length_cons] at hkn; omega) (by rw [hY]; exact hmore _ tb gc b0 hb0) (fun b hb => by
        show (if b = Y.ab then none else Mm.M b) ≠ none
        rw [if_neg hb.2]; exact hfm b hb.1) (fun i hi b hb => hf1 i hi b hb.1 hb.2) hn1 H1 h1
      have hYk : X2 k = Y := by rw [hX2 k (by omega), upd_same]
      refine ⟨N1 + N2, gs2, w2, sl2, T2, q2, B2, Mb2, Inb2, z2, cont2, Ch2, S2, v2, X2, l2, E2, M2, Mm2, u2, runNT_then r1 r2, by simp only [List.length_cons]; omega, h2, .cons tv tb gc (by rw [hS1] at hH2; exact hH2), H2, fun j hj => by rw [hX2 j (by omega), upd_ne _ _ (by omega)], fun j s' hj => ?_, hio2, fun b o hb => ?_, fun b o hb => ?_, hsc2.trans hsc1⟩
      · match j, hj with
        | 0, hj =>
          obtain rfl : s = s' := by simpa using hj
          exact ⟨gs.size, tb, gc, b0, by rw [Nat.add_zero, hYk, hY]⟩
        | j + 1, hj =>
          obtain ⟨h, tb', gc', b', e⟩ := hXs2 j s' (by simpa using hj)
          exact ⟨h, tb', gc', b', by rw [show k + (j + 1) = k + 1 + j by omega]; exact e⟩
      · have := hMa2 b o hb
        have h' : (if b = Y.ab then none else Mm.M b) = some o := this
        split at h'
        · cases h'
        · exact h'
      · by_cases e : b = Y.ab
        · have hpos : 0 < gs.size := (Array.getElem?_eq_some_iff.1 hg).1
          exact .inr ⟨k, Nat.le_refl _, hk, by rw [hYk]; exact e, by rw [hYk, hY, (sc.fix gs.size tb gc b0 hpos hb0).2.2.2.2.2.1]; exact hb0 b (by rw [hb]; simp)⟩
        · rcases hMb2 b o (by show (if b = Y.ab then none else Mm.M b) = some o; rw [if_neg e]; exact hb) with h | ⟨j, h1, h2, h3⟩
          · exact .inl h
          · exact .inr ⟨j, by omega, h2, h3⟩

/-- The world in company holds it, too. -/
theorem has_rel {z : Nat → Option Nat} {S : TS} {K : List (Nat × Int)} {v w : World} {m : Nat → Option Obj} (hm : Mem z S K v) (hr : Rel z v w) (h : Has m v) (hf : ∀ b, m b ≠ none → ¬ Own S K b) : Has m w := fun b o hb => by
  have hz : z b = none := by
    cases hz : z b with
    | none => rfl
    | some n =>
      exfalso
      refine hf b (by rw [hb]; simp) ?_
      rcases hm.rep.kept b n hz with ⟨rfl, _⟩ | ⟨i, t, ht, rfl, _⟩
      · exact .inl ⟨0, rfl⟩
      · exact .inl ⟨i + 5, by simp [blk, ht]⟩
  rw [hr.heap, hz, h b o hb]
  simp [zap_none]

set_option maxHeartbeats 1000000 in
/-- TURN.RUN, WHOLE: from its entry to behind it, main alone at both ends. -/
theorem run35_all (hCD : CallDef) {n bb cap : Nat} {cs : List Frame} {bc : Frame} {ac : Act} {ops : Array Oper} {q0 : Nat} {rest : List Nat} {oc : Oper} {k0 : List Item} (hoc : ops[q0]? = some oc) {K : List (Nat × Int)} {S : TS} {w : World} {B : Nat} {T : Trace} {gs : Array Goroutine} {q : Nat → Nat} (sl : Option (Nat × Nat)) {Mm : Keep} {Fut : Nat → Prop} {ss : List Scr} (NT : Nat)
    (hL : Leavers Try.prog T gs q) (hP : Past (fun _ => False) B T) (hB : B ≤ w.heap.size)
    (hg : gs[0]? = some (G ((base 86).at { tmps := #[Pt S.wb 0, .slice (some ⟨bb, 0, none⟩) n cap] ++ Array.replicate 60 undef, defers := [] } [.code B35]) (bc.at ac (.inRegion ops (q0 :: rest) :: k0) :: cs)))
    (hm : Mem zn S K w) (hthr : S.thr = []) (hran : S.ran = false) (hbk : Open w S.bk) (hM : Has Mm.M w) (hMo : ∀ b, Mm.M b ≠ none → ¬ Own S K b) (hMb : Mm.M S.bk = none) (hio : w.os = Mm.os ∧ w.output = Mm.out)
    (hfm : ∀ b, Fut b → Mm.M b ≠ none) (sc : Scripts bb (K.map (·.1)) 0 Mm.M Fut ss) (hn : ss.length = n) (hn8 : n ≤ 8) (hlen : S.n + 2 * lens ss ≤ 1000000) (hsl : S.sched.length ≤ 4611686018427387904) (hsc : ∀ x ∈ S.sched, -9223372036854775808 ≤ x ∧ x < 9223372036854775808) (l0 : Nat → Ph)
    (hturn : ∀ S1 l1, Hires K.length 0 ss (nv { S with ran := true }) l0 S1 l1 → ∃ m p', m ≤ NT ∧ Turns K.length m ⟨S1, K, l1⟩ p' ∧ p'.S.n * 40 ≤ 140737488355328) :
    ∃ (N' : Nat) (gs' : Array Goroutine) (w' : World) (sl' : Option (Nat × Nat)) (T' : Trace) (q' : Nat → Nat) (B' : Nat) (S' : TS) (X : Nat → Fix) (Mm' : Keep) (S1 : TS) (l1 : Nat → Ph) (m : Nat) (p' : PSt),
      runNT Try.prog N' (crowd gs w sl) T = (.next (crowd gs' w' sl'), T') ∧ gs'.size = gs.size + n ∧ gs'[0]? = some (G (bc.at (ac.put oc.dst (.tuple #[])) (.inRegion ops rest :: k0)) cs) ∧
      Leavers Try.prog T' gs' q' ∧ Past (fun _ => False) B' T' ∧ B' ≤ w'.heap.size ∧ Mem zn S' p'.K w' ∧ nv S' = p'.S ∧ Hires K.length 0 ss (nv { S with ran := true }) l0 S1 l1 ∧ Turns K.length m ⟨S1, K, l1⟩ p' ∧
      Has Mm'.M w' ∧ (∀ b, Mm'.M b ≠ none → ¬ Own S' p'.K b) ∧ (w'.os = Mm.os ∧ w'.output = Mm.out) ∧ XsOf 0 ss X ∧ (∀ i, i < n → PM (X i) (p'.l i).ans w' ∧ ∃ a, p'.l i = .done a) ∧ (∀ b o, Mm'.M b = some o → Mm.M b = some o) ∧ (∀ b o, Mm.M b = some o → Mm'.M b = some o ∨ ∃ j, j < n ∧ b = (X j).ab ∧ b ≠ (X j).bb) := by
  have hbkw : S.bk ≠ S.wb := fun e => by
    obtain ⟨cp, m, hh⟩ := hbk
    rw [e, hm.rep.wor] at hh
    cases hh
  have hbkO : ¬ Own S K S.bk := fun ho => by
    obtain ⟨cp, m, hh⟩ := hbk
    obtain ⟨x, e, f, h1⟩ := hm.row ho
    rw [h1] at hh; cases hh
  obtain ⟨z, hz⟩ : ∃ z : Nat → Option Nat, z = fun b => if b = S.wb then some 8 else none := ⟨_, rfl⟩
  have hzwb : z S.wb = some 8 := by rw [hz]; simp
  have hzno : ∀ b, b ≠ S.wb → z b = none := fun b hb => by rw [hz]; simp [hb]
  obtain ⟨v, hvw, hmv, hvo, hvu⟩ := hm.freeze (z := z) (fun b n hb => by
    by_cases e : b = S.wb
    · rw [e, hzwb] at hb; cases hb; exact .inl ⟨e, rfl⟩
    · rw [hzno b e] at hb; cases hb)
  have hsame : ∀ b, b ≠ S.wb → v.heap[b]? = w.heap[b]? := fun b hb => by
    have := hvw.heap b
    rw [hzno b hb] at this
    rw [this]
    cases v.heap[b]? <;> simp [zap_none]
  have hMw : ∀ b, Mm.M b ≠ none → b ≠ S.wb := fun b hb e => hMo b hb (.inl ⟨0, by rw [e]; rfl⟩)
  have hMv : Has Mm.M v := fun b o hb => by rw [hsame b (hMw b (by rw [hb]; simp))]; exact hM b o hb
  have hOv : Open v S.bk := by
    obtain ⟨cp, m, hh⟩ := hbk
    exact ⟨cp, m, by rw [hsame _ hbkw]; exact hh⟩
  have hK : KC (ScZ z) (fun _ => .chan (some S.bk)) w := fun a ha => by
    obtain ⟨b, o, sp⟩ := a
    have h1 : sp = none := ha.1
    have h2 : z b = some o := ha.2
    by_cases e : b = S.wb
    · rw [e, hzwb] at h2
      cases h2
      rw [e, h1]
      exact hm.rep.wcell.2.2.2.2.2.2.2.2
    · rw [hzno b e] at h2; cases h2
  have C0 : Ring Try.prog (KC (ScZ z) (fun _ => .chan (some S.bk))) (StillC (ScZ z)) B (fun g => g = 0) (fun _ => none) 0 T gs w q := ring_begin (fun x hx => by obtain ⟨a, rfl, _⟩ := hx; rfl) hL hP hK
  have hn0 : NoRow (fun c => c = S.bk) v := fun c hc => by
    subst hc
    obtain ⟨cp, m, hh⟩ := hOv
    exact ⟨_, hh, fun _ _ _ e => by cases e⟩
  -- RUN's ENTRY
  have hG : GoesI Try.prog ((0 : Nat) == 0) (DT (ScZ z) (fun c => c = S.bk)) (fun g w' => (∃ u, g = G (hFr S.wb (.slice (some ⟨bb, 0, none⟩) n cap) n 0 u) (bc.at ac (.inRegion ops (q0 :: rest) :: k0) :: cs)) ∧ ∃ v', Rel z v' w' ∧ Evo z S K v { S with ran := true } K v') (G ((base 86).at { tmps := #[Pt S.wb 0, .slice (some ⟨bb, 0, none⟩) n cap] ++ Array.replicate 60 undef, defers := [] } [.code B35]) (bc.at ac (.inRegion ops (q0 :: rest) :: k0) :: cs)) w :=
    run35_in (some ⟨bb, 0, none⟩) n cap _ hvw hn0 hmv hran (fun v' w' u hr hn he => GoesI.stop fun d => ⟨⟨u, rfl⟩, v', hr.re rfl rfl rfl rfl rfl rfl, he⟩) B35 rfl
  obtain ⟨N1, gs1, a1, w1, sl1, T1, q1, B1, r1, z1, h1, ⟨⟨u1, rfl⟩, v1, hr1, he1⟩, ⟨hB1, hB1b, hB1c⟩, C1⟩ := hold_goes (Inb := fun _ => none) (Mem := fun g => g = 0) (fun w d h => kc_at w d h) (dh_of_dt (fun i s c e => by cases e)) hG gs sl T q B hg C0
  have hp1 : EvoP (fun _ => False) z S K v { S with ran := true } K v1 := he1.toP
  have hO1 : Open v1 S.bk := open_stay hmv hp1 hOv (fun _ h => h.elim)
  have hM1 := keepM hp1 hMv hMo (fun _ _ h => h)
  have H0 : Holds 0 NT (fun _ => ⟨0, 0, 0, 0, 0, [], none, 0, 0, undef, 0, 0, 0, 0, 0, 0, []⟩) l0 (fun _ _ => False) (fun _ _ => none) Mm z (fun _ => .chan (some S.bk)) (fun c => c = S.bk) { S with ran := true } K v1 B1 (fun g => g = 0) (fun _ => none) 0 T1 gs1 w1 q1 := by
    refine ⟨C1, rfl, by omega, hr1, he1.mem, ⟨Nat.zero_le _, fun i hi => by omega, fun i hi => by omega, fun i j hi => by omega, fun i j hi => by omega, fun i hi => by omega, fun i hi => by omega, fun i hi => by omega, ⟨hzwb, rfl, rfl⟩, fun c hc => ?_, fun c hc => ?_, fun i hi => by omega, fun i j hi => by omega, ⟨hM1.1, hM1.2, fun b hb hc => ?_, fun i hi => by omega, ?_, ?_⟩⟩, ⟨fun i hi => by omega, fun _ _ _ => rfl, fun s c h => by cases h⟩, by show S.thr.length = 0; rw [hthr]; rfl, fun i hi => by omega⟩
    · rw [hc]; exact hzno _ hbkw
    · rw [hc]; exact hO1
    · rw [hc] at hb; exact hb hMb
    · rw [he1.fr.os, hvo]; exact hio.1
    · rw [he1.fr.output, hvu]; exact hio.2
  -- ALL ARE HIRED
  obtain ⟨N2, gs2, w2, sl2, T2, q2, B2, Mb2, Inb2, z2, cont2, Ch2, S2, v2, X2, l2, E2, M2, Mm2, u2, r2, hz2, h2, hH2, H2, _, hXs, hio2, hMa, hMb', hsc2⟩ := hires_run hCD hn8 ss 0 _ l0 _ _ Mm z _ _ { S with ran := true } v1 B1 _ _ T1 gs1 w1 q1 sl1 u1 Fut (by omega) sc hfm (fun i hi => by omega) hlen H0 h1
  obtain ⟨m, p', hmNT, hT, hpn⟩ := hturn (nv S2) l2 hH2
  -- TO THE LOOP OF TURNS
  have hG3 : GoesI Try.prog ((0 : Nat) == 0) (DT (ScZ z2) Ch2) (fun g w' => (∃ u, g = G (tFr S2.wb u) (bc.at ac (.inRegion ops (q0 :: rest) :: k0) :: cs)) ∧ Rel z2 v2 w') (G (hFr S2.wb (.slice (some ⟨bb, 0, none⟩) n cap) n n u2) (bc.at ac (.inRegion ops (q0 :: rest) :: k0) :: cs)) w2 :=
    hire_done _ n u2 _ (fun u => GoesI.stop fun d => ⟨⟨u, rfl⟩, H2.rel.re rfl rfl rfl rfl rfl rfl⟩)
  obtain ⟨N3, gs3, a3, w3, sl3, T3, q3, B3, r3, z3, h3, ⟨⟨u3, rfl⟩, hr3⟩, ⟨hB3, hB3b, hB3c⟩, C3⟩ := hold_goes (fun w d h => kc_at w d h) (dh_of_dt (seat_ch H2.crew H2.seats)) hG3 gs2 sl2 T2 q2 B2 h2 H2.ring
  have H3 : Holds n NT X2 l2 E2 M2 Mm2 z2 cont2 Ch2 S2 K v2 B3 Mb2 Inb2 0 T3 gs3 w3 q3 := ⟨C3, H2.mb, by have := H2.b; omega, hr3, H2.mem, by rw [z3]; exact H2.crew, H2.seats, H2.len, H2.stt⟩
  -- THE TURNS
  have es : S2.sched = S.sched := hsc2
  obtain ⟨N4, gs4, w4, sl4, T4, q4, B4, Mb4, Inb4, S4, v4, E4, M4, r4, z4, h4, hS4, H4, hd⟩ := turns_run hoc hn8 m ⟨nv S2, K, l2⟩ p' hT l2 E2 M2 S2 K v2 B3 Mb2 Inb2 T3 gs3 w3 q3 sl3 u3 rfl rfl rfl rfl (by rw [es]; exact hsl) (by rw [es]; exact hsc) hpn (H3.lower hmNT) h3
  obtain ⟨hL4, hP4⟩ := ring_end H4.ring H4.mb (fun i hi => by
    by_cases hx : ∃ j, j < n ∧ (X2 j).h = i
    · obtain ⟨j, hj, rfl⟩ := hx
      obtain ⟨_, _, hs⟩ := H4.seats.seat j hj
      obtain ⟨a, ha⟩ := hd j hj
      rw [hs, ha]
      rfl
    · exact H4.seats.none i hi (fun j hj e => hx ⟨j, hj, e⟩))
  have cr4 := H4.crew
  refine ⟨N1 + N2 + N3 + N4, gs4, w4, sl4, T4, q4, B4, S4, X2, Mm2, nv S2, l2, m, p', runNT_then (runNT_then (runNT_then r1 r2) r3) r4, by omega, h4, hL4, hP4, H4.b, H4.mem.thaw H4.rel, hS4, hH2, hT, has_rel H4.mem H4.rel cr4.mine.1 cr4.mine.2.1, cr4.mine.2.1, ?_, hXs, fun i hi => ⟨(cr4.sees i hi).1.pm w4 (has_rel H4.mem H4.rel (cr4.sees i hi).2.1 (cr4.sees i hi).2.2), hd i hi⟩, hMa, fun b o hb => ?_⟩
  · rw [H4.rel.os, H4.rel.output, cr4.mine.2.2.2.2.1, cr4.mine.2.2.2.2.2]
    exact hio2
  · rcases hMb' b o hb with h | ⟨j, _, h1, h2⟩
    · exact .inl h
    · exact .inr ⟨j, h1, h2⟩
end Go.Proofs.Ytfjjoohflcchnaa

namespace Go.Proofs.Ytfjjoohflcchnaa
open Go Go.Lift Go.Conc Go.RowKit

/-- Main is alone. -/
structure Alone (gs : Array Goroutine) (w : World) (T : Trace) (q : Nat → Nat) : Prop where
  left : Leavers Try.prog T gs q
  past : ∃ B, B ≤ w.heap.size ∧ Past (fun _ => False) B T

theorem alone_goes {gs : Array Goroutine} {w : World} {T : Trace} {q : Nat → Nat} (A : Alone gs w T q) {a : Goroutine} {Stop : Goroutine → World → Prop} (hg : gs[0]? = some a) (sl : Option (Nat × Nat)) (hG : GoesI Try.prog true (DT (ScZ zn) (fun _ => False)) Stop a w) :
    ∃ (N' : Nat) (gs' : Array Goroutine) (a' : Goroutine) (w' : World) (sl' : Option (Nat × Nat)) (T' : Trace) (q' : Nat → Nat), runNT Try.prog N' (crowd gs w sl) T = (.next (crowd gs' w' sl'), T') ∧ gs'.size = gs.size ∧ gs'[0]? = some a' ∧ Stop a' w' ∧ Alone gs' w' T' q' := by
  obtain ⟨B, hB, hP⟩ := A.past
  have hno : ∀ a, ¬ ScZ zn a := fun a ha => by have := ha.2; cases this
  have C0 : Ring Try.prog (KC (ScZ zn) (fun _ => undef)) (StillC (ScZ zn)) B (fun g => g = 0) (fun _ => none) 0 T gs w q := ring_begin (fun x hx => by obtain ⟨a, _, h⟩ := hx; exact absurd h (hno a)) A.left hP (fun a ha => absurd ha (hno a))
  obtain ⟨N1, gs1, a1, w1, sl1, T1, q1, B1, r1, z1, h1, hs1, ⟨hB1, hB1b, hB1c⟩, C1⟩ := hold_goes (Inb := fun _ => none) (Mem := fun g => g = 0) (h := 0) (fun w d h => kc_at w d h) (dh_of_dt (fun i s c e => by cases e)) hG gs sl T q B hg C0
  obtain ⟨hL, hP'⟩ := ring_end C1 rfl (fun _ _ => rfl)
  exact ⟨N1, gs1, a1, w1, sl1, T1, q1, r1, z1, h1, hs1, hL, B1, by omega, hP'⟩

/-- The law's last frame returns. -/
theorem alone_ends {gs : Array Goroutine} {w : World} {T : Trace} {q : Nat → Nat} (A : Alone gs w T q) {a : Goroutine} (hg : gs[0]? = some a) (sl : Option (Nat × Nat)) {Post : Value → World → Prop} (hE : ∀ B, ∀ d, AtEnd Try.prog (fun _ => False) B Post a (w.at d)) :
    ∃ N last o w' t', runNT Try.prog (N + 1) (crowd gs w sl) T = (.ended o w', t') ∧ runN Try.prog N (crowd gs w sl) = .next last ∧ step Try.prog last = .ended o w' ∧ Go.Conc.Good Try.prog Post last o w' t' := by
  obtain ⟨B, hB, hP⟩ := A.past
  refine beside_ends (D := fun _ _ es => es = #[]) (Shun := fun _ => False) (B := B) (n := 0) (fun _ _ es h e he => by subst h; simp at he) hg A.left hP ?_
  rintro w1 ⟨d, rfl⟩
  exact hE B d
end Go.Proofs.Ytfjjoohflcchnaa

namespace Go.Proofs.Ytfjjoohflcchnaa
open Go Go.Lift Go.Conc Go.RowKit

noncomputable def B20 : Code := Try.f54.body.getD .skip
noncomputable def a200 : Code := seq1 B20
noncomputable def a201 : Code := seq1 (seq2 B20)
noncomputable def a202 : Code := seq1 (seq2 (seq2 B20))
noncomputable def a203 : Code := seq1 (seq2 (seq2 (seq2 B20)))
theorem fine200 : fineCode Try.prog true LT a200 := fineCode_ask callT extT (by kernel_rfl)
theorem fine201 : fineCode Try.prog true LT a201 := fineCode_ask callT extT (by kernel_rfl)
theorem fine202 : fineCode Try.prog true LT a202 := fineCode_ask callT extT (by kernel_rfl)
theorem fine203 : fineCode Try.prog true LT a203 := fineCode_ask callT extT (by kernel_rfl)

theorem info40 : (Try.prog.info? 40).map (fun i => (i.zero, i.size, i.bytes)) = some (some (.slice none 0 0), 1, 24) := by kernel_rfl
theorem info42 : (Try.prog.info? 42).map (fun i => (i.zero, i.size, i.bytes)) = some (some (.agg #[I 0, I 0]), 2, 16) := by kernel_rfl
theorem mk27 (n : Nat) (hn : n ≤ 8) (w : World) :
    (Instr.makeSlice 27 (.int .i64 (n : Int)) (.int .i64 (n : Int))).run Try.prog w = .ok (.slice (some ⟨w.heap.size, 0, none⟩) n n) (w.alloc (.cells (madeCells #[.slice none 0 0] n) 40)) := by
  obtain ⟨i, hq, hz, hs, hb⟩ := info_parts info40
  have := run_make (P := Try.prog) w 27 40 i _ Try.underlying27 hq hz .i64 .i64 (n : Int) (n : Int) (by omega) (by omega) (by rw [hb]; omega) (by omega)
  rw [hs] at this
  rw [this]
  simp [Value.cells]
theorem mk40 (n : Nat) (hn : n ≤ 64) (w : World) :
    (Instr.makeSlice 40 (.int .i64 (n : Int)) (.int .i64 (n : Int))).run Try.prog w = .ok (.slice (some ⟨w.heap.size, 0, none⟩) n n) (w.alloc (.cells (madeCells #[I 0, I 0] (n * 2)) 42)) := by
  obtain ⟨i, hq, hz, hs, hb⟩ := info_parts info42
  have := run_make (P := Try.prog) w 40 42 i _ Try.underlying40 hq hz .i64 .i64 (n : Int) (n : Int) (by omega) (by omega) (by rw [hb]; omega) (by omega)
  rw [hs] at this
  rw [this]
  simp [Value.cells]

set_option maxHeartbeats 2000000 in
set_option maxRecDepth 100000 in
theorem a201_wp (v : World) (wb p2 n : Nat) (p : Option Addr) (cap : Nat) (F : Value) (hn : n ≤ 8) :
    a201.wp Try.prog (fun e a w' => e = .normal ∧ a = { tmps := #[Pt wb 0, .slice p n cap, F, undef, undef, Pt p2 0, .slice none 0 0, Pt (v.heap.size + 1) 0, undef, undef, undef, .slice p n cap, I n, .slice (some ⟨v.heap.size, 0, none⟩) n n] ++ Array.replicate 25 undef, defers := [] } ∧ w'.heap = (v.heap.push (.cells (madeCells #[.slice none 0 0] n) 40)).push (.cells #[.slice (some ⟨v.heap.size, 0, none⟩) n n] 27) ∧ w'.os = v.os ∧ w'.output = v.output)
      { tmps := #[Pt wb 0, .slice p n cap, F, undef, undef, Pt p2 0, .slice none 0 0] ++ Array.replicate 32 undef, defers := [] } v := by
  have hmk := mk27 n hn
  show Code.wp Try.prog (seq1 (seq2 (Try.f54.body.getD .skip))) _ _ _
  unfold Try.f54 seq1 seq2
  simp only [Option.getD_some, Array.replicate_succ, Array.replicate_zero, List.push_toArray, List.append_toArray, List.nil_append, List.cons_append]
  go_wp2_with fail
  exact ⟨rfl, rfl, rfl⟩

theorem info80 : (Try.prog.info? 64).map (fun i => (i.zero, i.size, i.bytes)) = some (some .nilFunc, 1, 8) := by kernel_rfl
theorem mk78 (n : Nat) (hn : n ≤ 8) (w : World) :
    (Instr.makeSlice 121 (.int .i64 (n : Int)) (.int .i64 (n : Int))).run Try.prog w = .ok (.slice (some ⟨w.heap.size, 0, none⟩) n n) (w.alloc (.cells (madeCells #[.nilFunc] n) 64)) := by
  obtain ⟨i, hq, hz, hs, hb⟩ := info_parts info80
  have := run_make (P := Try.prog) w 121 64 i _ Try.underlying121 hq hz .i64 .i64 (n : Int) (n : Int) (by omega) (by omega) (by rw [hb]; omega) (by omega)
  rw [hs] at this
  rw [this]
  simp [Value.cells]

set_option maxHeartbeats 2000000 in
set_option maxRecDepth 100000 in
theorem a200_wp (v : World) (wb n : Nat) (p : Option Addr) (cap : Nat) (fx : Nat) :
    a200.wp Try.prog (fun e a w' => e = .normal ∧ a = { tmps := #[Pt wb 0, .slice p n cap, .func (.func 55) #[] #[Pt fx 0], undef, undef, Pt v.heap.size 0, .slice none 0 0] ++ Array.replicate 32 undef, defers := [] } ∧ w'.heap = v.heap.push (.cells #[.func (.func 55) #[] #[Pt fx 0]] 87) ∧ w'.os = v.os ∧ w'.output = v.output)
      { tmps := #[Pt wb 0, .slice p n cap, .func (.func 55) #[] #[Pt fx 0]] ++ Array.replicate 36 undef, defers := [] } v := by
  show Code.wp Try.prog (seq1 (Try.f54.body.getD .skip)) _ _ _
  unfold Try.f54 seq1
  simp only [Option.getD_some, Array.replicate_succ, Array.replicate_zero, List.push_toArray, List.append_toArray, List.nil_append, List.cons_append]
  go_wp2_with fail
  exact ⟨rfl, rfl, rfl⟩

set_option maxHeartbeats 2000000 in
set_option maxRecDepth 100000 in
theorem a202_wp (v : World) (wb p2 p3 rr n : Nat) (p : Option Addr) (cap : Nat) (F : Value) (hn : n ≤ 8) :
    a202.wp Try.prog (fun e a w' => e = .normal ∧ a = { tmps := #[Pt wb 0, .slice p n cap, F, undef, undef, Pt p2 0, .slice none 0 0, Pt p3 0, .slice (some ⟨v.heap.size, 0, none⟩) n n, undef, undef, .slice p n cap, I n, .slice (some ⟨rr, 0, none⟩) n n, .slice p n cap, I n, .slice (some ⟨v.heap.size, 0, none⟩) n n] ++ Array.replicate 22 undef, defers := [] } ∧ w'.heap = v.heap.push (.cells (madeCells #[.nilFunc] n) 64) ∧ w'.os = v.os ∧ w'.output = v.output)
      { tmps := #[Pt wb 0, .slice p n cap, F, undef, undef, Pt p2 0, .slice none 0 0, Pt p3 0, undef, undef, undef, .slice p n cap, I n, .slice (some ⟨rr, 0, none⟩) n n] ++ Array.replicate 25 undef, defers := [] } v := by
  have hmk := mk78 n hn
  show Code.wp Try.prog (seq1 (seq2 (seq2 (Try.f54.body.getD .skip)))) _ _ _
  unfold Try.f54 seq1 seq2
  simp only [Option.getD_some, Array.replicate_succ, Array.replicate_zero, List.push_toArray, List.append_toArray, List.nil_append, List.cons_append]
  go_wp2_with fail
  exact ⟨rfl, rfl, rfl⟩

/-- How far the loop has come. -/
structure Laid (v : World) (n p2 p3 rr bb : Nat) (pc : Nat → Option Addr) (ln cp : Nat → Nat) (k : Nat) (u : World) : Prop where
  size : u.heap.size = v.heap.size + 3 * k
  rrow : u.rowIs rr 40 n (fun j => if j < k then .slice (some ⟨v.heap.size + 3 * j + 2, 0, none⟩) (ln j) (ln j) else .slice none 0 0)
  brow : u.rowIs bb 64 n (fun j => if j < k then .func (.func 84) #[] #[Pt (v.heap.size + 3 * j + 1) 0, Pt p2 0, Pt p3 0, Pt (v.heap.size + 3 * j) 0] else .nilFunc)
  blk : ∀ j, j < k → u.heap[v.heap.size + 3 * j]? = some (.cells #[I j] 3) ∧ u.heap[v.heap.size + 3 * j + 1]? = some (.cells #[.slice (pc j) (ln j) (cp j)] 37) ∧ u.heap[v.heap.size + 3 * j + 2]? = some (.cells (madeCells #[I 0, I 0] (ln j * 2)) 42)
  old : ∀ b, b < v.heap.size → b ≠ rr → b ≠ bb → u.heap[b]? = v.heap[b]?
  os : u.os = v.os
  out : u.output = v.output

/-- One script more. -/
theorem laid_next {v wr W U : World} {n p2 p3 rr bb k : Nat} {pc : Nat → Option Addr} {ln cp : Nat → Nat} (h : Laid v n p2 p3 rr bb pc ln cp k wr) (hk : k < n) (hne : rr ≠ bb) (hW : W.heap = (wr.heap.push (.cells #[I k] 3)).push (.cells #[.slice (pc k) (ln k) (cp k)] 37)) (ho : W.os = wr.os) (hu : W.output = wr.output)
    (hU : U.heap = ((((W.alloc (.cells (madeCells #[I 0, I 0] (ln k * 2)) 42)).setCell ⟨rr, k, none⟩ (.slice (some ⟨W.heap.size, 0, none⟩) (ln k) (ln k)))).setCell ⟨bb, k, none⟩ (.func (.func 84) #[] #[Pt (wr.heap.size + 1) 0, Pt p2 0, Pt p3 0, Pt wr.heap.size 0])).heap) (hUo : U.os = W.os) (hUu : U.output = W.output) : Laid v n p2 p3 rr bb pc ln cp (k + 1) U := by
  have hs := h.size
  have lr := h.rrow.lt
  have lb := h.brow.lt
  have hWs : W.heap.size = wr.heap.size + 2 := by rw [hW]; simp
  have hold : ∀ b, b < wr.heap.size → W.heap[b]? = wr.heap[b]? := fun b hb => by rw [hW, Array.getElem?_push, if_neg (by simp; omega), Array.getElem?_push, if_neg (by omega)]
  have hA : ∀ b, b < W.heap.size → (W.alloc (.cells (madeCells #[I 0, I 0] (ln k * 2)) 42)).heap[b]? = W.heap[b]? := fun b hb => by
    show (W.heap.push _)[b]? = _
    rw [Array.getElem?_push, if_neg (by omega)]
  have hUb : ∀ b, b ≠ rr → b ≠ bb → U.heap[b]? = (W.alloc (.cells (madeCells #[I 0, I 0] (ln k * 2)) 42)).heap[b]? := fun b h1 h2 => by rw [hU, Below.heap_setCell _ _ _ _ h2, Below.heap_setCell _ _ _ _ h1]
  refine ⟨?_, ?_, ?_, fun j hj => ?_, fun b hb h1 h2 => ?_, hUo.trans (ho.trans h.os), hUu.trans (hu.trans h.out)⟩
  · rw [hU]
    show ((((W.alloc (.cells (madeCells #[I 0, I 0] (ln k * 2)) 42)).setCell _ _).setCell _ _).heap).size = _
    simp only [World.setCell, Array.size_modify]
    show (W.heap.push _).size = _
    rw [Array.size_push]; omega
  · have r1 := ((h.rrow.of_block (w' := (W.alloc (.cells (madeCells #[I 0, I 0] (ln k * 2)) 42))) (by rw [hA rr (by omega), hold rr lr])).set k (.slice (some ⟨W.heap.size, 0, none⟩) (ln k) (ln k))).setOther (a := ⟨bb, k, none⟩) hne (.func (.func 84) #[] #[Pt (wr.heap.size + 1) 0, Pt p2 0, Pt p3 0, Pt wr.heap.size 0])
    refine (r1.of_block (by rw [hU])).congr fun i hi => ?_
    by_cases e : i = k
    · subst e
      rw [if_pos rfl, if_pos (by omega), show v.heap.size + 3 * i + 2 = W.heap.size by omega]
    · rw [if_neg e]
      by_cases hlt : i < k
      · rw [if_pos hlt, if_pos (by omega)]
      · rw [if_neg hlt, if_neg (by omega)]
  · have r1 := ((h.brow.of_block (w' := (W.alloc (.cells (madeCells #[I 0, I 0] (ln k * 2)) 42))) (by rw [hA bb (by omega), hold bb lb])).setOther (a := ⟨rr, k, none⟩) (Ne.symm hne) (.slice (some ⟨W.heap.size, 0, none⟩) (ln k) (ln k))).set k (.func (.func 84) #[] #[Pt (wr.heap.size + 1) 0, Pt p2 0, Pt p3 0, Pt wr.heap.size 0])
    refine (r1.of_block (by rw [hU])).congr fun i hi => ?_
    by_cases e : i = k
    · subst e
      rw [if_pos rfl, if_pos (by omega), hs]
    · rw [if_neg e]
      by_cases hlt : i < k
      · rw [if_pos hlt, if_pos (by omega)]
      · rw [if_neg hlt, if_neg (by omega)]
  · by_cases e : j = k
    · subst e
      rw [← hs]
      refine ⟨?_, ?_, ?_⟩
      · rw [hUb _ (by omega) (by omega), hA _ (by omega), hW, Array.getElem?_push, if_neg (by simp), Array.getElem?_push, if_pos rfl]
      · rw [hUb _ (by omega) (by omega), hA _ (by omega), hW, Array.getElem?_push, if_pos (by simp)]
      · rw [hUb _ (by omega) (by omega)]
        show (W.heap.push _)[wr.heap.size + 2]? = _
        rw [← hWs]
        exact Array.getElem?_push_size
    · have hj' : j < k := by omega
      obtain ⟨q1, q2, q3⟩ := h.blk j hj'
      have hne1 : ∀ b x, wr.heap[b]? = some x → (∃ c, x = .cells c 3 (0, 0)) ∨ (∃ c, x = .cells c 37 (0, 0)) ∨ (∃ c, x = .cells c 42 (0, 0)) → b ≠ rr ∧ b ≠ bb := fun b x hb hx => by
        obtain ⟨c1, r1, _⟩ := h.rrow
        obtain ⟨c2, r2, _⟩ := h.brow
        refine ⟨fun e => ?_, fun e => ?_⟩ <;> subst e
        · rw [r1] at hb; cases hb; rcases hx with ⟨c, hx⟩ | ⟨c, hx⟩ | ⟨c, hx⟩ <;> cases hx
        · rw [r2] at hb; cases hb; rcases hx with ⟨c, hx⟩ | ⟨c, hx⟩ | ⟨c, hx⟩ <;> cases hx
      have n1 := hne1 _ _ q1 (.inl ⟨_, rfl⟩)
      have n2 := hne1 _ _ q2 (.inr (.inl ⟨_, rfl⟩))
      have n3 := hne1 _ _ q3 (.inr (.inr ⟨_, rfl⟩))
      refine ⟨?_, ?_, ?_⟩
      · rw [hUb _ n1.1 n1.2, hA _ (by omega), hold _ (by omega)]; exact q1
      · rw [hUb _ n2.1 n2.2, hA _ (by omega), hold _ (by omega)]; exact q2
      · rw [hUb _ n3.1 n3.2, hA _ (by omega), hold _ (by omega)]; exact q3
  · rw [hUb b h1 h2, hA b (by omega), hold b (by omega)]
    exact h.old b hb h1 h2

set_option maxHeartbeats 4000000 in
set_option maxRecDepth 100000 in
theorem a203_wp (v : World) (wb p2 p3 rr bb sb so n : Nat) (cap : Nat) (F : Value) (hn : n ≤ 8) (pc : Nat → Option Addr) (ln cp : Nat → Nat) (hln : ∀ k, k < n → ln k ≤ 64) (hs : ∀ k, k < n → v.cell? ⟨sb, so + k, none⟩ = some (.slice (pc k) (ln k) (cp k)))
    (hrr : v.rowIs rr 40 n (fun _ => .slice none 0 0)) (hbb : v.rowIs bb 64 n (fun _ => .nilFunc)) (h3 : v.cell? ⟨p3, 0, none⟩ = some (.slice (some ⟨rr, 0, none⟩) n n)) (hne : rr ≠ bb ∧ rr ≠ sb ∧ bb ≠ sb ∧ p3 ≠ rr ∧ p3 ≠ bb) :
    a203.wp Try.prog (fun e a w' => e = .normal ∧ (∃ u : Nat → Value, a = { tmps := #[Pt wb 0, .slice (some ⟨sb, so, none⟩) n cap, F, undef, undef, Pt p2 0, .slice none 0 0, Pt p3 0, .slice (some ⟨bb, 0, none⟩) n n, u 9, u 10, u 11, u 12, u 13, u 14, u 15, u 16, u 17, u 18, u 19, u 20, u 21, u 22, u 23, u 24, u 25, u 26, u 27, u 28, u 29, u 30, u 31, u 32, u 33, u 34, u 35, u 36, u 37, u 38], defers := [] }) ∧ Laid v n p2 p3 rr bb pc ln cp n w')
      { tmps := #[Pt wb 0, .slice (some ⟨sb, so, none⟩) n cap, F, undef, undef, Pt p2 0, .slice none 0 0, Pt p3 0, .slice (some ⟨bb, 0, none⟩) n n, undef, undef, .slice (some ⟨sb, so, none⟩) n cap, I n, .slice (some ⟨rr, 0, none⟩) n n, .slice (some ⟨sb, so, none⟩) n cap, I n, .slice (some ⟨bb, 0, none⟩) n n] ++ Array.replicate 22 undef, defers := [] } v := by
  show Code.wp Try.prog (seq1 (seq2 (seq2 (seq2 (Try.f54.body.getD .skip))))) _ _ _
  unfold Try.f54 seq1 seq2
  simp only [Option.getD_some, Array.replicate_succ, Array.replicate_zero, List.push_toArray, List.append_toArray, List.nil_append, List.cons_append]
  have HS : Hid (∀ k, k < n → v.cell? ⟨sb, so + k, none⟩ = some (.slice (pc k) (ln k) (cp k))) := ⟨hs⟩
  have HLn : Hid (∀ k, k < n → ln k ≤ 64) := ⟨hln⟩
  have H0 : Hid (Laid v n p2 p3 rr bb pc ln cp 0 v) := ⟨⟨rfl, hrr.congr fun i _ => by simp, hbb.congr fun i _ => by simp, fun j hj => by omega, fun _ _ _ _ => rfl, rfl, rfl⟩⟩
  have H3 : Hid (v.cell? ⟨p3, 0, none⟩ = some (.slice (some ⟨rr, 0, none⟩) n n)) := ⟨h3⟩
  clear hs hln hrr hbb h3
  go_wp2_with fail
  go_loopw [19] (fun i u => ∃ k : Nat, k ≤ n ∧ i = .int .i64 k ∧ Laid v n p2 p3 rr bb pc ln cp k u) (fun i _ => n - (intOf i).toNat)
  case atStart => exact ⟨0, Nat.zero_le _, rfl, H0.out⟩
  case round =>
    obtain ⟨k, hk, rfl, hL⟩ := hrel
    have HL : Hid (Laid v n p2 p3 rr bb pc ln cp k wr) := ⟨hL⟩
    by_cases hlt : k < n
    · have hsk : wr.cell? ⟨sb, so + k, none⟩ = some (.slice (pc k) (ln k) (cp k)) := by
        have := HS.out k hlt
        rw [World.cell?_of_block (hL.old sb (World.block_lt_of_cell? _ _ this) (Ne.symm hne.2.1) (Ne.symm hne.2.2.1))]
        exact this
      have h3k : wr.cell? ⟨p3, 0, none⟩ = some (.slice (some ⟨rr, 0, none⟩) n n) := by
        rw [World.cell?_of_block (hL.old p3 (World.block_lt_of_cell? _ _ H3.out) hne.2.2.2.1 hne.2.2.2.2)]
        exact H3.out
      have hmk := mk40 (ln k) (HLn.out k hlt)
      have hlt' : (k : Int) < (n : Int) := by omega
      have r0 : wr.cell? ⟨rr, k, none⟩ = some (.slice none 0 0) := by rw [hL.rrow.cell hlt]; simp
      have r1 : wr.frozen? ⟨rr, k, none⟩ = false := hL.rrow.frozen k
      have b0 : wr.cell? ⟨bb, k, none⟩ = some .nilFunc := by rw [hL.brow.cell hlt]; simp
      have b1 : wr.frozen? ⟨bb, k, none⟩ = false := hL.brow.frozen k
      have lr := hL.rrow.lt
      have lb := hL.brow.lt
      have l3 : p3 < wr.heap.size := World.block_lt_of_cell? _ _ h3k
      have HW : Hid ((fun W : World => W.heap = (wr.heap.push (.cells #[I k] 3)).push (.cells #[.slice (pc k) (ln k) (cp k)] 37) ∧ W.os = wr.os ∧ W.output = wr.output ∧ W.cell? ⟨p3, 0, none⟩ = some (.slice (some ⟨rr, 0, none⟩) n n) ∧ W.cell? ⟨wr.heap.size, 0, none⟩ = some (I k) ∧ W.cell? ⟨wr.heap.size + 1, 0, none⟩ = some (.slice (pc k) (ln k) (cp k)) ∧ W.cell? ⟨rr, k, none⟩ = some (.slice none 0 0) ∧ W.frozen? ⟨rr, k, none⟩ = false ∧ W.cell? ⟨bb, k, none⟩ = some .nilFunc ∧ W.frozen? ⟨bb, k, none⟩ = false ∧ W.heap.size = wr.heap.size + 2) ((wr.alloc (.cells #[I k] 3)).alloc (.cells #[.slice (pc k) (ln k) (cp k)] 37))) := ⟨by
        have ho : ∀ b, b < wr.heap.size → ((wr.alloc (.cells #[I k] 3)).alloc (.cells #[.slice (pc k) (ln k) (cp k)] 37)).heap[b]? = wr.heap[b]? := fun b hb => by
          show ((wr.heap.push _).push _)[b]? = _
          rw [Array.getElem?_push, if_neg (by simp; omega), Array.getElem?_push, if_neg (by omega)]
        have hN : ((wr.alloc (.cells #[I k] 3)).alloc (.cells #[.slice (pc k) (ln k) (cp k)] 37)).heap[wr.heap.size]? = some (.cells #[I k] 3) := by
          show ((wr.heap.push _).push _)[wr.heap.size]? = _
          rw [Array.getElem?_push, if_neg (by simp), Array.getElem?_push, if_pos rfl]
        have hN1 : ((wr.alloc (.cells #[I k] 3)).alloc (.cells #[.slice (pc k) (ln k) (cp k)] 37)).heap[wr.heap.size + 1]? = some (.cells #[.slice (pc k) (ln k) (cp k)] 37) := by
          show ((wr.heap.push _).push _)[wr.heap.size + 1]? = _
          rw [Array.getElem?_push, if_pos (by simp)]
        refine ⟨rfl, rfl, rfl, ?_, by unfold World.cell?; rw [hN]; rfl, by unfold World.cell?; rw [hN1]; rfl, ?_, ?_, ?_, ?_, by show ((wr.heap.push _).push _).size = _; simp⟩
        · rw [World.cell?_of_block (ho p3 l3)]; exact h3k
        · rw [World.cell?_of_block (ho rr lr)]; exact r0
        · rw [World.frozen?_of_block (ho rr lr)]; exact r1
        · rw [World.cell?_of_block (ho bb lb)]; exact b0
        · rw [World.frozen?_of_block (ho bb lb)]; exact b1⟩
      have e9 : rr ≠ bb := hne.1
      have e10 : bb ≠ rr := fun e => hne.1 e.symm
      have Hl : Hid (rr < wr.heap.size ∧ bb < wr.heap.size ∧ p3 < wr.heap.size) := ⟨⟨lr, lb, l3⟩⟩
      clear hL lr lb l3 r0 r1 b0 b1 h3k
      go_wp2_with fail
      refine (show ∀ W : World, (W.heap = (wr.heap.push (.cells #[I k] 3)).push (.cells #[.slice (pc k) (ln k) (cp k)] 37) ∧ W.os = wr.os ∧ W.output = wr.output ∧ W.cell? ⟨p3, 0, none⟩ = some (.slice (some ⟨rr, 0, none⟩) n n) ∧ W.cell? ⟨wr.heap.size, 0, none⟩ = some (I k) ∧ W.cell? ⟨wr.heap.size + 1, 0, none⟩ = some (.slice (pc k) (ln k) (cp k)) ∧ W.cell? ⟨rr, k, none⟩ = some (.slice none 0 0) ∧ W.frozen? ⟨rr, k, none⟩ = false ∧ W.cell? ⟨bb, k, none⟩ = some .nilFunc ∧ W.frozen? ⟨bb, k, none⟩ = false ∧ W.heap.size = wr.heap.size + 2) → Code.wp Try.prog _ _ _ W from fun W hW => ?_) _ HW.out
      clear hsk
      obtain ⟨hWh, hWo, hWu, g3, g0, g1, gr, gf, gb, gbf, hWs⟩ := hW
      have HH : Hid (W.heap = (wr.heap.push (.cells #[I k] 3)).push (.cells #[.slice (pc k) (ln k) (cp k)] 37) ∧ W.os = wr.os ∧ W.output = wr.output ∧ W.heap.size = wr.heap.size + 2) := ⟨⟨hWh, hWo, hWu, hWs⟩⟩
      have x1 : p3 ≠ W.heap.size := by have := Hl.out; omega
      have x2 : rr ≠ W.heap.size := by have := Hl.out; omega
      have x3 : bb ≠ W.heap.size := by have := Hl.out; omega
      have x4 : wr.heap.size ≠ W.heap.size := by omega
      have x5 : wr.heap.size + 1 ≠ W.heap.size := by omega
      have hA : ∀ b, b < W.heap.size → (W.alloc (.cells (madeCells #[I 0, I 0] (ln k * 2)) 42)).heap[b]? = W.heap[b]? := fun b hb => by
        show (W.heap.push _)[b]? = _
        rw [Array.getElem?_push, if_neg (by omega)]
      have lA : p3 < W.heap.size ∧ rr < W.heap.size ∧ bb < W.heap.size := by have := Hl.out; omega
      have a3 : (W.alloc (.cells (madeCells #[I 0, I 0] (ln k * 2)) 42)).cell? ⟨p3, 0, none⟩ = some (.slice (some ⟨rr, 0, none⟩) n n) := by rw [World.cell?_of_block (hA p3 lA.1)]; exact g3
      have a0 : (W.alloc (.cells (madeCells #[I 0, I 0] (ln k * 2)) 42)).cell? ⟨wr.heap.size, 0, none⟩ = some (I k) := by rw [World.cell?_of_block (hA wr.heap.size (by omega))]; exact g0
      have a1 : (W.alloc (.cells (madeCells #[I 0, I 0] (ln k * 2)) 42)).cell? ⟨wr.heap.size + 1, 0, none⟩ = some (.slice (pc k) (ln k) (cp k)) := by rw [World.cell?_of_block (hA (wr.heap.size + 1) (by omega))]; exact g1
      have ar : (W.alloc (.cells (madeCells #[I 0, I 0] (ln k * 2)) 42)).cell? ⟨rr, k, none⟩ = some (.slice none 0 0) := by rw [World.cell?_of_block (hA rr lA.2.1)]; exact gr
      have af : (W.alloc (.cells (madeCells #[I 0, I 0] (ln k * 2)) 42)).frozen? ⟨rr, k, none⟩ = false := by rw [World.frozen?_of_block (hA rr lA.2.1)]; exact gf
      have hZ : ∀ b, b < W.heap.size → b ≠ rr → ((W.alloc (.cells (madeCells #[I 0, I 0] (ln k * 2)) 42)).setCell ⟨rr, k, none⟩ (.slice (some ⟨W.heap.size, 0, none⟩) (ln k) (ln k))).heap[b]? = W.heap[b]? := fun b hb hb2 => by rw [Below.heap_setCell _ _ _ _ hb2, hA b hb]
      have z0 : ((W.alloc (.cells (madeCells #[I 0, I 0] (ln k * 2)) 42)).setCell ⟨rr, k, none⟩ (.slice (some ⟨W.heap.size, 0, none⟩) (ln k) (ln k))).cell? ⟨wr.heap.size, 0, none⟩ = some (I k) := by rw [World.cell?_of_block (hZ wr.heap.size (by omega) (by have := Hl.out; omega))]; exact g0
      have zb : ((W.alloc (.cells (madeCells #[I 0, I 0] (ln k * 2)) 42)).setCell ⟨rr, k, none⟩ (.slice (some ⟨W.heap.size, 0, none⟩) (ln k) (ln k))).cell? ⟨bb, k, none⟩ = some .nilFunc := by rw [World.cell?_of_block (hZ bb lA.2.2 e10)]; exact gb
      have zf : ((W.alloc (.cells (madeCells #[I 0, I 0] (ln k * 2)) 42)).setCell ⟨rr, k, none⟩ (.slice (some ⟨W.heap.size, 0, none⟩) (ln k) (ln k))).frozen? ⟨bb, k, none⟩ = false := by rw [World.frozen?_of_block (hZ bb lA.2.2 e10)]; exact gbf
      have hst : (store ⟨bb, k, none⟩ (.func (.func 84) #[] #[Pt (wr.heap.size + 1) 0, Pt p2 0, Pt p3 0, Pt wr.heap.size 0])).run Try.prog ((W.alloc (.cells (madeCells #[I 0, I 0] (ln k * 2)) 42)).setCell ⟨rr, k, none⟩ (.slice (some ⟨W.heap.size, 0, none⟩) (ln k) (ln k))).drew = .ok () (((W.alloc (.cells (madeCells #[I 0, I 0] (ln k * 2)) 42)).setCell ⟨rr, k, none⟩ (.slice (some ⟨W.heap.size, 0, none⟩) (ln k) (ln k))).setCell ⟨bb, k, none⟩ (.func (.func 84) #[] #[Pt (wr.heap.size + 1) 0, Pt p2 0, Pt p3 0, Pt wr.heap.size 0])).drew := by
        have zb' : ((W.alloc (.cells (madeCells #[I 0, I 0] (ln k * 2)) 42)).setCell ⟨rr, k, none⟩ (.slice (some ⟨W.heap.size, 0, none⟩) (ln k) (ln k))).drew.cell? ⟨bb, k, none⟩ = some .nilFunc := zb
        have zf' : ((W.alloc (.cells (madeCells #[I 0, I 0] (ln k * 2)) 42)).setCell ⟨rr, k, none⟩ (.slice (some ⟨W.heap.size, 0, none⟩) (ln k) (ln k))).drew.frozen? ⟨bb, k, none⟩ = false := zf
        show Sem.run Try.prog (Sem.store .plain _ _ (Sem.pure ())) _ = _
        simp only [Sem.run, zb', zf', Bool.false_eq_true, if_false]
        rfl
      clear hWh hWo hWu hWs hA lA hZ
      go_region
      go_wp2_with fail
      go_roundw
      case rel =>
        refine ⟨k + 1, by omega, by go_num, ?_⟩
        exact laid_next HL.out hlt e9 HH.out.1 HH.out.2.1 HH.out.2.2.1 rfl rfl rfl
      case measure => simp [intOf]; omega
    · have hkk : k = n := by omega
      subst hkk
      clear hL
      go_wp2_with fail
      exact ⟨⟨fun m => match m with | 9 => u9 | 10 => u10 | 11 => .slice (some ⟨sb, so, none⟩) k cap | 12 => I k | 13 => .slice (some ⟨rr, 0, none⟩) k k | 14 => .slice (some ⟨sb, so, none⟩) k cap | 15 => I k | 16 => .slice (some ⟨bb, 0, none⟩) k k | 17 => .slice (some ⟨sb, so, none⟩) k cap | 18 => I k | 19 => I k | 20 => .bool false | 21 => u21 | 22 => u22 | 23 => u23 | 24 => u24 | 25 => u25 | 26 => u26 | 27 => u27 | 28 => u28 | 29 => u29 | 30 => u30 | 31 => u31 | 32 => u32 | 33 => u33 | 34 => u34 | _ => undef, by simp⟩, HL.out⟩
end Go.Proofs.Ytfjjoohflcchnaa
