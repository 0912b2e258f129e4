/- ChainRing: of a ring the last who writes down is told, under every schedule. Part 15 of 37. (Joined, by program, of: GDrive3, GDrive4, GDrive5.) -/
import Derived.Test.YtfjjoohflcchnaaChainRing14
set_option linter.unusedSimpArgs false
set_option linter.unusedVariables false
namespace Go.Proofs.Ytfjjoohflcchnaa.Gen
open Go Go.Lift Go.Conc Go.RowKit
open Go.ConcN (upd upd_same upd_ne)
variable {mc : Mc}

/-- Served at its seat in the loop of turns, main goes on to the loop's head. -/
def HomeT (wb : Nat) (cs : List Frame) (g : Goroutine) : Prop := ∀ (z : Nat → Option Nat) (Ch : Nat → Prop) (Stop : Goroutine → World → Prop) (x : Value) (w : World), (∀ u, GoesI Try.prog true (DT (ScZ z) Ch) Stop (G (tFr wb u) cs) w) → GoesI Try.prog true (DT (ScZ z) Ch) Stop (Go.Conc.served g x) w

theorem atGive_at {K : World → Prop} {Still : Loc → Prop} {h c : Nat} {v : Value} {o : Option Seat} {F : World → Prop} {a : Goroutine} {w : World} (hF : ∀ d, F w → F (w.at d)) (hg : Lift.AtGive Try.prog K Still h c v o F a w) (d : Nat) : Lift.AtGive Try.prog K Still h c v o F a (w.at d) := by
  obtain ⟨h1, h2, a₂, z, es, nh, B₀, hB, hs, rest⟩ := hg
  exact ⟨h1, hF d h2, a₂, z, es, nh, B₀, hB, fun d' => hs d', rest⟩

/-- Goroutine h holds the turn. -/
structure Holds (k N : Nat) (X : Nat → Fix mc) (l : Nat → Ph) (E : Nat → Nat → Prop) (M : Nat → Nat → Option Obj) (Mm : Keep) (z : Nat → Option Nat) (cont : Addr → Value) (Ch : Nat → Prop) (S : TS) (K : List (Nat × Int)) (v : World) (B : Nat) (Mb : Nat → Prop) (Inb : Nat → Option Seat) (h : Nat) (T : Trace) (gs : Array Goroutine) (w : World) (q : Nat → Nat) : Prop where
  ring : Ring Try.prog (KC (ScZ z) cont) (StillC (ScZ z)) B Mb Inb h T gs w q
  mb : Mb h
  b : B ≤ w.heap.size
  rel : Rel z v w
  mem : Mem z S K v
  crew : Crew k X l E M Mm z cont Ch S K v gs.size
  seats : Seats k N X l E M S.bk Inb
  len : S.thr.length = k
  stt : ∀ i, i < k → ∀ t, S.thr[i]? = some t → StN (l i) t

section
variable {k N : Nat} {X : Nat → Fix mc} {l : Nat → Ph} {E : Nat → Nat → Prop} {M : Nat → Nat → Option Obj} {Mm : Keep} {z : Nat → Option Nat} {cont : Addr → Value} {Ch : Nat → Prop} {S : TS} {K : List (Nat × Int)} {v : World} {B : Nat} {Mb : Nat → Prop} {Inb : Nat → Option Seat} {h : Nat} {T : Trace} {gs : Array Goroutine} {w : World} {q : Nat → Nat}
theorem seat_ch {gsz : Nat} (cr : Crew k X l E M Mm z cont Ch S K v gsz) (st : Seats k N X l E M S.bk Inb) : ∀ g s c, Inb g = some s → s.has c → Ch c := fun g s c hg hc => by
  rcases st.who hg hc with ⟨_, rfl⟩ | ⟨i, hi, _, rfl⟩
  · exact cr.z0.2.2
  · exact (cr.zs i hi).2.2
theorem open_rel {v' w' : World} (hr : Rel z v' w') (hn : NoRow Ch v') {c : Nat} (hc : Ch c) (ho : Open v' c) : ∃ cap k, w'.heap[c]? = some (.chan cap #[] false k k false) := by
  obtain ⟨cap, n, hh⟩ := ho
  exact ⟨cap, n, by rw [noRow_rel hr hn hc]; exact hh⟩
theorem rdy_mem {i : Nat} (hi : (rdyIds S S.thr.length)[pickAt S (rdyIds S S.thr.length)]? = some i) : i < S.thr.length ∧ (S.thr[i]?).any (rdy S) = true := by
  have := List.mem_of_getElem? hi
  unfold rdyIds at this
  rw [List.mem_filter, List.mem_range] at this
  exact this

set_option maxHeartbeats 1000000 in
theorem round_go {u : Nat → Value} {cs : List Frame} (H : Holds k (N + 1) X l E M Mm z cont Ch S K v B Mb Inb 0 T gs w q) (hg : gs[0]? = some (G (tFr S.wb u) cs)) (h8 : k ≤ 8) (hsl : S.sched.length ≤ 4611686018427387904) (hsc : ∀ x ∈ S.sched, -9223372036854775808 ≤ x ∧ x < 9223372036854775808)
    {i : Nat} (hi : (rdyIds S S.thr.length)[pickAt S (rdyIds S S.thr.length)]? = some i) (sl : Option (Nat × Nat)) (hl : (resume i mc (l i) (nv (going S i (thrI S i))) K).1.n * 40 ≤ 140737488355328) :
    ∃ (N' : Nat) (gs' : Array Goroutine) (w' : World) (sl' : Option (Nat × Nat)) (T' : Trace) (q' : Nat → Nat) (B' : Nat) (Mb' : Nat → Prop) (Inb' : Nat → Option Seat) (S' : TS) (v' : World) (E' : Nat → Nat → Prop) (M' : Nat → Nat → Option Obj) (u' : Nat → Value),
      runNT Try.prog N' (crowd gs w sl) T = (.next (crowd gs' w' sl'), T') ∧ gs'.size = gs.size ∧ gs'[0]? = some (G (tFr S'.wb u') cs) ∧ nv S' = (resume i mc (l i) (nv (going S i (thrI S i))) K).1 ∧
      Holds k N X (upd l i (resume i mc (l i) (nv (going S i (thrI S i))) K).2.2) E' M' Mm z cont Ch S' (resume i mc (l i) (nv (going S i (thrI S i))) K).2.1 v' B' Mb' Inb' 0 T' gs' w' q' := by
  have cr := H.crew
  have st := H.seats
  obtain ⟨hik, hrd⟩ := rdy_mem hi
  rw [H.len] at hik
  obtain ⟨t, ht, htb, hgc, hfit⟩ := cr.thr i hik
  obtain ⟨ok, hXi, hXk⟩ := cr.ok i hik
  have hst3 : t.st ≠ 3 := by
    rw [ht] at hrd
    simp only [Option.any_some] at hrd
    intro e
    unfold rdy at hrd
    rw [e] at hrd
    simp at hrd
  have eth : thrI S i = t := thrI_of ht
  rw [eth] at hl ⊢
  have h0h : 0 ≠ (X i).h := fun e => by have := ok.h; omega
  obtain ⟨n, hn, hseat⟩ := st.seat i hik
  obtain ⟨n', rfl⟩ : ∃ n', n = n' + 1 := ⟨n - 1, by omega⟩
  have hcons : ∀ a, l i ≠ .done a := fun a e => by rw [e] at hfit; exact hst3 hfit
  have hseat' : Inb (X i).h = some (seatT (X i).gc (Home (X i) (n' + 1) (l i) (E i) (M i))) := by
    rw [hseat]
    match hli : l i, hcons with
    | .turn _ _ _ _ _ _, _ => rfl
    | .wait _ _ _ _ _, _ => rfl
    | .done a, hc => exact absurd rfl (hc a)
  -- MAIN GIVES
  have hG : GoesI Try.prog ((0 : Nat) == 0) (DT (ScZ z) Ch) (Lift.AtGive Try.prog (KC (ScZ z) cont) (StillC (ScZ z)) 0 t.gc (.agg #[]) (some (Seat.one S.bk (.agg #[]) false (HomeT S.wb cs))) (Then z Ch S K v (going S i t) K)) (G (tFr S.wb u) cs) w :=
    turn_in u cs (fun bd ad od qd rd oe kd hoe hT hF code hcode => turn50_goes cs (HomeT S.wb cs) hoe (fun g hb z Ch Stop x w h => hb _ Stop x w (dt_idle _ _) (hT z Ch Stop w h)) H.rel cr.noRow H.mem (by rw [H.len]; exact h8) hsl hsc (List.length_pos_of_mem (List.mem_of_getElem? hi)) hi ht cr.z0.1 cr.z0.2.1 (fun g w' hg => hg) code hcode)
  rw [hgc] at hG
  have hch0 := seat_ch cr st
  have hup0 : ∀ g s c, upd Inb 0 (some (Seat.one S.bk (.agg #[]) false (HomeT S.wb cs))) g = some s → s.has c → Ch c := fun g s c hg hc => by
    by_cases e : g = 0
    · subst e; rw [upd_same] at hg; cases hg
      rw [Seat.one_has.1 hc]; exact cr.z0.2.2
    · rw [upd_ne _ _ e] at hg; exact hch0 g s c hg hc
  obtain ⟨N1, gs1, w1, g₂, d, kk, cap, sl1, T1, q1, B1, r1, ⟨v1, hr1, hn1, he1⟩, z1, h1, hh, hch, ⟨hB1, hB1b, hB1c⟩, C1⟩ := pass_on (Inb := Inb) (Mem := Mb) (h := 0) (j := (X i).h) (c := (X i).gc) (kk := 0) (z := .agg #[]) (fun w d h => kc_at w d h)
    (fun s hs => by
      cases hs
      refine ⟨Seat.one_wf _ _ _ _, fun g s' c hg hs' hc hc' => ?_, fun w' hF c hc => ?_⟩
      · rw [Seat.one_has.1 hc'] at hc
        rcases st.who hs' hc with ⟨e, _⟩ | ⟨j, hj, _, e⟩
        · exact hg e
        · exact cr.gbk j hj e.symm
      · obtain ⟨v1, k1, k2, k3⟩ := hF
        rw [Seat.one_has.1 hc]
        exact open_rel k1 k2 cr.z0.2.2 (open_stay H.mem (Evo.toP (Pr := fun _ => False) k3) (cr.opn _ cr.z0.2.2) (fun _ h => h.elim)))
    (fun w g s c cap buf cl a b tm hg hc hK => kc_chan (cr.zc c (hup0 g s c hg hc)) hK cap buf cl a b tm)
    (fun w g s c cap buf cl a b tm hg hc hK => kc_chan (cr.zc c (hch0 g s c hg hc)) hK cap buf cl a b tm)
    (dh_of_dt hch0) (Ne.symm h0h) hseat' rfl H.mb hG gs sl T q B (cr.hlt i hik) hg H.ring
  -- THE THREAD GOES
  have hgCh := (cr.zs i hik).2.2
  have hS1 : (going S i t).wb = S.wb ∧ (going S i t).bk = S.bk ∧ (going S i t).thr = S.thr.set i { t with st := 0 } := by
    unfold going picked
    split <;> exact ⟨rfl, rfl, rfl⟩
  have ht1 : (going S i t).thr[i]? = some { t with st := 0 } := by rw [hS1.2.2]; exact set_get ht
  have cr1 : Crew k X l E M Mm z cont Ch (going S i t) K v1 gs.size := cr.main H.mem he1 hS1.1 hS1.2.1 (by rw [hS1.2.2, List.length_set]) (fun j t0 hj => by
    rw [hS1.2.2]
    by_cases e : j = i
    · subst e
      rw [ht] at hj
      cases hj
      exact ⟨_, set_get ht, rfl, rfl, rfl, rfl, fun h => absurd h hst3⟩
    · exact ⟨t0, by rw [List.getElem?_set, if_neg (fun e' => e e'.symm)]; exact hj, rfl, rfl, rfl, rfl, id⟩)
  have hno1 : ∀ (x : Array Value) (e : TypeId) (f : Nat × Nat), Obj.chan cap #[] false kk kk false ≠ Obj.cells x e f := fun _ _ _ h => by cases h
  have hv1c : v1.heap[(X i).gc]? = some (.chan cap #[] false kk kk false) := by rw [← noRow_rel hr1 hn1 hgCh]; exact hch
  have cr2 := cr1.chan hgCh cap (kk + 1)
  have hm2 : Mem z (going S i t) K (v1.setChan (X i).gc cap #[] false (kk + 1) (kk + 1) false) := he1.mem.chan hv1c hno1 cap #[] false (kk + 1) (kk + 1) false
  have hr2 := rel_chan hr1 (cr.zc _ hgCh) cap #[] false (kk + 1) (kk + 1) false d
  generalize hv2 : v1.setChan (X i).gc cap #[] false (kk + 1) (kk + 1) false = v2 at cr2 hm2 hr2
  generalize hw2 : (w1.at d).setChan (X i).gc cap #[] false (kk + 1) (kk + 1) false = w2 at hr2 C1 r1
  have hw2s : w2.heap.size = w1.heap.size := by rw [← hw2]; simp [World.setChan, World.at]
  have eR : resume (X i).i mc (l i) (nv (going S i t)) K = resume i mc (l i) (nv (going S i t)) K := by rw [hXi]
  have hfit1 : FitsN (l i) { t with st := 0 } := by
    match hli : l i, hcons, hfit with
    | .turn _ _ _ _ _ _, _, hf => exact hf
    | .wait _ _ _ _ _, _, hf => exact hf
    | .done a, hc, _ => exact absurd rfl (hc a)
  have hG2 : GoesI Try.prog ((X i).h == 0) (DT (ScZ z) Ch) (fun g' w' => ∃ E' M', Gives (X i) (Home (X i) n') z cont Ch (going S i t) K v2 (E i) (resume i mc (l i) (nv (going S i t)) K).1 (resume i mc (l i) (nv (going S i t)) K).2.1 (resume i mc (l i) (nv (going S i t)) K).2.2 E' M' g' w') (Go.Conc.served g₂ (commResult (seatT (X i).gc (Home (X i) (n' + 1) (l i) (E i) (M i))).cases (seatT (X i).gc (Home (X i) (n' + 1) (l i) (E i) (M i))).shape ((0 : Nat) : Int) (.agg #[]) true)) w2 := by
    have hhome : Home (X i) (n' + 1) (l i) (E i) (M i) g₂ := hh
    refine hhome z Ch _ cont _ w2 v2 (going S i t) K { t with st := 0 } hr2 cr2.noRow hm2 (by rw [hXi]; exact ht1) htb hgc hfit1.fits hXk (cr.zs i hik).1 (cr.zs i hik).2.1 (cr2.sees i hik).2.1 (cr2.sees i hik).2.2 (by rw [eR]; exact hl) (fun g' w' E' M' hgv => ⟨E', M', ?_⟩)
    rw [eR] at hgv
    exact hgv
  generalize hR : resume i mc (l i) (nv (going S i t)) K = R at hG2 hl ⊢
  have st1 : Seats k (N + 1) X l E M S.bk (upd Inb 0 (some (Seat.one S.bk (.agg #[]) false (HomeT S.wb cs)))) := by
    refine ⟨fun j hj => ?_, fun g hg0 hgn => by rw [upd_ne _ _ hg0]; exact st.none g hg0 hgn, fun s c hs hc => ?_⟩
    · rw [upd_ne _ _ (fun e => by have := (cr.ok j hj).1.h; omega)]
      exact st.seat j hj
    · rw [upd_same] at hs; cases hs
      exact Seat.one_has.1 hc
  obtain ⟨N2, gs2, a2, w3, sl2, T2, q2, B2, r2, z2, h2, ⟨E', M', hs', hnew', hat⟩, ⟨hB2, hB2b, hB2c⟩, C2⟩ := hold_goes (fun w d h => kc_at w d h) (dh_of_dt hup0) hG2 gs1 sl1 T1 q1 B1 h1 C1
  -- AND GIVES BACK
  have hbk1 : (going S i t).bk = S.bk := hS1.2.1
  rw [hbk1] at hat
  have hwbk : Ch S.bk := cr.z0.2.2
  have hupd2 : ∀ g s c, upd (upd Inb 0 (some (Seat.one S.bk (.agg #[]) false (HomeT S.wb cs)))) (X i).h (seatOf (X i) (Home (X i) n') R.2.2 E' M') g = some s → s.has c → Ch c := fun g s c hg hc => by
    by_cases e : g = (X i).h
    · subst e; rw [upd_same] at hg
      obtain ⟨rfl, _⟩ := seatOf_has hg
      rw [Seat.one_has.1 hc]; exact hgCh
    · rw [upd_ne _ _ e] at hg; exact hup0 g s c hg hc
  have hrow2 : ∀ b, (b = (X i).ab ∨ E i b) → ∃ x e f, v2.heap[b]? = some (.cells x e f) := fun b hb => by
    obtain ⟨o, ho⟩ := Option.ne_none_iff_exists'.1 (cr2.abM hik hb)
    obtain ⟨x, e, f, rfl⟩ := (cr2.sees i hik).1.row b o ho
    exact ⟨x, e, f, (cr2.sees i hik).2.1 b _ ho⟩
  have hMi : Mb (X i).h := (H.ring.mem _ _ hseat').1
  obtain ⟨N3, gs3, w4, g₃, d3, kk3, cap3, sl3, T3, q3, B3, r3, hF3, z3, h3, hh3, hch3, ⟨hB3, hB3b, hB3c⟩, C3⟩ := pass_on (Inb := upd Inb 0 (some (Seat.one S.bk (.agg #[]) false (HomeT S.wb cs)))) (h := (X i).h) (j := 0) (c := S.bk) (kk := 0) (z := .agg #[]) (s := Seat.one S.bk (.agg #[]) false (HomeT S.wb cs)) (fun w d h => kc_at w d h)
    (fun s hs => by
      obtain ⟨rfl, _⟩ := seatOf_has hs
      refine ⟨Seat.one_wf _ _ _ _, fun g s' c hg hs'' hc hc' => ?_, fun w' hF c hc => ?_⟩
      · have ec : c = (X i).gc := Seat.one_has.1 hc'
        rw [ec] at hc
        rcases st1.who hs'' hc with ⟨_, e⟩ | ⟨j, hj, hjg, e⟩
        · exact cr.gbk i hik e
        · exact hg (by rw [← hjg, cr.ginj i j hik hj e])
      · obtain ⟨v3, S', k1, k2, k3, k4, k5⟩ := hF
        rw [show c = (X i).gc from Seat.one_has.1 hc]
        exact open_rel k1 k2 hgCh (open_stay hm2 k4 (cr2.opn _ hgCh) hrow2))
    (fun w g s c cap buf cl a b tm hg hc hK => kc_chan (cr.zc c (hupd2 g s c hg hc)) hK cap buf cl a b tm)
    (fun w g s c cap buf cl a b tm hg hc hK => kc_chan (cr.zc c (hup0 g s c hg hc)) hK cap buf cl a b tm)
    (D := DT (ScZ z) Ch) (dh_of_dt hup0) h0h (upd_same _ _ _) rfl ⟨hMi, .inr rfl⟩
    (GoesI.stop (fun d => atGive_at (fun d hF => by obtain ⟨v3, S', k1, k2⟩ := hF; exact ⟨v3, S', k1.re rfl rfl rfl rfl rfl rfl, k2⟩) hat d)) gs2 sl2 T2 q2 B2 (by have := (Array.getElem?_eq_some_iff.1 hg).1; omega) h2 C2
  obtain ⟨v3, S', hr3, hn3, hS', he3, hM3, hfar3⟩ := hF3
  -- MAIN IS BACK AT THE LOOP's HEAD
  have sR := resume_sta i mc (l i) (nv (going S i t)) K
  rw [hR, ← hS'] at sR
  have sR' : Sta i (going S i t) S' := ⟨sR.wb, sR.bk, sR.base, sR.us, sR.la, sR.sc, sR.cv, sR.ths, sR.sched, sR.stk, sR.ran, sR.n, sR.chg, sR.len, sR.oth, sR.own⟩
  have hfit' : ∃ t', S'.thr[i]? = some t' ∧ FitsN R.2.2 t' := by
    obtain ⟨t', k1, k2, _⟩ := resume_fs i mc (nv (going S i t)) K { t with st := 0 } ht1 (l i) hcons
    rw [hR, ← hS'] at k1
    rw [hR] at k2
    exact ⟨t', k1, k2⟩
  have cr3 := cr2.thread hm2 hik he3 sR' hfit' hs' hM3 hfar3 hnew' (by rw [← hR]; exact resume_kok (cr2.ok i hik).2.2.2)
  have hwb' : S'.wb = S.wb := sR'.wb.trans hS1.1
  have hbk' : S'.bk = S.bk := sR'.bk.trans hS1.2.1
  have hv3c : v3.heap[S.bk]? = some (.chan cap3 #[] false kk3 kk3 false) := by rw [← noRow_rel hr3 hn3 hwbk]; exact hch3
  have cr4 := cr3.chan hwbk cap3 (kk3 + 1)
  have hm4 : Mem z S' R.2.1 (v3.setChan S.bk cap3 #[] false (kk3 + 1) (kk3 + 1) false) := he3.mem.chan hv3c (fun _ _ _ h => by cases h) cap3 #[] false (kk3 + 1) (kk3 + 1) false
  have hr4 := rel_chan hr3 (cr.zc _ hwbk) cap3 #[] false (kk3 + 1) (kk3 + 1) false d3
  generalize hv4 : v3.setChan S.bk cap3 #[] false (kk3 + 1) (kk3 + 1) false = v4 at cr4 hm4 hr4
  generalize hw5 : (w4.at d3).setChan S.bk cap3 #[] false (kk3 + 1) (kk3 + 1) false = w5 at hr4 C3 r3
  have hw5s : w5.heap.size = w4.heap.size := by rw [← hw5]; simp [World.setChan, World.at]
  have hG4 : GoesI Try.prog ((0 : Nat) == 0) (DT (ScZ z) Ch) (fun g w' => (∃ u, g = G (tFr S.wb u) cs) ∧ Rel z v4 w') (Go.Conc.served g₃ (commResult (Seat.one S.bk (.agg #[]) false (HomeT S.wb cs)).cases (Seat.one S.bk (.agg #[]) false (HomeT S.wb cs)).shape ((0 : Nat) : Int) (.agg #[]) true)) w5 := by
    have hhome : HomeT S.wb cs g₃ := hh3
    exact hhome z Ch _ _ w5 (fun u => GoesI.stop fun d => ⟨⟨u, rfl⟩, hr4.re rfl rfl rfl rfl rfl rfl⟩)
  obtain ⟨N4, gs4, a4, w6, sl4, T4, q4, B4, r4, z4, h4, ⟨⟨u4, rfl⟩, hr6⟩, ⟨hB4, hB4b, hB4c⟩, C4⟩ := hold_goes (fun w d h => kc_at w d h) (dh_of_dt hupd2) hG4 gs3 sl3 T3 q3 B3 h3 C3
  have hsz : gs4.size = gs.size := by omega
  refine ⟨N1 + N2 + N3 + N4, gs4, w6, sl4, T4, q4, B4, _, _, S', v4, upd E i E', upd M i M', u4, runNT_then (runNT_then (runNT_then r1 r2) r3) r4, hsz, by rw [hwb']; exact h4, hS', ⟨C4, ⟨⟨H.mb, .inl (by rw [upd_same]; simp)⟩, .inr rfl⟩, ?_, hr6, hm4, by rw [hsz]; exact cr4, ?_, by rw [sR'.len, hS1.2.2, List.length_set]; exact H.len, fun j hj t0 hj0 => ?_⟩⟩
  · have := H.b
    omega
  · rw [hbk']
    refine ⟨fun j hj => ?_, fun g hg0 hgn => ?_, fun s c hs hc => ?_⟩
    · by_cases e : j = i
      · subst e
        exact ⟨n', by omega, by rw [upd_same, upd_same, upd_same, upd_same]⟩
      · have hne : (X j).h ≠ (X i).h := fun e' => e (cr.hinj j i hj hik e')
        obtain ⟨m, hm, hsm⟩ := st1.seat j hj
        exact ⟨m, by omega, by rw [upd_ne _ _ hne, upd_ne _ _ e, upd_ne _ _ e, upd_ne _ _ e]; exact hsm⟩
    · rw [upd_ne _ _ (fun e => hgn i hik e.symm)]
      exact st1.none g hg0 hgn
    · rw [upd_ne _ _ h0h] at hs
      exact st1.main s c hs hc
  · by_cases e : j = i
    · subst e
      obtain ⟨t', k1, _, k2⟩ := resume_fs j mc (nv (going S j t)) K { t with st := 0 } ht1 (l j) hcons
      rw [hR, ← hS'] at k1
      rw [hR] at k2
      have e2 : some t0 = some t' := hj0.symm.trans k1
      cases e2
      rw [upd_same]
      exact k2
    · rw [upd_ne _ _ e]
      rw [sR'.oth j e, hS1.2.2, List.getElem?_set, if_neg (fun e' => e e'.symm)] at hj0
      exact H.stt j hj t0 hj0
end
end Go.Proofs.Ytfjjoohflcchnaa.Gen

namespace Go.Proofs.Ytfjjoohflcchnaa.Gen
open Go Go.Lift Go.Conc Go.RowKit
open Go.ConcN (upd upd_same upd_ne)
variable {mc : Mc}

section
variable {k N : Nat} {X : Nat → Fix mc} {l : Nat → Ph} {E : Nat → Nat → Prop} {M : Nat → Nat → Option Obj} {Mm : Keep} {z : Nat → Option Nat} {cont : Addr → Value} {Ch : Nat → Prop} {S : TS} {K : List (Nat × Int)} {v : World} {B : Nat} {Mb : Nat → Prop} {Inb : Nat → Option Seat} {h : Nat} {T : Trace} {gs : Array Goroutine} {w : World} {q : Nat → Nat}

theorem Holds.fewer (H : Holds k (N + 1) X l E M Mm z cont Ch S K v B Mb Inb h T gs w q) : Holds k N X l E M Mm z cont Ch S K v B Mb Inb h T gs w q :=
  ⟨H.ring, H.mb, H.b, H.rel, H.mem, H.crew, ⟨fun i hi => by obtain ⟨n, h1, h2⟩ := H.seats.seat i hi; exact ⟨n, by omega, h2⟩, H.seats.none, H.seats.main⟩, H.len, H.stt⟩

theorem round_stuck {u : Nat → Value} {cs : List Frame} (H : Holds k N X l E M Mm z cont Ch S K v B Mb Inb 0 T gs w q) (hg : gs[0]? = some (G (tFr S.wb u) cs)) (h8 : k ≤ 8) (h0 : rdyIds S S.thr.length = []) (hw : waits2 S S.thr.length = true) (hn : (S.n + 1) * 40 ≤ 140737488355328) (sl : Option (Nat × Nat)) :
    ∃ (N' : Nat) (gs' : Array Goroutine) (w' : World) (sl' : Option (Nat × Nat)) (T' : Trace) (q' : Nat → Nat) (B' : Nat) (S' : TS) (v' : World) (u' : Nat → Value),
      runNT Try.prog N' (crowd gs w sl) T = (.next (crowd gs' w' sl'), T') ∧ gs'.size = gs.size ∧ gs'[0]? = some (G (tFr S'.wb u') cs) ∧ nv S' = stuckS (nv S) undef ∧
      Holds k N X l E M Mm z cont Ch S' K v' B' Mb Inb 0 T' gs' w' q' := by
  have cr := H.crew
  have hG : GoesI Try.prog ((0 : Nat) == 0) (DT (ScZ z) Ch) (fun g w' => (∃ u, g = G (tFr S.wb u) cs) ∧ ∃ v' tv, Rel z v' w' ∧ Evo z S K v (stuckS S tv) K v') (G (tFr S.wb u) cs) w :=
    turn_in u cs (fun bd ad od qd rd oe kd hoe hT hF code hcode => turn50_stuck cs hoe H.rel cr.noRow H.mem (by rw [H.len]; exact h8) h0 hw hn (fun v' w' tv hr hn he => hT z Ch _ w' (fun u' => GoesI.stop fun d => ⟨⟨u', rfl⟩, v', tv, hr.re rfl rfl rfl rfl rfl rfl, he⟩)) code hcode)
  obtain ⟨N1, gs1, a1, w1, sl1, T1, q1, B1, r1, z1, h1, ⟨⟨u1, rfl⟩, v1, tv, hr1, he1⟩, ⟨hB1, hB1b, hB1c⟩, C1⟩ := hold_goes (fun w d h => kc_at w d h) (dh_of_dt (seat_ch cr H.seats)) hG gs sl T q B hg H.ring
  refine ⟨N1, gs1, w1, sl1, T1, q1, B1, stuckS S tv, v1, u1, r1, z1, h1, rfl, ⟨C1, H.mb, by have := H.b; omega, hr1, he1.mem, by rw [z1]; exact cr.main H.mem he1 rfl rfl rfl (fun i t ht => ⟨t, ht, rfl, rfl, rfl, rfl, id⟩), H.seats, H.len, H.stt⟩⟩

theorem round_end {u : Nat → Value} {cs : List Frame} {bc : Frame} {ac : Act} {ops : Array Oper} {q0 : Nat} {rest : List Nat} {oc : Oper} {k0 : List Item} (hoc : ops[q0]? = some oc) (H : Holds k N X l E M Mm z cont Ch S K v B Mb Inb 0 T gs w q) (hg : gs[0]? = some (G (tFr S.wb u) (bc.at ac (.inRegion ops (q0 :: rest) :: k0) :: cs))) (h8 : k ≤ 8) (h0 : rdyIds S S.thr.length = []) (hw : waits2 S S.thr.length = false) (sl : Option (Nat × Nat)) :
    ∃ (N' : Nat) (gs' : Array Goroutine) (w' : World) (sl' : Option (Nat × Nat)) (T' : Trace) (q' : Nat → Nat) (B' : Nat) (v' : World),
      runNT Try.prog N' (crowd gs w sl) T = (.next (crowd gs' w' sl'), T') ∧ gs'.size = gs.size ∧ gs'[0]? = some (G (bc.at (ac.put oc.dst (.tuple #[])) (.inRegion ops rest :: k0)) cs) ∧
      Holds k N X l E M Mm z cont Ch S K v' B' Mb Inb 0 T' gs' w' q' := by
  have cr := H.crew
  have hG : GoesI Try.prog ((0 : Nat) == 0) (DT (ScZ z) Ch) (fun g w' => g = G (bc.at (ac.put oc.dst (.tuple #[])) (.inRegion ops rest :: k0)) cs ∧ ∃ v', Rel z v' w' ∧ Evo z S K v S K v') (G (tFr S.wb u) (bc.at ac (.inRegion ops (q0 :: rest) :: k0) :: cs)) w :=
    turn_in u _ (fun bd ad od qd rd oe kd hoe hT hF code hcode => turn50_end _ hoe H.rel cr.noRow H.mem (by rw [H.len]; exact h8) h0 hw (fun v' w' hr hn he => hF z Ch _ w' bc ac ops q0 rest oc k0 cs rfl hoc (GoesI.stop fun d => ⟨rfl, v', hr.re rfl rfl rfl rfl rfl rfl, he⟩)) code hcode)
  obtain ⟨N1, gs1, a1, w1, sl1, T1, q1, B1, r1, z1, h1, ⟨rfl, v1, hr1, he1⟩, ⟨hB1, hB1b, hB1c⟩, C1⟩ := hold_goes (fun w d h => kc_at w d h) (dh_of_dt (seat_ch cr H.seats)) hG gs sl T q B hg H.ring
  exact ⟨N1, gs1, w1, sl1, T1, q1, B1, v1, r1, z1, h1, ⟨C1, H.mb, by have := H.b; omega, hr1, he1.mem, by rw [z1]; exact cr.main H.mem he1 rfl rfl rfl (fun i t ht => ⟨t, ht, rfl, rfl, rfl, rfl, id⟩), H.seats, H.len, H.stt⟩⟩

/-- Nobody could go and nobody waits: all have ended. -/
theorem all_done (H : Holds k N X l E M Mm z cont Ch S K v B Mb Inb h T gs w q) (h0 : rdyIds S S.thr.length = []) (hw : waits2 S S.thr.length = false) : ∀ i, i < k → ∃ a, l i = .done a := by
  intro i hi
  obtain ⟨t, ht, _⟩ := H.crew.thr i hi
  have hs := H.stt i hi t ht
  have hlt : i < S.thr.length := by rw [H.len]; exact hi
  match hl : l i, hs with
  | .done a, _ => exact ⟨a, rfl⟩
  | .turn _ _ _ _ _ _, hs =>
    exfalso
    have : i ∈ rdyIds S S.thr.length := by
      unfold rdyIds
      rw [List.mem_filter, List.mem_range]
      refine ⟨hlt, ?_⟩
      rw [ht]
      have hs' : t.st = 1 := hs
      simp [rdy, hs']
    rw [h0] at this
    cases this
  | .wait _ _ _ _ _, hs =>
    exfalso
    have hs' : t.st = 2 := hs
    have : waits2 S S.thr.length = true := by
      unfold waits2
      rw [List.any_eq_true]
      exact ⟨i, by simpa using hlt, by rw [ht]; simp [hs']⟩
    rw [hw] at this
    cases this
end

/-- So many turns, and the end. -/
inductive Turns (nk : Mc) : Nat → PSt → PSt → Prop
  | stop {p : PSt} : pturn nk p = none → Turns nk 0 p p
  | step {n : Nat} {p p1 p' : PSt} : pturn nk p = some p1 → Turns nk n p1 p' → Turns nk (n + 1) p p'
theorem nv_picked (S : TS) : nv (picked S) = picked (nv S) := by
  unfold picked
  by_cases h : S.us < S.sched.length
  · rw [if_pos h, if_pos (show (nv S).us < (nv S).sched.length from h)]; rfl
  · rw [if_neg h, if_neg (show ¬ (nv S).us < (nv S).sched.length from h)]
theorem nv_going (S : TS) (i : Nat) (t : Thr) : nv (going S i t) = going (nv S) i t := by
  unfold going
  rw [← nv_picked]
  rfl
theorem pickAt_lt (S : TS) {ids : List Nat} (h : 0 < ids.length) : pickAt S ids < ids.length := by
  unfold pickAt
  split
  · exact which_lt _ h
  · cases hf : ids.findIdx? (fun (i : Nat) => decide (S.la < (i : Int))) with
    | none => exact h
    | some k => exact (List.findIdx?_eq_some_iff_getElem.1 hf).1
theorem going_n (S : TS) (i : Nat) (t : Thr) : (going S i t).n = S.n ∧ (going S i t).sched = S.sched := by
  unfold going picked
  split <;> exact ⟨rfl, rfl⟩
theorem pturn_n {nk : Mc} {p p1 : PSt} (h : pturn nk p = some p1) : p.S.n ≤ p1.S.n ∧ p1.S.sched = p.S.sched := by
  unfold pturn at h
  split at h
  · split at h
    · cases h; exact ⟨Nat.le_succ _, rfl⟩
    · cases h
  · cases h
    have s := resume_sta (nextI p.S) nk (p.l (nextI p.S)) (going p.S (nextI p.S) (thrI p.S (nextI p.S))) p.K
    have g := going_n p.S (nextI p.S) (thrI p.S (nextI p.S))
    exact ⟨by rw [← g.1]; exact s.n, by rw [← g.2]; exact s.sched⟩
theorem Turns.le {nk : Mc} : ∀ {n : Nat} {p p' : PSt}, Turns nk n p p' → p.S.n ≤ p'.S.n
  | _, _, _, .stop _ => Nat.le_refl _
  | _, _, _, .step h t => Nat.le_trans (pturn_n h).1 t.le

/-- THE LOOP OF TURNS, TO ITS END. -/
theorem turns_run {k : Nat} {X : Nat → Fix mc} {Mm : Keep} {z : Nat → Option Nat} {cont : Addr → Value} {Ch : Nat → Prop} {cs : List Frame} {bc : Frame} {ac : Act} {ops : Array Oper} {q0 : Nat} {rest : List Nat} {oc : Oper} {k0 : List Item} (hoc : ops[q0]? = some oc) (h8 : k ≤ 8) :
    ∀ (n : Nat) (p p' : PSt), Turns mc n p p' → ∀ (l : Nat → Ph) (E : Nat → Nat → Prop) (M : Nat → Nat → Option Obj) (S : TS) (K : List (Nat × Int)) (v : World) (B : Nat) (Mb : Nat → Prop) (Inb : Nat → Option Seat) (T : Trace) (gs : Array Goroutine) (w : World) (q : Nat → Nat) (sl : Option (Nat × Nat)) (u : Nat → Value),
      p.S = nv S → p.K = K → p.l = l → S.sched.length ≤ 4611686018427387904 → (∀ x ∈ S.sched, -9223372036854775808 ≤ x ∧ x < 9223372036854775808) → p'.S.n * 40 ≤ 140737488355328 →
      Holds k n X l E M Mm z cont Ch S K v B Mb Inb 0 T gs w q → gs[0]? = some (G (tFr S.wb u) (bc.at ac (.inRegion ops (q0 :: rest) :: k0) :: cs)) →
      ∃ (N' : Nat) (gs' : Array Goroutine) (w' : World) (sl' : Option (Nat × Nat)) (T' : Trace) (q' : Nat → Nat) (B' : Nat) (Mb' : Nat → Prop) (Inb' : Nat → Option Seat) (S' : TS) (v' : World) (E' : Nat → Nat → Prop) (M' : Nat → Nat → Option Obj),
        runNT Try.prog N' (crowd gs w sl) T = (.next (crowd gs' w' sl'), T') ∧ gs'.size = gs.size ∧ gs'[0]? = some (G (bc.at (ac.put oc.dst (.tuple #[])) (.inRegion ops rest :: k0)) cs) ∧ nv S' = p'.S ∧
        Holds k 0 X p'.l E' M' Mm z cont Ch S' p'.K v' B' Mb' Inb' 0 T' gs' w' q' ∧ ∀ i, i < k → ∃ a, p'.l i = .done a := by
  intro n p p' ht
  induction ht with
  | stop hp =>
    rename_i p
    intro l E M S K v B Mb Inb T gs w q sl u hS hK hl hsl hsc hn H hg
    unfold pturn at hp
    split at hp
    · rename_i h0
      split at hp
      · cases hp
      · rename_i hw
        rw [hS] at h0 hw
        have hw' : waits2 S S.thr.length = false := Bool.eq_false_iff.2 hw
        obtain ⟨N', gs', w', sl', T', q', B', v', r, z1, h1, H1⟩ := round_end hoc H hg h8 h0 hw' sl
        rw [hl, hK]
        exact ⟨N', gs', w', sl', T', q', B', Mb, Inb, S, v', E, M, r, z1, h1, hS.symm, H1, all_done H1 h0 hw'⟩
    · cases hp
  | step hp htt ih =>
    rename_i n p p1 p'
    intro l E M S K v B Mb Inb T gs w q sl u hS hK hl hsl hsc hn H hg
    have hp0 := hp
    unfold pturn at hp
    split at hp
    · rename_i h0
      split at hp
      · rename_i hw
        have hp1 := Option.some.inj hp
        rw [hS] at h0 hw
        have hle := htt.le
        rw [← hp1, hS] at hle
        obtain ⟨N', gs', w', sl', T', q', B', S', v', u', r, z1, h1, hS1, H1⟩ := round_stuck H.fewer hg h8 h0 hw (Nat.le_trans (Nat.mul_le_mul_right 40 hle) hn) sl
        have es : S'.sched = S.sched := by
          have := congrArg TS.sched hS1
          exact this
        obtain ⟨N2, gs2, w2, sl2, T2, q2, B2, Mb2, Inb2, S2, v2, E2, M2, r2, z2, h2, hS2, H2, hd⟩ := ih l E M S' K v' B' Mb Inb T' gs' w' q' sl' u' (by rw [← hp1, hS1, hS]) (by rw [← hp1]; exact hK) (by rw [← hp1]; exact hl) (by rw [es]; exact hsl) (by rw [es]; exact hsc) hn H1 h1
        exact ⟨N' + N2, gs2, w2, sl2, T2, q2, B2, Mb2, Inb2, S2, v2, E2, M2, runNT_then r r2, z2.trans z1, h2, hS2, H2, hd⟩
      · cases hp
    · rename_i h0
      have hp1 := Option.some.inj hp
      rw [hS] at h0
      have hlen : 0 < (rdyIds S S.thr.length).length := List.length_pos_iff.2 h0
      have hpk : pickAt S (rdyIds S S.thr.length) < (rdyIds S S.thr.length).length := pickAt_lt S hlen
      obtain ⟨i, hi⟩ : ∃ i, (rdyIds S S.thr.length)[pickAt S (rdyIds S S.thr.length)]? = some i := ⟨_, List.getElem?_eq_getElem hpk⟩
      have hni : nextI p.S = i := by
        rw [hS]
        show ((rdyIds S S.thr.length)[pickAt S (rdyIds S S.thr.length)]?).getD 0 = i
        rw [hi]; rfl
      have eR : resume (nextI p.S) mc (p.l (nextI p.S)) (going p.S (nextI p.S) (thrI p.S (nextI p.S))) p.K = resume i mc (l i) (nv (going S i (thrI S i))) K := by
        rw [hni, hl, hK, hS, nv_going]
        rfl
      rw [eR, hni, hl] at hp1
      have hle := htt.le
      rw [← hp1] at hle
      obtain ⟨N', gs', w', sl', T', q', B', Mb', Inb', S', v', E', M', u', r, z1, h1, hS1, H1⟩ := round_go H hg h8 hsl hsc hi sl (Nat.le_trans (Nat.mul_le_mul_right 40 hle) hn)
      have es : S'.sched = S.sched := by
        have e1 := congrArg TS.sched hS1
        have e2 := (resume_sta i mc (l i) (nv (going S i (thrI S i))) K).sched
        have e3 := (going_n S i (thrI S i)).2
        exact e1.trans (e2.trans e3)
      obtain ⟨N2, gs2, w2, sl2, T2, q2, B2, Mb2, Inb2, S2, v2, E2, M2, r2, z2, h2, hS2, H2, hd⟩ := ih _ E' M' S' _ v' B' Mb' Inb' T' gs' w' q' sl' u' (by rw [← hp1]; exact hS1.symm) (by rw [← hp1]) (by rw [← hp1]) (by rw [es]; exact hsl) (by rw [es]; exact hsc) hn H1 h1
      exact ⟨N' + N2, gs2, w2, sl2, T2, q2, B2, Mb2, Inb2, S2, v2, E2, M2, runNT_then r r2, z2.trans z1, h2, hS2, H2, hd⟩
end Go.Proofs.Ytfjjoohflcchnaa.Gen

namespace Go.Lift
open Go.Conc
open Go.ConcN (sumTo upd sumTo_upd upd_ne upd_same)
theorem touch_low {x : MemAct} {a : Touch} {B : Nat} (h : x.touch? = some a) (hl : x.low B) : a.loc.low B := by
  cases x with
  | access e =>
    simp only [MemAct.touch?, Option.some.injEq] at h
    subst h
    exact hl
  | mark m => cases m <;> simp only [MemAct.touch?, Option.some.injEq, reduceCtorEq] at h <;> (subst h; exact hl)
  | go _ | start => cases h
  | send _ _ | sendDone _ _ | recv _ _ _ | recvDone _ _ | close _ | recvClosed _ => cases h
end Go.Lift
namespace Go.Proofs.Ytfjjoohflcchnaa.Gen
open Go Go.Lift Go.Conc Go.RowKit
open Go.ConcN (upd upd_same upd_ne)
variable {mc : Mc}

/-- The world with one more thread. -/
def hiredS (S : TS) (tv : Value) (tb gc : Nat) : TS := { S with ths := tv, thr := S.thr ++ [⟨tb, gc, 0, 0, 0, 0⟩] }
/-- The lone world in which the new thread's row lies, its channel's cell kept. -/
def hireV (S : TS) (v : World) : World := { v with heap := (v.heap.push (.chan 0 #[] false 0 0 false)).push (.cells (trow S.wb S.thr.length v.heap.size 0 0 0 0) 97 (2, 3)) }
def zAdd (z : Nat → Option Nat) (tb : Nat) (b : Nat) : Option Nat := if b = tb then some 2 else z b
theorem hireV_old (S : TS) (v : World) {b : Nat} (hb : b < v.heap.size) : (hireV S v).heap[b]? = v.heap[b]? := by
  show ((v.heap.push _).push _)[b]? = _
  rw [Array.getElem?_push_lt (by simp; omega), Array.getElem_push_lt hb, Array.getElem?_eq_getElem hb]
theorem hireV_chan (S : TS) (v : World) : (hireV S v).heap[v.heap.size]? = some (.chan 0 #[] false 0 0 false) := by
  show ((v.heap.push _).push _)[v.heap.size]? = _
  simp [Array.getElem?_push]
theorem hireV_row (S : TS) (v : World) : (hireV S v).heap[v.heap.size + 1]? = some (.cells (trow S.wb S.thr.length v.heap.size 0 0 0 0) 97 (2, 3)) := by
  have : v.heap.size + 1 = (v.heap.push (Obj.chan 0 #[] false 0 0 false)).size := by simp
  show ((v.heap.push _).push _)[v.heap.size + 1]? = _
  rw [this]
  exact Array.getElem?_push_size
theorem hireV_size (S : TS) (v : World) : (hireV S v).heap.size = v.heap.size + 2 := by simp [hireV]

theorem thr_add {z : Nat → Option Nat} {S : TS} {K : List (Nat × Int)} {v v3 : World} (hm : Mem z S K v) (hz : z (v.heap.size + 1) = none) (hT : Threaded S.wb S.ths S.thr.length S.base (S.thr.map fun t => Pt t.tb 0) (Pt (v.heap.size + 1) 0) (hireV S v) v3) :
    ∃ tv, Mem (zAdd z (v.heap.size + 1)) (hiredS S tv (v.heap.size + 1) v.heap.size) K v3 ∧ (∀ b, b < v.heap.size → ¬ Own S K b → v3.heap[b]? = v.heap[b]?) ∧ (∀ b, Own (hiredS S tv (v.heap.size + 1) v.heap.size) K b → Own S K b ∨ v.heap.size ≤ b) ∧ v3.heap[v.heap.size]? = some (.chan 0 #[] false 0 0 false) ∧ v.heap.size + 2 ≤ v3.heap.size := by
  obtain ⟨g, cap, q1, q2, q3, q5⟩ := hT
  have hs := hireV_size S v
  have r := hm.rep
  have hwb : S.wb < v.heap.size := r.lt (k := 0) rfl
  have hths : ∀ b, S.ths.ownBlock = some b → b < v.heap.size := fun b hb => r.lt (k := 2) hb
  have hst : ∀ b, b < v.heap.size + 2 → b ≠ S.wb → some b ≠ S.ths.ownBlock → v3.heap[b]? = (hireV S v).heap[b]? := fun b hb h1 h2 => q5.block b (by rw [hs]; exact hb) (fun h => h.elim h1 h2)
  have hst' : ∀ b, b < v.heap.size → b ≠ S.wb → some b ≠ S.ths.ownBlock → v3.heap[b]? = v.heap[b]? := fun b hb h1 h2 => by rw [hst b (by omega) h1 h2, hireV_old S v hb]
  have hits : ∀ k b, blk S k = some b → k ≠ 0 → k ≠ 2 → v3.heap[b]? = v.heap[b]? := fun k b hk h0 h2 => hst' b (r.lt hk) (fun e => h0 (r.apart k 0 b hk (by rw [e]; rfl))) (fun e => h2 (r.apart k 2 b hk e.symm))
  have hgb : g = g ∧ (S.ths.ownBlock = some g ∨ v.heap.size + 2 ≤ g) := ⟨rfl, by rw [hs] at q3; exact q3⟩
  have hsz : v.heap.size + 2 ≤ v3.heap.size := by have := q5.size; omega
  have hfz : ∀ b, b < v.heap.size → fz (zAdd z (v.heap.size + 1)) b = fz z b := fun b hb => by
    unfold fz zAdd
    rw [if_neg (by omega)]
  have hblk : ∀ k b, blk (hiredS S (.slice (some ⟨g, 0, none⟩) (S.thr.length + 1) cap) (v.heap.size + 1) v.heap.size) k = some b → (k ≠ 2 ∧ blk S k = some b) ∨ (k = 2 ∧ b = g) ∨ (k = S.thr.length + 5 ∧ b = v.heap.size + 1) := fun k b hk => by
    match k, hk with
    | 0, hk => exact .inl ⟨by omega, hk⟩
    | 1, hk => exact .inl ⟨by omega, hk⟩
    | 2, hk => cases hk; exact .inr (.inl ⟨rfl, rfl⟩)
    | 3, hk => exact .inl ⟨by omega, hk⟩
    | 4, hk => exact .inl ⟨by omega, hk⟩
    | k + 5, hk =>
      simp only [blk, hiredS, Option.map_eq_some_iff] at hk
      obtain ⟨t, ht, rfl⟩ := hk
      rcases Nat.lt_trichotomy k S.thr.length with hlt | rfl | hgt
      · rw [List.getElem?_append_left hlt] at ht
        exact .inl ⟨by omega, by simp [blk, ht]⟩
      · rw [List.getElem?_append_right (Nat.le_refl _)] at ht
        simp at ht
        subst ht
        exact .inr (.inr ⟨rfl, rfl⟩)
      · rw [List.getElem?_append_right (by omega)] at ht
        have : k - S.thr.length ≠ 0 := by omega
        simp [this] at ht
  have hlow : ∀ k b, blk S k = some b → b ≠ v.heap.size + 1 := fun k b hk e => by have := r.lt hk; omega
  have hgne : ∀ k b, k ≠ 2 → blk S k = some b → b ≠ g := fun k b hk2 hk e => by
    rcases hgb.2 with h1 | h1
    · exact hk2 (r.apart k 2 b hk (by rw [e]; exact h1))
    · have := r.lt hk; omega
  have hgtb : g ≠ v.heap.size + 1 := fun e => by
    rcases hgb.2 with h1 | h1
    · have := hths g h1; omega
    · omega
  refine ⟨.slice (some ⟨g, 0, none⟩) (S.thr.length + 1) cap, ⟨⟨?_, fun i t ht => ?_, own_stay (fun b hb => hits 3 b hb (by omega) (by omega)) r.own, own_stay (fun b hb => hits 1 b hb (by omega) (by omega)) r.chg, ?_, own_stay (fun b hb => hits 4 b hb (by omega) (by omega)) r.sch, ?_, fun j k b hj hk => ?_, fun b n hzb => ?_⟩, fun j c hc => ?_, fun j c hc hi => ?_, hm.inj, hm.len⟩, fun b hb ho => ?_, fun b ho => ?_, ?_, hsz⟩
  · have := q1 _ _ _ (by rw [hireV_old S v hwb]; exact r.wor)
    show v3.heap[S.wb]? = some (.cells (wrow (hiredS S _ _ _)) 83 (fz (zAdd z (v.heap.size + 1)) S.wb))
    rw [hfz S.wb hwb]
    simpa [hiredS] using this
  · rcases Nat.lt_trichotomy i S.thr.length with hlt | rfl | hgt
    · rw [show (hiredS S _ _ _).thr[i]? = S.thr[i]? from List.getElem?_append_left hlt] at ht
      have hb : blk S (i + 5) = some t.tb := by simp [blk, ht]
      rw [hits (i + 5) t.tb hb (by omega) (by omega), hfz t.tb (r.lt hb)]
      exact r.thr i t ht
    · have ht' : (S.thr ++ [(⟨v.heap.size + 1, v.heap.size, 0, 0, 0, 0⟩ : Thr)])[S.thr.length]? = some t := ht
      rw [List.getElem?_append_right (Nat.le_refl _)] at ht'
      simp at ht'
      subst ht'
      show v3.heap[v.heap.size + 1]? = some (.cells (trow S.wb S.thr.length v.heap.size 0 0 0 0) 97 (fz (zAdd z (v.heap.size + 1)) (v.heap.size + 1)))
      rw [hst (v.heap.size + 1) (by omega) (by omega) (fun e => by have := hths _ e.symm; omega), hireV_row]
      unfold fz zAdd
      rw [if_pos rfl]
    · have ht' : (S.thr ++ [(⟨v.heap.size + 1, v.heap.size, 0, 0, 0, 0⟩ : Thr)])[i]? = some t := ht
      rw [List.getElem?_append_right (by omega)] at ht'
      have : i - S.thr.length ≠ 0 := by omega
      simp [this] at ht'
  · show v3.ownsRow S.base 46 1 (.slice (some ⟨g, 0, none⟩) (S.thr.length + 1) cap) (S.thr ++ [(⟨v.heap.size + 1, v.heap.size, 0, 0, 0, 0⟩ : Thr)]).length ((S.thr ++ [(⟨v.heap.size + 1, v.heap.size, 0, 0, 0, 0⟩ : Thr)]).map fun t => Pt t.tb 0)
    rw [List.length_append, List.map_append]
    exact q2
  · show S.base ≤ v3.heap.size
    have := r.bs; omega
  · rcases hblk j b hj with ⟨n1, e1⟩ | ⟨n1, e1⟩ | ⟨n1, e1⟩ <;> rcases hblk k b hk with ⟨n2, e2⟩ | ⟨n2, e2⟩ | ⟨n2, e2⟩
    · exact r.apart j k b e1 e2
    · exact absurd e2 (hgne j b n1 e1)
    · exact absurd e2 (hlow j b e1)
    · exact absurd e1 (hgne k b n2 e2)
    · rw [n1, n2]
    · exact absurd (e1.symm.trans e2) hgtb
    · exact absurd e1 (hlow k b e2)
    · exact absurd (e2.symm.trans e1) hgtb
    · rw [n1, n2]
  · unfold zAdd at hzb
    split at hzb
    · cases hzb
      rename_i e
      exact .inr ⟨S.thr.length, ⟨v.heap.size + 1, v.heap.size, 0, 0, 0, 0⟩, by show (S.thr ++ [_])[S.thr.length]? = _; simp, e, rfl⟩
    · rcases r.kept b n hzb with h1 | ⟨i, t, ht, h2, h3⟩
      · exact .inl h1
      · have hlt : i < S.thr.length := (List.getElem?_eq_some_iff.1 ht).1
        exact .inr ⟨i, t, by show (S.thr ++ [_])[i]? = _; rw [List.getElem?_append_left hlt]; exact ht, h2, h3⟩
  · have hb := hm.lt (.inr ⟨j, c, hc, rfl⟩)
    rw [hst' c.1 hb (fun e => hm.far j c hc ⟨0, by rw [e]; rfl⟩) (fun e => hm.far j c hc ⟨2, e.symm⟩)]
    exact hm.cel j c hc
  · obtain ⟨k, hk⟩ := hi
    have hb := hm.lt (.inr ⟨j, c, hc, rfl⟩)
    rcases hblk k c.1 hk with ⟨_, e1⟩ | ⟨_, e1⟩ | ⟨_, e1⟩
    · exact hm.far j c hc ⟨k, e1⟩
    · rcases hgb.2 with h1 | h1
      · exact hm.far j c hc ⟨2, by rw [e1]; exact h1⟩
      · omega
    · omega
  · exact hst' b hb (fun e => ho (.inl ⟨0, by rw [e]; rfl⟩)) (fun e => ho (.inl ⟨2, e.symm⟩))
  · rcases ho with ⟨k, hk⟩ | hc
    · rcases hblk k b hk with ⟨_, e1⟩ | ⟨_, e1⟩ | ⟨_, e1⟩
      · exact .inl (.inl ⟨k, e1⟩)
      · rcases hgb.2 with h1 | h1
        · exact .inl (.inl ⟨2, by rw [e1]; exact h1⟩)
        · right; omega
      · right; omega
    · exact .inl (.inr hc)
  · rw [hst v.heap.size (by omega) (by omega) (fun e => by have := hths _ e.symm; omega), hireV_chan]
end Go.Proofs.Ytfjjoohflcchnaa.Gen
