/- ChainRing: of a ring the last who writes down is told, under every schedule. Part 12 of 37. (Joined, by program, of: Body33, None, MainN, GPure.) -/
import Derived.Test.YtfjjoohflcchnaaChainRing09
import Derived.Test.YtfjjoohflcchnaaChainRing10
import Derived.Test.YtfjjoohflcchnaaChainRing11
set_option linter.unusedSimpArgs false
set_option linter.unusedVariables false
namespace Go.Proofs.Ytfjjoohflcchnaa
open Go Go.Lift Go.Conc Go.RowKit

noncomputable def ops33 : Array Oper := opsOf (Try.f84.body.getD .skip)
def val33 (csl F rsl asl : Value) (tb rb ix : Nat) : Nat → Value
  | 0 => Pt tb 0
  | 1 => csl
  | 2 => F
  | 3 => rsl
  | 4 => I ix
  | 5 => Pt rb ix
  | 6 => asl
  | _ => undef
theorem lead33 : leadsOn .any ops33 7 = true := by kernel_rfl
theorem text33 : inText .any ops33 7 = true := by kernel_rfl
theorem fineOps33 (i : Nat) (hi : i < 7) (o : Oper) (ho : ops33[i]? = some o) : fineOp Try.prog true LT o := by
  have h : ((ops33.extract 0 7).all fun o => plainOp Try.prog true o.op || askCall plainFs plainXs o.op) = true := by kernel_rfl
  refine fineOp_ask callT extT ((Array.all_eq_true_iff_forall_mem.1 h) o ?_)
  have : (ops33.extract 0 7)[i]? = some o := by
    have hs := (Array.getElem?_eq_some_iff.1 ho).1
    rw [Array.getElem?_extract, if_pos (by omega)]
    simpa using ho
  exact Array.mem_of_getElem? this
theorem rest33 (t : Nat) : Region.linearise.go .any ops33 (ops33.size - 7) t (listedN ops33.size 7) [] = [7] := by
  have e1 : ((List.range ops33.size).filter fun i => !(listedN ops33.size 7).getD i true && ((ops33[i]?).map (·.after.all fun e => !Region.binds .any e || (listedN ops33.size 7).getD e.on false)).getD false) = [7] := by kernel_rfl
  have e0 : ops33.size - 7 = 1 := by kernel_rfl
  rw [e0]
  unfold Region.linearise.go
  simp only [e1, List.length_cons, List.length_nil, Nat.zero_add, Nat.mod_one, List.getElem?_cons_zero]
  rfl
theorem dst33 (i : Nat) (hi : i < 7) (o : Oper) (ho : ops33[i]? = some o) : o.dst = some (6 + i) := by
  have h : ((List.range 7).all fun i => (ops33[i]?).map (·.dst) == some (some (6 + i))) = true := by kernel_rfl
  have := (List.all_eq_true.1 h) i (by simpa using hi)
  rw [ho] at this
  simpa using this
theorem guard33 (i : Nat) (hi : i < 8) (o : Oper) (ho : ops33[i]? = some o) : o.guard = none := by
  have h : ((List.range 8).all fun i => ((ops33[i]?).map (·.guard.isNone)) == some true) = true := by kernel_rfl
  have := (List.all_eq_true.1 h) i (by simpa using hi)
  rw [ho] at this
  simpa using this
theorem op33 {i : Nat} {o : Oper} {p : Op} (h : (ops33[i]?).map (·.op) = some p) (ho : ops33[i]? = some o) : o.op = p := by
  rw [ho] at h
  exact Option.some.inj h
theorem after33 {i j : Nat} {o : Oper} (h : ((ops33[i]?).map (fun o => o.after.toList.any fun e => e.on == j && Region.binds .any e)) = some true) (ho : ops33[i]? = some o) {l : Array Bool} (hd : ∀ e ∈ o.after.toList, Region.binds .any e = true → l.getD e.on false = true) : l.getD j false = true := by
  rw [ho] at h
  simp only [Option.map_some, Option.some.injEq, List.any_eq_true, Bool.and_eq_true, beq_iff_eq] at h
  obtain ⟨e, he, rfl, hb⟩ := h
  exact hd e he hb

set_option maxHeartbeats 1000000 in
set_option maxRecDepth 100000 in
theorem body33_goes {z : Nat → Option Nat} {Ch : Nat → Prop} {Stop : Goroutine → World → Prop} {main : Bool} {v w : World} {tb p1 p2 p3 p4 : Nat} (csl F asl : Value) (rb m cap ix : Nat) (hix : ix < m)
    (h1 : v.cell? ⟨p1, 0, none⟩ = some csl) (h2 : v.cell? ⟨p2, 0, none⟩ = some F) (h3 : v.cell? ⟨p3, 0, none⟩ = some (.slice (some ⟨rb, 0, none⟩) m cap)) (h4 : v.cell? ⟨p4, 0, none⟩ = some (I ix)) (h5 : v.cell? ⟨rb, ix, none⟩ = some asl) (cs : List Frame) {bc : Frame} {ac : Act} {ops : Array Oper} {q : Nat} {rest : List Nat} {oc : Oper} {k : List Item} (hoc : ops[q]? = some oc)
    (hvw : Rel z v w) (hn : NoRow Ch v)
    (hk : ∀ w' (bd : Frame) (ad : Act) (od : Array Oper) (qd : Nat) (rd : List Nat) (oe : Oper) (kd : List Item), Rel z v w' → od[qd]? = some oe →
      (∀ (z : Nat → Option Nat) (Ch : Nat → Prop) (Stop : Goroutine → World → Prop) (w : World), GoesI Try.prog main (DT (ScZ z) Ch) Stop (G (bc.at (ac.put oc.dst (.tuple #[])) (.inRegion ops rest :: k)) cs) w → GoesI Try.prog main (DT (ScZ z) Ch) Stop (G (bd.at (ad.put oe.dst (.tuple #[])) (.inRegion od rd :: kd)) (bc.at ac (.inRegion ops (q :: rest) :: k) :: cs)) w) → ∀ code, Try.f85.body = some code →
      GoesI Try.prog main (DT (ScZ z) Ch) Stop (G ((base 85).at { tmps := #[Pt tb 0, csl, F, asl] ++ Array.replicate 44 undef, defers := [] } [.code code]) (bd.at ad (.inRegion od (qd :: rd) :: kd) :: bc.at ac (.inRegion ops (q :: rest) :: k) :: cs)) w') (code : Code) (hc : Try.f84.body = some code) :
    GoesI Try.prog main (DT (ScZ z) Ch) Stop (G ((base 84).at { tmps := #[Pt tb 0, Pt p1 0, Pt p2 0, Pt p3 0, Pt p4 0] ++ Array.replicate 9 undef, defers := [] } [.code code]) (bc.at ac (.inRegion ops (q :: rest) :: k) :: cs)) w := by
  have hc0 : code = .region 0 ops33 true := by
    have : Try.f84.body = some (.region 0 ops33 true) := rfl
    rw [this] at hc
    exact (Option.some.inj hc).symm
  subst hc0
  clear hc
  simp only [Array.replicate_succ, Array.replicate_zero, List.push_toArray, List.append_toArray, List.nil_append, List.cons_append]
  refine goesI_region_quiet (n := 7) (val := val33 csl F (.slice (some ⟨rb, 0, none⟩) m cap) asl tb rb ix) (J := fun w => Rel z v w) mix21 (fun w d hJ => hJ.re rfl rfl rfl rfl rfl rfl) (fun w => dt_draw _ _ w) lead33 text33 (on := ops33[7]'(by decide)) rfl ?_ ?_ ?_
    { tmps := #[Pt tb 0, Pt p1 0, Pt p2 0, Pt p3 0, Pt p4 0, undef, Pt tb 0, csl, F, .slice (some ⟨rb, 0, none⟩) m cap, I ix, Pt rb ix, asl, undef], defers := [] } ?_ ?_ hvw
  · intro i1 j1 oi oj t1 h1 h2 h3 h4 h5 h6
    rw [dst33 i1 h1 oi h3] at h5
    rw [dst33 j1 h2 oj h4] at h6
    have := Option.some.inj (h5.trans h6.symm)
    omega
  · intro i1 o1 t1 h1 h2 h3
    rw [dst33 i1 h1 o1 h2] at h3
    have := Option.some.inj h3
    subst this
    show (6 + i1 : Nat) < 14
    omega
  · intro i' o rest' listed a w1 hi ho hdep hagr hJ hgo
    have ev : ∀ j, j < 7 → listed.getD j false = true → a.eval (.tmp (6 + j)) = val33 csl F (.slice (some ⟨rb, 0, none⟩) m cap) asl tb rb ix j := fun j hj hl =>
      hagr.eval hj (o := ops33[j]'(by have : ops33.size = 8 := rfl; omega)) (Array.getElem?_eq_getElem _) hl (dst33 j hj _ (Array.getElem?_eq_getElem _))
    have ev0 : ∀ t' : Nat, t' < 6 → a.eval (.tmp t') = _ := fun t' ht' => hagr.eval0 (t := t') (fun j o hj ho e => by
      rw [dst33 j hj o ho] at e
      have : (6 + j : Nat) = t' := Option.some.inj e
      omega)
    have e0 : a.eval (.tmp 0) = Pt tb 0 := ev0 0 (by omega)
    have e1 : a.eval (.tmp 1) = Pt p1 0 := ev0 1 (by omega)
    have e2 : a.eval (.tmp 2) = Pt p2 0 := ev0 2 (by omega)
    have e3 : a.eval (.tmp 3) = Pt p3 0 := ev0 3 (by omega)
    have e4 : a.eval (.tmp 4) = Pt p4 0 := ev0 4 (by omega)
    have hw : Region.wanted o (yielded ops33 a.tmps) = true := by simp [Region.wanted, guard33 i' (by omega) o ho]
    have hrun : (execOp a.eval o).run Try.prog v = .ok (.value (val33 csl F (.slice (some ⟨rb, 0, none⟩) m cap) asl tb rb ix i')) v := by
      have hjl : (ix : Int) < (m : Int) := by omega
      match i', hi, ho with
      | 0, _, ho => have hop := op33 (p := .move (.tmp 0)) rfl ho; unfold execOp; rw [hop]; simp only [e0]; simp [go_sem, val33]
      | 1, _, ho => have hop := op33 (p := .load 37 (.tmp 1)) rfl ho; unfold execOp; rw [hop]; simp only [e1]; simp [go_sem, h1, val33]
      | 2, _, ho => have hop := op33 (p := .load 87 (.tmp 2)) rfl ho; unfold execOp; rw [hop]; simp only [e2]; simp [go_sem, h2, val33]
      | 3, _, ho => have hop := op33 (p := .load 27 (.tmp 3)) rfl ho; unfold execOp; rw [hop]; simp only [e3]; simp [go_sem, h3, val33]
      | 4, _, ho => have hop := op33 (p := .load 3 (.tmp 4)) rfl ho; unfold execOp; rw [hop]; simp only [e4]; simp [go_sem, h4, val33]
      | 5, _, ho => have hop := op33 (p := .indexAddr 27 (.tmp 9) (.tmp 10)) rfl ho; have l : a.eval (.tmp 9) = .slice (some ⟨rb, 0, none⟩) m cap := ev 3 (by omega) (after33 (by kernel_rfl) ho hdep); have l' : a.eval (.tmp 10) = I ix := ev 4 (by omega) (after33 (by kernel_rfl) ho hdep); unfold execOp; rw [hop]; simp only [l, l']; simp [go_sem, val33, hjl]
      | 6, _, ho => have hop := op33 (p := .load 40 (.tmp 11)) rfl ho; have l : a.eval (.tmp 11) = Pt rb ix := ev 5 (by omega) (after33 (by kernel_rfl) ho hdep); unfold execOp; rw [hop]; simp only [l]; simp [go_sem, h5, val33]
    exact goesI_opZ ho hw (by simp [base]) (fineOps33 i' hi o ho) hJ hn hrun rfl (fun w2 hr2 _ => hgo w2 hr2)
  · refine ⟨rfl, rfl, fun j o t' hj ho _ hd => ?_, fun t' hne => ?_⟩
    · rw [dst33 j hj o ho] at hd
      have : (6 + j : Nat) = t' := Option.some.inj hd
      subst this
      match j, hj with
      | 0, _ => rfl
      | 1, _ => rfl
      | 2, _ => rfl
      | 3, _ => rfl
      | 4, _ => rfl
      | 5, _ => rfl
      | 6, _ => rfl
    · have hcase : ∀ m : Nat, m < 7 → t' ≠ 6 + m := fun m hm e => by
        have hs : m < ops33.size := by have : ops33.size = 8 := rfl; omega
        refine hne m (ops33[m]'hs) hm (Array.getElem?_eq_getElem hs) ?_ ((dst33 m hm _ (Array.getElem?_eq_getElem hs)).trans (by rw [e]))
        rw [Array.getD_eq_getD_getElem?, listedN_get hs]
        simp [hm]
      match t', hcase with
      | 0, _ => rfl
      | 1, _ => rfl
      | 2, _ => rfl
      | 3, _ => rfl
      | 4, _ => rfl
      | 5, _ => rfl
      | 6, h => exact absurd rfl (h 0 (by omega))
      | 7, h => exact absurd rfl (h 1 (by omega))
      | 8, h => exact absurd rfl (h 2 (by omega))
      | 9, h => exact absurd rfl (h 3 (by omega))
      | 10, h => exact absurd rfl (h 4 (by omega))
      | 11, h => exact absurd rfl (h 5 (by omega))
      | 12, h => exact absurd rfl (h 6 (by omega))
      | 13, _ => rfl
      | m + 14, _ => rfl
  · intro tt w1 hJ
    rw [rest33]
    refine goesI_into (f := 85) (fn := Try.f85) (args := #[Pt tb 0, csl, F, asl]) (dt_idle _ _) (o := ops33[7]'(by decide)) rfl rfl (by decide) rfl (by simp [Act.eval]) Try.func85 (by decide) rfl ?_
    refine hk w1 _ _ _ _ _ _ _ hJ rfl (fun z Ch Stop w hg => ?_) _ rfl
    refine goesI_regionEnd (dt_idle _ _) ?_
    refine goesI_end (dt_idle _ _) ?_
    refine goesI_leave (b := base 84) (fn := Try.f84) rfl ?_ Try.func84 (fun w => results_none rfl _ _ _) (fun w => by simp [results, go_sem]) hoc (dt_idle _ _) hg
    show (Act.put _ _ _).defers = []
    unfold Act.put
    split <;> rfl
end Go.Proofs.Ytfjjoohflcchnaa

namespace Go.Proofs.Ytfjjoohflcchnaa
open Go Go.Lift Go.Conc Go.RowKit

/-- The trace has grown. -/
theorem noted_ev {z : Nat → Option Nat} {S : TS} {v v' : World} {news : List Value} (h : Rep z S v) (hN : Noted S.wb S.tv S.n S.base S.tr news v v') : ∃ tv', Ev z S v { S with tv := tv', n := S.n + 1, tr := S.tr ++ news } v' := by
  obtain ⟨g, cap, hw, hown, hat, hfr⟩ := hN
  have hst : ∀ k b, blk S k = some b → k ≠ 0 → k ≠ 3 → v'.heap[b]? = v.heap[b]? := fun k b hk h0 h3 => hfr.block b (h.lt hk) (fun hS => by
    rcases hS with rfl | hS
    · exact h0 (h.apart k 0 _ hk rfl)
    · exact h3 (h.apart k 3 b hk hS.symm))
  have hnew : ∀ k b, blk { S with tv := .slice (some ⟨g, 0, none⟩) (S.n + 1) cap, n := S.n + 1, tr := S.tr ++ news } k = some b → (blk S k = some b) ∨ (k = 3 ∧ b = g) := fun k b hk => by
    match k, hk with
    | 0, hk => exact .inl hk
    | 1, hk => exact .inl hk
    | 2, hk => exact .inl hk
    | 3, hk => cases hk; exact .inr ⟨rfl, rfl⟩
    | 4, hk => exact .inl hk
    | k + 5, hk => exact .inl hk
  refine ⟨.slice (some ⟨g, 0, none⟩) (S.n + 1) cap, ⟨?_, fun j t' ht' => ?_, hown, ?_, ?_, ?_, Nat.le_trans h.bs hfr.size, fun j k b hj hk => ?_, h.kept⟩, hfr.mono (fun x _ hx => ?_), fun b ⟨k, hk⟩ => ?_⟩
  · have := hw _ _ _ h.wor
    simpa using this
  · rw [hst (j + 5) t'.tb (by simp [blk, ht']) (by omega) (by omega)]
    exact h.thr j t' ht'
  · exact own_stay (fun b hb => hst 1 b hb (by omega) (by omega)) h.chg
  · exact own_stay (fun b hb => hst 2 b hb (by omega) (by omega)) h.ths
  · exact own_stay (fun b hb => hst 4 b hb (by omega) (by omega)) h.sch
  · rcases hnew j b hj with e1 | ⟨rfl, rfl⟩ <;> rcases hnew k b hk with e2 | ⟨rfl, e2⟩
    · exact h.apart j k b e1 e2
    · subst e2
      rcases hat with ha | ha
      · exact h.apart j 3 b e1 ha
      · have := h.lt e1; omega
    · rcases hat with ha | ha
      · exact h.apart 3 k b ha e2
      · have := h.lt e2; omega
    · rfl
  · rcases hx with rfl | hx
    · exact ⟨0, rfl⟩
    · exact ⟨3, hx.symm⟩
  · rcases hnew k b hk with e1 | ⟨_, rfl⟩
    · exact .inl ⟨k, e1⟩
    · rcases hat with ha | ha
      · exact .inl ⟨3, ha⟩
      · exact .inr ha
/-- The world is stuck, and that is noted. -/
def stuckS (S : TS) (tv : Value) : TS := { S with stk := true, tv := tv, n := S.n + 1, tr := S.tr ++ [I (-1), I (-1), I 7, I 0, I 0] }

set_option maxHeartbeats 1000000 in
theorem news5n (w : World) (a b c d e : Int) (t : TypeId) {n : Nat} (hn : n = w.heap.size) : ∀ j u, [I a, I b, I c, I d, I e][j]? = some u → (w.alloc (.cells #[I a, I b, I c, I d, I e] t)).cell? ((⟨n, 0, none⟩ : Addr).add j) = some u := by
  subst hn; exact news5 w a b c d e t

set_option maxHeartbeats 1000000 in
set_option maxRecDepth 100000 in
theorem end_wp {S : TS} {v : World} (p : Option Addr) (cap : Nat) (u6 u8 u9 u10 u11 u12 u13 u14 u15 u16 u17 u18 u19 u20 u21 u22 u23 u24 u25 u26 u27 u28 u29 u30 u31 : Value) :
    c510.wp Try.prog (fun e a w' => e = .ret ∧ ∃ x, (results Try.f113 a.tmps).run Try.prog w' = .ok x w' ∧ (x = .bool false ∧ w' = v)) { tmps := #[Pt S.wb 0, undef, .bool false, .slice p 0 cap, .bool false, undef, u6, undef, u8, u9, u10, u11, u12, u13, u14, u15, u16, u17, u18, u19, u20, u21, u22, u23, u24, u25, u26, u27, u28, u29, u30, u31] ++ Array.replicate 41 undef, defers := [] } v := by
  show Code.wp Try.prog c510 _ _ _
  unfold c510 Try.f113 seq1 seq2
  simp only [Option.getD_some, Array.replicate_succ, Array.replicate_zero, List.push_toArray, List.append_toArray, List.nil_append, List.cons_append]
  go_wp2_with fail
  exact results_tmp (t := 2) rfl _ _ _

set_option maxHeartbeats 2000000 in
set_option maxRecDepth 100000 in
theorem stuck_wp {z : Nat → Option Nat} {S : TS} {v : World} (h : Rep z S v) (hn : (S.n + 1) * 40 ≤ 140737488355328) (p : Option Addr) (cap : Nat) (u6 u8 u9 u10 u11 u12 u13 u14 u15 u16 u17 u18 u19 u20 u21 u22 u23 u24 u25 u26 u27 u28 u29 u30 u31 : Value) :
    c510.wp Try.prog (fun e a w' => e = .ret ∧ ∃ x, (results Try.f113 a.tmps).run Try.prog w' = .ok x w' ∧ (x = .bool true ∧ ∃ tv, Ev z S v (stuckS S tv) w')) { tmps := #[Pt S.wb 0, undef, .bool false, .slice p 0 cap, .bool true, undef, u6, undef, u8, u9, u10, u11, u12, u13, u14, u15, u16, u17, u18, u19, u20, u21, u22, u23, u24, u25, u26, u27, u28, u29, u30, u31] ++ Array.replicate 41 undef, defers := [] } v := by
  have c5 := h.wcell.2.2.2.2.2.1
  have c6 := h.wcell.2.2.2.2.2.2.1
  have f5 := fz_off h 5 (by omega)
  have f6 := fz_off h 6 (by omega)
  have h1 := world_set h S.us S.la true 6 (.bool true) (by simp)
  have HV : Hid (Ev z S v { S with us := S.us, la := S.la, stk := true } (v.setCell ⟨S.wb, 6, none⟩ (.bool true))) := ⟨h1⟩
  have K5 : Hid ((v.setCell ⟨S.wb, 6, none⟩ (.bool true)).cell? ⟨S.wb, 5, none⟩ = some S.tv ∧ (v.setCell ⟨S.wb, 6, none⟩ (.bool true)).frozen? ⟨S.wb, 5, none⟩ = false) := ⟨⟨h1.rep.wcell.2.2.2.2.2.1, fz_off h1.rep 5 (by omega)⟩⟩
  have n1 : S.tv.ownBlock ≠ some S.wb := fun e => by have := h.apart 3 0 S.wb e rfl; omega
  have q5 : S.wb < v.heap.size := World.block_lt_of_cell? _ _ c5
  have qb : S.base ≤ v.heap.size := h.bs
  have HO : Hid ((v.setCell ⟨S.wb, 6, none⟩ (.bool true)).ownsRow S.base 34 5 S.tv S.n S.tr) := ⟨h1.rep.own⟩
  obtain ⟨tp, tc, htv⟩ := own_form h.own
  rw [htv] at c5
  have HO' : Hid ((v.setCell ⟨S.wb, 6, none⟩ (.bool true)).ownsRow S.base 34 5 (.slice tp S.n tc) S.n S.tr) := ⟨by rw [← htv]; exact HO.out⟩
  have n1' : (Value.slice tp S.n tc).ownBlock ≠ some S.wb := by rw [← htv]; exact n1
  have HTV : Hid (S.tv = .slice tp S.n tc) := ⟨htv⟩
  clear htv
  obtain ⟨j0, hj, hj0, hj1, hj2⟩ := info_parts info34
  have hne : S.wb ≠ v.heap.size := by omega
  have hne' : v.heap.size ≠ S.wb := by omega
  clear h h1
  show Code.wp Try.prog c510 _ _ _
  unfold c510 Try.f113 seq1 seq2
  simp only [Option.getD_some, Array.replicate_succ, Array.replicate_zero, List.push_toArray, List.append_toArray, List.nil_append, List.cons_append]
  go_wp2_with (first
    | (refine wpList_append_lies _ rfl (.tmp 43) (.tmp 45) 31 rfl S.base 34 j0 _ 5 40 Try.underlying31 hj hj0 hj1 hj2 rfl (by decide) (.slice tp S.n tc) S.n S.tr rfl (own_later (below_alloc (Below.refl _ _) _) HO'.out) ⟨_, 0, none⟩ 1 1 [I (-1), I (-1), I 7, I 0, I 0] rfl rfl (news5n _ _ _ _ _ _ _ (by simp [World.setCell])) (one5 _ _ _ _ _) (by decide) (by unfold maxLen; omega) (by omega) (by simp; omega) _ rfl ?_
       intro g cpg w6 hown6 hgrow6 hat6 hlt6
       obtain ⟨_, _, k5, k6⟩ := keep4g (keep4 ⟨K5.out.1, K5.out.1, K5.out.1, K5.out.2⟩ (below_alloc (Below.refl _ _) _)) hgrow6 n1' n1' n1'))
  refine ⟨_, results_tmp (t := 2) rfl _ _ _, rfl, ?_⟩
  have hN : Noted S.wb S.tv S.n S.base S.tr [I (-1), I (-1), I 7, I 0, I 0] (v.setCell ⟨S.wb, 6, none⟩ (.bool true)) (w6.setCell ⟨S.wb, 5, none⟩ (.slice (some ⟨g, 0, none⟩) (S.n + 1) cpg)) := by
    rw [HTV.out]
    exact noted_of (below_alloc (Below.refl _ _) _) (by simpa [World.setCell] using q5) hgrow6 hown6 hat6 n1'
  obtain ⟨tv, hev⟩ := noted_ev HV.out.rep hN
  exact ⟨tv, HV.out.trans hev⟩

end Go.Proofs.Ytfjjoohflcchnaa

namespace Go.Proofs.Ytfjjoohflcchnaa
open Go Go.Lift Go.Conc Go.RowKit

set_option maxHeartbeats 2000000 in
set_option maxRecDepth 100000 in
theorem turn50_stuck {z : Nat → Option Nat} {Ch : Nat → Prop} {Stop : Goroutine → World → Prop} {S : TS} {K : List (Nat × Int)} {v w : World} (cs : List Frame) {bc : Frame} {ac : Act} {ops : Array Oper} {q : Nat} {rest : List Nat} {oc : Oper} {k : List Item} (hoc : ops[q]? = some oc)
    (hvw : Rel z v w) (hn : NoRow Ch v) (hm : Mem z S K v) (h8 : S.thr.length ≤ 8) (h0 : rdyIds S S.thr.length = []) (hw : waits2 S S.thr.length = true) (hnn : (S.n + 1) * 40 ≤ 140737488355328)
    (hk : ∀ v' w' tv, Rel z v' w' → NoRow Ch v' → Evo z S K v (stuckS S tv) K v' → GoesI Try.prog true (DT (ScZ z) Ch) Stop (G (bc.at (ac.put oc.dst (.bool true)) (.inRegion ops rest :: k)) cs) w') (code : Code) (hc : Try.f113.body = some code) :
    GoesI Try.prog true (DT (ScZ z) Ch) Stop (G ((base 113).at { tmps := #[Pt S.wb 0] ++ Array.replicate 72 undef, defers := [] } [.code code]) (bc.at ac (.inRegion ops (q :: rest) :: k) :: cs)) w := by
  have hw0 : code = .seq c500 (.seq c501 (.seq c502 (.seq scan c504))) := by
    obtain rfl := Option.some.inj hc; rfl
  subst hw0
  clear hc
  simp only [Array.replicate_succ, Array.replicate_zero, List.push_toArray, List.append_toArray, List.nil_append, List.cons_append]
  refine goesI_seq (dt_idle _ _) ?_
  refine goesI_look hE fineM hvw hn fine500 rfl (by simp [base]) (a' := { tmps := #[Pt S.wb 0, undef, .bool false] ++ Array.replicate 70 undef, defers := [] }) (fun τ => ?_) (fun w hvw => ?_)
  · show Code.wp Try.prog (c500) _ _ _
    unfold c500 Try.f113 seq1
    simp only [Option.getD_some, Array.replicate_succ, Array.replicate_zero, List.push_toArray, List.append_toArray, List.nil_append, List.cons_append]
    go_wp2_with fail
    exact ⟨rfl, rfl, rfl⟩
  simp only [Array.replicate_succ, Array.replicate_zero, List.push_toArray, List.append_toArray, List.nil_append, List.cons_append]
  refine goesI_seq (dt_idle _ _) ?_
  refine goesI_look hE fineM hvw hn fine501 rfl (by simp [base]) (a' := { tmps := #[Pt S.wb 0, undef, .bool false, .slice none 0 0] ++ Array.replicate 69 undef, defers := [] }) (fun τ => ?_) (fun w hvw => ?_)
  · show Code.wp Try.prog (c501) _ _ _
    unfold c501 Try.f113 seq1 seq2
    simp only [Option.getD_some, Array.replicate_succ, Array.replicate_zero, List.push_toArray, List.append_toArray, List.nil_append, List.cons_append]
    go_wp2_with fail
    exact ⟨rfl, rfl, rfl⟩
  simp only [Array.replicate_succ, Array.replicate_zero, List.push_toArray, List.append_toArray, List.nil_append, List.cons_append]
  refine goesI_seq (dt_idle _ _) ?_
  refine goesI_look hE fineM hvw hn fine502 rfl (by simp [base]) (a' := { tmps := #[Pt S.wb 0, undef, .bool false, .slice none 0 0, .bool false] ++ Array.replicate 68 undef, defers := [] }) (fun τ => ?_) (fun w hvw => ?_)
  · show Code.wp Try.prog (c502) _ _ _
    unfold c502 Try.f113 seq1 seq2
    simp only [Option.getD_some, Array.replicate_succ, Array.replicate_zero, List.push_toArray, List.append_toArray, List.nil_append, List.cons_append]
    go_wp2_with fail
    exact ⟨rfl, rfl, rfl⟩
  simp only [Array.replicate_succ, Array.replicate_zero, List.push_toArray, List.append_toArray, List.nil_append, List.cons_append]
  refine goesI_seq (dt_idle _ _) ?_
  have hscan : ∀ τ, scan.wp Try.prog (fun e a w' => e = .normal ∧ ScanQ S v a w') { tmps := #[Pt S.wb 0, undef, .bool false, .slice none 0 0, .bool false] ++ Array.replicate 68 undef, defers := [] } (onTape v τ 0) := fun τ => scan_wp (hm.rep.same (v' := onTape v τ 0) rfl) h8
  simp only [Array.replicate_succ, Array.replicate_zero, List.push_toArray, List.append_toArray, List.nil_append, List.cons_append] at hscan
  refine goesI_plain (c := scan) (z := z) (wr := true) (L := LM) (I := NoRow Ch) hE fineM noRow_keeps (fun v v' w w' es hi hr ho he => dt_of_z v v' w w' es hi hr ho he) hvw fineScan rfl (by simp [base]) hn hscan ?_
  rintro a' v1 w1 ⟨⟨lv, ⟨u6, u8, u9, u10, u11, u12, u13, u14, u15, u16, u17, u18, u19, u20, u21, u22, u23, u24, u25, u26, u27, u28, u29, u30, u31, rfl⟩, hown⟩, hsz, hbl, hos, hou⟩ hr1 hn1 -
  have hg : Grows v v1 := ⟨hsz, hbl, hos, hou⟩
  have he1 := hm.grows hg
  obtain ⟨p, cap, rfl⟩ := own_form hown
  have hc504 : c504 = .seq c510 (.seq pick15 (.seq last16 (.seq state17 c518))) := rfl
  rw [hc504]
  clear hscan
  rw [h0, hw]
  simp only [List.length_nil]
  refine goesI_seq (dt_idle _ _) ?_
  have hst := fun τ => stuck_wp (he1.mem.rep.same (v' := onTape v1 τ 0) rfl) hnn p cap u6 u8 u9 u10 u11 u12 u13 u14 u15 u16 u17 u18 u19 u20 u21 u22 u23 u24 u25 u26 u27 u28 u29 u30 u31
  refine goesI_outZ (f := 113) (fn := Try.f113) (c := c510) hE fineM hr1 hn1 Try.func113 fine510 rfl hoc (R := fun x w' => x = .bool true ∧ ∃ tv, Ev z S v1 (stuckS S tv) w') (fun τ => wp_mono (hst τ) (fun e a w' hq => by obtain ⟨h1, x, h2, h3, tv, h4⟩ := hq; exact ⟨h1, x, h2, h3, tv, h4.base rfl rfl rfl⟩)) ?_
  rintro x v2 w2 ⟨rfl, tv, hev⟩ hr2 hn2
  exact hk v2 w2 tv hr2 hn2 (he1.trans (Evo.of_ev he1.mem hev rfl))

set_option maxHeartbeats 2000000 in
set_option maxRecDepth 100000 in
theorem turn50_end {z : Nat → Option Nat} {Ch : Nat → Prop} {Stop : Goroutine → World → Prop} {S : TS} {K : List (Nat × Int)} {v w : World} (cs : List Frame) {bc : Frame} {ac : Act} {ops : Array Oper} {q : Nat} {rest : List Nat} {oc : Oper} {k : List Item} (hoc : ops[q]? = some oc)
    (hvw : Rel z v w) (hn : NoRow Ch v) (hm : Mem z S K v) (h8 : S.thr.length ≤ 8) (h0 : rdyIds S S.thr.length = []) (hw : waits2 S S.thr.length = false)
    (hk : ∀ v' w', Rel z v' w' → NoRow Ch v' → Evo z S K v S K v' → GoesI Try.prog true (DT (ScZ z) Ch) Stop (G (bc.at (ac.put oc.dst (.bool false)) (.inRegion ops rest :: k)) cs) w') (code : Code) (hc : Try.f113.body = some code) :
    GoesI Try.prog true (DT (ScZ z) Ch) Stop (G ((base 113).at { tmps := #[Pt S.wb 0] ++ Array.replicate 72 undef, defers := [] } [.code code]) (bc.at ac (.inRegion ops (q :: rest) :: k) :: cs)) w := by
  have hw0 : code = .seq c500 (.seq c501 (.seq c502 (.seq scan c504))) := by
    obtain rfl := Option.some.inj hc; rfl
  subst hw0
  clear hc
  simp only [Array.replicate_succ, Array.replicate_zero, List.push_toArray, List.append_toArray, List.nil_append, List.cons_append]
  refine goesI_seq (dt_idle _ _) ?_
  refine goesI_look hE fineM hvw hn fine500 rfl (by simp [base]) (a' := { tmps := #[Pt S.wb 0, undef, .bool false] ++ Array.replicate 70 undef, defers := [] }) (fun τ => ?_) (fun w hvw => ?_)
  · show Code.wp Try.prog (c500) _ _ _
    unfold c500 Try.f113 seq1
    simp only [Option.getD_some, Array.replicate_succ, Array.replicate_zero, List.push_toArray, List.append_toArray, List.nil_append, List.cons_append]
    go_wp2_with fail
    exact ⟨rfl, rfl, rfl⟩
  simp only [Array.replicate_succ, Array.replicate_zero, List.push_toArray, List.append_toArray, List.nil_append, List.cons_append]
  refine goesI_seq (dt_idle _ _) ?_
  refine goesI_look hE fineM hvw hn fine501 rfl (by simp [base]) (a' := { tmps := #[Pt S.wb 0, undef, .bool false, .slice none 0 0] ++ Array.replicate 69 undef, defers := [] }) (fun τ => ?_) (fun w hvw => ?_)
  · show Code.wp Try.prog (c501) _ _ _
    unfold c501 Try.f113 seq1 seq2
    simp only [Option.getD_some, Array.replicate_succ, Array.replicate_zero, List.push_toArray, List.append_toArray, List.nil_append, List.cons_append]
    go_wp2_with fail
    exact ⟨rfl, rfl, rfl⟩
  simp only [Array.replicate_succ, Array.replicate_zero, List.push_toArray, List.append_toArray, List.nil_append, List.cons_append]
  refine goesI_seq (dt_idle _ _) ?_
  refine goesI_look hE fineM hvw hn fine502 rfl (by simp [base]) (a' := { tmps := #[Pt S.wb 0, undef, .bool false, .slice none 0 0, .bool false] ++ Array.replicate 68 undef, defers := [] }) (fun τ => ?_) (fun w hvw => ?_)
  · show Code.wp Try.prog (c502) _ _ _
    unfold c502 Try.f113 seq1 seq2
    simp only [Option.getD_some, Array.replicate_succ, Array.replicate_zero, List.push_toArray, List.append_toArray, List.nil_append, List.cons_append]
    go_wp2_with fail
    exact ⟨rfl, rfl, rfl⟩
  simp only [Array.replicate_succ, Array.replicate_zero, List.push_toArray, List.append_toArray, List.nil_append, List.cons_append]
  refine goesI_seq (dt_idle _ _) ?_
  have hscan : ∀ τ, scan.wp Try.prog (fun e a w' => e = .normal ∧ ScanQ S v a w') { tmps := #[Pt S.wb 0, undef, .bool false, .slice none 0 0, .bool false] ++ Array.replicate 68 undef, defers := [] } (onTape v τ 0) := fun τ => scan_wp (hm.rep.same (v' := onTape v τ 0) rfl) h8
  simp only [Array.replicate_succ, Array.replicate_zero, List.push_toArray, List.append_toArray, List.nil_append, List.cons_append] at hscan
  refine goesI_plain (c := scan) (z := z) (wr := true) (L := LM) (I := NoRow Ch) hE fineM noRow_keeps (fun v v' w w' es hi hr ho he => dt_of_z v v' w w' es hi hr ho he) hvw fineScan rfl (by simp [base]) hn hscan ?_
  rintro a' v1 w1 ⟨⟨lv, ⟨u6, u8, u9, u10, u11, u12, u13, u14, u15, u16, u17, u18, u19, u20, u21, u22, u23, u24, u25, u26, u27, u28, u29, u30, u31, rfl⟩, hown⟩, hsz, hbl, hos, hou⟩ hr1 hn1 -
  have hg : Grows v v1 := ⟨hsz, hbl, hos, hou⟩
  have he1 := hm.grows hg
  obtain ⟨p, cap, rfl⟩ := own_form hown
  have hc504 : c504 = .seq c510 (.seq pick15 (.seq last16 (.seq state17 c518))) := rfl
  rw [hc504]
  clear hscan
  rw [h0, hw]
  simp only [List.length_nil]
  refine goesI_seq (dt_idle _ _) ?_
  have hst := fun τ => end_wp (S := S) (v := onTape v1 τ 0) p cap u6 u8 u9 u10 u11 u12 u13 u14 u15 u16 u17 u18 u19 u20 u21 u22 u23 u24 u25 u26 u27 u28 u29 u30 u31
  refine goesI_outZ (f := 113) (fn := Try.f113) (c := c510) hE fineM hr1 hn1 Try.func113 fine510 rfl hoc (R := fun x w' => x = .bool false ∧ w'.heap = v1.heap ∧ w'.os = v1.os ∧ w'.output = v1.output) (fun τ => wp_mono (hst τ) (fun e a w' hq => by obtain ⟨h1, x, h2, h3, h4⟩ := hq; subst h4; exact ⟨h1, x, h2, h3, rfl, rfl, rfl⟩)) ?_
  rintro x v2 w2 ⟨rfl, q1, q2, q3⟩ hr2 hn2
  exact hk v2 w2 hr2 hn2 (he1.same q1 q2 q3)
end Go.Proofs.Ytfjjoohflcchnaa

namespace Go.Proofs.Ytfjjoohflcchnaa.Gen
open Go Go.Lift Go.Conc Go.RowKit

/-- A call of a script. -/
structure Cl where
  po : Int
  ca : Int
  cb : Int
  cc : Int
/-- Where a call is: a place, and what it has in mind. -/
abbrev Q := Nat × List Int
/-- What comes next: an answer, a turn for an Op at cell j, an Await of cell j. -/
inductive Nx where
  | ans (e x : Int)
  | turn (op : Int) (j : Nat) (q : Q)
  | wait (j : Nat) (q : Q)
/-- A package's calls: 'turn q x': what it notes, what it writes, and what comes next where x stands; 'stuck q': its answer where its Await was in vain. -/
structure Mc where
  start : Nat → Cl → Nx
  turn : Q → Int → (Int × Int) × Int × Nx
  woke : Q → Nx
  stuck : Q → Int × Int
  bnd : Bool := false
  ok : Nat → Int → Prop := fun _ _ => True
  okt : ∀ q j x, ok j x → ok j (turn q x).2.1 := by intros; trivial
/-- What of a function value is bound, what is free. -/
def Mc.bn (m : Mc) (caps : Array Value) : Array Value := if m.bnd then caps else #[]
def Mc.fr (m : Mc) (caps : Array Value) : Array Value := if m.bnd then #[] else caps
/-- Where a thread sits: at a turn of call ii, at an Await of it, or nowhere any more; 'rest': the calls behind it. -/
inductive Ph where
  | turn (op : Int) (j : Nat) (q : Q) (rest : List Cl) (ii : Nat) (ans : List (Int × Int))
  | wait (j : Nat) (q : Q) (rest : List Cl) (ii : Nat) (ans : List (Int × Int))
  | done (ans : List (Int × Int))
def Ph.ans : Ph → List (Int × Int)
  | .turn _ _ _ _ _ a => a
  | .wait _ _ _ _ a => a
  | .done a => a

/-- The state without the place of its trace. -/
def nv (S : TS) : TS := { S with tv := undef }
def thrI (S : TS) (i : Nat) : Thr := (S.thr[i]?).getD ⟨0, 0, 0, 0, 0, 0⟩
def cellAt (K : List (Nat × Int)) (j : Nat) : Nat × Int := (K[j]?).getD (0, 0)

/-- The cells hold what they may. -/
def KOk (m : Mc) (K : List (Nat × Int)) : Prop := ∀ j p, K[j]? = some p → m.ok j p.2
theorem KOk.set {m : Mc} {K : List (Nat × Int)} (h : KOk m K) (j : Nat) (q : Q) (b : Nat) : KOk m (K.set j (b, (m.turn q (cellAt K j).2).2.1)) := fun k p hp => by
  rw [List.getElem?_set] at hp
  split at hp
  · rename_i e
    subst e
    split at hp
    · rename_i hl
      cases hp
      refine m.okt q j _ (h j _ ?_)
      unfold cellAt
      rw [List.getElem?_eq_getElem hl]
      rfl
    · cases hp
  · exact h k p hp
/-- From the loop's head to the next seat. -/
def flow (i : Nat) (m : Mc) : List Cl → Nat → Bool → List (Int × Int) → TS → TS × Ph
  | [], _, _, ans, S => (ended S i (thrI S i), .done ans)
  | _ :: rest, ii, true, ans, S => flow i m rest (ii + 1) true (ans.set ii (4, 0)) S
  | c :: rest, ii, false, ans, S =>
    match m.start i c with
    | .ans e x => flow i m rest (ii + 1) (e == 4) (ans.set ii (e, x)) (noted (noted S undef i 9 (-1) ii 0) undef i 10 (-1) ii e)
    | .turn op j q => (waiting (noted S undef i 9 (-1) ii 0) i (thrI S i) 1 op j, .turn op j q rest ii ans)
    | .wait j q =>
      if S.stk then flow i m rest (ii + 1) ((m.stuck q).1 == 4) (ans.set ii (m.stuck q)) (noted (noted S undef i 9 (-1) ii 0) undef i 10 (-1) ii (m.stuck q).1)
      else (waiting (noted S undef i 9 (-1) ii 0) i (thrI S i) 2 6 j, .wait j q rest ii ans)
/-- A call has its answer. -/
def back (i : Nat) (m : Mc) (rest : List Cl) (ii : Nat) (ans : List (Int × Int)) (a : Int × Int) (S : TS) (K : List (Nat × Int)) : TS × List (Nat × Int) × Ph :=
  ((flow i m rest (ii + 1) (a.1 == 4) (ans.set ii a) (noted S undef i 10 (-1) ii a.1)).1, K, (flow i m rest (ii + 1) (a.1 == 4) (ans.set ii a) (noted S undef i 10 (-1) ii a.1)).2)
/-- From the middle of a call to the next seat. -/
def on (i : Nat) (m : Mc) (rest : List Cl) (ii : Nat) (ans : List (Int × Int)) (S : TS) (K : List (Nat × Int)) : Nx → TS × List (Nat × Int) × Ph
  | .ans e x => back i m rest ii ans (e, x) S K
  | .turn op j q => (waiting S i (thrI S i) 1 op j, K, .turn op j q rest ii ans)
  | .wait j q => if S.stk then back i m rest ii ans (m.stuck q) S K else (waiting S i (thrI S i) 2 6 j, K, .wait j q rest ii ans)
/-- From a seat to the next one. -/
def resume (i : Nat) (m : Mc) : Ph → TS → List (Nat × Int) → TS × List (Nat × Int) × Ph
  | .turn _ j q rest ii ans, S, K => on i m rest ii ans (didS S undef i (thrI S i) (m.turn q (cellAt K j).2).1.1 (m.turn q (cellAt K j).2).1.2) (K.set j ((cellAt K j).1, (m.turn q (cellAt K j).2).2.1)) (m.turn q (cellAt K j).2).2.2
  | .wait j q rest ii ans, S, K => if S.stk then back i m rest ii ans (m.stuck q) S K else on i m rest ii ans (noted S undef i 6 j 0 0) K (m.woke q)
  | p, S, K => (S, K, p)

theorem flow_cons (i : Nat) (m : Mc) (c : Cl) (rest : List Cl) (ii : Nat) (ans : List (Int × Int)) (S : TS) (K : List (Nat × Int)) : flow i m (c :: rest) ii false ans S = ((on i m rest ii ans (noted S undef i 9 (-1) ii 0) K (m.start i c)).1, (on i m rest ii ans (noted S undef i 9 (-1) ii 0) K (m.start i c)).2.2) := by
  unfold flow
  cases h : m.start i c with
  | ans e x => rfl
  | turn op j q => rfl
  | wait j q =>
    show (if S.stk then _ else _) = ((if S.stk then _ else _ : TS × List (Nat × Int) × Ph).1, (if S.stk then _ else _ : TS × List (Nat × Int) × Ph).2.2)
    split <;> rfl

theorem resume_turn (i : Nat) (m : Mc) (op : Int) (j : Nat) (q : Q) (rest : List Cl) (ii : Nat) (ans : List (Int × Int)) (S : TS) (K : List (Nat × Int)) : resume i m (.turn op j q rest ii ans) S K = on i m rest ii ans (didS S undef i (thrI S i) (m.turn q (cellAt K j).2).1.1 (m.turn q (cellAt K j).2).1.2) (K.set j ((cellAt K j).1, (m.turn q (cellAt K j).2).2.1)) (m.turn q (cellAt K j).2).2.2 := rfl
theorem resume_wait (i : Nat) (m : Mc) (j : Nat) (q : Q) (rest : List Cl) (ii : Nat) (ans : List (Int × Int)) (S : TS) (K : List (Nat × Int)) : resume i m (.wait j q rest ii ans) S K = if S.stk then back i m rest ii ans (m.stuck q) S K else on i m rest ii ans (noted S undef i 6 j 0 0) K (m.woke q) := rfl
theorem on_wait (i : Nat) (m : Mc) (j : Nat) (q : Q) (rest : List Cl) (ii : Nat) (ans : List (Int × Int)) (S : TS) (K : List (Nat × Int)) : on i m rest ii ans S K (.wait j q) = if S.stk then back i m rest ii ans (m.stuck q) S K else (waiting S i (thrI S i) 2 6 j, K, .wait j q rest ii ans) := rfl

theorem on_KK (i : Nat) (m : Mc) (rest : List Cl) (ii : Nat) (ans : List (Int × Int)) (S : TS) (K : List (Nat × Int)) (x : Nx) : (on i m rest ii ans S K x).2.1 = K := by
  cases x with
  | ans e x => rfl
  | turn op j q => rfl
  | wait j q => rw [on_wait]; split <;> rfl
theorem resume_kok {i : Nat} {m : Mc} {l : Ph} {S : TS} {K : List (Nat × Int)} (h : KOk m K) : KOk m (resume i m l S K).2.1 := by
  cases l with
  | done a => exact h
  | turn op j q rest ii ans =>
    rw [resume_turn, on_KK]
    exact h.set j q _
  | wait j q rest ii ans =>
    rw [resume_wait]
    split
    · exact h
    · rw [on_KK]; exact h
section
variable {S : TS} {i : Nat} {m : Mc}
theorem thrI_of {t : Thr} (h : S.thr[i]? = some t) : thrI S i = t := by unfold thrI; rw [h]; rfl
theorem nv_did (tv : Value) (t : Thr) (b a : Int) : nv (didS S tv i t b a) = didS (nv S) undef i t b a := by
  show nv (if b ≠ a ∧ 0 ≤ t.ce ∧ t.ce < S.chg.length then _ else _) = if b ≠ a ∧ 0 ≤ t.ce ∧ t.ce < S.chg.length then _ else _
  split <;> rfl
/-- What a thread's going leaves as it is. -/
structure Sta (i : Nat) (S S' : TS) : Prop where
  wb : S'.wb = S.wb
  bk : S'.bk = S.bk
  base : S'.base = S.base
  us : S'.us = S.us
  la : S'.la = S.la
  sc : S'.sc = S.sc
  cv : S'.cv = S.cv
  ths : S'.ths = S.ths
  sched : S'.sched = S.sched
  stk : S'.stk = S.stk
  ran : S'.ran = S.ran
  n : S.n ≤ S'.n
  chg : S'.chg.length = S.chg.length
  len : S'.thr.length = S.thr.length
  oth : ∀ j, j ≠ i → S'.thr[j]? = S.thr[j]?
  own : ∀ t, S.thr[i]? = some t → ∃ t', S'.thr[i]? = some t' ∧ t'.tb = t.tb ∧ t'.gc = t.gc
theorem Sta.refl (i : Nat) (S : TS) : Sta i S S := ⟨rfl, rfl, rfl, rfl, rfl, rfl, rfl, rfl, rfl, rfl, rfl, Nat.le_refl _, rfl, rfl, fun _ _ => rfl, fun t h => ⟨t, h, rfl, rfl⟩⟩
theorem Sta.trans {S S' S'' : TS} (h : Sta i S S') (k : Sta i S' S'') : Sta i S S'' := by
  refine ⟨k.wb.trans h.wb, k.bk.trans h.bk, k.base.trans h.base, k.us.trans h.us, k.la.trans h.la, k.sc.trans h.sc, k.cv.trans h.cv, k.ths.trans h.ths, k.sched.trans h.sched, k.stk.trans h.stk, k.ran.trans h.ran, Nat.le_trans h.n k.n, k.chg.trans h.chg, k.len.trans h.len, fun j hj => (k.oth j hj).trans (h.oth j hj), fun t ht => ?_⟩
  obtain ⟨t1, h1, h2, h3⟩ := h.own t ht
  obtain ⟨t2, k1, k2, k3⟩ := k.own t1 h1
  exact ⟨t2, k1, k2.trans h2, k3.trans h3⟩
theorem sta_noted (S : TS) (tv : Value) (op ce ol ne : Int) : Sta i S (noted S tv i op ce ol ne) := ⟨rfl, rfl, rfl, rfl, rfl, rfl, rfl, rfl, rfl, rfl, rfl, Nat.le_succ _, rfl, rfl, fun _ _ => rfl, fun t h => ⟨t, h, rfl, rfl⟩⟩
theorem sta_set (S : TS) (t' : Thr) (h1 : ∀ t, S.thr[i]? = some t → t'.tb = t.tb ∧ t'.gc = t.gc) : Sta i S { S with thr := S.thr.set i t' } := by
  refine ⟨rfl, rfl, rfl, rfl, rfl, rfl, rfl, rfl, rfl, rfl, rfl, Nat.le_refl _, rfl, by simp, fun j hj => ?_, fun t h => ⟨t', ?_, h1 t h⟩⟩
  · show (S.thr.set i t')[j]? = _
    rw [List.getElem?_set, if_neg (fun e => hj e.symm)]
  · have hi : i < S.thr.length := (List.getElem?_eq_some_iff.1 h).1
    show (S.thr.set i t')[i]? = _
    rw [List.getElem?_set, if_pos rfl, if_pos hi]
theorem sta_wait (S : TS) (s o c : Int) : Sta i S (waiting S i (thrI S i) s o c) := sta_set S _ (fun t h => by rw [thrI_of h]; exact ⟨rfl, rfl⟩)
theorem sta_ended (S : TS) : Sta i S (ended S i (thrI S i)) := sta_set S _ (fun t h => by rw [thrI_of h]; exact ⟨rfl, rfl⟩)
theorem sta_did (S : TS) (tv : Value) (t : Thr) (b a : Int) : Sta i S (didS S tv i t b a) := by
  unfold didS
  split
  · exact ⟨rfl, rfl, rfl, rfl, rfl, rfl, rfl, rfl, rfl, rfl, rfl, Nat.le_succ _, by simp [counted, noted], rfl, fun _ _ => rfl, fun t h => ⟨t, h, rfl, rfl⟩⟩
  · exact sta_noted _ _ _ _ _ _
theorem flow_sta (i : Nat) (m : Mc) : ∀ (rest : List Cl) (ii : Nat) (sk : Bool) (ans : List (Int × Int)) (S : TS), Sta i S (flow i m rest ii sk ans S).1
  | [], ii, sk, ans, S => by cases sk <;> exact sta_ended S
  | c :: rest, ii, true, ans, S => flow_sta i m rest (ii + 1) true _ S
  | c :: rest, ii, false, ans, S => by
    unfold flow
    split
    · exact ((sta_noted S _ _ _ _ _).trans (sta_noted _ _ _ _ _ _)).trans (flow_sta i m rest (ii + 1) _ _ _)
    · exact (sta_noted S _ _ _ _ _).trans (sta_wait (noted S undef i 9 (-1) ii 0) _ _ _)
    · split
      · exact ((sta_noted S _ _ _ _ _).trans (sta_noted _ _ _ _ _ _)).trans (flow_sta i m rest (ii + 1) _ _ _)
      · exact (sta_noted S _ _ _ _ _).trans (sta_wait (noted S undef i 9 (-1) ii 0) _ _ _)
theorem back_sta (rest : List Cl) (ii : Nat) (ans : List (Int × Int)) (a : Int × Int) (K : List (Nat × Int)) (S : TS) : Sta i S (back i m rest ii ans a S K).1 :=
  (sta_noted S _ _ _ _ _).trans (flow_sta i m rest (ii + 1) _ _ _)
theorem on_sta (rest : List Cl) (ii : Nat) (ans : List (Int × Int)) (K : List (Nat × Int)) (S : TS) (x : Nx) : Sta i S (on i m rest ii ans S K x).1 := by
  cases x with
  | ans e x => exact back_sta _ _ _ _ _ _
  | turn op j q => exact sta_wait S _ _ _
  | wait j q =>
    rw [on_wait]
    split
    · exact back_sta _ _ _ _ _ _
    · exact sta_wait S _ _ _
theorem resume_sta (i : Nat) (m : Mc) (l : Ph) (S : TS) (K : List (Nat × Int)) : Sta i S (resume i m l S K).1 := by
  match l with
  | .done ans => exact Sta.refl _ _
  | .turn op j q rest ii ans => exact (sta_did S _ _ _ _).trans (on_sta _ _ _ _ _ _)
  | .wait j q rest ii ans =>
    rw [resume_wait]
    split
    · exact back_sta _ _ _ _ _ _
    · exact (sta_noted S _ _ _ _ _).trans (on_sta _ _ _ _ _ _)
end

/-- A script's answers as a row. -/
def arow (ans : List (Int × Int)) : List Value := ans.flatMap fun a => [I a.1, I a.2]
theorem arow_len (ans : List (Int × Int)) : (arow ans).length = ans.length * 2 := by
  induction ans with
  | nil => rfl
  | cons a l ih => simp only [arow, List.flatMap_cons, List.length_append, List.length_cons, List.length_nil] at ih ⊢; omega
theorem arow_get : ∀ (ans : List (Int × Int)) (k : Nat) (a : Int × Int), ans[k]? = some a → (arow ans)[k * 2]? = some (I a.1) ∧ (arow ans)[k * 2 + 1]? = some (I a.2)
  | b :: l, 0, a, h => by obtain rfl : b = a := by simpa using h
                          exact ⟨rfl, rfl⟩
  | b :: l, k + 1, a, h => by
    have := arow_get l k a (by simpa using h)
    have e : arow (b :: l) = I b.1 :: I b.2 :: arow l := rfl
    rw [e, show (k + 1) * 2 = (k * 2 + 1) + 1 by omega, show (k * 2 + 1) + 1 + 1 = (k * 2 + 1 + 1) + 1 by omega]
    simpa using this
theorem arow_set : ∀ (ans : List (Int × Int)) (k : Nat) (e x : Int), k < ans.length → arow (ans.set k (e, x)) = ((arow ans).set (k * 2) (I e)).set (k * 2 + 1) (I x)
  | b :: l, 0, e, x, _ => rfl
  | b :: l, k + 1, e, x, h => by
    have := arow_set l k e x (by simpa using h)
    have e1 : ∀ (b : Int × Int) (l : List (Int × Int)), arow (b :: l) = I b.1 :: I b.2 :: arow l := fun _ _ => rfl
    rw [List.set_cons_succ, e1, this, e1, show (k + 1) * 2 = (k * 2 + 1) + 1 by omega, show (k * 2 + 1) + 1 + 1 = (k * 2 + 1 + 1) + 1 by omega]
    simp only [List.set_cons_succ]
end Go.Proofs.Ytfjjoohflcchnaa.Gen
