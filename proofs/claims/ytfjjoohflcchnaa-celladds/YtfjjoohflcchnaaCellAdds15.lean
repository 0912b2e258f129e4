/- CellAdds returns true, whatever the schedule, the start and the numbers, and leaves what it was given as it was: of the law's statement as given, with no condition of our own. Part 15 of 34. (Joined, by program, of: Body33, PlayG, Store, Swap.) -/
import Derived.Test.YtfjjoohflcchnaaCellAdds10
import Derived.Test.YtfjjoohflcchnaaCellAdds12
import Derived.Test.YtfjjoohflcchnaaCellAdds13
import Derived.Test.YtfjjoohflcchnaaCellAdds14
set_option linter.unusedSimpArgs false
set_option linter.unusedVariables false
namespace Go.Proofs.Ytfjjoohflcchnaa
open Go Go.Lift Go.Conc Go.RowKit

noncomputable def ops33 : Array Oper := opsOf (Try.f84.body.getD .skip)
def val33 (csl F rsl asl : Value) (tb rb ix : Nat) : Nat → Value
  | 0 => Pt tb 0
  | 1 => csl
  | 2 => F
  | 3 => rsl
  | 4 => I ix
  | 5 => Pt rb ix
  | 6 => asl
  | _ => undef
theorem lead33 : leadsOn .any ops33 7 = true := by kernel_rfl
theorem text33 : inText .any ops33 7 = true := by kernel_rfl
theorem fineOps33 (i : Nat) (hi : i < 7) (o : Oper) (ho : ops33[i]? = some o) : fineOp Try.prog true LT o := by
  have h : ((ops33.extract 0 7).all fun o => plainOp Try.prog true o.op || askCall plainFs plainXs o.op) = true := by kernel_rfl
  refine fineOp_ask callT extT ((Array.all_eq_true_iff_forall_mem.1 h) o ?_)
  have : (ops33.extract 0 7)[i]? = some o := by
    have hs := (Array.getElem?_eq_some_iff.1 ho).1
    rw [Array.getElem?_extract, if_pos (by omega)]
    simpa using ho
  exact Array.mem_of_getElem? this
theorem rest33 (t : Nat) : Region.linearise.go .any ops33 (ops33.size - 7) t (listedN ops33.size 7) [] = [7] := by
  have e1 : ((List.range ops33.size).filter fun i => !(listedN ops33.size 7).getD i true && ((ops33[i]?).map (·.after.all fun e => !Region.binds .any e || (listedN ops33.size 7).getD e.on false)).getD false) = [7] := by kernel_rfl
  have e0 : ops33.size - 7 = 1 := by kernel_rfl
  rw [e0]
  unfold Region.linearise.go
  simp only [e1, List.length_cons, List.length_nil, Nat.zero_add, Nat.mod_one, List.getElem?_cons_zero]
  rfl
theorem dst33 (i : Nat) (hi : i < 7) (o : Oper) (ho : ops33[i]? = some o) : o.dst = some (6 + i) := by
  have h : ((List.range 7).all fun i => (ops33[i]?).map (·.dst) == some (some (6 + i))) = true := by kernel_rfl
  have := (List.all_eq_true.1 h) i (by simpa using hi)
  rw [ho] at this
  simpa using this
theorem guard33 (i : Nat) (hi : i < 8) (o : Oper) (ho : ops33[i]? = some o) : o.guard = none := by
  have h : ((List.range 8).all fun i => ((ops33[i]?).map (·.guard.isNone)) == some true) = true := by kernel_rfl
  have := (List.all_eq_true.1 h) i (by simpa using hi)
  rw [ho] at this
  simpa using this
theorem op33 {i : Nat} {o : Oper} {p : Op} (h : (ops33[i]?).map (·.op) = some p) (ho : ops33[i]? = some o) : o.op = p := by
  rw [ho] at h
  exact Option.some.inj h
theorem after33 {i j : Nat} {o : Oper} (h : ((ops33[i]?).map (fun o => o.after.toList.any fun e => e.on == j && Region.binds .any e)) = some true) (ho : ops33[i]? = some o) {l : Array Bool} (hd : ∀ e ∈ o.after.toList, Region.binds .any e = true → l.getD e.on false = true) : l.getD j false = true := by
  rw [ho] at h
  simp only [Option.map_some, Option.some.injEq, List.any_eq_true, Bool.and_eq_true, beq_iff_eq] at h
  obtain ⟨e, he, rfl, hb⟩ := h
  exact hd e he hb

set_option maxHeartbeats 1000000 in
set_option maxRecDepth 100000 in
theorem body33_goes {z : Nat → Option Nat} {Ch : Nat → Prop} {Stop : Goroutine → World → Prop} {main : Bool} {v w : World} {tb p1 p2 p3 p4 : Nat} (csl F asl : Value) (rb m cap ix : Nat) (hix : ix < m)
    (h1 : v.cell? ⟨p1, 0, none⟩ = some csl) (h2 : v.cell? ⟨p2, 0, none⟩ = some F) (h3 : v.cell? ⟨p3, 0, none⟩ = some (.slice (some ⟨rb, 0, none⟩) m cap)) (h4 : v.cell? ⟨p4, 0, none⟩ = some (I ix)) (h5 : v.cell? ⟨rb, ix, none⟩ = some asl) (cs : List Frame) {bc : Frame} {ac : Act} {ops : Array Oper} {q : Nat} {rest : List Nat} {oc : Oper} {k : List Item} (hoc : ops[q]? = some oc)
    (hvw : Rel z v w) (hn : NoRow Ch v)
    (hk : ∀ w' (bd : Frame) (ad : Act) (od : Array Oper) (qd : Nat) (rd : List Nat) (oe : Oper) (kd : List Item), Rel z v w' → od[qd]? = some oe →
      (∀ (z : Nat → Option Nat) (Ch : Nat → Prop) (Stop : Goroutine → World → Prop) (w : World), GoesI Try.prog main (DT (ScZ z) Ch) Stop (G (bc.at (ac.put oc.dst (.tuple #[])) (.inRegion ops rest :: k)) cs) w → GoesI Try.prog main (DT (ScZ z) Ch) Stop (G (bd.at (ad.put oe.dst (.tuple #[])) (.inRegion od rd :: kd)) (bc.at ac (.inRegion ops (q :: rest) :: k) :: cs)) w) → ∀ code, Try.f85.body = some code →
      GoesI Try.prog main (DT (ScZ z) Ch) Stop (G ((base 85).at { tmps := #[Pt tb 0, csl, F, asl] ++ Array.replicate 44 undef, defers := [] } [.code code]) (bd.at ad (.inRegion od (qd :: rd) :: kd) :: bc.at ac (.inRegion ops (q :: rest) :: k) :: cs)) w') (code : Code) (hc : Try.f84.body = some code) :
    GoesI Try.prog main (DT (ScZ z) Ch) Stop (G ((base 84).at { tmps := #[Pt tb 0, Pt p1 0, Pt p2 0, Pt p3 0, Pt p4 0] ++ Array.replicate 9 undef, defers := [] } [.code code]) (bc.at ac (.inRegion ops (q :: rest) :: k) :: cs)) w := by
  have hc0 : code = .region 0 ops33 true := by
    have : Try.f84.body = some (.region 0 ops33 true) := rfl
    rw [this] at hc
    exact (Option.some.inj hc).symm
  subst hc0
  clear hc
  simp only [Array.replicate_succ, Array.replicate_zero, List.push_toArray, List.append_toArray, List.nil_append, List.cons_append]
  refine goesI_region_quiet (n := 7) (val := val33 csl F (.slice (some ⟨rb, 0, none⟩) m cap) asl tb rb ix) (J := fun w => Rel z v w) mix21 (fun w d hJ => hJ.re rfl rfl rfl rfl rfl rfl) (fun w => dt_draw _ _ w) lead33 text33 (on := ops33[7]'(by decide)) rfl ?_ ?_ ?_
    { tmps := #[Pt tb 0, Pt p1 0, Pt p2 0, Pt p3 0, Pt p4 0, undef, Pt tb 0, csl, F, .slice (some ⟨rb, 0, none⟩) m cap, I ix, Pt rb ix, asl, undef], defers := [] } ?_ ?_ hvw
  · intro i1 j1 oi oj t1 h1 h2 h3 h4 h5 h6
    rw [dst33 i1 h1 oi h3] at h5
    rw [dst33 j1 h2 oj h4] at h6
    have := Option.some.inj (h5.trans h6.symm)
    omega
  · intro i1 o1 t1 h1 h2 h3
    rw [dst33 i1 h1 o1 h2] at h3
    have := Option.some.inj h3
    subst this
    show (6 + i1 : Nat) < 14
    omega
  · intro i' o rest' listed a w1 hi ho hdep hagr hJ hgo
    have ev : ∀ j, j < 7 → listed.getD j false = true → a.eval (.tmp (6 + j)) = val33 csl F (.slice (some ⟨rb, 0, none⟩) m cap) asl tb rb ix j := fun j hj hl =>
      hagr.eval hj (o := ops33[j]'(by have : ops33.size = 8 := rfl; omega)) (Array.getElem?_eq_getElem _) hl (dst33 j hj _ (Array.getElem?_eq_getElem _))
    have ev0 : ∀ t' : Nat, t' < 6 → a.eval (.tmp t') = _ := fun t' ht' => hagr.eval0 (t := t') (fun j o hj ho e => by
      rw [dst33 j hj o ho] at e
      have : (6 + j : Nat) = t' := Option.some.inj e
      omega)
    have e0 : a.eval (.tmp 0) = Pt tb 0 := ev0 0 (by omega)
    have e1 : a.eval (.tmp 1) = Pt p1 0 := ev0 1 (by omega)
    have e2 : a.eval (.tmp 2) = Pt p2 0 := ev0 2 (by omega)
    have e3 : a.eval (.tmp 3) = Pt p3 0 := ev0 3 (by omega)
    have e4 : a.eval (.tmp 4) = Pt p4 0 := ev0 4 (by omega)
    have hw : Region.wanted o (yielded ops33 a.tmps) = true := by simp [Region.wanted, guard33 i' (by omega) o ho]
    have hrun : (execOp a.eval o).run Try.prog v = .ok (.value (val33 csl F (.slice (some ⟨rb, 0, none⟩) m cap) asl tb rb ix i')) v := by
      have hjl : (ix : Int) < (m : Int) := by omega
      match i', hi, ho with
      | 0, _, ho => have hop := op33 (p := .move (.tmp 0)) rfl ho; unfold execOp; rw [hop]; simp only [e0]; simp [go_sem, val33]
      | 1, _, ho => have hop := op33 (p := .load 37 (.tmp 1)) rfl ho; unfold execOp; rw [hop]; simp only [e1]; simp [go_sem, h1, val33]
      | 2, _, ho => have hop := op33 (p := .load 87 (.tmp 2)) rfl ho; unfold execOp; rw [hop]; simp only [e2]; simp [go_sem, h2, val33]
      | 3, _, ho => have hop := op33 (p := .load 27 (.tmp 3)) rfl ho; unfold execOp; rw [hop]; simp only [e3]; simp [go_sem, h3, val33]
      | 4, _, ho => have hop := op33 (p := .load 3 (.tmp 4)) rfl ho; unfold execOp; rw [hop]; simp only [e4]; simp [go_sem, h4, val33]
      | 5, _, ho => have hop := op33 (p := .indexAddr 27 (.tmp 9) (.tmp 10)) rfl ho; have l : a.eval (.tmp 9) = .slice (some ⟨rb, 0, none⟩) m cap := ev 3 (by omega) (after33 (by kernel_rfl) ho hdep); have l' : a.eval (.tmp 10) = I ix := ev 4 (by omega) (after33 (by kernel_rfl) ho hdep); unfold execOp; rw [hop]; simp only [l, l']; simp [go_sem, val33, hjl]
      | 6, _, ho => have hop := op33 (p := .load 40 (.tmp 11)) rfl ho; have l : a.eval (.tmp 11) = Pt rb ix := ev 5 (by omega) (after33 (by kernel_rfl) ho hdep); unfold execOp; rw [hop]; simp only [l]; simp [go_sem, h5, val33]
    exact goesI_opZ ho hw (by simp [base]) (fineOps33 i' hi o ho) hJ hn hrun rfl (fun w2 hr2 _ => hgo w2 hr2)
  · refine ⟨rfl, rfl, fun j o t' hj ho _ hd => ?_, fun t' hne => ?_⟩
    · rw [dst33 j hj o ho] at hd
      have : (6 + j : Nat) = t' := Option.some.inj hd
      subst this
      match j, hj with
      | 0, _ => rfl
      | 1, _ => rfl
      | 2, _ => rfl
      | 3, _ => rfl
      | 4, _ => rfl
      | 5, _ => rfl
      | 6, _ => rfl
    · have hcase : ∀ m : Nat, m < 7 → t' ≠ 6 + m := fun m hm e => by
        have hs : m < ops33.size := by have : ops33.size = 8 := rfl; omega
        refine hne m (ops33[m]'hs) hm (Array.getElem?_eq_getElem hs) ?_ ((dst33 m hm _ (Array.getElem?_eq_getElem hs)).trans (by rw [e]))
        rw [Array.getD_eq_getD_getElem?, listedN_get hs]
        simp [hm]
      match t', hcase with
      | 0, _ => rfl
      | 1, _ => rfl
      | 2, _ => rfl
      | 3, _ => rfl
      | 4, _ => rfl
      | 5, _ => rfl
      | 6, h => exact absurd rfl (h 0 (by omega))
      | 7, h => exact absurd rfl (h 1 (by omega))
      | 8, h => exact absurd rfl (h 2 (by omega))
      | 9, h => exact absurd rfl (h 3 (by omega))
      | 10, h => exact absurd rfl (h 4 (by omega))
      | 11, h => exact absurd rfl (h 5 (by omega))
      | 12, h => exact absurd rfl (h 6 (by omega))
      | 13, _ => rfl
      | m + 14, _ => rfl
  · intro tt w1 hJ
    rw [rest33]
    refine goesI_into (f := 85) (fn := Try.f85) (args := #[Pt tb 0, csl, F, asl]) (dt_idle _ _) (o := ops33[7]'(by decide)) rfl rfl (by decide) rfl (by simp [Act.eval]) Try.func85 (by decide) rfl ?_
    refine hk w1 _ _ _ _ _ _ _ hJ rfl (fun z Ch Stop w hg => ?_) _ rfl
    refine goesI_regionEnd (dt_idle _ _) ?_
    refine goesI_end (dt_idle _ _) ?_
    refine goesI_leave (b := base 84) (fn := Try.f84) rfl ?_ Try.func84 (fun w => results_none rfl _ _ _) (fun w => by simp [results, go_sem]) hoc (dt_idle _ _) hg
    show (Act.put _ _ _).defers = []
    unfold Act.put
    split <;> rfl
end Go.Proofs.Ytfjjoohflcchnaa

namespace Go.Proofs.Ytfjjoohflcchnaa
open Go Go.Lift Go.Conc Go.RowKit

/-- The call has answered: the closure lays the answer in memory of its own (pb), and comes back with it. -/
def C21Back (main : Bool) (pb : Nat) (cu cl : Value → Goroutine) : Prop :=
  ∀ (z : Nat → Option Nat) (Ch : Nat → Prop) (Stop : Goroutine → World → Prop) (w v : World) (S : TS) (K : List (Nat × Int)) (e x : Int), Rel z v w → NoRow Ch v → Mem z S K v → v.heap[pb]? = some (.cells #[I 0, I 0] 42 (0, 0)) → ¬ Own S K pb →
    (∀ v' w', Rel z v' w' → NoRow Ch v' → EvoP (· = pb) z S K v S K v' → GoesI Try.prog main (DT (ScZ z) Ch) Stop (cl (.agg #[I e, I x])) w') →
    GoesI Try.prog main (DT (ScZ z) Ch) Stop (cu (.agg #[I e, I x])) w

set_option maxHeartbeats 1000000 in
set_option maxRecDepth 100000 in
theorem play_goes {z : Nat → Option Nat} {Ch : Nat → Prop} {Stop : Goroutine → World → Prop} {main : Bool} {K : List (Nat × Int)} {v w : World} {cb tb xb rb cap : Nat} (po ca n cc : Int) (hca : -9223372036854775808 ≤ ca ∧ ca < 9223372036854775808) (hKl : 0 < K.length ∧ (K.length : Int) < 9223372036854775808)
    (hx0 : v.cell? ⟨xb, 0, none⟩ = some (.slice (some ⟨rb, 0, none⟩) K.length cap)) (hx1 : v.cell? ⟨rb, which ca K.length, none⟩ = some (Pt cb 0)) (cs : List Frame) {bc : Frame} {ac : Act} {ops : Array Oper} {q : Nat} {rest : List Nat} {oc : Oper} {k : List Item} (hoc : ops[q]? = some oc)
    (hvw : Rel z v w) (hn : NoRow Ch v)
    (hstop : ∀ v' w' (bd : Frame) (ad : Act) (od : Array Oper) (qd : Nat) (rd : List Nat) (oe : Oper) (kd : List Item), Rel z v' w' → NoRow Ch v' → Grows v v' → v'.heap[v.heap.size + 1]? = some (.cells #[I 0, I 0] 42 (0, 0)) → v'.heap.size = v.heap.size + 2 → od[qd]? = some oe →
      C21Back main (v.heap.size + 1) (fun r => G (bd.at (ad.put oe.dst r) (.inRegion od rd :: kd)) (bc.at ac (.inRegion ops (q :: rest) :: k) :: cs)) (fun r => G (bc.at (ac.put oc.dst r) (.inRegion ops rest :: k)) cs) → ∀ code, Try.f57.body = some code →
      GoesI Try.prog main (DT (ScZ z) Ch) Stop (G ((base 57).at { tmps := #[Pt cb 0, Pt tb 0, .agg #[I po, I ca, I n, I cc]] ++ Array.replicate 57 undef, defers := [] } [.code code]) (bd.at ad (.inRegion od (qd :: rd) :: kd) :: bc.at ac (.inRegion ops (q :: rest) :: k) :: cs)) w') (code : Code) (hc : Try.f55.body = some code) :
    GoesI Try.prog main (DT (ScZ z) Ch) Stop (G ((base 55).at { tmps := #[Pt tb 0, .agg #[I po, I ca, I n, I cc], Pt xb 0] ++ Array.replicate 14 undef, defers := [] } [.code code]) (bc.at ac (.inRegion ops (q :: rest) :: k) :: cs)) w := by
  have hw0 : code = .seq play0 (seq2 (Try.f55.body.getD .skip)) := by
    rw [hc]; obtain rfl := Option.some.inj hc; rfl
  subst hw0
  clear hc
  refine goesI_seq (dt_idle _ _) ?_
  refine goesI_plain (z := z) (wr := true) (L := LT) (I := NoRow Ch) hE fineT noRow_keeps (fun v v' w w' es hi hr ho he => dt_of_z v v' w w' es hi hr ho he) hvw finePlay0 rfl (by simp [base]) hn
    (Q := fun a w' => a = { tmps := #[Pt tb 0, .agg #[I po, I ca, I n, I cc], Pt xb 0, undef, Pt v.heap.size 0, Pt (v.heap.size + 1) 0] ++ Array.replicate 11 undef, defers := [] } ∧
      w'.heap = (v.heap.push (.cells #[I po, I ca, I n, I cc] 39)).push (.cells #[I 0, I 0] 42) ∧ w'.os = v.os ∧ w'.output = v.output) (fun τ => ?_) ?_
  · show Code.wp Try.prog (seq1 (Try.f55.body.getD .skip)) _ _ _
    unfold Try.f55 seq1
    simp only [Option.getD_some, Array.replicate_succ, Array.replicate_zero, List.push_toArray, List.append_toArray, List.nil_append, List.cons_append]
    go_wp2_with fail
    exact ⟨rfl, rfl, rfl, rfl⟩
  rintro a' v' w' ⟨rfl, hv1, hv2, hv3⟩ hr' hn' -
  have hsz : v'.heap.size = v.heap.size + 2 := by rw [hv1]; simp
  have hg : Grows v v' := ⟨by omega, fun b hb => by rw [hv1, Array.getElem?_push, if_neg (by simp; omega), Array.getElem?_push, if_neg (by omega)], hv2, hv3⟩
  have hbox : v'.heap[v.heap.size]? = some (.cells #[I po, I ca, I n, I cc] 39) := by rw [hv1, Array.getElem?_push, if_neg (by simp)]; exact Array.getElem?_push_size
  have hans : v'.heap[v.heap.size + 1]? = some (.cells #[I 0, I 0] 42) := by rw [hv1, Array.getElem?_push, if_pos (by simp)]
  have b0 : v'.cell? ⟨v.heap.size, 0, none⟩ = some (I po) := by simp [World.cell?, hbox]
  have b1 : v'.cell? ⟨v.heap.size, 1, none⟩ = some (I ca) := by simp [World.cell?, hbox]
  have b2 : v'.cell? ⟨v.heap.size, 2, none⟩ = some (I n) := by simp [World.cell?, hbox]
  have b3 : v'.cell? ⟨v.heap.size, 3, none⟩ = some (I cc) := by simp [World.cell?, hbox]
  have x0 := hg.cell hx0
  have x1 := hg.cell hx1
  have hj : which ca K.length < K.length := which_lt ca hKl.1
  simp only [Array.replicate_succ, Array.replicate_zero, List.push_toArray, List.append_toArray, List.nil_append, List.cons_append]
  have hs2 : seq2 (Try.f55.body.getD .skip) = .seq (.region 1 ops21 true) .ret := rfl
  rw [hs2]
  refine goesI_seq (dt_idle _ _) ?_
  refine goesI_region_quiet (n := 10) (val := val21 (.slice (some ⟨rb, 0, none⟩) K.length cap) (.agg #[I po, I ca, I n, I cc]) v.heap.size rb (which ca K.length) cb tb K.length ca) (J := fun w => Rel z v' w) mix21 (fun w d hJ => hJ.re rfl rfl rfl rfl rfl rfl) (fun w => dt_draw _ _ w) lead21 text21 (on := ops21[10]'(by decide)) rfl ?_ ?_ ?_
    { tmps := #[Pt tb 0, .agg #[I po, I ca, I n, I cc], Pt xb 0, undef, Pt v.heap.size 0, Pt (v.heap.size + 1) 0, .slice (some ⟨rb, 0, none⟩) K.length cap, Pt v.heap.size 1, I ca, .slice (some ⟨rb, 0, none⟩) K.length cap, I K.length, I (which ca K.length), Pt rb (which ca K.length), Pt cb 0, Pt tb 0, .agg #[I po, I ca, I n, I cc], undef], defers := [] } ?_ ?_ hr'
  · intro i1 j1 oi oj t1 h1 h2 h3 h4 h5 h6
    rw [dst21 i1 h1 oi h3] at h5
    rw [dst21 j1 h2 oj h4] at h6
    have := Option.some.inj (h5.trans h6.symm)
    omega
  · intro i1 o1 t1 h1 h2 h3
    rw [dst21 i1 h1 o1 h2] at h3
    have := Option.some.inj h3
    subst this
    show (6 + i1 : Nat) < 17
    omega
  · intro i' o rest' listed a w1 hi ho hdep hagr hJ hgo
    have ev : ∀ j, j < 10 → listed.getD j false = true → a.eval (.tmp (6 + j)) = val21 (.slice (some ⟨rb, 0, none⟩) K.length cap) (.agg #[I po, I ca, I n, I cc]) v.heap.size rb (which ca K.length) cb tb K.length ca j := fun j hj hl =>
      hagr.eval hj (o := ops21[j]'(by have : ops21.size = 12 := rfl; omega)) (Array.getElem?_eq_getElem _) hl (dst21 j hj _ (Array.getElem?_eq_getElem _))
    have ev0 : ∀ t' : Nat, t' < 6 → a.eval (.tmp t') = _ := fun t' ht' => hagr.eval0 (t := t') (fun j o hj ho e => by
      rw [dst21 j hj o ho] at e
      have : (6 + j : Nat) = t' := Option.some.inj e
      omega)
    have e0 : a.eval (.tmp 0) = Pt tb 0 := ev0 0 (by omega)
    have e2 : a.eval (.tmp 2) = Pt xb 0 := ev0 2 (by omega)
    have e4 : a.eval (.tmp 4) = Pt v.heap.size 0 := ev0 4 (by omega)
    have hw : Region.wanted o (yielded ops21 a.tmps) = true := by simp [Region.wanted, guard21 i' (by omega) o ho]
    by_cases h5 : i' = 5
    · subst h5
      have hop := op21 (p := .call { callee := .value (.func 56), args := #[.tmp 8, .tmp 10], argTypes := #[3, 3] }) rfl ho
      have l2 := ev 2 (by omega) (after21 (by kernel_rfl) ho hdep)
      have l4 := ev 4 (by omega) (after21 (by kernel_rfl) ho hdep)
      refine goesI_call (f := 56) (fn := Try.f56) (args := #[I ca, I K.length]) hE fineT ho hw (by simp [base]) hop (by simp only [List.map_toArray, List.map_cons, List.map_nil]; rw [l2, l4]; rfl) Try.func56 (by kernel_rfl) rfl (fineFn_body fineT (by simp [LT, plainFs]) Try.func56 rfl) (fun tmps => ⟨_, fun w => results_tmp rfl _ _ _, fun w => by simp [results, go_sem]⟩) hJ hn'
        (R := fun r u => r = I (which ca K.length) ∧ u.heap = v'.heap ∧ u.os = v'.os ∧ u.output = v'.output) (fun τ => ?_) (fun r u w2 hR hr2 _ => ?_)
      · exact wp_mono (body22 ca K.length hKl.1 hKl.2 hca (onTape v' τ 0) _ rfl) (bp_mono fun r u hq => ⟨hq.1, by rw [hq.2]; rfl, by rw [hq.2]; rfl, by rw [hq.2]; rfl⟩)
      · obtain ⟨rfl, q1, q2, q3⟩ := hR
        exact hgo w2 (hr2.re q1.symm rfl q2.symm rfl q3.symm rfl)
    · have hrun : (execOp a.eval o).run Try.prog v' = .ok (.value (val21 (.slice (some ⟨rb, 0, none⟩) K.length cap) (.agg #[I po, I ca, I n, I cc]) v.heap.size rb (which ca K.length) cb tb K.length ca i')) v' := by
        have hjl : ((which ca K.length : Nat) : Int) < (K.length : Int) := by omega
        match i', hi, h5, ho with
        | 0, _, _, ho => have hop := op21 (p := .load 85 (.tmp 2)) rfl ho; unfold execOp; rw [hop]; simp only [e2]; simp [go_sem, x0, val21]
        | 1, _, _, ho => have hop := op21 (p := .fieldAddr 39 (.tmp 4) 1) rfl ho; unfold execOp; rw [hop]; simp only [e4]; simp [go_sem, val21]
        | 2, _, _, ho => have hop := op21 (p := .load 3 (.tmp 7)) rfl ho; have l : a.eval (.tmp 7) = Pt v.heap.size 1 := ev 1 (by omega) (after21 (by kernel_rfl) ho hdep); unfold execOp; rw [hop]; simp only [l]; simp [go_sem, b1, val21]
        | 3, _, _, ho => have hop := op21 (p := .load 85 (.tmp 2)) rfl ho; unfold execOp; rw [hop]; simp only [e2]; simp [go_sem, x0, val21]
        | 4, _, _, ho => have hop := op21 (p := .call { callee := .builtin .len, args := #[.tmp 9], argTypes := #[85] }) rfl ho; have l : a.eval (.tmp 9) = .slice (some ⟨rb, 0, none⟩) K.length cap := ev 3 (by omega) (after21 (by kernel_rfl) ho hdep); unfold execOp; rw [hop]; simp only [resolve, List.map_toArray, List.map_cons, List.map_nil, l]; simp [go_sem, val21]
        | 5, _, h5, _ => exact absurd rfl h5
        | 6, _, _, ho => have hop := op21 (p := .indexAddr 85 (.tmp 6) (.tmp 11)) rfl ho; have l : a.eval (.tmp 6) = .slice (some ⟨rb, 0, none⟩) K.length cap := ev 0 (by omega) (after21 (by kernel_rfl) ho hdep); have l' : a.eval (.tmp 11) = I (which ca K.length) := ev 5 (by omega) (after21 (by kernel_rfl) ho hdep); unfold execOp; rw [hop]; simp only [l, l']; simp [go_sem, val21, hjl]
        | 7, _, _, ho => have hop := op21 (p := .load 44 (.tmp 12)) rfl ho; have l : a.eval (.tmp 12) = Pt rb (which ca K.length) := ev 6 (by omega) (after21 (by kernel_rfl) ho hdep); unfold execOp; rw [hop]; simp only [l]; simp [go_sem, x1, val21]
        | 8, _, _, ho => have hop := op21 (p := .move (.tmp 0)) rfl ho; unfold execOp; rw [hop]; simp only [e0]; simp [go_sem, val21]
        | 9, _, _, ho => have hop := op21 (p := .load 39 (.tmp 4)) rfl ho; unfold execOp; rw [hop]; simp only [e4]; simp [go_sem, b0, b1, b2, b3, val21]
      exact goesI_opZ ho hw (by simp [base]) (fineOps21 i' hi o ho) hJ hn' hrun rfl (fun w2 hr2 _ => hgo w2 hr2)
  · refine ⟨rfl, rfl, fun j o t' hj ho _ hd => ?_, fun t' hne => ?_⟩
    · rw [dst21 j hj o ho] at hd
      have : (6 + j : Nat) = t' := Option.some.inj hd
      subst this
      match j, hj with
      | 0, _ => rfl
      | 1, _ => rfl
      | 2, _ => rfl
      | 3, _ => rfl
      | 4, _ => rfl
      | 5, _ => rfl
      | 6, _ => rfl
      | 7, _ => rfl
      | 8, _ => rfl
      | 9, _ => rfl
    · have hcase : ∀ m : Nat, m < 10 → t' ≠ 6 + m := fun m hm e => by
        have hs : m < ops21.size := by have : ops21.size = 12 := rfl; omega
        refine hne m (ops21[m]'hs) hm (Array.getElem?_eq_getElem hs) ?_ ((dst21 m hm _ (Array.getElem?_eq_getElem hs)).trans (by rw [e]))
        rw [Array.getD_eq_getD_getElem?, listedN_get hs]
        simp [hm]
      match t', hcase with
      | 0, _ => rfl
      | 1, _ => rfl
      | 2, _ => rfl
      | 3, _ => rfl
      | 4, _ => rfl
      | 5, _ => rfl
      | 6, h => exact absurd rfl (h 0 (by omega))
      | 7, h => exact absurd rfl (h 1 (by omega))
      | 8, h => exact absurd rfl (h 2 (by omega))
      | 9, h => exact absurd rfl (h 3 (by omega))
      | 10, h => exact absurd rfl (h 4 (by omega))
      | 11, h => exact absurd rfl (h 5 (by omega))
      | 12, h => exact absurd rfl (h 6 (by omega))
      | 13, h => exact absurd rfl (h 7 (by omega))
      | 14, h => exact absurd rfl (h 8 (by omega))
      | 15, h => exact absurd rfl (h 9 (by omega))
      | 16, _ => rfl
      | m + 17, _ => rfl
  · intro tt w1 hJ
    rw [rest21]
    refine goesI_into (f := 57) (fn := Try.f57) (args := #[Pt cb 0, Pt tb 0, .agg #[I po, I ca, I n, I cc]]) (dt_idle _ _) (o := ops21[10]'(by decide)) rfl rfl (by decide) rfl (by simp [Act.eval]) Try.func57 (by decide) rfl ?_
    refine hstop v' w1 _ _ _ _ _ _ _ hJ hn' hg hans hsz rfl ?_ _ rfl
    · intro z1 Ch1 St w2 v2 S1 K1 e x r2 n2 m2 hpb2 hown2 hk
      have q0 : v2.cell? ⟨v.heap.size + 1, 0, none⟩ = some (I 0) := by simp [World.cell?, hpb2]
      have q1 : v2.cell? ⟨v.heap.size + 1, 1, none⟩ = some (I 0) := by simp [World.cell?, hpb2]
      have p0 : v2.frozen? ⟨v.heap.size + 1, 0, none⟩ = false := by simp [World.frozen?, hpb2]
      have p1 : v2.frozen? ⟨v.heap.size + 1, 1, none⟩ = false := by simp [World.frozen?, hpb2]
      have e3 := m2.other (v' := (v2.setCell ⟨v.heap.size + 1, 0, none⟩ (I e)).setCell ⟨v.heap.size + 1, 1, none⟩ (I x)) hown2 (fun b hb => by rw [Below.heap_setCell _ _ _ _ hb, Below.heap_setCell _ _ _ _ hb]) (by simp [World.setCell]) rfl rfl
      have hrow : ((v2.setCell ⟨v.heap.size + 1, 0, none⟩ (I e)).setCell ⟨v.heap.size + 1, 1, none⟩ (I x)).heap[v.heap.size + 1]? = some (.cells #[I e, I x] 42 (0, 0)) := by
        have := heap_setCell_same (o := 1) (heap_setCell_same (o := 0) hpb2 (I e)) (I x)
        simpa using this
      refine goesI_doZ (L := LT) (o := ops21[11]'(by decide)) rfl rfl (by decide) (fineOp_ask callT extT (by kernel_rfl)) r2 n2 (v' := (v2.setCell ⟨v.heap.size + 1, 0, none⟩ (I e)).setCell ⟨v.heap.size + 1, 1, none⟩ (I x)) ?_ rfl (fun w3 r3 n3 => ?_)
      · have hop : (ops21[11]'(by decide)).op = .store 42 (.tmp 5) (.tmp 16) := rfl
        have hd : (ops21[10]'(by decide)).dst = some 16 := rfl
        unfold execOp
        rw [hop, hd]
        simp [go_sem, Act.eval, Act.put, q0, q1, p0, p1]
      · refine goesI_regionEnd (dt_idle _ _) ?_
        refine GoesI.ctl rfl (fun _ => stepG_ret') (dt_idle _ _) ?_
        refine goesI_leaveZ (f := 55) (fn := Try.f55) (x := .agg #[I e, I x]) r3 n3 Try.func55 rfl hoc ?_ (fun w' r' => hk _ w' r' n3 e3)
        generalize ((v2.setCell ⟨v.heap.size + 1, 0, none⟩ (I e)).setCell ⟨v.heap.size + 1, 1, none⟩ (I x)) = V at hrow
        have k0 : V.cell? ⟨v.heap.size + 1, 0, none⟩ = some (I e) := by simp [World.cell?, hrow]
        have k1 : V.cell? ⟨v.heap.size + 1, 1, none⟩ = some (I x) := by simp [World.cell?, hrow]
        have hd : (ops21[10]'(by decide)).dst = some 16 := rfl
        have hd' : (ops21[11]'(by decide)).dst = none := rfl
        rw [hd, hd']
        simp [results, go_sem, Try.f55, Act.put, k0, k1]
end Go.Proofs.Ytfjjoohflcchnaa

namespace Go.Proofs.Ytfjjoohflcchnaa
open Go Go.Lift Go.Conc Go.RowKit

def effStore (y x : Int) : (Int × Int) × Int × Value := ((x, y), y, .tuple #[])
noncomputable def rest12 : Code := seq2 (Try.f23.body.getD .skip)
theorem fine12 : fineCode Try.prog true LT rest12 := fineCode_ask callT extT (by kernel_rfl)

set_option maxHeartbeats 1000000 in
set_option maxRecDepth 100000 in
theorem tail12 {z : Nat → Option Nat} {S : TS} {K : List (Nat × Int)} {v : World} {i j cb : Nat} {t : Thr} {x : Int} {y : Int} (hm : Mem z S K v) (ht : S.thr[i]? = some t) (hK : K[j]? = some (cb, x)) (hn : (S.n + 1) * 40 ≤ 140737488355328) (a7 a8 a9 a10 a11 a12 : Value) :
    rest12.wp Try.prog (bodyPost Try.prog Try.f23 (fun e w' => ∃ r, e = .returned r ∧ (r = (effStore y x).2.2 ∧ ∃ tv, Evo z S K v (didS S tv i t (effStore y x).1.1 (effStore y x).1.2) (K.set j (cb, (effStore y x).2.1)) w')))
      { tmps := #[Pt cb 0, Pt t.tb 0, I y, undef, undef, undef, undef, a7, a8, a9, a10, a11, a12, undef, undef, undef, undef, undef, undef, undef, undef, undef], defers := [] } v := by
  obtain ⟨_, c1, f1⟩ := hm.cells hK
  have HM : Hid (Mem z S K v) := ⟨hm⟩
  have HW : Hid (Evo z S K v S (K.set j (cb, y)) (v.setCell ⟨cb, 1, none⟩ (I y))) := ⟨Evo.write hm hK _⟩
  clear hm hK
  simp only at c1 f1
  show Code.wp Try.prog (seq2 (Try.f23.body.getD .skip)) _ _ _
  unfold Try.f23 seq2
  simp only [Option.getD_some]
  go_wp2_with (first
    | (go_at_call 59; refine ((body25 cb x y _ c1 f1).calls Try.func59 rfl).mono ?_; rintro e w1 ⟨_, rfl, rfl, rfl⟩)
    | (go_at_call 61; refine ((body27 HW.out.mem.rep ht x y hn).calls Try.func61 rfl).mono ?_; rintro e w2 ⟨_, rfl, rfl, tv, hev⟩))
  exact ⟨rfl, _, results_none rfl _ _ _, _, rfl, rfl, tv, HW.out.did hev⟩

theorem res12 (tmps : Array Value) : ∃ v, (∀ w, (results Try.f23 tmps).run Try.prog w = .ok v w) ∧ ∀ w, (results Try.f23 tmps).events Try.prog w #[] = #[] :=
  ⟨_, fun _ => results_none rfl _ _ _, fun _ => by simp [results, go_sem]⟩

set_option maxHeartbeats 1000000 in
set_option maxRecDepth 100000 in
theorem store_goes {z : Nat → Option Nat} {Ch : Nat → Prop} {Stop : Goroutine → World → Prop} {h : Nat} {cont : Addr → Value} {S : TS} {K : List (Nat × Int)} {v w : World} {i j cb : Nat} {t : Thr} (y : Int) (x : Int) (cs : List Frame) (Hm : Goroutine → Prop) {bc : Frame} {ac : Act} {ops : Array Oper} {q : Nat} {rest : List Nat} {oc : Oper} {k : List Item} (hoc : ops[q]? = some oc)
    (hH : ∀ g, OpBack (h == 0) i j cb t.tb 2 (effStore y) (fun r => G (bc.at (ac.put oc.dst r) (.inRegion ops rest :: k)) cs) g → Hm g)
    (hvw : Rel z v w) (hn : NoRow Ch v) (hm : Mem z S K v) (ht : S.thr[i]? = some t) (hK : K[j]? = some (cb, x)) (hz : z t.tb = some 2) (hcont : cont ⟨t.tb, 2, none⟩ = .chan (some t.gc))
    (hstop : ∀ g w', GiveT z cont h S.bk t.gc Hm (Then z Ch S K v (waiting S i t 1 2 j) K) g w' → Stop g w') (code : Code) (hc : Try.f23.body = some code) :
    GoesI Try.prog (h == 0) (DT (ScZ z) Ch) Stop (G ((base 23).at { tmps := #[Pt cb 0, Pt t.tb 0, I y] ++ Array.replicate 19 undef, defers := [] } [.code code]) (bc.at ac (.inRegion ops (q :: rest) :: k) :: cs)) w := by
  obtain rfl := Option.some.inj hc
  clear hc
  have e0 : w.cell? ⟨cb, 0, none⟩ = some (I j) := by rw [hvw.cell?]; exact (hm.cells hK).1
  simp only [Array.replicate_succ, Array.replicate_zero, List.push_toArray, List.append_toArray, List.nil_append, List.cons_append]
  have HM : Hid (Mem z S K v) := ⟨hm⟩
  clear hm
  refine goesI_seq (dt_idle _ _) ?_
  refine goesI_region (dt_idle _ _) ?_
  simp only [List.size_toArray, List.length_cons, List.length_nil, Nat.reduceAdd, Nat.zero_add, List.range, List.range.loop]
  iterate 5
    (refine goesI_oper rfl rfl (by decide) (fun d K hK => ?_)
     go_simp
     refine hK _ _ ⟨dt_reads (fun e he => ?_), GoesI.at ?_ d⟩
     · have hm := mem_listed he
       simp [go_sem, *] at hm
       try exact ⟨_, _, hm⟩
     clear hK K)
  refine goesI_into (f := 60) (fn := Try.f60) (args := #[Pt t.tb 0, I j, I 2]) (dt_idle _ _) rfl rfl (by decide) rfl (by simp [Act.eval]) Try.func60 (by decide) rfl ?_
  refine turn_mem 2 j _ Hm rfl (fun g hg => hH g ?_) hvw hn HM.out ht hz hcont hstop _ rfl
  intro z1 Ch1 St yy w1 v1 S1 K1 t1 x1 r1 n1 m1 h1 htb hop hce hK1 hn1 hk
  refine hg _ St yy w1 (dt_idle _ _) ?_
  refine goesI_regionEnd (dt_idle _ _) ?_
  rw [← htb]
  refine goesI_rest (f := 23) (fn := Try.f23) (c := rest12) hE fineT r1 n1 Try.func23 fine12 rfl hoc res12 (fun τ => ?_) (fun r v' w' hR hr' hn' => ?_) (R := fun r w' => r = (effStore y x1).2.2 ∧ ∃ tv, Evo z1 S1 K1 v1 (didS S1 tv i t1 (effStore y x1).1.1 (effStore y x1).1.2) (K1.set j (cb, (effStore y x1).2.1)) w')
  · refine wp_mono (tail12 (m1.same (v' := onTape v1 τ 0) rfl) h1 hK1 hn1 _ _ _ _ _ _) (bp_mono fun r u hq => ⟨hq.1, hq.2.choose, hq.2.choose_spec.base rfl rfl rfl⟩)
  · obtain ⟨rfl, tv, he⟩ := hR
    exact hk v' w' tv hr' hn' he
end Go.Proofs.Ytfjjoohflcchnaa

namespace Go.Proofs.Ytfjjoohflcchnaa
open Go Go.Lift Go.Conc Go.RowKit

def effSwap (y x : Int) : (Int × Int) × Int × Value := ((x, y), y, I x)
noncomputable def rest13 : Code := seq2 (seq2 (Try.f24.body.getD .skip))
theorem fine13 : fineCode Try.prog true LT rest13 := fineCode_ask callT extT (by kernel_rfl)

set_option maxHeartbeats 1000000 in
set_option maxRecDepth 100000 in
theorem tail13 {z : Nat → Option Nat} {S : TS} {K : List (Nat × Int)} {v : World} {i j cb : Nat} {t : Thr} {x : Int} {y : Int} (hm : Mem z S K v) (ht : S.thr[i]? = some t) (hK : K[j]? = some (cb, x)) (hn : (S.n + 1) * 40 ≤ 140737488355328) (a8 a9 a10 a11 a12 a13 : Value) :
    rest13.wp Try.prog (bodyPost Try.prog Try.f24 (fun e w' => ∃ r, e = .returned r ∧ (r = (effSwap y x).2.2 ∧ ∃ tv, Evo z S K v (didS S tv i t (effSwap y x).1.1 (effSwap y x).1.2) (K.set j (cb, (effSwap y x).2.1)) w')))
      { tmps := #[Pt cb 0, Pt t.tb 0, I y, undef, undef, undef, I 0, undef, a8, a9, a10, a11, a12, a13, undef, undef, undef, undef, undef, undef, undef, undef, undef, undef], defers := [] } v := by
  obtain ⟨_, c1, f1⟩ := hm.cells hK
  have HM : Hid (Mem z S K v) := ⟨hm⟩
  have HW : Hid (Evo z S K v S (K.set j (cb, y)) (v.setCell ⟨cb, 1, none⟩ (I y))) := ⟨Evo.write hm hK _⟩
  clear hm hK
  simp only at c1 f1
  show Code.wp Try.prog (seq2 (seq2 (Try.f24.body.getD .skip))) _ _ _
  unfold Try.f24 seq2
  simp only [Option.getD_some]
  go_wp2_with (first
    | (go_at_call 59; refine ((body25 cb x y _ c1 f1).calls Try.func59 rfl).mono ?_; rintro e w1 ⟨_, rfl, rfl, rfl⟩)
    | (go_at_call 61; refine ((body27 HW.out.mem.rep ht x y hn).calls Try.func61 rfl).mono ?_; rintro e w2 ⟨_, rfl, rfl, tv, hev⟩))
  go_ret
  exact ⟨_, rfl, rfl, tv, HW.out.did hev⟩

theorem res13 (tmps : Array Value) : ∃ v, (∀ w, (results Try.f24 tmps).run Try.prog w = .ok v w) ∧ ∀ w, (results Try.f24 tmps).events Try.prog w #[] = #[] :=
  ⟨_, fun _ => results_tmp rfl _ _ _, fun _ => by simp [results, go_sem]⟩

set_option maxHeartbeats 1000000 in
set_option maxRecDepth 100000 in
theorem swap_goes {z : Nat → Option Nat} {Ch : Nat → Prop} {Stop : Goroutine → World → Prop} {h : Nat} {cont : Addr → Value} {S : TS} {K : List (Nat × Int)} {v w : World} {i j cb : Nat} {t : Thr} (y : Int) (x : Int) (cs : List Frame) (Hm : Goroutine → Prop) {bc : Frame} {ac : Act} {ops : Array Oper} {q : Nat} {rest : List Nat} {oc : Oper} {k : List Item} (hoc : ops[q]? = some oc)
    (hH : ∀ g, OpBack (h == 0) i j cb t.tb 3 (effSwap y) (fun r => G (bc.at (ac.put oc.dst r) (.inRegion ops rest :: k)) cs) g → Hm g)
    (hvw : Rel z v w) (hn : NoRow Ch v) (hm : Mem z S K v) (ht : S.thr[i]? = some t) (hK : K[j]? = some (cb, x)) (hz : z t.tb = some 2) (hcont : cont ⟨t.tb, 2, none⟩ = .chan (some t.gc))
    (hstop : ∀ g w', GiveT z cont h S.bk t.gc Hm (Then z Ch S K v (waiting S i t 1 3 j) K) g w' → Stop g w') (code : Code) (hc : Try.f24.body = some code) :
    GoesI Try.prog (h == 0) (DT (ScZ z) Ch) Stop (G ((base 24).at { tmps := #[Pt cb 0, Pt t.tb 0, I y] ++ Array.replicate 21 undef, defers := [] } [.code code]) (bc.at ac (.inRegion ops (q :: rest) :: k) :: cs)) w := by
  obtain rfl := Option.some.inj hc
  clear hc
  have e0 : w.cell? ⟨cb, 0, none⟩ = some (I j) := by rw [hvw.cell?]; exact (hm.cells hK).1
  simp only [Array.replicate_succ, Array.replicate_zero, List.push_toArray, List.append_toArray, List.nil_append, List.cons_append]
  have HM : Hid (Mem z S K v) := ⟨hm⟩
  clear hm
  refine goesI_seq (dt_idle _ _) ?_
  refine goesI_region (dt_idle _ _) ?_
  simp only [List.size_toArray, List.length_cons, List.length_nil, Nat.reduceAdd, Nat.zero_add, List.range, List.range.loop]
  (refine goesI_oper rfl rfl (by decide) (fun d K hK => ?_)
   go_simp
   refine hK _ _ ⟨dt_reads (fun e he => ?_), GoesI.at ?_ d⟩
   · have hm := mem_listed he
     simp [go_sem, *] at hm
   clear hK K)
  refine goesI_regionEnd (dt_idle _ _) ?_
  refine goesI_seq (dt_idle _ _) ?_
  refine goesI_region (dt_idle _ _) ?_
  simp only [List.size_toArray, List.length_cons, List.length_nil, Nat.reduceAdd, Nat.zero_add, List.range, List.range.loop]
  iterate 5
    (refine goesI_oper rfl rfl (by decide) (fun d K hK => ?_)
     go_simp
     refine hK _ _ ⟨dt_reads (fun e he => ?_), GoesI.at ?_ d⟩
     · have hm := mem_listed he
       simp [go_sem, *] at hm
       try exact ⟨_, _, hm⟩
     clear hK K)
  refine goesI_into (f := 60) (fn := Try.f60) (args := #[Pt t.tb 0, I j, I 3]) (dt_idle _ _) rfl rfl (by decide) rfl (by simp [Act.eval]) Try.func60 (by decide) rfl ?_
  refine turn_mem 3 j _ Hm rfl (fun g hg => hH g ?_) hvw hn HM.out ht hz hcont hstop _ rfl
  intro z1 Ch1 St yy w1 v1 S1 K1 t1 x1 r1 n1 m1 h1 htb hop hce hK1 hn1 hk
  refine hg _ St yy w1 (dt_idle _ _) ?_
  refine goesI_regionEnd (dt_idle _ _) ?_
  rw [← htb]
  refine goesI_rest (f := 24) (fn := Try.f24) (c := rest13) hE fineT r1 n1 Try.func24 fine13 rfl hoc res13 (fun τ => ?_) (fun r v' w' hR hr' hn' => ?_) (R := fun r w' => r = (effSwap y x1).2.2 ∧ ∃ tv, Evo z1 S1 K1 v1 (didS S1 tv i t1 (effSwap y x1).1.1 (effSwap y x1).1.2) (K1.set j (cb, (effSwap y x1).2.1)) w')
  · refine wp_mono (tail13 (m1.same (v' := onTape v1 τ 0) rfl) h1 hK1 hn1 _ _ _ _ _ _) (bp_mono fun r u hq => ⟨hq.1, hq.2.choose, hq.2.choose_spec.base rfl rfl rfl⟩)
  · obtain ⟨rfl, tv, he⟩ := hR
    exact hk v' w' tv hr' hn' he
end Go.Proofs.Ytfjjoohflcchnaa
