/- ChainTrue: who is told of a ring lies on one; no call takes longer than it may; whatever the schedule, the number of keys and the scripts. Part 31 of 36. (Joined, by program, of: ChC, ChPk.) -/
import Derived.Test.YtfjjoohflcchnaaChainTrue12
import Derived.Test.YtfjjoohflcchnaaChainTrue14
import Derived.Test.YtfjjoohflcchnaaChainTrue25
import Derived.Test.YtfjjoohflcchnaaChainTrue29
import Derived.Test.YtfjjoohflcchnaaChainTrue30
set_option linter.unusedSimpArgs false
set_option linter.unusedVariables false
namespace Go.Proofs.Ytfjjoohflcchnaa.Gen
open Go Go.Lift Go.Conc Go.RowKit

/-- What was called has answered r: the call lays its answer f r in memory of its own (pb), and comes back with it. -/
def CBack {α : Type} (main : Bool) (pb : Nat) (enc : α → Value) (f : α → Int × Int) (cu : Value → Goroutine) (cl : Value → Goroutine) : Prop :=
  ∀ (z : Nat → Option Nat) (Ch : Nat → Prop) (Stop : Goroutine → World → Prop) (w v : World) (S : TS) (K : List (Nat × Int)) (x : α), Rel z v w → NoRow Ch v → Mem z S K v → v.heap[pb]? = some (.cells #[I 0, I 0] 42 (0, 0)) → ¬ Own S K pb →
    (∀ v' w', Rel z v' w' → NoRow Ch v' → EvoP (· = pb) z S K v S K v' → GoesI Try.prog main (DT (ScZ z) Ch) Stop (cl (.agg #[I (f x).1, I (f x).2])) w') →
    GoesI Try.prog main (DT (ScZ z) Ch) Stop (cu (enc x)) w
noncomputable def hcB : Code := Try.f81.body.getD .skip
noncomputable def hc0 : Code := seq1 hcB
theorem fine_hc0 : fineCode Try.prog true LT hc0 := fineCode_ask callT extT (by kernel_rfl)
noncomputable def hcO4 : Array Oper := opsOf (seq1 (seq2 (seq1 (seq2 (seq2 hcB)))))
/-- What its fourth statement computes ahead of Ask. -/
def val16 (c tb N n : Nat) (ca cb : Int) : Nat → Value
  | 0 => Pt c 0
  | 1 => Pt tb 0
  | 2 => Pt N 1
  | 3 => I ca
  | 4 => I n
  | 5 => I (which ca n)
  | 6 => Pt N 2
  | 7 => I cb
  | 8 => I n
  | 9 => I (which cb n)
  | _ => undef
theorem lead16 : leadsOn .any hcO4 10 = true := by kernel_rfl
theorem text16 : inText .any hcO4 10 = true := by kernel_rfl
theorem fineOps16 (i : Nat) (hi : i < 10) (o : Oper) (ho : hcO4[i]? = some o) : fineOp Try.prog true LT o := by
  have h : ((hcO4.extract 0 10).all fun o => plainOp Try.prog true o.op || askCall plainFs plainXs o.op) = true := by kernel_rfl
  refine fineOp_ask callT extT ((Array.all_eq_true_iff_forall_mem.1 h) o ?_)
  have : (hcO4.extract 0 10)[i]? = some o := by
    have hs := (Array.getElem?_eq_some_iff.1 ho).1
    rw [Array.getElem?_extract, if_pos (by omega)]
    simpa using ho
  exact Array.mem_of_getElem? this
theorem rest16 (t : Nat) : Region.linearise.go .any hcO4 (hcO4.size - 10) t (listedN hcO4.size 10) [] = [10] := by
  have e1 : ((List.range hcO4.size).filter fun i => !(listedN hcO4.size 10).getD i true && ((hcO4[i]?).map (·.after.all fun e => !Region.binds .any e || (listedN hcO4.size 10).getD e.on false)).getD false) = [10] := by kernel_rfl
  have e0 : hcO4.size - 10 = 1 := by kernel_rfl
  rw [e0]
  unfold Region.linearise.go
  simp only [e1, List.length_cons, List.length_nil, Nat.zero_add, Nat.mod_one, List.getElem?_cons_zero]
  rfl
theorem dst16 (i : Nat) (hi : i < 10) (o : Oper) (ho : hcO4[i]? = some o) : o.dst = some (17 + i) := by
  have h : ((List.range 10).all fun i => (hcO4[i]?).map (·.dst) == some (some (17 + i))) = true := by kernel_rfl
  have := (List.all_eq_true.1 h) i (by simpa using hi)
  rw [ho] at this
  simpa using this
theorem guard16 (i : Nat) (hi : i < 11) (o : Oper) (ho : hcO4[i]? = some o) : o.guard = none := by
  have h : ((List.range 11).all fun i => ((hcO4[i]?).map (·.guard.isNone)) == some true) = true := by kernel_rfl
  have := (List.all_eq_true.1 h) i (by simpa using hi)
  rw [ho] at this
  simpa using this
theorem op16 {i : Nat} {o : Oper} {p : Op} (h : (hcO4[i]?).map (·.op) = some p) (ho : hcO4[i]? = some o) : o.op = p := by
  rw [ho] at h
  exact Option.some.inj h
theorem after16 {i j : Nat} {o : Oper} (h : ((hcO4[i]?).map (fun o => o.after.toList.any fun e => e.on == j && Region.binds .any e)) = some true) (ho : hcO4[i]? = some o) {l : Array Bool} (hd : ∀ e ∈ o.after.toList, Region.binds .any e = true → l.getD e.on false = true) : l.getD j false = true := by
  rw [ho] at h
  simp only [Option.map_some, Option.some.injEq, List.any_eq_true, Bool.and_eq_true, beq_iff_eq] at h
  obtain ⟨e, he, h1, h2⟩ := h
  rw [← h1]
  exact hd e he h2
set_option maxHeartbeats 2000000 in
set_option maxRecDepth 100000 in
/-- The call is Ask. -/
theorem call_ask {z : Nat → Option Nat} {Ch : Nat → Prop} {Stop : Goroutine → World → Prop} {main : Bool} {v w : World} {c tb sb n : Nat} (ca cb cc : Int) (hn0 : 0 < n) (hn1 : n ≤ 100) (h0 : v.cell? ⟨c, 0, none⟩ = some (.slice (some ⟨sb, 0, none⟩) n n)) (cs : List Frame) {bc : Frame} {ac : Act} {ops : Array Oper} {q : Nat} {rest : List Nat} {oc : Oper} {k0 : List Item} (hoc : ops[q]? = some oc)
    (hvw : Rel z v w) (hn : NoRow Ch v)
    (hstop : ∀ v' w' (bd : Frame) (ad : Act) (od : Array Oper) (qd : Nat) (rd : List Nat) (oe : Oper) (kd : List Item), Rel z v' w' → NoRow Ch v' → Grows v v' → v'.heap[v.heap.size + 1]? = some (.cells #[I 0, I 0] 42 (0, 0)) → od[qd]? = some oe →
      CBack main (v.heap.size + 1) (fun b : Bool => .bool b) (fun b => (0, if b then 1 else 0)) (fun r => G (bd.at (ad.put oe.dst r) (.inRegion od rd :: kd)) (bc.at ac (.inRegion ops (q :: rest) :: k0) :: cs)) (fun r => (G (bc.at (ac.put oc.dst r) (.inRegion ops rest :: k0)) cs)) → ∀ code, Try.f80.body = some code →
      GoesI Try.prog main (DT (ScZ z) Ch) Stop (G ((base 80).at { tmps := #[Pt c 0, Pt tb 0, I (which ca n), I (which cb n)] ++ Array.replicate 31 undef, defers := [] } [.code code]) (bd.at ad (.inRegion od (qd :: rd) :: kd) :: bc.at ac (.inRegion ops (q :: rest) :: k0) :: cs)) w') (code : Code) (hc : Try.f81.body = some code) :
    GoesI Try.prog main (DT (ScZ z) Ch) Stop (G ((base 81).at { tmps := #[Pt c 0, Pt tb 0, .agg #[I 1, I ca, I cb, I cc]] ++ Array.replicate 27 undef, defers := [] } [.code code]) (bc.at ac (.inRegion ops (q :: rest) :: k0) :: cs)) w := by
  have hw0 : code = .seq hc0 (seq2 hcB) := by
    rw [show code = hcB by unfold hcB; rw [hc]; rfl]; rfl
  subst hw0
  clear hc
  refine goesI_seq (dt_idle _ _) ?_
  refine goesI_plain (z := z) (wr := true) (L := LT) (I := NoRow Ch) hE fineT noRow_keeps (fun v v' w w' es hi hr ho he => dt_of_z v v' w w' es hi hr ho he) hvw fine_hc0 rfl (by simp [base]) hn
    (Q := fun a w' => a = { tmps := #[Pt c 0, Pt tb 0, .agg #[I 1, I ca, I cb, I cc], undef, undef, Pt v.heap.size 0, Pt (v.heap.size + 1) 0] ++ Array.replicate 23 undef, defers := [] } ∧
      w'.heap = (v.heap.push (.cells #[I 1, I ca, I cb, I cc] 39)).push (.cells #[I 0, I 0] 42) ∧ w'.os = v.os ∧ w'.output = v.output) (fun τ => ?_) ?_
  · unfold hc0 hcB Try.f81 seq1
    simp only [Option.getD_some, Array.replicate_succ, Array.replicate_zero, List.push_toArray, List.append_toArray, List.nil_append, List.cons_append]
    go_wp2_with fail
    exact ⟨rfl, rfl, rfl, rfl⟩
  rintro a' v' w' ⟨rfl, hv1, hv2, hv3⟩ hr' hn' -
  have hsz : v'.heap.size = v.heap.size + 2 := by rw [hv1]; simp
  have hg : Grows v v' := ⟨by omega, fun b hb => by rw [hv1, Array.getElem?_push, if_neg (by simp; omega), Array.getElem?_push, if_neg (by omega)], hv2, hv3⟩
  have hbox : v'.heap[v.heap.size]? = some (.cells #[I 1, I ca, I cb, I cc] 39) := by rw [hv1, Array.getElem?_push, if_neg (by simp)]; exact Array.getElem?_push_size
  have hans : v'.heap[v.heap.size + 1]? = some (.cells #[I 0, I 0] 42) := by rw [hv1, Array.getElem?_push, if_pos (by simp)]
  have hlt : v.heap.size < v'.heap.size := by omega
  have b0 : w'.cell? ⟨v.heap.size, 0, none⟩ = some (I 1) := by rw [hr'.cell?]; simp [World.cell?, hbox]
  have b1 : v'.cell? ⟨v.heap.size, 1, none⟩ = some (I ca) := by simp [World.cell?, hbox]
  have b2 : v'.cell? ⟨v.heap.size, 2, none⟩ = some (I cb) := by simp [World.cell?, hbox]
  have e0 : w'.cell? ⟨c, 0, none⟩ = some (.slice (some ⟨sb, 0, none⟩) n n) := by rw [hr'.cell?]; exact hg.cell h0
  have HV : Hid (Grows v v' ∧ v'.heap[v.heap.size + 1]? = some (.cells #[I 0, I 0] 42 (0, 0)) ∧ NoRow Ch v' ∧ Rel z v' w' ∧ v'.cell? ⟨v.heap.size, 1, none⟩ = some (I ca) ∧ v'.cell? ⟨v.heap.size, 2, none⟩ = some (I cb)) := ⟨⟨hg, hans, hn', hr', b1, b2⟩⟩
  clear hv1 hv2 hv3 hsz hg hbox hans hn' hvw hn hr' b1 b2 hlt
  have hO : seq2 (seq1 (seq2 (seq2 hcB))) = .seq (.region 4 hcO4 true) (seq2 (seq2 (seq1 (seq2 (seq2 hcB))))) := by kernel_rfl
  have hs2 : seq2 hcB = .seq (seq1 (seq2 hcB)) (.seq (.seq (seq1 (seq1 (seq2 (seq2 hcB)))) (seq2 (seq1 (seq2 (seq2 hcB))))) (seq2 (seq2 (seq2 hcB)))) := by kernel_rfl
  rw [hs2, hO]
  generalize hX1 : seq2 (seq2 (seq1 (seq2 (seq2 hcB)))) = X1
  generalize hX2 : seq2 (seq2 (seq2 hcB)) = X2
  generalize hX3 : hcO4 = O4
  simp only [Array.replicate_succ, Array.replicate_zero, List.push_toArray, List.append_toArray, List.nil_append, List.cons_append]
  unfold hcB Try.f81 seq1 seq2
  simp only [Option.getD_some]
  refine goesI_seq (dt_idle _ _) ?_
  refine goesI_seq (dt_idle _ _) ?_
  refine goesI_region (dt_idle _ _) ?_
  simp only [List.size_toArray, List.length_cons, List.length_nil, Nat.reduceAdd, Nat.zero_add, List.range, List.range.loop]
  iterate 3
    (refine goesI_oper rfl rfl (by decide) (fun d K hK => ?_)
     go_simp
     refine hK _ _ ⟨dt_reads (fun e he => ?_), GoesI.at ?_ d⟩
     · have hm := mem_listed he
       simp [go_sem, *] at hm
       try exact ⟨_, _, hm⟩
     clear hK K)
  refine goesI_regionEnd (dt_idle _ _) ?_
  refine goesI_cond (dt_idle _ _) (t := false) (by simp [Act.eval]) ?_
  simp only [if_true, if_false, Bool.false_eq_true]
  refine goesI_skip (dt_idle _ _) ?_
  refine goesI_seq (dt_idle _ _) ?_
  refine goesI_seq (dt_idle _ _) ?_
  refine goesI_region (dt_idle _ _) ?_
  simp only [List.size_toArray, List.length_cons, List.length_nil, Nat.reduceAdd, Nat.zero_add, List.range, List.range.loop]
  iterate 6
    (refine goesI_oper rfl rfl (by decide) (fun d K hK => ?_)
     go_simp
     refine hK _ _ ⟨dt_reads (fun e he => ?_), GoesI.at ?_ d⟩
     · have hm := mem_listed he
       simp [go_sem, *] at hm
       try exact ⟨_, _, hm⟩
     clear hK K)
  refine goesI_regionEnd (dt_idle _ _) ?_
  refine goesI_seq (dt_idle _ _) ?_
  subst hX3
  clear b0 e0
  refine goesI_region_quiet (n := 10) (val := val16 c tb v.heap.size n ca cb) (J := fun w => Rel z v' w) mix21 (fun w d hJ => hJ.re rfl rfl rfl rfl rfl rfl) (fun w => dt_draw _ _ w) lead16 text16 (on := hcO4[10]'(by decide)) rfl ?_ ?_ ?_
    { tmps := #[Pt c 0, Pt tb 0, .agg #[I 1, I ca, I cb, I cc], undef, undef, Pt v.heap.size 0, Pt (v.heap.size + 1) 0, I (n : Nat), Pt v.heap.size 0, I 1, .bool false, undef, Pt c 0, Pt c 0, Pt c 0, .slice (some ⟨sb, 0, none⟩) n n, I (n : Nat), Pt c 0, Pt tb 0, Pt v.heap.size 1, I ca, I (n : Nat), I (which ca n), Pt v.heap.size 2, I cb, I (n : Nat), I (which cb n), undef, undef, undef], defers := [] } ?_ ?_ HV.out.2.2.2.1
  · intro i1 j1 oi oj t1 h1 h2 h3 h4 h5 h6
    rw [dst16 i1 h1 oi h3] at h5
    rw [dst16 j1 h2 oj h4] at h6
    have := Option.some.inj (h5.trans h6.symm)
    omega
  · intro i1 o1 t1 h1 h2 h3
    rw [dst16 i1 h1 o1 h2] at h3
    have := Option.some.inj h3
    subst this
    show (17 + i1 : Nat) < 30
    omega
  · intro i' o rest' listed a w1 hi ho hdep hagr hJ hgo
    have ev : ∀ j, j < 10 → listed.getD j false = true → a.eval (.tmp (17 + j)) = val16 c tb v.heap.size n ca cb j := fun j hj hl =>
      hagr.eval hj (o := hcO4[j]'(by have : hcO4.size = 11 := rfl; omega)) (Array.getElem?_eq_getElem _) hl (dst16 j hj _ (Array.getElem?_eq_getElem _))
    have ev0 : ∀ t' : Nat, t' < 17 → a.eval (.tmp t') = _ := fun t' ht' => hagr.eval0 (t := t') (fun j o hj ho e => by
      rw [dst16 j hj o ho] at e
      have : (17 + j : Nat) = t' := Option.some.inj e
      omega)
    have e0 : a.eval (.tmp 0) = Pt c 0 := ev0 0 (by omega)
    have e1 : a.eval (.tmp 1) = Pt tb 0 := ev0 1 (by omega)
    have e5 : a.eval (.tmp 5) = Pt v.heap.size 0 := ev0 5 (by omega)
    have e7 : a.eval (.tmp 7) = I (n : Nat) := ev0 7 (by omega)
    have hw : Region.wanted o (yielded hcO4 a.tmps) = true := by simp [Region.wanted, guard16 i' (by omega) o ho]
    have wh : ∀ (x : Int) (y1 y2 : Nat) (hop : o.op = .call { callee := .value (.func 56), args := #[.tmp y1, .tmp y2], argTypes := #[3, 3] }) (l1 : a.eval (.tmp y1) = I x) (l2 : a.eval (.tmp y2) = I (n : Nat)) (hval : val16 c tb v.heap.size n ca cb i' = I (which x n)), GoesI Try.prog main (DT (ScZ z) Ch) Stop (G ((base 81).at a (.inRegion hcO4 (i' :: rest') :: _)) _) w1 := fun x y1 y2 hop l1 l2 hval => by
      refine goesI_call (f := 56) (fn := Try.f56) (args := #[I x, I (n : Nat)]) hE fineT ho hw (by simp [base]) hop (by simp only [List.map_toArray, List.map_cons, List.map_nil]; rw [l1, l2]) Try.func56 (by kernel_rfl) rfl (fineFn_body fineT (by simp [LT, plainFs]) Try.func56 rfl) (fun tmps => ⟨_, fun w => results_tmp rfl _ _ _, fun w => by simp [results, go_sem]⟩) hJ HV.out.2.2.1
        (R := fun r u => r = I (which x n) ∧ u.heap = v'.heap ∧ u.os = v'.os ∧ u.output = v'.output) (fun τ => ?_) (fun r u w2 hR hr2 _ => ?_)
      · exact wp_mono (body25w x n hn0 (by omega) (onTape v' τ 0) _ rfl) (bp_mono fun r u hq => ⟨hq.1, by rw [hq.2]; rfl, by rw [hq.2]; rfl, by rw [hq.2]; rfl⟩)
      · obtain ⟨rfl, q1, q2, q3⟩ := hR
        rw [← hval]
        exact hgo w2 (hr2.re q1.symm rfl q2.symm rfl q3.symm rfl)
    by_cases h5 : i' = 5
    · subst h5
      exact wh ca 20 21 (op16 rfl ho) (ev 3 (by omega) (after16 (by kernel_rfl) ho hdep)) (ev 4 (by omega) (after16 (by kernel_rfl) ho hdep)) rfl
    by_cases h9 : i' = 9
    · subst h9
      exact wh cb 24 25 (op16 rfl ho) (ev 7 (by omega) (after16 (by kernel_rfl) ho hdep)) (ev 8 (by omega) (after16 (by kernel_rfl) ho hdep)) rfl
    have b1 := HV.out.2.2.2.2.1
    have b2 := HV.out.2.2.2.2.2
    have hrun : (execOp a.eval o).run Try.prog v' = .ok (.value (val16 c tb v.heap.size n ca cb i')) v' := by
      match i', hi, h5, h9, ho with
      | 0, _, _, _, ho => have hop := op16 (p := .move (.tmp 0)) rfl ho; unfold execOp; rw [hop]; simp only [e0]; simp [go_sem, val16]
      | 1, _, _, _, ho => have hop := op16 (p := .move (.tmp 1)) rfl ho; unfold execOp; rw [hop]; simp only [e1]; simp [go_sem, val16]
      | 2, _, _, _, ho => have hop := op16 (p := .fieldAddr 39 (.tmp 5) 1) rfl ho; unfold execOp; rw [hop]; simp only [e5]; simp [go_sem, val16]
      | 3, _, _, _, ho => have hop := op16 (p := .load 3 (.tmp 19)) rfl ho; have l : a.eval (.tmp 19) = Pt v.heap.size 1 := ev 2 (by omega) (after16 (by kernel_rfl) ho hdep); unfold execOp; rw [hop]; simp only [l]; simp [go_sem, b1, val16]
      | 4, _, _, _, ho => have hop := op16 (p := .move (.tmp 7)) rfl ho; unfold execOp; rw [hop]; simp only [e7]; simp [go_sem, val16]
      | 5, _, h5, _, _ => exact absurd rfl h5
      | 6, _, _, _, ho => have hop := op16 (p := .fieldAddr 39 (.tmp 5) 2) rfl ho; unfold execOp; rw [hop]; simp only [e5]; simp [go_sem, val16]
      | 7, _, _, _, ho => have hop := op16 (p := .load 3 (.tmp 23)) rfl ho; have l : a.eval (.tmp 23) = Pt v.heap.size 2 := ev 6 (by omega) (after16 (by kernel_rfl) ho hdep); unfold execOp; rw [hop]; simp only [l]; simp [go_sem, b2, val16]
      | 8, _, _, _, ho => have hop := op16 (p := .move (.tmp 7)) rfl ho; unfold execOp; rw [hop]; simp only [e7]; simp [go_sem, val16]
      | 9, _, _, h9, _ => exact absurd rfl h9
    exact goesI_opZ ho hw (by simp [base]) (fineOps16 i' hi o ho) hJ HV.out.2.2.1 hrun rfl (fun w2 hr2 _ => hgo w2 hr2)
  · refine ⟨rfl, rfl, fun j o t' hj ho _ hd => ?_, fun t' hne => ?_⟩
    · rw [dst16 j hj o ho] at hd
      have : (17 + j : Nat) = t' := Option.some.inj hd
      subst this
      match j, hj with
      | 0, _ => rfl
      | 1, _ => rfl
      | 2, _ => rfl
      | 3, _ => rfl
      | 4, _ => rfl
      | 5, _ => rfl
      | 6, _ => rfl
      | 7, _ => rfl
      | 8, _ => rfl
      | 9, _ => rfl
    · have hcase : ∀ m : Nat, m < 10 → t' ≠ 17 + m := fun m hm e => by
        have hs : m < hcO4.size := by have : hcO4.size = 11 := rfl; omega
        refine hne m (hcO4[m]'hs) hm (Array.getElem?_eq_getElem hs) ?_ ((dst16 m hm _ (Array.getElem?_eq_getElem hs)).trans (by rw [e]))
        rw [Array.getD_eq_getD_getElem?, listedN_get hs]
        simp [hm]
      match t', hcase with
      | 0, _ => rfl
      | 1, _ => rfl
      | 2, _ => rfl
      | 3, _ => rfl
      | 4, _ => rfl
      | 5, _ => rfl
      | 6, _ => rfl
      | 7, _ => rfl
      | 8, _ => rfl
      | 9, _ => rfl
      | 10, _ => rfl
      | 11, _ => rfl
      | 12, _ => rfl
      | 13, _ => rfl
      | 14, _ => rfl
      | 15, _ => rfl
      | 16, _ => rfl
      | 17, h => exact absurd rfl (h 0 (by omega))
      | 18, h => exact absurd rfl (h 1 (by omega))
      | 19, h => exact absurd rfl (h 2 (by omega))
      | 20, h => exact absurd rfl (h 3 (by omega))
      | 21, h => exact absurd rfl (h 4 (by omega))
      | 22, h => exact absurd rfl (h 5 (by omega))
      | 23, h => exact absurd rfl (h 6 (by omega))
      | 24, h => exact absurd rfl (h 7 (by omega))
      | 25, h => exact absurd rfl (h 8 (by omega))
      | 26, h => exact absurd rfl (h 9 (by omega))
      | 27, _ => rfl
      | 28, _ => rfl
      | 29, _ => rfl
      | m + 30, _ => rfl
  · intro tt w1 hJ
    rw [rest16]
    refine goesI_into (f := 80) (fn := Try.f80) (args := #[Pt c 0, Pt tb 0, I (which ca n), I (which cb n)]) (dt_idle _ _) (o := hcO4[10]'(by decide)) rfl rfl (by decide) rfl (by simp [Act.eval]) Try.func80 (by decide) rfl ?_
    refine hstop v' w1 _ _ _ _ _ _ _ hJ HV.out.2.2.1 HV.out.1 HV.out.2.1 rfl ?_ _ rfl
    subst hX1 hX2
    clear HV hstop hJ
    intro z1 Ch1 St w2 v2 S1 K1 b r2 n2 m2 hpb2 hown2 hk
    have hd : (hcO4[10]'(by decide)).dst = some 27 := rfl
    simp only [hd]
    generalize v.heap.size = N at hpb2 hown2 hk ⊢
    generalize hX3 : hcO4 = O4
    unfold hcB Try.f81 seq1 seq2
    simp only [Option.getD_some]
    cases b with
    | true =>
      have hk : ∀ v' w', Rel z1 v' w' → NoRow Ch1 v' → EvoP (· = N + 1) z1 S1 K1 v2 S1 K1 v' → GoesI Try.prog main (DT (ScZ z1) Ch1) St (G (bc.at (ac.put oc.dst (.agg #[I 0, I 1])) (.inRegion ops rest :: k0)) cs) w' := hk
      have q0 : v2.cell? ⟨N + 1, 0, none⟩ = some (I 0) := by simp [World.cell?, hpb2]
      have q1 : v2.cell? ⟨N + 1, 1, none⟩ = some (I 0) := by simp [World.cell?, hpb2]
      have p0 : v2.frozen? ⟨N + 1, 0, none⟩ = false := by simp [World.frozen?, hpb2]
      have p1 : v2.frozen? ⟨N + 1, 1, none⟩ = false := by simp [World.frozen?, hpb2]
      have e3 := m2.other (v' := (v2.setCell ⟨N + 1, 0, none⟩ (I 0)).setCell ⟨N + 1, 1, none⟩ (I 1)) hown2 (fun b hb => by rw [Below.heap_setCell _ _ _ _ hb, Below.heap_setCell _ _ _ _ hb]) (by simp [World.setCell]) rfl rfl
      have hrow : ((v2.setCell ⟨N + 1, 0, none⟩ (I 0)).setCell ⟨N + 1, 1, none⟩ (I 1)).heap[N + 1]? = some (.cells #[I 0, I 1] 42 (0, 0)) := by
        have := heap_setCell_same (o := 1) (heap_setCell_same (o := 0) hpb2 (I 0)) (I 1)
        simpa using this
      walk_nrm
      refine goesI_regionEnd (dt_idle _ _) ?_
      refine goesI_cond (dt_idle _ _) (t := true) (by simp [Act.eval]) ?_
      simp only [if_true, if_false, Bool.false_eq_true]
      refine goesI_seq (dt_idle _ _) ?_
      refine goesI_region (dt_idle _ _) ?_
      simp only [List.size_toArray, List.length_cons, List.length_nil, Nat.reduceAdd, Nat.zero_add, List.range, List.range.loop]
      iterate 1
        (refine goesI_oper rfl rfl (by decide) (fun d K hK => ?_)
         go_simp
         refine hK _ _ ⟨dt_reads (fun e he => ?_), GoesI.at ?_ d⟩
         · have hm := mem_listed he
           simp [go_sem, *] at hm
           try exact ⟨_, _, hm⟩
         clear hK K)
      refine goesI_doZ (L := LT) rfl rfl (by decide) (fineOp_ask callT extT (by kernel_rfl)) r2 n2 (v' := (v2.setCell ⟨N + 1, 0, none⟩ (I 0)).setCell ⟨N + 1, 1, none⟩ (I 1)) (by go_simp) rfl (fun w3 r3 n3 => ?_)
      refine goesI_regionEnd (dt_idle _ _) ?_
      refine GoesI.ctl rfl (fun _ => stepG_ret') (dt_idle _ _) ?_
      refine goesI_leaveZ (f := 81) (fn := Try.f81) (x := .agg #[I 0, I 1]) r3 n3 Try.func81 rfl hoc ?_ (fun w' r' => hk _ w' r' n3 e3)
      generalize ((v2.setCell ⟨N + 1, 0, none⟩ (I 0)).setCell ⟨N + 1, 1, none⟩ (I 1)) = V at hrow
      have k0 : V.cell? ⟨N + 1, 0, none⟩ = some (I 0) := by simp [World.cell?, hrow]
      have k1 : V.cell? ⟨N + 1, 1, none⟩ = some (I 1) := by simp [World.cell?, hrow]
      simp [results, go_sem, Try.f81, *]
    | false =>
      have hk : ∀ v' w', Rel z1 v' w' → NoRow Ch1 v' → EvoP (· = N + 1) z1 S1 K1 v2 S1 K1 v' → GoesI Try.prog main (DT (ScZ z1) Ch1) St (G (bc.at (ac.put oc.dst (.agg #[I 0, I 0])) (.inRegion ops rest :: k0)) cs) w' := hk
      have q0 : v2.cell? ⟨N + 1, 0, none⟩ = some (I 0) := by simp [World.cell?, hpb2]
      have q1 : v2.cell? ⟨N + 1, 1, none⟩ = some (I 0) := by simp [World.cell?, hpb2]
      have p0 : v2.frozen? ⟨N + 1, 0, none⟩ = false := by simp [World.frozen?, hpb2]
      have p1 : v2.frozen? ⟨N + 1, 1, none⟩ = false := by simp [World.frozen?, hpb2]
      have e3 := m2.other (v' := (v2.setCell ⟨N + 1, 0, none⟩ (I 0)).setCell ⟨N + 1, 1, none⟩ (I 0)) hown2 (fun b hb => by rw [Below.heap_setCell _ _ _ _ hb, Below.heap_setCell _ _ _ _ hb]) (by simp [World.setCell]) rfl rfl
      have hrow : ((v2.setCell ⟨N + 1, 0, none⟩ (I 0)).setCell ⟨N + 1, 1, none⟩ (I 0)).heap[N + 1]? = some (.cells #[I 0, I 0] 42 (0, 0)) := by
        have := heap_setCell_same (o := 1) (heap_setCell_same (o := 0) hpb2 (I 0)) (I 0)
        simpa using this
      walk_nrm
      refine goesI_regionEnd (dt_idle _ _) ?_
      refine goesI_cond (dt_idle _ _) (t := false) (by simp [Act.eval]) ?_
      simp only [if_true, if_false, Bool.false_eq_true]
      refine goesI_skip (dt_idle _ _) ?_
      refine goesI_seq (dt_idle _ _) ?_
      refine goesI_region (dt_idle _ _) ?_
      simp only [List.size_toArray, List.length_cons, List.length_nil, Nat.reduceAdd, Nat.zero_add, List.range, List.range.loop]
      iterate 1
        (refine goesI_oper rfl rfl (by decide) (fun d K hK => ?_)
         go_simp
         refine hK _ _ ⟨dt_reads (fun e he => ?_), GoesI.at ?_ d⟩
         · have hm := mem_listed he
           simp [go_sem, *] at hm
           try exact ⟨_, _, hm⟩
         clear hK K)
      refine goesI_doZ (L := LT) rfl rfl (by decide) (fineOp_ask callT extT (by kernel_rfl)) r2 n2 (v' := (v2.setCell ⟨N + 1, 0, none⟩ (I 0)).setCell ⟨N + 1, 1, none⟩ (I 0)) (by go_simp) rfl (fun w3 r3 n3 => ?_)
      refine goesI_regionEnd (dt_idle _ _) ?_
      refine GoesI.ctl rfl (fun _ => stepG_ret') (dt_idle _ _) ?_
      refine goesI_leaveZ (f := 81) (fn := Try.f81) (x := .agg #[I 0, I 0]) r3 n3 Try.func81 rfl hoc ?_ (fun w' r' => hk _ w' r' n3 e3)
      generalize ((v2.setCell ⟨N + 1, 0, none⟩ (I 0)).setCell ⟨N + 1, 1, none⟩ (I 0)) = V at hrow
      have k0 : V.cell? ⟨N + 1, 0, none⟩ = some (I 0) := by simp [World.cell?, hrow]
      have k1 : V.cell? ⟨N + 1, 1, none⟩ = some (I 0) := by simp [World.cell?, hrow]
      simp [results, go_sem, Try.f81, *]

set_option maxHeartbeats 2000000 in
set_option maxRecDepth 100000 in
/-- There is no such call. -/
theorem call_no {z : Nat → Option Nat} {Ch : Nat → Prop} {Stop : Goroutine → World → Prop} {main : Bool} {v w : World} {c tb : Nat} (po ca cb cc : Int) (hpo : po ≠ 1) (cs : List Frame) {bc : Frame} {ac : Act} {ops : Array Oper} {q : Nat} {rest : List Nat} {oc : Oper} {k0 : List Item} (hoc : ops[q]? = some oc)
    (hvw : Rel z v w) (hn : NoRow Ch v)
    (hk : ∀ v' w', Rel z v' w' → NoRow Ch v' → Grows v v' → GoesI Try.prog main (DT (ScZ z) Ch) Stop (G (bc.at (ac.put oc.dst (.agg #[I 1, I 0])) (.inRegion ops rest :: k0)) cs) w') (code : Code) (hc : Try.f81.body = some code) :
    GoesI Try.prog main (DT (ScZ z) Ch) Stop (G ((base 81).at { tmps := #[Pt c 0, Pt tb 0, .agg #[I po, I ca, I cb, I cc]] ++ Array.replicate 27 undef, defers := [] } [.code code]) (bc.at ac (.inRegion ops (q :: rest) :: k0) :: cs)) w := by
  have hw0 : code = .seq hc0 (seq2 hcB) := by
    rw [show code = hcB by unfold hcB; rw [hc]; rfl]; rfl
  subst hw0
  clear hc
  refine goesI_seq (dt_idle _ _) ?_
  refine goesI_plain (z := z) (wr := true) (L := LT) (I := NoRow Ch) hE fineT noRow_keeps (fun v v' w w' es hi hr ho he => dt_of_z v v' w w' es hi hr ho he) hvw fine_hc0 rfl (by simp [base]) hn
    (Q := fun a w' => a = { tmps := #[Pt c 0, Pt tb 0, .agg #[I po, I ca, I cb, I cc], undef, undef, Pt v.heap.size 0, Pt (v.heap.size + 1) 0] ++ Array.replicate 23 undef, defers := [] } ∧
      w'.heap = (v.heap.push (.cells #[I po, I ca, I cb, I cc] 39)).push (.cells #[I 0, I 0] 42) ∧ w'.os = v.os ∧ w'.output = v.output) (fun τ => ?_) ?_
  · unfold hc0 hcB Try.f81 seq1
    simp only [Option.getD_some, Array.replicate_succ, Array.replicate_zero, List.push_toArray, List.append_toArray, List.nil_append, List.cons_append]
    go_wp2_with fail
    exact ⟨rfl, rfl, rfl, rfl⟩
  rintro a' v' w' ⟨rfl, hv1, hv2, hv3⟩ hr' hn' -
  have hsz : v'.heap.size = v.heap.size + 2 := by rw [hv1]; simp
  have hg : Grows v v' := ⟨by omega, fun b hb => by rw [hv1, Array.getElem?_push, if_neg (by simp; omega), Array.getElem?_push, if_neg (by omega)], hv2, hv3⟩
  have hbox : v'.heap[v.heap.size]? = some (.cells #[I po, I ca, I cb, I cc] 39) := by rw [hv1, Array.getElem?_push, if_neg (by simp)]; exact Array.getElem?_push_size
  have hans : v'.heap[v.heap.size + 1]? = some (.cells #[I 0, I 0] 42) := by rw [hv1, Array.getElem?_push, if_pos (by simp)]
  have hlt : v.heap.size < v'.heap.size := by omega
  have b0 : w'.cell? ⟨v.heap.size, 0, none⟩ = some (I po) := by rw [hr'.cell?]; simp [World.cell?, hbox]
  have hpo' : (po != 1) = true := by simp [hpo]
  have HV : Hid (Grows v v' ∧ v'.heap[v.heap.size + 1]? = some (.cells #[I 0, I 0] 42) ∧ NoRow Ch v' ∧ Rel z v' w') := ⟨⟨hg, hans, hn', hr'⟩⟩
  clear hv1 hv2 hv3 hsz hg hbox hans hn' hvw hn hr' hlt
  generalize hN : v.heap.size = N at b0 HV ⊢
  simp only [Array.replicate_succ, Array.replicate_zero, List.push_toArray, List.append_toArray, List.nil_append, List.cons_append]
  unfold hcB Try.f81 seq2
  simp only [Option.getD_some]
  refine goesI_seq (dt_idle _ _) ?_
  refine goesI_seq (dt_idle _ _) ?_
  refine goesI_region (dt_idle _ _) ?_
  simp only [List.size_toArray, List.length_cons, List.length_nil, Nat.reduceAdd, Nat.zero_add, List.range, List.range.loop]
  iterate 3
    (refine goesI_oper rfl rfl (by decide) (fun d K hK => ?_)
     go_simp
     refine hK _ _ ⟨dt_reads (fun e he => ?_), GoesI.at ?_ d⟩
     · have hm := mem_listed he
       simp [go_sem, *] at hm
       try exact ⟨_, _, hm⟩
     clear hK K)
  refine goesI_regionEnd (dt_idle _ _) ?_
  refine goesI_cond (dt_idle _ _) (t := true) (by simp [Act.eval, hpo']) ?_
  simp only [if_true, if_false, Bool.false_eq_true]
  refine goesI_seq (dt_idle _ _) ?_
  refine goesI_region (dt_idle _ _) ?_
  simp only [List.size_toArray, List.length_cons, List.length_nil, Nat.reduceAdd, Nat.zero_add, List.range, List.range.loop]
  iterate 1
    (refine goesI_oper rfl rfl (by decide) (fun d K hK => ?_)
     go_simp
     refine hK _ _ ⟨dt_reads (fun e he => ?_), GoesI.at ?_ d⟩
     · have hm := mem_listed he
       simp [go_sem, *] at hm
       try exact ⟨_, _, hm⟩
     clear hK K)
  obtain ⟨hg, hans, hn', hr'⟩ := HV.out
  have q0 : v'.cell? ⟨N + 1, 0, none⟩ = some (I 0) := by simp [World.cell?, hans]
  have q1 : v'.cell? ⟨N + 1, 1, none⟩ = some (I 0) := by simp [World.cell?, hans]
  have p0 : v'.frozen? ⟨N + 1, 0, none⟩ = false := by simp [World.frozen?, hans]
  have p1 : v'.frozen? ⟨N + 1, 1, none⟩ = false := by simp [World.frozen?, hans]
  have hrow : ((v'.setCell ⟨N + 1, 0, none⟩ (I 1)).setCell ⟨N + 1, 1, none⟩ (I 0)).heap[N + 1]? = some (.cells #[I 1, I 0] 42 (0, 0)) := by
    have := heap_setCell_same (o := 1) (heap_setCell_same (o := 0) hans (I 1)) (I 0)
    simpa using this
  have hg2 : Grows v ((v'.setCell ⟨N + 1, 0, none⟩ (I 1)).setCell ⟨N + 1, 1, none⟩ (I 0)) := by
    refine ⟨by simp [World.setCell]; exact hg.size, fun b hb => ?_, hg.os, hg.output⟩
    have hbN : b ≠ N + 1 := by omega
    rw [Below.heap_setCell _ _ _ _ hbN, Below.heap_setCell _ _ _ _ hbN]
    exact hg.old b hb
  clear hg hans b0 HV
  refine goesI_doZ (L := LT) rfl rfl (by decide) (fineOp_ask callT extT (by kernel_rfl)) hr' hn' (v' := (v'.setCell ⟨N + 1, 0, none⟩ (I 1)).setCell ⟨N + 1, 1, none⟩ (I 0)) (by go_simp) rfl (fun w3 r3 n3 => ?_)
  refine goesI_regionEnd (dt_idle _ _) ?_
  refine GoesI.ctl rfl (fun _ => stepG_ret') (dt_idle _ _) ?_
  refine goesI_leaveZ (f := 81) (fn := Try.f81) (x := .agg #[I 1, I 0]) r3 n3 Try.func81 rfl hoc ?_ (fun w' r' => hk _ w' r' n3 hg2)
  generalize ((v'.setCell ⟨N + 1, 0, none⟩ (I 1)).setCell ⟨N + 1, 1, none⟩ (I 0)) = V at hrow
  have k0 : V.cell? ⟨N + 1, 0, none⟩ = some (I 1) := by simp [World.cell?, hrow]
  have k1 : V.cell? ⟨N + 1, 1, none⟩ = some (I 0) := by simp [World.cell?, hrow]
  simp [results, go_sem, Try.f81, *]
end Go.Proofs.Ytfjjoohflcchnaa.Gen

namespace Go.Proofs.Ytfjjoohflcchnaa.Gen
open Go Go.Lift Go.Conc Go.RowKit

abbrev box0 : Obj := .cells #[I 0, I 0] 42 (0, 0)
def boxO (pb : Nat) : Nat → Option Obj := fun b => if b = pb then some box0 else none
theorem boxO_at (pb : Nat) : boxO pb pb = some box0 := by unfold boxO; rw [if_pos rfl]
theorem boxO_eq {pb b : Nat} (h : boxO pb b ≠ none) : b = pb := by
  unfold boxO at h
  split at h
  · assumption
  · exact absurd rfl h
theorem boxO_row (pb : Nat) : ∀ b o, boxO pb b = some o → ∃ c e f, o = .cells c e f := fun b o h => by
  unfold boxO at h
  split at h
  · cases h; exact ⟨_, _, _, rfl⟩
  · cases h
/-- The frames below what a call calls. -/
structure Frs where
  bd : Frame
  ad : Act
  od : Array Oper
  qd : Nat
  rd : List Nat
  oe : Oper
  kd : List Item
  fs : List Frame
namespace Frs
def cu (f : Frs) (r : Value) : Goroutine := G (f.bd.at (f.ad.put f.oe.dst r) (.inRegion f.od f.rd :: f.kd)) f.fs
def top (f : Frs) : Frame := f.bd.at f.ad (.inRegion f.od (f.qd :: f.rd) :: f.kd)
end Frs

section
variable {mc : Mc} {X : Fix mc} {z : Nat → Option Nat} {cont : Addr → Value} {Ch : Nat → Prop} {Stop : Goroutine → World → Prop} {cu : Value → Goroutine} {S0 : TS} {K0 : List (Nat × Int)} {v0 : World} {Mo0 Mo Mo' : Nat → Option Obj} {σ : TS} {κ : List (Nat × Int)} {S : TS} {v w v' w' : World} {t : Thr}
/-- It has more for its own. -/
theorem Now.more (N : Now X z cont Ch S0 K0 v0 Mo0 Mo σ κ S v w t) (g : Grows v v') (r : Rel z v' w') (n : NoRow Ch v') (hd : ∀ b, Mo' b ≠ none → Mo b ≠ none ∨ v.heap.size ≤ b) (hm : Has Mo' v') (hr : ∀ b o, Mo' b = some o → ∃ c e f, o = .cells c e f) : Now X z cont Ch S0 K0 v0 Mo0 Mo' σ κ S v' w' t := by
  have N1 := N.on (N.at_.mem.grows g) r n N.nv N.at_.thr N.at_.tb N.at_.gc rfl N.at_.kb.2
  exact ⟨N1.at_, N1.evo, N1.nv, N1.bk, hm, fun b hb => (hd b hb).elim (N1.far b) (fun h ho => by have := N.at_.mem.lt ho; omega), fun b hb => (hd b hb).elim (N.new b) (fun h => .inr (Nat.le_trans N.evo.fr.size h)), hr⟩
/-- It writes what it has for its own. -/
theorem Now.write (N : Now X z cont Ch S0 K0 v0 Mo0 Mo σ κ S v w t) {B : Nat} (hB : Mo B ≠ none) (hpk : X.pk B = none) (r : Rel z v' w') (n : NoRow Ch v') (hw : ∀ b, b ≠ B → v'.heap[b]? = v.heap[b]?) (hs : v'.heap.size = v.heap.size) (ho : v'.os = v.os) (hu : v'.output = v.output) (hd : ∀ b, Mo' b ≠ none → Mo b ≠ none) (hm : Has Mo' v') (hr : ∀ b o, Mo' b = some o → ∃ c e f, o = .cells c e f) : Now X z cont Ch S0 K0 v0 Mo0 Mo' σ κ S v' w' t := by
  have ev := N.at_.mem.other (v' := v') (N.far B hB) hw hs ho hu
  refine ⟨⟨r, n, ev.mem, N.at_.thr, N.at_.tb, N.at_.gc, N.at_.kb, N.at_.z, N.at_.cont, fun b o hb => ?_, N.at_.far⟩, N.evo.join ev (fun b hb => ?_), N.nv, N.bk, hm, fun b hb => N.far b (hd b hb), fun b hb => N.new b (hd b hb), hr⟩
  · rw [hw b (fun e => by subst e; rw [hpk] at hb; cases hb)]; exact N.at_.pk b o hb
  · have e : b = B := hb
    subst e
    exact N.new b hB
end


section
variable {mc : Mc} {X : Fix mc} {z : Nat → Option Nat} {cont : Addr → Value} {Ch : Nat → Prop} {K : List (Nat × Int)} {S : TS} {v w v' w' : World} {t : Thr}
/-- A call has its box. -/
theorem now_box (A : At X z cont Ch S K v w t) (hr : Rel z v' w') (hn : NoRow Ch v') (hg : Grows v v') (hbox : v'.heap[v.heap.size + 1]? = some (.cells #[I 0, I 0] 42 (0, 0))) : Now X z cont Ch S K v (fun _ => none) (boxO (v.heap.size + 1)) (Gen.nv S) K S v' w' t := by
  have hlt : v.heap.size + 1 < v'.heap.size := (Array.getElem?_eq_some_iff.1 hbox).1
  refine ⟨⟨hr, hn, (A.mem.grows hg).mem, A.thr, A.tb, A.gc, A.kb, A.z, A.cont, fun b o hb => ?_, A.far⟩, Evo.toP (A.mem.grows hg), rfl, rfl, fun b o hb => ?_, fun b hb ho => ?_, fun b hb => ?_, boxO_row _⟩
  · have h1 := A.pk b o hb
    rw [hg.old b (Array.getElem?_eq_some_iff.1 h1).1]; exact h1
  · have e := boxO_eq (pb := v.heap.size + 1) (b := b) (by rw [hb]; simp)
    subst e
    rw [boxO_at] at hb
    cases hb
    exact hbox
  · have e := boxO_eq hb
    have := A.mem.lt ho
    omega
  · have e := boxO_eq hb
    exact .inr (by omega)
end

structure HMine (n : Nat) (X : Fix (mcH n)) (c sb : Nat) : Prop where
  caps : X.caps = #[Pt c 0]
  mem : ∀ v, Has X.pk v → Chn v c sb n X.kb
abbrev FAa (c tb fr to : Nat) (a : Act) : Prop := Fl 35 [(0, Pt c 0), (1, Pt tb 0), (2, I (fr : Nat)), (3, I (to : Nat))] a
abbrev FLa (n c tb x fr k : Nat) (a : Act) : Prop := Fl 34 [(0, Pt c 0), (1, Pt tb 0), (2, I (x : Nat)), (3, I (fr : Nat)), (14, I (n : Nat)), (15, I (k : Nat))] a
abbrev encB (b : Bool) : Value := .bool b
abbrev ansB (b : Bool) : Int × Int := (0, if b then 1 else 0)
/-- The seats. -/
def hSit (n : Nat) (X : Fix (mcH n)) (x : Nx) (Mo : Nat → Option Obj) (cu : Value → Goroutine) (g : Goroutine) : Prop :=
  ∃ (c sb pb : Nat) (f : Frs), HMine n X c sb ∧ f.od[f.qd]? = some f.oe ∧ CBack (X.h == 0) pb encB ansB f.cu cu ∧ Mo = boxO pb ∧
    ((∃ (fr to cb : Nat) (a : Act), x = .turn 2 fr (0, [(fr : Int), (to : Int)]) ∧ fr < n ∧ to < n ∧ X.kb[fr]? = some cb ∧ FAa c X.tb fr to a ∧ OpBack (X.h == 0) X.i fr cb X.tb 2 (effStore ((to : Int) + 1)) (fun r => G (hkPut a r) (f.top :: f.fs)) g) ∨
     (∃ (fr k y cb : Nat) (a : Act) (f2 : Frs), x = .turn 1 y (1, [(fr : Int), (k : Int), (y : Int)]) ∧ fr < n ∧ k < n ∧ y < n ∧ X.kb[y]? = some cb ∧ FLa n c X.tb y fr k a ∧ f2.od[f2.qd]? = some f2.oe ∧ ABack (X.h == 0) f2.cu f.cu ∧ f2.fs = f.top :: f.fs ∧ OpBack (X.h == 0) X.i y cb X.tb 1 effLoad (fun r => G (hlSeen a r) (f2.top :: f2.fs)) g))

section
variable {n : Nat} {X : Fix (mcH n)} {z : Nat → Option Nat} {cont : Addr → Value} {Ch : Nat → Prop} {Stop : Goroutine → World → Prop} {cu : Value → Goroutine} {S0 : TS} {K0 : List (Nat × Int)} {v0 : World} {Mo0 Mo : Nat → Option Obj} {σ : TS} {κ : List (Nat × Int)} {S : TS} {v w : World} {t : Thr} {H : Nx → (Nat → Option Obj) → Goroutine → Prop} {c sb pb : Nat} {f f2 : Frs}
/-- The call has its answer. -/
theorem h_ans (hB : CBack (X.h == 0) pb encB ansB f.cu cu) (y : Bool) {x : Nx} (hob : Ob X H z cont Ch Stop cu S0 K0 v0 Mo0 σ κ x) (hx : x = .ans (ansB y).1 (ansB y).2) (N : Now X z cont Ch S0 K0 v0 Mo0 (boxO pb) σ κ S v w t) :
    GoesI Try.prog (X.h == 0) (DT (ScZ z) Ch) Stop (f.cu (encB y)) w :=
  hB z Ch Stop w v S κ y N.at_.rel N.at_.noRow N.at_.mem (N.mo pb _ (boxO_at pb)) (N.far pb (by rw [boxO_at]; simp)) (fun v' w' r n ev => hob.ans (ansB y) (.inl hx) v' w' S r n N.nv (N.evo.join ev (fun b hb => by
    have hb' : b = pb := hb
    subst hb'
    exact N.new b (by rw [boxO_at]; simp))))
/-- At the loop's head. -/
theorem h_head (hm : HMine n X c sb) (hoe : f.od[f.qd]? = some f.oe) (hB : CBack (X.h == 0) pb encB ansB f.cu cu) (hoe2 : f2.od[f2.qd]? = some f2.oe) (hA2 : ABack (X.h == 0) f2.cu f.cu) (hfs : f2.fs = f.top :: f.fs) (hH : ∀ x Mo' g, Good v0 Mo0 x Mo' → hSit n X x Mo' cu g → H x Mo' g) {fr x k : Nat} (hf : fr < n) (hxn : x < n) {a : Act} (hA : FLa n c X.tb x fr k a)
    (hob : Ob X H z cont Ch Stop cu S0 K0 v0 Mo0 σ κ (nxH n fr x k)) (N : Now X z cont Ch S0 K0 v0 Mo0 (boxO pb) σ κ S v w t) :
    GoesI Try.prog (X.h == 0) (DT (ScZ z) Ch) Stop (G (hlFr a) (f2.top :: f2.fs)) w := by
  have back : ∀ (r : Bool), nxH n fr x k = .ans (ansB r).1 (ansB r).2 → ∀ w', Rel z v w' → GoesI Try.prog (X.h == 0) (DT (ScZ z) Ch) Stop (f2.cu (.bool r)) w' := fun r hr w' hw' =>
    hA2 z Ch Stop w' v r hw' N.at_.noRow (fun w2 hw2 => h_ans hB r hob hr (N.same hw2 N.at_.noRow rfl rfl rfl))
  by_cases hk : k < n
  · by_cases hx : x = fr
    · exact lead_yes (bc := f2.bd) (ac := f2.ad) (ops := f2.od) (q := f2.qd) (rest := f2.rd) (oc := f2.oe) (k0 := f2.kd) hk hx hA f2.fs hoe2 N.at_.rel N.at_.noRow (back true (by unfold nxH; rw [if_pos hk, if_pos hx]; rfl))
    · have e : nxH n fr x k = .turn 1 x (1, [(fr : Int), (k : Int), (x : Int)]) := by unfold nxH; rw [if_pos hk, if_neg hx]
      rw [e] at hob
      have hC := hm.mem v N.at_.pk
      obtain ⟨cb, hcb, hcell⟩ := hC.cel x hxn
      have hA' : FLa n c t.tb x fr k a := by rw [N.at_.tb]; exact hA
      exact lead_look (h := X.h) (i := X.i) (cb := cb) _ hk hxn hx hC.row hcell hA' _ (H (.turn 1 x (1, [(fr : Int), (k : Int), (x : Int)])) (boxO pb)) (fun g hg => by
        obtain ⟨a1, hA1, hg⟩ := hg
        rw [N.at_.tb] at hA1 hg
        exact hH _ _ g (N.good (fun _ _ h => by cases h)) ⟨c, sb, pb, f, hm, hoe, hB, rfl, .inr ⟨fr, k, x, cb, a1, f2, rfl, hf, hk, hxn, hcb, hA1, hoe2, hA2, hfs, hg⟩⟩) N.at_.rel N.at_.noRow N.at_.mem N.at_.thr (N.cell hcb).1 (by rw [N.at_.tb]; exact N.at_.z) (by rw [N.at_.tb, N.at_.gc]; exact N.at_.cont) (ob_turn hob N)
  · exact lead_end (bc := f2.bd) (ac := f2.ad) (ops := f2.od) (q := f2.qd) (rest := f2.rd) (oc := f2.oe) (k0 := f2.kd) (by omega) hA f2.fs hoe2 N.at_.rel N.at_.noRow (back false (by unfold nxH; rw [if_neg hk]; rfl))
end

set_option maxHeartbeats 2000000 in
noncomputable def pkgH (n : Nat) : Pkg (mcH n) 81 where
  fn := Try.f81
  code := Try.f81.body.getD .skip
  hf := Try.func81
  hname := by kernel_rfl
  hcode := rfl
  Mine X := ∃ c sb, HMine n X c sb
  Sit := hSit n
  start := by
    rintro X ok ⟨c, sb, hm⟩ hfid c' hc cs bc ac ops q rest oc k hoc H z cont Ch Stop S K v w t A hH hob
    rw [hm.caps]
    show GoesI Try.prog (X.h == 0) (DT (ScZ z) Ch) Stop (G ((base 81).at { tmps := #[Pt c 0, Pt X.tb 0, .agg #[I c'.po, I c'.ca, I c'.cb, I c'.cc]] ++ Array.replicate 27 undef, defers := [] } [.code (Try.f81.body.getD .skip)]) (bc.at ac (.inRegion ops (q :: rest) :: k) :: cs)) w
    by_cases h1 : c'.po = 1
    · have es : (mcH n).start X.i c' = .turn 2 (keyH n c'.ca) (0, [(keyH n c'.ca : Int), (keyH n c'.cb : Int)]) := by simp [mcH, h1]
      rw [es] at hob
      rw [h1]
      have hC0 := hm.mem v A.pk
      refine call_ask c'.ca c'.cb c'.cc hC0.n0 hC0.n1 hC0.row cs hoc A.rel A.noRow (fun v' w' bd ad od qd rd oe kd r nn g hbox hoe hB code hcode => ?_) _ rfl
      have N := now_box A r nn g hbox
      have hC := hm.mem v' N.at_.pk
      have hf := keyH_lt hC.n0 c'.ca
      have ht := keyH_lt hC.n0 c'.cb
      obtain ⟨cb, hcb, hcell⟩ := hC.cel (keyH n c'.ca) hf
      have := ask_in (h := X.h) (i := X.i) (cb := cb) (t := t) (z := z) (cont := cont) (S := S) (K := K) _ hf ht hC.n1 hC.row hcell (bd.at ad (.inRegion od (qd :: rd) :: kd) :: bc.at ac (.inRegion ops (q :: rest) :: k) :: cs) (H (.turn 2 (keyH n c'.ca) (0, [(keyH n c'.ca : Int), (keyH n c'.cb : Int)])) (boxO (v.heap.size + 1))) (fun g hg => by
        obtain ⟨a1, hA1, hg⟩ := hg
        rw [N.at_.tb] at hA1 hg
        exact hH _ _ g (N.good (fun _ _ h => by cases h)) ⟨c, sb, v.heap.size + 1, ⟨bd, ad, od, qd, rd, oe, kd, bc.at ac (.inRegion ops (q :: rest) :: k) :: cs⟩, hm, hoe, hB, rfl, .inl ⟨_, _, cb, a1, rfl, hf, ht, hcb, hA1, hg⟩⟩) r nn N.at_.mem N.at_.thr (N.cell hcb).1 (by rw [N.at_.tb]; exact N.at_.z) (by rw [N.at_.tb, N.at_.gc]; exact N.at_.cont) (ob_turn hob N) code hcode
      rw [N.at_.tb] at this
      exact this
    · have es : (mcH n).start X.i c' = .ans 1 0 := by simp [mcH, h1]
      rw [es] at hob
      exact call_no c'.po c'.ca c'.cb c'.cc h1 cs hoc A.rel A.noRow (fun v' w' r nn g => hob.ans (1, 0) (.inl rfl) v' w' S r nn rfl (Evo.toP (A.mem.grows g))) _ rfl
  turn := by
    rintro X ok - hfid op j q Mo cu g ⟨c, sb, pb, f, hm, hoe, hB, rfl, hsit⟩ H z cont Ch Stop y S K v w t A hH hop hce hl hMo hMf hMp hob
    have N0 := Now.here A hMo hMf (boxO_row pb)
    have hC0 := hm.mem v A.pk
    rcases hsit with ⟨fr, to, cb, a, hx, hf, ht, hcb, hA, hg⟩ | ⟨fr, k, x, cb, a, f2, hx, hf, hk, hxn, hcb, hA, hoe2, hA2, hfs, hg⟩
    · cases hx
      have hc := N0.cell hcb
      refine hg z Ch Stop y w v S K t (cellAt K j).2 A.rel A.noRow A.mem A.thr A.tb hop hce hc.1 hl (fun v1 w1 tv r1 n1 e1 => ?_)
      have e2 : (cellAt K j).1 = cb := by rw [hc.2]
      have hok := A.kb.2.set j (0, [(j : Int), (to : Int)]) cb
      have em : (mcH n).turn (0, [(j : Int), (to : Int)]) (cellAt K j).2 = (((cellAt K j).2, (to : Int) + 1), (to : Int) + 1, nxH n j to 0) := by
        have e : ((to : Int) % (n : Int)) = to := Int.emod_eq_of_lt (by omega) (by omega)
        simp [mcH, Nat.mod_eq_of_lt ht, e]
      rw [em] at hob hok
      rw [e2] at hob
      have sd := sta_did (i := X.i) S tv t (cellAt K j).2 ((to : Int) + 1)
      have N1 := N0.on e1 r1 n1 (nv_did tv t _ _) (did_thr A.thr) A.tb A.gc sd.bk hok
      refine ask_next (v := v1) (bc := f.bd) (ac := f.ad) (ops := f.od) (q := f.qd) (rest := f.rd) (oc := f.oe) (k0 := f.kd) _ hA f.fs hoe (fun bd ad od qd rd oe kd hoe2 hA2 code hcode => ?_)
      have hC := hm.mem v1 N1.at_.pk
      exact lead_in hC.row _ r1 (fun a2 hL => h_head (f := f) (f2 := ⟨bd, ad, od, qd, rd, oe, kd, f.top :: f.fs⟩) hm hoe hB hoe2 hA2 rfl hH hf ht hL hob N1) code hcode
    · cases hx
      have hc := N0.cell hcb
      refine hg z Ch Stop y w v S K t (cellAt K j).2 A.rel A.noRow A.mem A.thr A.tb hop hce hc.1 hl (fun v1 w1 tv r1 n1 e1 => ?_)
      have e2 : (cellAt K j).1 = cb := by rw [hc.2]
      have hok := A.kb.2.set j (1, [(fr : Int), (k : Int), (j : Int)]) cb
      have hval := A.kb.2 j _ hc.1 hC0.n0
      have em : (mcH n).turn (1, [(fr : Int), (k : Int), (j : Int)]) (cellAt K j).2 = (((cellAt K j).2, (cellAt K j).2), (cellAt K j).2, if (cellAt K j).2 = 0 then .ans 0 0 else nxH n fr ((cellAt K j).2 - 1).toNat (k + 1)) := by
        simp [mcH]
      rw [em] at hob hok
      rw [e2] at hob
      have sd := sta_did (i := X.i) S tv t (cellAt K j).2 (cellAt K j).2
      have N1 := N0.on e1 r1 n1 (nv_did tv t _ _) (did_thr A.thr) A.tb A.gc sd.bk hok
      have hob : Ob X H z cont Ch Stop cu S K v (boxO pb) (didS (Gen.nv S) undef X.i t (cellAt K j).2 (cellAt K j).2) (K.set j (cb, (cellAt K j).2)) (if (cellAt K j).2 = 0 then .ans 0 0 else nxH n fr ((cellAt K j).2 - 1).toNat (k + 1)) := hob
      show GoesI Try.prog (X.h == 0) (DT (ScZ z) Ch) Stop (G (hlSeen a (I (cellAt K j).2)) (f2.top :: f2.fs)) w1
      by_cases h0 : (cellAt K j).2 = 0
      · rw [if_pos h0] at hob
        rw [h0]
        exact lead_no (bc := f2.bd) (ac := f2.ad) (ops := f2.od) (q := f2.qd) (rest := f2.rd) (oc := f2.oe) (k0 := f2.kd) hA f2.fs hoe2 r1 n1 (fun w2 r2 => hA2 z Ch Stop w2 v1 false r2 n1 (fun w3 r3 => h_ans hB false hob rfl (N1.same r3 n1 rfl rfl rfl)))
      · rw [if_neg h0] at hob
        obtain ⟨b, hb⟩ : ∃ b : Nat, (cellAt K j).2 = (b : Int) + 1 := ⟨((cellAt K j).2 - 1).toNat, by omega⟩
        have hbn : b < n := by omega
        have eb : ((cellAt K j).2 - 1).toNat = b := by omega
        rw [eb] at hob
        rw [hb]
        have hn1 := hC0.n1
        exact lead_next hk hn1 (by omega) hA _ (fun a2 hL => h_head hm hoe hB hoe2 hA2 hfs hH hf hbn hL hob N1)
  wake := by
    rintro X ok - hfid j q Mo cu g ⟨c, sb, pb, f, hm, hoe, hB, rfl, hsit⟩
    rcases hsit with ⟨fr, to, cb, a, hx, hf, ht, hcb, hA, hg⟩ | ⟨fr, k, x, cb, a, f2, hx, hf, hk, hxn, hcb, hA, hoe2, hA2, hfs, hg⟩ <;> cases hx
end Go.Proofs.Ytfjjoohflcchnaa.Gen
