/- OnceAlone holds, as a card tied to the program's text: a once of no world, asked by one free thread with any list of acts, carries out the first one alone and tells all of them what it came to; no condition besides the sizes that the statement itself names. Part 26 of 35. (Joined, by program, of: OnT2, OnT3, GMeas.) -/
import Derived.Test.YtaofjdoielmobaaDoorOnceAlone18
import Derived.Test.YtaofjdoielmobaaDoorOnceAlone25

/- once's comesTo (32) in company: an act that panics; one that asks again. (Made by wip/tools/mko.py.) -/
set_option linter.unusedSimpArgs false
set_option linter.unusedVariables false
namespace Go.Proofs.YtaofjdoielmobaaDoor.Gen
open Go Go.Lift Go.Conc Go.RowKit

theorem ev_iface (ty : TypeId) (x : Int) (w : World) : (binOp .neq 20 (.iface ty (I x)) .nilIface).events Tryd.prog w #[] = #[] := by
  show Sem.events Tryd.prog (do pure (Value.bool (!(← Op.equalIn (9999 + 1) 20 (.iface ty (I x)) .nilIface)))) w #[] = #[]
  unfold Op.equalIn
  simp [go_sem]
set_option maxHeartbeats 2000000 in
set_option maxRecDepth 100000 in
/-- An act that panics. -/
theorem come2 {z : Nat → Option Nat} {Ch : Nat → Prop} {Stop : Goroutine → World → Prop} {main : Bool} {v w : World} {ob tb : Nat} {kd b : Int} (hkd : kd = 2) (cs : List Frame) {bc : Frame} {ac : Act} {ops : Array Oper} {q : Nat} {rest : List Nat} {oc : Oper} {k0 : List Item} (hoc : ops[q]? = some oc) (hvw : Rel z v w) (hn : NoRow Ch v)
    (hk : ∀ v' w', Rel z v' w' → NoRow Ch v' → Grows v v' → GoesI Tryd.prog main (DT (ScZ z) Ch) Stop (G (bc.at (ac.put oc.dst (.agg #[I (71), I (b)])) (.inRegion ops rest :: k0)) cs) w') (code : Code) (hc : Tryd.f32.body = some code) :
    GoesI Tryd.prog main (DT (ScZ z) Ch) Stop (G ((base 32).at { tmps := #[Pt ob 0, Pt tb 0, .agg #[I kd, I b]] ++ Array.replicate 31 undef, defers := [] } [.code code]) (bc.at ac (.inRegion ops (q :: rest) :: k0) :: cs)) w := by
  have hw0 : code = .seq (seq1 tB) (seq2 tB) := by
    rw [show code = tB by unfold tB; rw [hc]; rfl]; exact eTB
  subst hw0
  clear hc
  refine goesI_seq (dt_idle _ _) ?_
  refine goesI_plain (z := z) (wr := true) (L := LT) (I := NoRow Ch) hE fineT noRow_keeps (fun v v' w w' es hi hr ho he => dt_of_z v v' w w' es hi hr ho he) hvw fine_t0 rfl (by simp [base]) hn
    (Q := fun a w' => a = { tmps := #[Pt ob 0, Pt tb 0, .agg #[I kd, I b], undef, undef, Pt v.heap.size 0, Pt (v.heap.size + 1) 0] ++ Array.replicate 27 undef, defers := [] } ∧ w'.heap = ((v.heap.push (.cells #[I kd, I b] 52)).push (.cells #[I 0, I 0] 38)) ∧ w'.os = v.os ∧ w'.output = v.output) (fun τ => ?_) ?_
  · unfold tB Tryd.f32 seq1
    simp only [Option.getD_some, Array.replicate_succ, Array.replicate_zero, List.push_toArray, List.append_toArray, List.nil_append, List.cons_append]
    go_wp2_with fail
    exact ⟨rfl, rfl, rfl, rfl⟩
  rintro a' v' w' ⟨rfl, hv1, hv2, hv3⟩ hr' hn' -
  have hsz : v'.heap.size = v.heap.size + 2 := by rw [hv1]; simp
  have hg : Grows v v' := ⟨by omega, fun b hb => by rw [hv1, Array.getElem?_push, if_neg (by simp; omega), Array.getElem?_push, if_neg (by omega)], hv2, hv3⟩
  have hb0 : v'.heap[v.heap.size]? = some (.cells #[I kd, I b] 52 (0, 0)) := by rw [hv1, Array.getElem?_push, if_neg (by simp <;> omega), Array.getElem?_push, if_pos (by simp)]
  have hb1 : v'.heap[v.heap.size + 1]? = some (.cells #[I 0, I 0] 38 (0, 0)) := by rw [hv1, Array.getElem?_push, if_pos (by simp)]
  have d0 : w'.cell? ⟨v.heap.size, 0, none⟩ = some (I kd) := by rw [hr'.cell?]; simp [World.cell?, hb0]
  have d1 : w'.cell? ⟨v.heap.size, 1, none⟩ = some (I b) := by rw [hr'.cell?]; simp [World.cell?, hb0]
  clear hv1 hv2 hv3 hvw hn
  subst hkd
  have hgr : ∀ e x, Grows v (ansW v' (v.heap.size + 1) e x) := fun e x => ⟨by rw [ans_size]; omega, fun b hb => by rw [ans_far _ _ _ _ _ (by omega)]; exact hg.old b hb, hg.os, hg.output⟩
  have hk := fun e x w' r' n' => hk (ansW v' (v.heap.size + 1) e x) w' r' n' (hgr e x)
  clear hgr hg hsz hb0
  have hpb := hb1
  clear hb1
  generalize v.heap.size = N at hpb d0 d1 hk ⊢
  unfold tB Tryd.f32 seq2
  simp only [Option.getD_some, Array.replicate_succ, Array.replicate_zero, List.push_toArray, List.append_toArray, List.nil_append, List.cons_append]
  refine goesI_seq (dt_idle _ _) ?_
  refine goesI_region (dt_idle _ _) ?_
  simp only [List.size_toArray, List.length_cons, List.length_nil, Nat.reduceAdd, Nat.zero_add, List.range, List.range.loop]
  iterate 1
    (refine goesI_oper rfl rfl (by decide) (fun d K hK => ?_)
     go_simp
     refine hK _ _ ⟨dt_reads (fun e he => ?_), GoesI.at ?_ d⟩
     · have hm := mem_listed he
       simp [go_sem, *] at hm
       try exact ⟨_, _, hm⟩
       try (rcases hm with rfl | rfl <;> exact ⟨_, _, rfl⟩)
     clear hK K)
  refine goesI_deferV (d := dclo 52 #[Pt N 0, Pt (N + 1) 0]) (dt_idle _ _) rfl rfl (by decide) (fun w => ?_) (fun w => ?_) ?_
  · simp [execOp, resolve, Deferred.ofValue, Act.eval, dclo, go_sem]
  · simp [go_sem, execOp, resolve, Deferred.ofValue, Act.eval]
  refine goesI_regionEnd (dt_idle _ _) ?_
  refine goesI_seq (dt_idle _ _) ?_
  refine goesI_seq (dt_idle _ _) ?_
  refine goesI_region (dt_idle _ _) ?_
  simp only [List.size_toArray, List.length_cons, List.length_nil, Nat.reduceAdd, Nat.zero_add, List.range, List.range.loop]
  iterate 2
    (refine goesI_oper rfl rfl (by decide) (fun d K hK => ?_)
     go_simp
     refine hK _ _ ⟨dt_reads (fun e he => ?_), GoesI.at ?_ d⟩
     · have hm := mem_listed he
       simp [go_sem, *] at hm
       try exact ⟨_, _, hm⟩
       try (rcases hm with rfl | rfl <;> exact ⟨_, _, rfl⟩)
     clear hK K)
  refine goesI_regionEnd (dt_idle _ _) ?_
  refine goesI_block (dt_idle _ _) ?_
  refine goesI_seq (dt_idle _ _) ?_
  refine goesI_region (dt_idle _ _) ?_
  simp only [List.size_toArray, List.length_cons, List.length_nil, Nat.reduceAdd, Nat.zero_add, List.range, List.range.loop]
  iterate 2
    (refine goesI_oper rfl rfl (by decide) (fun d K hK => ?_)
     go_simp
     refine hK _ _ ⟨dt_reads (fun e he => ?_), GoesI.at ?_ d⟩
     · have hm := mem_listed he
       simp [go_sem, *] at hm
       try exact ⟨_, _, hm⟩
       try (rcases hm with rfl | rfl <;> exact ⟨_, _, rfl⟩)
     clear hK K)
  refine goesI_regionEnd (dt_idle _ _) ?_
  refine goesI_cond (dt_idle _ _) (t := false) (by simp [Act.eval]) ?_
  simp only [if_true, if_false, Bool.false_eq_true]
  refine goesI_seq (dt_idle _ _) ?_
  refine goesI_region (dt_idle _ _) ?_
  simp only [List.size_toArray, List.length_cons, List.length_nil, Nat.reduceAdd, Nat.zero_add, List.range, List.range.loop]
  iterate 2
    (refine goesI_oper rfl rfl (by decide) (fun d K hK => ?_)
     go_simp
     refine hK _ _ ⟨dt_reads (fun e he => ?_), GoesI.at ?_ d⟩
     · have hm := mem_listed he
       simp [go_sem, *] at hm
       try exact ⟨_, _, hm⟩
       try (rcases hm with rfl | rfl <;> exact ⟨_, _, rfl⟩)
     clear hK K)
  refine goesI_regionEnd (dt_idle _ _) ?_
  refine goesI_cond (dt_idle _ _) (t := false) (by simp [Act.eval]) ?_
  simp only [if_true, if_false, Bool.false_eq_true]
  refine goesI_seq (dt_idle _ _) ?_
  refine goesI_region (dt_idle _ _) ?_
  simp only [List.size_toArray, List.length_cons, List.length_nil, Nat.reduceAdd, Nat.zero_add, List.range, List.range.loop]
  iterate 2
    (refine goesI_oper rfl rfl (by decide) (fun d K hK => ?_)
     go_simp
     refine hK _ _ ⟨dt_reads (fun e he => ?_), GoesI.at ?_ d⟩
     · have hm := mem_listed he
       simp [go_sem, *] at hm
       try exact ⟨_, _, hm⟩
       try (rcases hm with rfl | rfl <;> exact ⟨_, _, rfl⟩)
     clear hK K)
  refine goesI_regionEnd (dt_idle _ _) ?_
  refine goesI_cond (dt_idle _ _) (t := true) (by simp [Act.eval]) ?_
  simp only [if_true, if_false, Bool.false_eq_true]
  refine goesI_region (dt_idle _ _) ?_
  simp only [List.size_toArray, List.length_cons, List.length_nil, Nat.reduceAdd, Nat.zero_add, List.range, List.range.loop]
  iterate 2
    (refine goesI_oper rfl rfl (by decide) (fun d K hK => ?_)
     go_simp
     refine hK _ _ ⟨dt_reads (fun e he => ?_), GoesI.at ?_ d⟩
     · have hm := mem_listed he
       simp [go_sem, *] at hm
       try exact ⟨_, _, hm⟩
       try (rcases hm with rfl | rfl <;> exact ⟨_, _, rfl⟩)
     clear hK K)
  refine goesI_oper rfl rfl (by decide) (fun d K hK => ?_)
  go_simp
  refine hK _ _ ⟨dt_reads (fun e he => ?_), GoesI.at ?_ d⟩
  · have hm := mem_listed he
    simp [go_sem, Instr.makeInterface, *] at hm
  clear hK K
  refine GoesI.ctl rfl (fun w => stepG_panic (v := .iface 3 (I b)) rfl rfl (by decide) (by simp [execOp, go_sem, Instr.panic, Act.eval]) (by simp [go_sem, execOp, Instr.panic, Act.eval])) (dt_idle _ _) ?_
  refine GoesI.ctl rfl (fun w => stepG_unwind_cloP (f := 52) (fn := Tryd.f52) (cap := #[Pt N 0, Pt (N + 1) 0]) (ds := []) rfl Tryd.func52 (by kernel_rfl) rfl) (dt_idle _ _) ?_
  simp only [Tryd.ntmps52, List.size_toArray, List.length_cons, List.length_nil, Nat.reduceAdd, Nat.reduceSub, Array.replicate_succ, Array.replicate_zero, List.push_toArray, List.append_toArray, List.nil_append, List.cons_append]
  refine goesI_seq (dt_idle _ _) ?_
  refine goesI_region (dt_idle _ _) ?_
  simp only [List.size_toArray, List.length_cons, List.length_nil, Nat.reduceAdd, Nat.zero_add, List.range, List.range.loop]
  refine GoesI.ctl rfl (fun w => stepG_recover_some (v := .iface 3 (I b)) rfl rfl rfl rfl (by go_simp) (by simp [go_sem, execOp, resolve, invoke, builtin])) (dt_idle _ _) ?_
  (refine goesI_oper rfl rfl (by decide) (fun d K hK => ?_)
   go_simp
   refine hK _ _ ⟨dt_reads (fun e he => ?_), GoesI.at ?_ d⟩
   · have hm := mem_listed he
     simp [go_sem, ev_iface, *] at hm
   clear hK K)
  refine goesI_regionEnd (dt_idle _ _) ?_
  refine goesI_cond (dt_idle _ _) (t := true) (by simp [Act.eval]) ?_
  simp only [if_true, if_false, Bool.false_eq_true]
  refine goesI_region (dt_idle _ _) ?_
  simp only [List.size_toArray, List.length_cons, List.length_nil, Nat.reduceAdd, Nat.zero_add, List.range, List.range.loop]
  iterate 3
    (refine goesI_oper rfl rfl (by decide) (fun d K hK => ?_)
     go_simp
     refine hK _ _ ⟨dt_reads (fun e he => ?_), GoesI.at ?_ d⟩
     · have hm := mem_listed he
       simp [go_sem, *] at hm
       try exact ⟨_, _, hm⟩
       try (rcases hm with rfl | rfl <;> exact ⟨_, _, rfl⟩)
     clear hK K)
  have q0 : v'.cell? ⟨N + 1, 0, none⟩ = some (I 0) := by simp [World.cell?, hpb]
  have q1 : v'.cell? ⟨N + 1, 1, none⟩ = some (I 0) := by simp [World.cell?, hpb]
  have p0 : v'.frozen? ⟨N + 1, 0, none⟩ = false := by simp [World.frozen?, hpb]
  have p1 : v'.frozen? ⟨N + 1, 1, none⟩ = false := by simp [World.frozen?, hpb]
  have hrow := ans_row hpb (71) (b)
  refine goesI_doZ (L := LT) rfl rfl (by decide) (fineOp_ask callT extT (by kernel_rfl)) hr' hn' (v' := ansW v' (N + 1) (71) (b)) (by unfold ansW; go_simp) rfl (fun w9 r9 n9 => ?_)
  refine goesI_regionEnd (dt_idle _ _) ?_
  refine goesI_end (dt_idle _ _) ?_
  refine GoesI.ctl rfl (fun w => stepG_backD (v := .iface 3 (I b)) Tryd.func52 rfl rfl) (dt_idle _ _) ?_
  change GoesI Tryd.prog main (DT (ScZ z) Ch) Stop (G { (base 32).at ⟨_, []⟩ _ with mode := .returning } _) _
  refine goesI_leaveZ (f := 32) (fn := Tryd.f32) (x := .agg #[I (71), I (b)]) r9 n9 Tryd.func32 rfl hoc ?_ (fun w' r' => hk (71) (b) w' r' n9)
  generalize ansW v' (N + 1) (71) (b) = V at hrow
  have k0 : V.cell? ⟨N + 1, 0, none⟩ = some (I (71)) := by simp [World.cell?, hrow]
  have k1 : V.cell? ⟨N + 1, 1, none⟩ = some (I (b)) := by simp [World.cell?, hrow]
  simp [results, go_sem, Tryd.f32, Frame.at, *]
set_option maxHeartbeats 2000000 in
set_option maxRecDepth 100000 in
/-- An act that asks again. -/
theorem come3 {z : Nat → Option Nat} {Ch : Nat → Prop} {Stop : Goroutine → World → Prop} {main : Bool} {v w : World} {ob tb : Nat} {kd b : Int} (hkd : kd = 3) (cs : List Frame) {bc : Frame} {ac : Act} {ops : Array Oper} {q : Nat} {rest : List Nat} {oc : Oper} {k0 : List Item} (hoc : ops[q]? = some oc) (hvw : Rel z v w) (hn : NoRow Ch v)
    (hk : ∀ v' w' (bd : Frame) (ad : Act) (od : Array Oper) (qd : Nat) (rd : List Nat) (oe : Oper) (kd : List Item), Rel z v' w' → NoRow Ch v' → Grows v v' → v'.heap[v.heap.size + 1]? = some (.cells #[I 0, I 0] 38 (0, 0)) → od[qd]? = some oe → KBack main (oneM (v.heap.size + 1) (.cells #[I 0, I 0] 38 (0, 0))) (fun a => (70, a.1)) (fun r => G (bd.at (ad.put oe.dst r) (.inRegion od rd :: kd)) (bc.at ac (.inRegion ops (q :: rest) :: k0) :: cs)) (fun r => (G (bc.at (ac.put oc.dst r) (.inRegion ops rest :: k0)) cs)) → ∀ code, Tryd.f19.body = some code →
      GoesI Tryd.prog main (DT (ScZ z) Ch) Stop (G ((base 19).at { tmps := #[Pt ob 0, Pt tb 0, .agg #[I 3, I b]] ++ Array.replicate 11 undef, defers := [] } [.code code]) (bd.at ad (.inRegion od (qd :: rd) :: kd) :: (bc.at ac (.inRegion ops (q :: rest) :: k0) :: cs))) w') (code : Code) (hc : Tryd.f32.body = some code) :
    GoesI Tryd.prog main (DT (ScZ z) Ch) Stop (G ((base 32).at { tmps := #[Pt ob 0, Pt tb 0, .agg #[I kd, I b]] ++ Array.replicate 31 undef, defers := [] } [.code code]) (bc.at ac (.inRegion ops (q :: rest) :: k0) :: cs)) w := by
  have hw0 : code = .seq (seq1 tB) (seq2 tB) := by
    rw [show code = tB by unfold tB; rw [hc]; rfl]; exact eTB
  subst hw0
  clear hc
  refine goesI_seq (dt_idle _ _) ?_
  refine goesI_plain (z := z) (wr := true) (L := LT) (I := NoRow Ch) hE fineT noRow_keeps (fun v v' w w' es hi hr ho he => dt_of_z v v' w w' es hi hr ho he) hvw fine_t0 rfl (by simp [base]) hn
    (Q := fun a w' => a = { tmps := #[Pt ob 0, Pt tb 0, .agg #[I kd, I b], undef, undef, Pt v.heap.size 0, Pt (v.heap.size + 1) 0] ++ Array.replicate 27 undef, defers := [] } ∧ w'.heap = ((v.heap.push (.cells #[I kd, I b] 52)).push (.cells #[I 0, I 0] 38)) ∧ w'.os = v.os ∧ w'.output = v.output) (fun τ => ?_) ?_
  · unfold tB Tryd.f32 seq1
    simp only [Option.getD_some, Array.replicate_succ, Array.replicate_zero, List.push_toArray, List.append_toArray, List.nil_append, List.cons_append]
    go_wp2_with fail
    exact ⟨rfl, rfl, rfl, rfl⟩
  rintro a' v' w' ⟨rfl, hv1, hv2, hv3⟩ hr' hn' -
  have hsz : v'.heap.size = v.heap.size + 2 := by rw [hv1]; simp
  have hg : Grows v v' := ⟨by omega, fun b hb => by rw [hv1, Array.getElem?_push, if_neg (by simp; omega), Array.getElem?_push, if_neg (by omega)], hv2, hv3⟩
  have hb0 : v'.heap[v.heap.size]? = some (.cells #[I kd, I b] 52 (0, 0)) := by rw [hv1, Array.getElem?_push, if_neg (by simp <;> omega), Array.getElem?_push, if_pos (by simp)]
  have hb1 : v'.heap[v.heap.size + 1]? = some (.cells #[I 0, I 0] 38 (0, 0)) := by rw [hv1, Array.getElem?_push, if_pos (by simp)]
  have d0 : w'.cell? ⟨v.heap.size, 0, none⟩ = some (I kd) := by rw [hr'.cell?]; simp [World.cell?, hb0]
  have d1 : w'.cell? ⟨v.heap.size, 1, none⟩ = some (I b) := by rw [hr'.cell?]; simp [World.cell?, hb0]
  clear hv1 hv2 hv3 hvw hn
  subst hkd
  have hk := fun w1 bd ad od qd rd oe kd (r1 : Rel z v' w1) => hk v' w1 bd ad od qd rd oe kd r1 hn' hg hb1
  clear hg hsz hb0 hb1
  generalize v.heap.size = N at d0 d1 hk ⊢
  unfold tB Tryd.f32 seq2
  simp only [Option.getD_some, Array.replicate_succ, Array.replicate_zero, List.push_toArray, List.append_toArray, List.nil_append, List.cons_append]
  refine goesI_seq (dt_idle _ _) ?_
  refine goesI_region (dt_idle _ _) ?_
  simp only [List.size_toArray, List.length_cons, List.length_nil, Nat.reduceAdd, Nat.zero_add, List.range, List.range.loop]
  iterate 1
    (refine goesI_oper rfl rfl (by decide) (fun d K hK => ?_)
     go_simp
     refine hK _ _ ⟨dt_reads (fun e he => ?_), GoesI.at ?_ d⟩
     · have hm := mem_listed he
       simp [go_sem, *] at hm
       try exact ⟨_, _, hm⟩
       try (rcases hm with rfl | rfl <;> exact ⟨_, _, rfl⟩)
     clear hK K)
  refine goesI_deferV (d := dclo 52 #[Pt N 0, Pt (N + 1) 0]) (dt_idle _ _) rfl rfl (by decide) (fun w => ?_) (fun w => ?_) ?_
  · simp [execOp, resolve, Deferred.ofValue, Act.eval, dclo, go_sem]
  · simp [go_sem, execOp, resolve, Deferred.ofValue, Act.eval]
  refine goesI_regionEnd (dt_idle _ _) ?_
  refine goesI_seq (dt_idle _ _) ?_
  refine goesI_seq (dt_idle _ _) ?_
  refine goesI_region (dt_idle _ _) ?_
  simp only [List.size_toArray, List.length_cons, List.length_nil, Nat.reduceAdd, Nat.zero_add, List.range, List.range.loop]
  iterate 2
    (refine goesI_oper rfl rfl (by decide) (fun d K hK => ?_)
     go_simp
     refine hK _ _ ⟨dt_reads (fun e he => ?_), GoesI.at ?_ d⟩
     · have hm := mem_listed he
       simp [go_sem, *] at hm
       try exact ⟨_, _, hm⟩
       try (rcases hm with rfl | rfl <;> exact ⟨_, _, rfl⟩)
     clear hK K)
  refine goesI_regionEnd (dt_idle _ _) ?_
  refine goesI_block (dt_idle _ _) ?_
  refine goesI_seq (dt_idle _ _) ?_
  refine goesI_region (dt_idle _ _) ?_
  simp only [List.size_toArray, List.length_cons, List.length_nil, Nat.reduceAdd, Nat.zero_add, List.range, List.range.loop]
  iterate 2
    (refine goesI_oper rfl rfl (by decide) (fun d K hK => ?_)
     go_simp
     refine hK _ _ ⟨dt_reads (fun e he => ?_), GoesI.at ?_ d⟩
     · have hm := mem_listed he
       simp [go_sem, *] at hm
       try exact ⟨_, _, hm⟩
       try (rcases hm with rfl | rfl <;> exact ⟨_, _, rfl⟩)
     clear hK K)
  refine goesI_regionEnd (dt_idle _ _) ?_
  refine goesI_cond (dt_idle _ _) (t := false) (by simp [Act.eval]) ?_
  simp only [if_true, if_false, Bool.false_eq_true]
  refine goesI_seq (dt_idle _ _) ?_
  refine goesI_region (dt_idle _ _) ?_
  simp only [List.size_toArray, List.length_cons, List.length_nil, Nat.reduceAdd, Nat.zero_add, List.range, List.range.loop]
  iterate 2
    (refine goesI_oper rfl rfl (by decide) (fun d K hK => ?_)
     go_simp
     refine hK _ _ ⟨dt_reads (fun e he => ?_), GoesI.at ?_ d⟩
     · have hm := mem_listed he
       simp [go_sem, *] at hm
       try exact ⟨_, _, hm⟩
       try (rcases hm with rfl | rfl <;> exact ⟨_, _, rfl⟩)
     clear hK K)
  refine goesI_regionEnd (dt_idle _ _) ?_
  refine goesI_cond (dt_idle _ _) (t := false) (by simp [Act.eval]) ?_
  simp only [if_true, if_false, Bool.false_eq_true]
  refine goesI_seq (dt_idle _ _) ?_
  refine goesI_region (dt_idle _ _) ?_
  simp only [List.size_toArray, List.length_cons, List.length_nil, Nat.reduceAdd, Nat.zero_add, List.range, List.range.loop]
  iterate 2
    (refine goesI_oper rfl rfl (by decide) (fun d K hK => ?_)
     go_simp
     refine hK _ _ ⟨dt_reads (fun e he => ?_), GoesI.at ?_ d⟩
     · have hm := mem_listed he
       simp [go_sem, *] at hm
       try exact ⟨_, _, hm⟩
       try (rcases hm with rfl | rfl <;> exact ⟨_, _, rfl⟩)
     clear hK K)
  refine goesI_regionEnd (dt_idle _ _) ?_
  refine goesI_cond (dt_idle _ _) (t := false) (by simp [Act.eval]) ?_
  simp only [if_true, if_false, Bool.false_eq_true]
  refine goesI_seq (dt_idle _ _) ?_
  refine goesI_region (dt_idle _ _) ?_
  simp only [List.size_toArray, List.length_cons, List.length_nil, Nat.reduceAdd, Nat.zero_add, List.range, List.range.loop]
  iterate 2
    (refine goesI_oper rfl rfl (by decide) (fun d K hK => ?_)
     go_simp
     refine hK _ _ ⟨dt_reads (fun e he => ?_), GoesI.at ?_ d⟩
     · have hm := mem_listed he
       simp [go_sem, *] at hm
       try exact ⟨_, _, hm⟩
       try (rcases hm with rfl | rfl <;> exact ⟨_, _, rfl⟩)
     clear hK K)
  refine goesI_regionEnd (dt_idle _ _) ?_
  refine goesI_cond (dt_idle _ _) (t := true) (by simp [Act.eval]) ?_
  simp only [if_true, if_false, Bool.false_eq_true]
  refine goesI_seq (dt_idle _ _) ?_
  refine goesI_region (dt_idle _ _) ?_
  simp only [List.size_toArray, List.length_cons, List.length_nil, Nat.reduceAdd, Nat.zero_add, List.range, List.range.loop]
  iterate 3
    (refine goesI_oper rfl rfl (by decide) (fun d K hK => ?_)
     go_simp
     refine hK _ _ ⟨dt_reads (fun e he => ?_), GoesI.at ?_ d⟩
     · have hm := mem_listed he
       simp [go_sem, *] at hm
       try exact ⟨_, _, hm⟩
       try (rcases hm with rfl | rfl <;> exact ⟨_, _, rfl⟩)
     clear hK K)
  refine goesI_into (f := 19) (fn := Tryd.f19) (args := #[Pt ob 0, Pt tb 0, .agg #[I 3, I b]]) (dt_idle _ _) rfl rfl (by decide) rfl (by simp [Act.eval]) Tryd.func19 (by decide) rfl ?_
  refine hk _ _ _ _ _ _ _ _ (hr'.re rfl rfl rfl rfl rfl rfl) rfl ?_ _ rfl
  clear hk hr' hn' d0 d1
  intro z1 Ch1 St w2 v2 S1 K1 a r2 n2 m2 hM hO hk
  have hpb : v2.heap[N + 1]? = some (.cells #[I 0, I 0] 38 (0, 0)) := has_one.1 hM
  have hO1 : ¬ Own S1 K1 (N + 1) := hO (N + 1) (by rw [oneM_at]; simp)
  have he := ans_evo m2 hO1 70 a.1
  have hk := fun w' r' n' => hk (ansW v2 (N + 1) 70 a.1) w' r' n' (he.wider (fun b _ hb => by rw [show b = N + 1 from hb, oneM_at]; simp))
  walk_nrm
  iterate 2
    (refine goesI_oper rfl rfl (by decide) (fun d K hK => ?_)
     go_simp
     refine hK _ _ ⟨dt_reads (fun e he => ?_), GoesI.at ?_ d⟩
     · have hm := mem_listed he
       simp [go_sem, *] at hm
       try exact ⟨_, _, hm⟩
       try (rcases hm with rfl | rfl <;> exact ⟨_, _, rfl⟩)
     clear hK K)
  have q0 : v2.cell? ⟨N + 1, 0, none⟩ = some (I 0) := by simp [World.cell?, hpb]
  have q1 : v2.cell? ⟨N + 1, 1, none⟩ = some (I 0) := by simp [World.cell?, hpb]
  have p0 : v2.frozen? ⟨N + 1, 0, none⟩ = false := by simp [World.frozen?, hpb]
  have p1 : v2.frozen? ⟨N + 1, 1, none⟩ = false := by simp [World.frozen?, hpb]
  have hrow := ans_row hpb (70) (a.1)
  refine goesI_doZ (L := LT) rfl rfl (by decide) (fineOp_ask callT extT (by kernel_rfl)) r2 n2 (v' := ansW v2 (N + 1) (70) (a.1)) (by unfold ansW; go_simp) rfl (fun w9 r9 n9 => ?_)
  refine goesI_regionEnd (dt_idle _ _) ?_
  refine GoesI.ctl rfl (fun _ => stepG_ret') (dt_idle _ _) ?_
  refine goesI_unwind_clo (dt_idle _ _) rfl Tryd.func52 (by kernel_rfl) rfl ?_
  simp only [Tryd.ntmps52, List.size_toArray, List.length_cons, List.length_nil, Nat.reduceAdd, Nat.reduceSub, Array.replicate_succ, Array.replicate_zero, List.push_toArray, List.append_toArray, List.nil_append, List.cons_append]
  refine goesI_seq (dt_idle _ _) ?_
  refine goesI_region (dt_idle _ _) ?_
  simp only [List.size_toArray, List.length_cons, List.length_nil, Nat.reduceAdd, Nat.zero_add, List.range, List.range.loop]
  refine goesI_recover_none (dt_idle _ _) rfl rfl rfl rfl (fun w => by go_simp) (fun w => by simp [go_sem, execOp, resolve, invoke, builtin]) ?_
  (refine goesI_oper rfl rfl (by decide) (fun d K hK => ?_)
   go_simp
   refine hK _ _ ⟨dt_reads (fun e he => ?_), GoesI.at ?_ d⟩
   · have hm := mem_listed he
     simp [go_sem, ev_nil, *] at hm
   clear hK K)
  refine goesI_regionEnd (dt_idle _ _) ?_
  refine goesI_cond (dt_idle _ _) (t := false) rfl ?_
  simp only [if_true, if_false, Bool.false_eq_true]
  refine goesI_skip (dt_idle _ _) ?_
  refine goesI_end (dt_idle _ _) ?_
  refine GoesI.ctl rfl (fun w => stepG_backR Tryd.func52 rfl rfl) (dt_idle _ _) ?_
  refine goesI_leaveZ (f := 32) (fn := Tryd.f32) (x := .agg #[I (70), I (a.1)]) r9 n9 Tryd.func32 rfl hoc ?_ (fun w' r' => hk w' r' n9)
  generalize ansW v2 (N + 1) (70) (a.1) = V at hrow
  have k0 : V.cell? ⟨N + 1, 0, none⟩ = some (I (70)) := by simp [World.cell?, hrow]
  have k1 : V.cell? ⟨N + 1, 1, none⟩ = some (I (a.1)) := by simp [World.cell?, hrow]
  simp [results, go_sem, Tryd.f32, Frame.at, *]

end Go.Proofs.YtaofjdoielmobaaDoor.Gen

/- once's comesTo (32): an act of no kind; one that asks again, where no world is. (Made by wip/tools/mko.py.) -/
set_option linter.unusedSimpArgs false
set_option linter.unusedVariables false
namespace Go.Proofs.YtaofjdoielmobaaDoor.Gen
open Go Go.Lift Go.Conc Go.RowKit

set_option maxHeartbeats 2000000 in
set_option maxRecDepth 100000 in
/-- An act of no kind. -/
theorem come4 {z : Nat → Option Nat} {Ch : Nat → Prop} {Stop : Goroutine → World → Prop} {main : Bool} {v w : World} {ob tb : Nat} {kd b : Int} (hkd0 : kd ≠ 0) (hkd1 : kd ≠ 1) (hkd2 : kd ≠ 2) (hkd3 : kd ≠ 3) (cs : List Frame) {bc : Frame} {ac : Act} {ops : Array Oper} {q : Nat} {rest : List Nat} {oc : Oper} {k0 : List Item} (hoc : ops[q]? = some oc) (hvw : Rel z v w) (hn : NoRow Ch v)
    (hk : ∀ v' w', Rel z v' w' → NoRow Ch v' → Grows v v' → GoesI Tryd.prog main (DT (ScZ z) Ch) Stop (G (bc.at (ac.put oc.dst (.agg #[I (1), I (0)])) (.inRegion ops rest :: k0)) cs) w') (code : Code) (hc : Tryd.f32.body = some code) :
    GoesI Tryd.prog main (DT (ScZ z) Ch) Stop (G ((base 32).at { tmps := #[Pt ob 0, Pt tb 0, .agg #[I kd, I b]] ++ Array.replicate 31 undef, defers := [] } [.code code]) (bc.at ac (.inRegion ops (q :: rest) :: k0) :: cs)) w := by
  have hw0 : code = .seq (seq1 tB) (seq2 tB) := by
    rw [show code = tB by unfold tB; rw [hc]; rfl]; exact eTB
  subst hw0
  clear hc
  refine goesI_seq (dt_idle _ _) ?_
  refine goesI_plain (z := z) (wr := true) (L := LT) (I := NoRow Ch) hE fineT noRow_keeps (fun v v' w w' es hi hr ho he => dt_of_z v v' w w' es hi hr ho he) hvw fine_t0 rfl (by simp [base]) hn
    (Q := fun a w' => a = { tmps := #[Pt ob 0, Pt tb 0, .agg #[I kd, I b], undef, undef, Pt v.heap.size 0, Pt (v.heap.size + 1) 0] ++ Array.replicate 27 undef, defers := [] } ∧ w'.heap = ((v.heap.push (.cells #[I kd, I b] 52)).push (.cells #[I 0, I 0] 38)) ∧ w'.os = v.os ∧ w'.output = v.output) (fun τ => ?_) ?_
  · unfold tB Tryd.f32 seq1
    simp only [Option.getD_some, Array.replicate_succ, Array.replicate_zero, List.push_toArray, List.append_toArray, List.nil_append, List.cons_append]
    go_wp2_with fail
    exact ⟨rfl, rfl, rfl, rfl⟩
  rintro a' v' w' ⟨rfl, hv1, hv2, hv3⟩ hr' hn' -
  have hsz : v'.heap.size = v.heap.size + 2 := by rw [hv1]; simp
  have hg : Grows v v' := ⟨by omega, fun b hb => by rw [hv1, Array.getElem?_push, if_neg (by simp; omega), Array.getElem?_push, if_neg (by omega)], hv2, hv3⟩
  have hb0 : v'.heap[v.heap.size]? = some (.cells #[I kd, I b] 52 (0, 0)) := by rw [hv1, Array.getElem?_push, if_neg (by simp <;> omega), Array.getElem?_push, if_pos (by simp)]
  have hb1 : v'.heap[v.heap.size + 1]? = some (.cells #[I 0, I 0] 38 (0, 0)) := by rw [hv1, Array.getElem?_push, if_pos (by simp)]
  have d0 : w'.cell? ⟨v.heap.size, 0, none⟩ = some (I kd) := by rw [hr'.cell?]; simp [World.cell?, hb0]
  have d1 : w'.cell? ⟨v.heap.size, 1, none⟩ = some (I b) := by rw [hr'.cell?]; simp [World.cell?, hb0]
  clear hv1 hv2 hv3 hvw hn
  have hgr : ∀ e x, Grows v (ansW v' (v.heap.size + 1) e x) := fun e x => ⟨by rw [ans_size]; omega, fun b hb => by rw [ans_far _ _ _ _ _ (by omega)]; exact hg.old b hb, hg.os, hg.output⟩
  have hk := fun e x w' r' n' => hk (ansW v' (v.heap.size + 1) e x) w' r' n' (hgr e x)
  clear hgr hg hsz hb0
  have hpb := hb1
  clear hb1
  generalize v.heap.size = N at hpb d0 d1 hk ⊢
  unfold tB Tryd.f32 seq2
  simp only [Option.getD_some, Array.replicate_succ, Array.replicate_zero, List.push_toArray, List.append_toArray, List.nil_append, List.cons_append]
  refine goesI_seq (dt_idle _ _) ?_
  refine goesI_region (dt_idle _ _) ?_
  simp only [List.size_toArray, List.length_cons, List.length_nil, Nat.reduceAdd, Nat.zero_add, List.range, List.range.loop]
  iterate 1
    (refine goesI_oper rfl rfl (by decide) (fun d K hK => ?_)
     go_simp
     refine hK _ _ ⟨dt_reads (fun e he => ?_), GoesI.at ?_ d⟩
     · have hm := mem_listed he
       simp [go_sem, *] at hm
       try exact ⟨_, _, hm⟩
       try (rcases hm with rfl | rfl <;> exact ⟨_, _, rfl⟩)
     clear hK K)
  refine goesI_deferV (d := dclo 52 #[Pt N 0, Pt (N + 1) 0]) (dt_idle _ _) rfl rfl (by decide) (fun w => ?_) (fun w => ?_) ?_
  · simp [execOp, resolve, Deferred.ofValue, Act.eval, dclo, go_sem]
  · simp [go_sem, execOp, resolve, Deferred.ofValue, Act.eval]
  refine goesI_regionEnd (dt_idle _ _) ?_
  refine goesI_seq (dt_idle _ _) ?_
  refine goesI_seq (dt_idle _ _) ?_
  refine goesI_region (dt_idle _ _) ?_
  simp only [List.size_toArray, List.length_cons, List.length_nil, Nat.reduceAdd, Nat.zero_add, List.range, List.range.loop]
  iterate 2
    (refine goesI_oper rfl rfl (by decide) (fun d K hK => ?_)
     go_simp
     refine hK _ _ ⟨dt_reads (fun e he => ?_), GoesI.at ?_ d⟩
     · have hm := mem_listed he
       simp [go_sem, *] at hm
       try exact ⟨_, _, hm⟩
       try (rcases hm with rfl | rfl <;> exact ⟨_, _, rfl⟩)
     clear hK K)
  refine goesI_regionEnd (dt_idle _ _) ?_
  refine goesI_block (dt_idle _ _) ?_
  refine goesI_seq (dt_idle _ _) ?_
  refine goesI_region (dt_idle _ _) ?_
  simp only [List.size_toArray, List.length_cons, List.length_nil, Nat.reduceAdd, Nat.zero_add, List.range, List.range.loop]
  iterate 2
    (refine goesI_oper rfl rfl (by decide) (fun d K hK => ?_)
     go_simp
     refine hK _ _ ⟨dt_reads (fun e he => ?_), GoesI.at ?_ d⟩
     · have hm := mem_listed he
       simp [go_sem, *] at hm
       try exact ⟨_, _, hm⟩
       try (rcases hm with rfl | rfl <;> exact ⟨_, _, rfl⟩)
     clear hK K)
  refine goesI_regionEnd (dt_idle _ _) ?_
  refine goesI_cond (dt_idle _ _) (t := false) (by simp [Act.eval, hkd0]) ?_
  simp only [if_true, if_false, Bool.false_eq_true]
  refine goesI_seq (dt_idle _ _) ?_
  refine goesI_region (dt_idle _ _) ?_
  simp only [List.size_toArray, List.length_cons, List.length_nil, Nat.reduceAdd, Nat.zero_add, List.range, List.range.loop]
  iterate 2
    (refine goesI_oper rfl rfl (by decide) (fun d K hK => ?_)
     go_simp
     refine hK _ _ ⟨dt_reads (fun e he => ?_), GoesI.at ?_ d⟩
     · have hm := mem_listed he
       simp [go_sem, *] at hm
       try exact ⟨_, _, hm⟩
       try (rcases hm with rfl | rfl <;> exact ⟨_, _, rfl⟩)
     clear hK K)
  refine goesI_regionEnd (dt_idle _ _) ?_
  refine goesI_cond (dt_idle _ _) (t := false) (by simp [Act.eval, hkd1]) ?_
  simp only [if_true, if_false, Bool.false_eq_true]
  refine goesI_seq (dt_idle _ _) ?_
  refine goesI_region (dt_idle _ _) ?_
  simp only [List.size_toArray, List.length_cons, List.length_nil, Nat.reduceAdd, Nat.zero_add, List.range, List.range.loop]
  iterate 2
    (refine goesI_oper rfl rfl (by decide) (fun d K hK => ?_)
     go_simp
     refine hK _ _ ⟨dt_reads (fun e he => ?_), GoesI.at ?_ d⟩
     · have hm := mem_listed he
       simp [go_sem, *] at hm
       try exact ⟨_, _, hm⟩
       try (rcases hm with rfl | rfl <;> exact ⟨_, _, rfl⟩)
     clear hK K)
  refine goesI_regionEnd (dt_idle _ _) ?_
  refine goesI_cond (dt_idle _ _) (t := false) (by simp [Act.eval, hkd2]) ?_
  simp only [if_true, if_false, Bool.false_eq_true]
  refine goesI_seq (dt_idle _ _) ?_
  refine goesI_region (dt_idle _ _) ?_
  simp only [List.size_toArray, List.length_cons, List.length_nil, Nat.reduceAdd, Nat.zero_add, List.range, List.range.loop]
  iterate 2
    (refine goesI_oper rfl rfl (by decide) (fun d K hK => ?_)
     go_simp
     refine hK _ _ ⟨dt_reads (fun e he => ?_), GoesI.at ?_ d⟩
     · have hm := mem_listed he
       simp [go_sem, *] at hm
       try exact ⟨_, _, hm⟩
       try (rcases hm with rfl | rfl <;> exact ⟨_, _, rfl⟩)
     clear hK K)
  refine goesI_regionEnd (dt_idle _ _) ?_
  refine goesI_cond (dt_idle _ _) (t := false) (by simp [Act.eval, hkd3]) ?_
  simp only [if_true, if_false, Bool.false_eq_true]
  refine goesI_skip (dt_idle _ _) ?_
  refine goesI_inBlock (dt_idle _ _) ?_
  refine goesI_seq (dt_idle _ _) ?_
  refine goesI_region (dt_idle _ _) ?_
  simp only [List.size_toArray, List.length_cons, List.length_nil, Nat.reduceAdd, Nat.zero_add, List.range, List.range.loop]
  iterate 1
    (refine goesI_oper rfl rfl (by decide) (fun d K hK => ?_)
     go_simp
     refine hK _ _ ⟨dt_reads (fun e he => ?_), GoesI.at ?_ d⟩
     · have hm := mem_listed he
       simp [go_sem, *] at hm
       try exact ⟨_, _, hm⟩
       try (rcases hm with rfl | rfl <;> exact ⟨_, _, rfl⟩)
     clear hK K)
  have q0 : v'.cell? ⟨N + 1, 0, none⟩ = some (I 0) := by simp [World.cell?, hpb]
  have q1 : v'.cell? ⟨N + 1, 1, none⟩ = some (I 0) := by simp [World.cell?, hpb]
  have p0 : v'.frozen? ⟨N + 1, 0, none⟩ = false := by simp [World.frozen?, hpb]
  have p1 : v'.frozen? ⟨N + 1, 1, none⟩ = false := by simp [World.frozen?, hpb]
  have hrow := ans_row hpb (1) (0)
  refine goesI_doZ (L := LT) rfl rfl (by decide) (fineOp_ask callT extT (by kernel_rfl)) hr' hn' (v' := ansW v' (N + 1) (1) (0)) (by unfold ansW; go_simp) rfl (fun w9 r9 n9 => ?_)
  refine goesI_regionEnd (dt_idle _ _) ?_
  refine GoesI.ctl rfl (fun _ => stepG_ret') (dt_idle _ _) ?_
  refine goesI_unwind_clo (dt_idle _ _) rfl Tryd.func52 (by kernel_rfl) rfl ?_
  simp only [Tryd.ntmps52, List.size_toArray, List.length_cons, List.length_nil, Nat.reduceAdd, Nat.reduceSub, Array.replicate_succ, Array.replicate_zero, List.push_toArray, List.append_toArray, List.nil_append, List.cons_append]
  refine goesI_seq (dt_idle _ _) ?_
  refine goesI_region (dt_idle _ _) ?_
  simp only [List.size_toArray, List.length_cons, List.length_nil, Nat.reduceAdd, Nat.zero_add, List.range, List.range.loop]
  refine goesI_recover_none (dt_idle _ _) rfl rfl rfl rfl (fun w => by go_simp) (fun w => by simp [go_sem, execOp, resolve, invoke, builtin]) ?_
  (refine goesI_oper rfl rfl (by decide) (fun d K hK => ?_)
   go_simp
   refine hK _ _ ⟨dt_reads (fun e he => ?_), GoesI.at ?_ d⟩
   · have hm := mem_listed he
     simp [go_sem, ev_nil, *] at hm
   clear hK K)
  refine goesI_regionEnd (dt_idle _ _) ?_
  refine goesI_cond (dt_idle _ _) (t := false) rfl ?_
  simp only [if_true, if_false, Bool.false_eq_true]
  refine goesI_skip (dt_idle _ _) ?_
  refine goesI_end (dt_idle _ _) ?_
  refine GoesI.ctl rfl (fun w => stepG_backR Tryd.func52 rfl rfl) (dt_idle _ _) ?_
  refine goesI_leaveZ (f := 32) (fn := Tryd.f32) (x := .agg #[I (1), I (0)]) r9 n9 Tryd.func32 rfl hoc ?_ (fun w' r' => hk (1) (0) w' r' n9)
  generalize ansW v' (N + 1) (1) (0) = V at hrow
  have k0 : V.cell? ⟨N + 1, 0, none⟩ = some (I (1)) := by simp [World.cell?, hrow]
  have k1 : V.cell? ⟨N + 1, 1, none⟩ = some (I (0)) := by simp [World.cell?, hrow]
  simp [results, go_sem, Tryd.f32, Frame.at, *]

set_option maxHeartbeats 2000000 in
set_option maxRecDepth 100000 in
/-- An act that asks again. -/
theorem come3f {z : Nat → Option Nat} {Ch : Nat → Prop} {Stop : Goroutine → World → Prop} {main : Bool} {v w : World} {ob tb : Nat} {kd b : Int} (hkd : kd = 3) (cs : List Frame) {bc : Frame} {ac : Act} {ops : Array Oper} {q : Nat} {rest : List Nat} {oc : Oper} {k0 : List Item} (hoc : ops[q]? = some oc) (hvw : Rel z v w) (hn : NoRow Ch v)
    (hk : ∀ v' w' (bd : Frame) (ad : Act) (od : Array Oper) (qd : Nat) (rd : List Nat) (oe : Oper) (kd : List Item), Rel z v' w' → NoRow Ch v' → Grows v v' → v'.heap[v.heap.size + 1]? = some (.cells #[I 0, I 0] 38 (0, 0)) → od[qd]? = some oe → (∀ (v2 w2 : World) (a : Int × Int), Rel z v2 w2 → NoRow Ch v2 → v2.heap[v.heap.size + 1]? = some (.cells #[I 0, I 0] 38 (0, 0)) → (∀ w', Rel z (ansW v2 (v.heap.size + 1) 70 a.1) w' → NoRow Ch (ansW v2 (v.heap.size + 1) 70 a.1) → GoesI Tryd.prog main (DT (ScZ z) Ch) Stop (G (bc.at (ac.put oc.dst (.agg #[I 70, I a.1])) (.inRegion ops rest :: k0)) cs) w') → GoesI Tryd.prog main (DT (ScZ z) Ch) Stop (G (bd.at (ad.put oe.dst (.agg #[I a.1, I a.2])) (.inRegion od rd :: kd)) (bc.at ac (.inRegion ops (q :: rest) :: k0) :: cs)) w2) → ∀ code, Tryd.f19.body = some code →
      GoesI Tryd.prog main (DT (ScZ z) Ch) Stop (G ((base 19).at { tmps := #[Pt ob 0, Pt tb 0, .agg #[I 3, I b]] ++ Array.replicate 11 undef, defers := [] } [.code code]) (bd.at ad (.inRegion od (qd :: rd) :: kd) :: (bc.at ac (.inRegion ops (q :: rest) :: k0) :: cs))) w') (code : Code) (hc : Tryd.f32.body = some code) :
    GoesI Tryd.prog main (DT (ScZ z) Ch) Stop (G ((base 32).at { tmps := #[Pt ob 0, Pt tb 0, .agg #[I kd, I b]] ++ Array.replicate 31 undef, defers := [] } [.code code]) (bc.at ac (.inRegion ops (q :: rest) :: k0) :: cs)) w := by
  have hw0 : code = .seq (seq1 tB) (seq2 tB) := by
    rw [show code = tB by unfold tB; rw [hc]; rfl]; exact eTB
  subst hw0
  clear hc
  refine goesI_seq (dt_idle _ _) ?_
  refine goesI_plain (z := z) (wr := true) (L := LT) (I := NoRow Ch) hE fineT noRow_keeps (fun v v' w w' es hi hr ho he => dt_of_z v v' w w' es hi hr ho he) hvw fine_t0 rfl (by simp [base]) hn
    (Q := fun a w' => a = { tmps := #[Pt ob 0, Pt tb 0, .agg #[I kd, I b], undef, undef, Pt v.heap.size 0, Pt (v.heap.size + 1) 0] ++ Array.replicate 27 undef, defers := [] } ∧ w'.heap = ((v.heap.push (.cells #[I kd, I b] 52)).push (.cells #[I 0, I 0] 38)) ∧ w'.os = v.os ∧ w'.output = v.output) (fun τ => ?_) ?_
  · unfold tB Tryd.f32 seq1
    simp only [Option.getD_some, Array.replicate_succ, Array.replicate_zero, List.push_toArray, List.append_toArray, List.nil_append, List.cons_append]
    go_wp2_with fail
    exact ⟨rfl, rfl, rfl, rfl⟩
  rintro a' v' w' ⟨rfl, hv1, hv2, hv3⟩ hr' hn' -
  have hsz : v'.heap.size = v.heap.size + 2 := by rw [hv1]; simp
  have hg : Grows v v' := ⟨by omega, fun b hb => by rw [hv1, Array.getElem?_push, if_neg (by simp; omega), Array.getElem?_push, if_neg (by omega)], hv2, hv3⟩
  have hb0 : v'.heap[v.heap.size]? = some (.cells #[I kd, I b] 52 (0, 0)) := by rw [hv1, Array.getElem?_push, if_neg (by simp <;> omega), Array.getElem?_push, if_pos (by simp)]
  have hb1 : v'.heap[v.heap.size + 1]? = some (.cells #[I 0, I 0] 38 (0, 0)) := by rw [hv1, Array.getElem?_push, if_pos (by simp)]
  have d0 : w'.cell? ⟨v.heap.size, 0, none⟩ = some (I kd) := by rw [hr'.cell?]; simp [World.cell?, hb0]
  have d1 : w'.cell? ⟨v.heap.size, 1, none⟩ = some (I b) := by rw [hr'.cell?]; simp [World.cell?, hb0]
  clear hv1 hv2 hv3 hvw hn
  subst hkd
  have hk := fun w1 bd ad od qd rd oe kd (r1 : Rel z v' w1) => hk v' w1 bd ad od qd rd oe kd r1 hn' hg hb1
  clear hg hsz hb0 hb1
  generalize v.heap.size = N at d0 d1 hk ⊢
  unfold tB Tryd.f32 seq2
  simp only [Option.getD_some, Array.replicate_succ, Array.replicate_zero, List.push_toArray, List.append_toArray, List.nil_append, List.cons_append]
  refine goesI_seq (dt_idle _ _) ?_
  refine goesI_region (dt_idle _ _) ?_
  simp only [List.size_toArray, List.length_cons, List.length_nil, Nat.reduceAdd, Nat.zero_add, List.range, List.range.loop]
  iterate 1
    (refine goesI_oper rfl rfl (by decide) (fun d K hK => ?_)
     go_simp
     refine hK _ _ ⟨dt_reads (fun e he => ?_), GoesI.at ?_ d⟩
     · have hm := mem_listed he
       simp [go_sem, *] at hm
       try exact ⟨_, _, hm⟩
       try (rcases hm with rfl | rfl <;> exact ⟨_, _, rfl⟩)
     clear hK K)
  refine goesI_deferV (d := dclo 52 #[Pt N 0, Pt (N + 1) 0]) (dt_idle _ _) rfl rfl (by decide) (fun w => ?_) (fun w => ?_) ?_
  · simp [execOp, resolve, Deferred.ofValue, Act.eval, dclo, go_sem]
  · simp [go_sem, execOp, resolve, Deferred.ofValue, Act.eval]
  refine goesI_regionEnd (dt_idle _ _) ?_
  refine goesI_seq (dt_idle _ _) ?_
  refine goesI_seq (dt_idle _ _) ?_
  refine goesI_region (dt_idle _ _) ?_
  simp only [List.size_toArray, List.length_cons, List.length_nil, Nat.reduceAdd, Nat.zero_add, List.range, List.range.loop]
  iterate 2
    (refine goesI_oper rfl rfl (by decide) (fun d K hK => ?_)
     go_simp
     refine hK _ _ ⟨dt_reads (fun e he => ?_), GoesI.at ?_ d⟩
     · have hm := mem_listed he
       simp [go_sem, *] at hm
       try exact ⟨_, _, hm⟩
       try (rcases hm with rfl | rfl <;> exact ⟨_, _, rfl⟩)
     clear hK K)
  refine goesI_regionEnd (dt_idle _ _) ?_
  refine goesI_block (dt_idle _ _) ?_
  refine goesI_seq (dt_idle _ _) ?_
  refine goesI_region (dt_idle _ _) ?_
  simp only [List.size_toArray, List.length_cons, List.length_nil, Nat.reduceAdd, Nat.zero_add, List.range, List.range.loop]
  iterate 2
    (refine goesI_oper rfl rfl (by decide) (fun d K hK => ?_)
     go_simp
     refine hK _ _ ⟨dt_reads (fun e he => ?_), GoesI.at ?_ d⟩
     · have hm := mem_listed he
       simp [go_sem, *] at hm
       try exact ⟨_, _, hm⟩
       try (rcases hm with rfl | rfl <;> exact ⟨_, _, rfl⟩)
     clear hK K)
  refine goesI_regionEnd (dt_idle _ _) ?_
  refine goesI_cond (dt_idle _ _) (t := false) (by simp [Act.eval]) ?_
  simp only [if_true, if_false, Bool.false_eq_true]
  refine goesI_seq (dt_idle _ _) ?_
  refine goesI_region (dt_idle _ _) ?_
  simp only [List.size_toArray, List.length_cons, List.length_nil, Nat.reduceAdd, Nat.zero_add, List.range, List.range.loop]
  iterate 2
    (refine goesI_oper rfl rfl (by decide) (fun d K hK => ?_)
     go_simp
     refine hK _ _ ⟨dt_reads (fun e he => ?_), GoesI.at ?_ d⟩
     · have hm := mem_listed he
       simp [go_sem, *] at hm
       try exact ⟨_, _, hm⟩
       try (rcases hm with rfl | rfl <;> exact ⟨_, _, rfl⟩)
     clear hK K)
  refine goesI_regionEnd (dt_idle _ _) ?_
  refine goesI_cond (dt_idle _ _) (t := false) (by simp [Act.eval]) ?_
  simp only [if_true, if_false, Bool.false_eq_true]
  refine goesI_seq (dt_idle _ _) ?_
  refine goesI_region (dt_idle _ _) ?_
  simp only [List.size_toArray, List.length_cons, List.length_nil, Nat.reduceAdd, Nat.zero_add, List.range, List.range.loop]
  iterate 2
    (refine goesI_oper rfl rfl (by decide) (fun d K hK => ?_)
     go_simp
     refine hK _ _ ⟨dt_reads (fun e he => ?_), GoesI.at ?_ d⟩
     · have hm := mem_listed he
       simp [go_sem, *] at hm
       try exact ⟨_, _, hm⟩
       try (rcases hm with rfl | rfl <;> exact ⟨_, _, rfl⟩)
     clear hK K)
  refine goesI_regionEnd (dt_idle _ _) ?_
  refine goesI_cond (dt_idle _ _) (t := false) (by simp [Act.eval]) ?_
  simp only [if_true, if_false, Bool.false_eq_true]
  refine goesI_seq (dt_idle _ _) ?_
  refine goesI_region (dt_idle _ _) ?_
  simp only [List.size_toArray, List.length_cons, List.length_nil, Nat.reduceAdd, Nat.zero_add, List.range, List.range.loop]
  iterate 2
    (refine goesI_oper rfl rfl (by decide) (fun d K hK => ?_)
     go_simp
     refine hK _ _ ⟨dt_reads (fun e he => ?_), GoesI.at ?_ d⟩
     · have hm := mem_listed he
       simp [go_sem, *] at hm
       try exact ⟨_, _, hm⟩
       try (rcases hm with rfl | rfl <;> exact ⟨_, _, rfl⟩)
     clear hK K)
  refine goesI_regionEnd (dt_idle _ _) ?_
  refine goesI_cond (dt_idle _ _) (t := true) (by simp [Act.eval]) ?_
  simp only [if_true, if_false, Bool.false_eq_true]
  refine goesI_seq (dt_idle _ _) ?_
  refine goesI_region (dt_idle _ _) ?_
  simp only [List.size_toArray, List.length_cons, List.length_nil, Nat.reduceAdd, Nat.zero_add, List.range, List.range.loop]
  iterate 3
    (refine goesI_oper rfl rfl (by decide) (fun d K hK => ?_)
     go_simp
     refine hK _ _ ⟨dt_reads (fun e he => ?_), GoesI.at ?_ d⟩
     · have hm := mem_listed he
       simp [go_sem, *] at hm
       try exact ⟨_, _, hm⟩
       try (rcases hm with rfl | rfl <;> exact ⟨_, _, rfl⟩)
     clear hK K)
  refine goesI_into (f := 19) (fn := Tryd.f19) (args := #[Pt ob 0, Pt tb 0, .agg #[I 3, I b]]) (dt_idle _ _) rfl rfl (by decide) rfl (by simp [Act.eval]) Tryd.func19 (by decide) rfl ?_
  refine hk _ _ _ _ _ _ _ _ (hr'.re rfl rfl rfl rfl rfl rfl) rfl ?_ _ rfl
  clear hk hr' hn' d0 d1
  intro v2 w2 a r2 n2 hpb hk
  walk_nrm
  iterate 2
    (refine goesI_oper rfl rfl (by decide) (fun d K hK => ?_)
     go_simp
     refine hK _ _ ⟨dt_reads (fun e he => ?_), GoesI.at ?_ d⟩
     · have hm := mem_listed he
       simp [go_sem, *] at hm
       try exact ⟨_, _, hm⟩
       try (rcases hm with rfl | rfl <;> exact ⟨_, _, rfl⟩)
     clear hK K)
  have q0 : v2.cell? ⟨N + 1, 0, none⟩ = some (I 0) := by simp [World.cell?, hpb]
  have q1 : v2.cell? ⟨N + 1, 1, none⟩ = some (I 0) := by simp [World.cell?, hpb]
  have p0 : v2.frozen? ⟨N + 1, 0, none⟩ = false := by simp [World.frozen?, hpb]
  have p1 : v2.frozen? ⟨N + 1, 1, none⟩ = false := by simp [World.frozen?, hpb]
  have hrow := ans_row hpb (70) (a.1)
  refine goesI_doZ (L := LT) rfl rfl (by decide) (fineOp_ask callT extT (by kernel_rfl)) r2 n2 (v' := ansW v2 (N + 1) (70) (a.1)) (by unfold ansW; go_simp) rfl (fun w9 r9 n9 => ?_)
  refine goesI_regionEnd (dt_idle _ _) ?_
  refine GoesI.ctl rfl (fun _ => stepG_ret') (dt_idle _ _) ?_
  refine goesI_unwind_clo (dt_idle _ _) rfl Tryd.func52 (by kernel_rfl) rfl ?_
  simp only [Tryd.ntmps52, List.size_toArray, List.length_cons, List.length_nil, Nat.reduceAdd, Nat.reduceSub, Array.replicate_succ, Array.replicate_zero, List.push_toArray, List.append_toArray, List.nil_append, List.cons_append]
  refine goesI_seq (dt_idle _ _) ?_
  refine goesI_region (dt_idle _ _) ?_
  simp only [List.size_toArray, List.length_cons, List.length_nil, Nat.reduceAdd, Nat.zero_add, List.range, List.range.loop]
  refine goesI_recover_none (dt_idle _ _) rfl rfl rfl rfl (fun w => by go_simp) (fun w => by simp [go_sem, execOp, resolve, invoke, builtin]) ?_
  (refine goesI_oper rfl rfl (by decide) (fun d K hK => ?_)
   go_simp
   refine hK _ _ ⟨dt_reads (fun e he => ?_), GoesI.at ?_ d⟩
   · have hm := mem_listed he
     simp [go_sem, ev_nil, *] at hm
   clear hK K)
  refine goesI_regionEnd (dt_idle _ _) ?_
  refine goesI_cond (dt_idle _ _) (t := false) rfl ?_
  simp only [if_true, if_false, Bool.false_eq_true]
  refine goesI_skip (dt_idle _ _) ?_
  refine goesI_end (dt_idle _ _) ?_
  refine GoesI.ctl rfl (fun w => stepG_backR Tryd.func52 rfl rfl) (dt_idle _ _) ?_
  refine goesI_leaveZ (f := 32) (fn := Tryd.f32) (x := .agg #[I (70), I (a.1)]) r9 n9 Tryd.func32 rfl hoc ?_ (fun w' r' => hk w' r' n9)
  generalize ansW v2 (N + 1) (70) (a.1) = V at hrow
  have k0 : V.cell? ⟨N + 1, 0, none⟩ = some (I (70)) := by simp [World.cell?, hrow]
  have k1 : V.cell? ⟨N + 1, 1, none⟩ = some (I (a.1)) := by simp [World.cell?, hrow]
  simp [results, go_sem, Tryd.f32, Frame.at, *]

end Go.Proofs.YtaofjdoielmobaaDoor.Gen

/- The turns of any package's Play come to an end, whatever the schedule, if the package's calls have a measure (Met). -/
set_option linter.unusedSimpArgs false
set_option linter.unusedVariables false
namespace Go.Proofs.YtaofjdoielmobaaDoor.Gen
open Go Go.Lift Go.Conc Go.RowKit
open Go.ConcN (upd upd_same upd_ne)

/-- What comes next is a seat of a call. -/
def seatOk (L : Nat) (lev : Q → Nat) (cl : Q → Nat) (wq : Q → Prop) : Nx → Prop
  | .ans _ _ => True
  | .turn _ j q => 1 ≤ lev q ∧ lev q ≤ L ∧ j = cl q
  | .wait _ q => 1 ≤ lev q ∧ lev q ≤ L ∧ wq q
def nlev (lev : Q → Nat) : Nx → Nat
  | .ans _ _ => 0
  | .turn _ _ q => lev q
  | .wait _ q => lev q
/-- A measure of a package's calls: 'lev': how much of a call is left, which falls with each change of a cell; 'ws': how many turns it takes ahead of that, where x stands in its cell. -/
structure Met (mc : Mc) where
  L : Nat
  hL : 1 ≤ L
  lev : Q → Nat
  ws : Q → Int → Nat
  cl : Q → Nat
  wq : Q → Prop
  ws_le : ∀ q x, ws q x ≤ 3
  gq : Nat → Q → Int → Prop := fun _ _ _ => True
  start : ∀ i c, seatOk L lev cl wq (mc.start i c)
  nt : ∀ q x, mc.nts q x = [] ∨ ((mc.nts q x).length = 1 ∧ ∃ op j q', (mc.turn q x).2.2 = .turn op j q' ∧ lev q' < lev q) := by intro q x; exact .inl rfl
  stuck : ∀ q, 1 ≤ lev q → lev q ≤ L → wq q → seatOk L lev cl wq (mc.stuck q) ∧ nlev lev (mc.stuck q) < lev q := by intro q h _ _; exact ⟨trivial, h⟩
  turn : ∀ i q x, gq i q x → 1 ≤ lev q → lev q ≤ L → seatOk L lev cl wq (mc.turn q x).2.2 ∧ (nlev lev (mc.turn q x).2.2 < lev q ∨ ((mc.turn q x).1.1 = (mc.turn q x).1.2 ∧ (mc.turn q x).2.1 = x ∧ nlev lev (mc.turn q x).2.2 = lev q ∧
    match (mc.turn q x).2.2 with
    | .ans _ _ => False
    | .turn _ _ q' => cl q' = cl q ∧ ws q' x + 1 ≤ ws q x
    | .wait _ _ => 1 ≤ ws q x))
  woke : ∀ q, 1 ≤ lev q → lev q ≤ L → wq q → seatOk L lev cl wq (mc.woke q) ∧ (nlev lev (mc.woke q) < lev q ∨ (nlev lev (mc.woke q) = lev q ∧
    match mc.woke q with
    | .ans _ _ => False
    | .turn _ _ q' => ∀ y, ws q' y ≤ 1
    | .wait _ _ => True))

section
variable {mc : Mc} (M : Met mc)
def sits : Ph → Prop
  | .turn _ j q _ _ _ => 1 ≤ M.lev q ∧ M.lev q ≤ M.L ∧ j = M.cl q
  | .wait _ q _ _ _ => 1 ≤ M.lev q ∧ M.lev q ≤ M.L ∧ M.wq q
  | .done _ => True
/-- A run's state in which all threads sit. -/
structure Gd (p : PSt) : Prop where
  len : p.S.thr.length ≤ 8
  sit : ∀ i t, p.S.thr[i]? = some t → FitsN (p.l i) t ∧ StN (p.l i) t ∧ sits M (p.l i)

end
end Go.Proofs.YtaofjdoielmobaaDoor.Gen
