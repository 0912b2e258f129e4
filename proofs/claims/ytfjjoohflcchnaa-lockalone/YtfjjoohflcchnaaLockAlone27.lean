/- LockAlone: for every schedule and all scripts, what threads are told together under the lock is what one thread would be told that makes the calls in the order of the tickets; no conditions. Part 27 of 34. (Joined, by program, of: LokC, LokP.) -/
import Derived.Test.YtfjjoohflcchnaaLockAlone09
import Derived.Test.YtfjjoohflcchnaaLockAlone25
import Derived.Test.YtfjjoohflcchnaaLockAlone26
set_option linter.unusedSimpArgs false
set_option linter.unusedVariables false
namespace Go.Proofs.Ytfjjoohflcchnaa.Gen
open Go Go.Lift Go.Conc Go.RowKit

/-- It lays the answer (e, y) in memory of its own (ab), and comes back with it. -/
def MBack (main : Bool) (ab : Nat) (cu : Goroutine) (cl : Value → Goroutine) (e y : Int) : Prop :=
  ∀ (z : Nat → Option Nat) (Ch : Nat → Prop) (Stop : Goroutine → World → Prop) (w v : World) (S : TS) (K : List (Nat × Int)), Rel z v w → NoRow Ch v → Mem z S K v → v.heap[ab]? = some (.cells #[I 0, I 0] 42 (0, 0)) → ¬ Own S K ab →
    (∀ v' w', Rel z v' w' → NoRow Ch v' → EvoP (· = ab) z S K v S K v' → GoesI Try.prog main (DT (ScZ z) Ch) Stop (cl (.agg #[I e, I y])) w') →
    GoesI Try.prog main (DT (ScZ z) Ch) Stop cu w
/-- It has the lock: on to addTo. -/
def TBack (main : Bool) (qb ab lb gb tb : Nat) (cu : Goroutine) (cl : Value → Goroutine) : Prop :=
  ∀ (z : Nat → Option Nat) (Ch : Nat → Prop) (Stop : Goroutine → World → Prop) (w v : World) (a : Int), Rel z v w → NoRow Ch v → v.cell? ⟨qb, 1, none⟩ = some (I a) →
    (∀ w' (f : Frs), Rel z v w' → f.od[f.qd]? = some f.oe → (∀ y, MBack main ab (f.cu (I y)) cl 0 y) → ∀ code, Try.f94.body = some code →
      GoesI Try.prog main (DT (ScZ z) Ch) Stop (G ((base 94).at { tmps := #[Pt lb 0, Pt tb 0, Pt gb 0, I a] ++ Array.replicate 18 undef, defers := [] } [.code code]) (f.top :: f.fs)) w') →
    GoesI Try.prog main (DT (ScZ z) Ch) Stop cu w

noncomputable def lcall0 : Code := seq1 (Try.f67.body.getD .skip)
theorem fineLcall0 : fineCode Try.prog true LT lcall0 := fineCode_ask callT extT (by kernel_rfl)

set_option maxHeartbeats 1000000 in
set_option maxRecDepth 100000 in
/-- The call is Lock. -/
theorem lcall_lock {z : Nat → Option Nat} {Ch : Nat → Prop} {Stop : Goroutine → World → Prop} {main : Bool} {v w : World} {lb gb tb : Nat} (ca n cc : Int) (cs : List Frame) {bc : Frame} {ac : Act} {ops : Array Oper} {q : Nat} {rest : List Nat} {oc : Oper} {k : List Item} (hoc : ops[q]? = some oc)
    (hvw : Rel z v w) (hn : NoRow Ch v)
    (hstop : ∀ v' w' (f : Frs), Rel z v' w' → NoRow Ch v' → Grows v v' → v'.heap[v.heap.size + 1]? = some (.cells #[I 0, I 0] 42 (0, 0)) → v'.heap[v.heap.size]? = some (.cells #[I 1, I ca, I n, I cc] 39 (0, 0)) → f.od[f.qd]? = some f.oe →
      MBack main (v.heap.size + 1) (f.cu (.bool false)) (fun r => G (bc.at (ac.put oc.dst r) (.inRegion ops rest :: k)) cs) (4) (0) → TBack main v.heap.size (v.heap.size + 1) lb gb tb (f.cu (.bool true)) (fun r => G (bc.at (ac.put oc.dst r) (.inRegion ops rest :: k)) cs) → ∀ code, Try.f38.body = some code →
      GoesI Try.prog main (DT (ScZ z) Ch) Stop (G ((base 38).at { tmps := #[Pt lb 0, Pt tb 0] ++ Array.replicate 27 undef, defers := [] } [.code code]) (f.top :: f.fs)) w') (code : Code) (hc : Try.f67.body = some code) :
    GoesI Try.prog main (DT (ScZ z) Ch) Stop (G ((base 67).at { tmps := #[Pt lb 0, Pt tb 0, Pt gb 0, .agg #[I 1, I ca, I n, I cc]] ++ Array.replicate 36 undef, defers := [] } [.code code]) (bc.at ac (.inRegion ops (q :: rest) :: k) :: cs)) w := by
  have hw0 : code = .seq lcall0 (seq2 (Try.f67.body.getD .skip)) := by
    rw [hc]; obtain rfl := Option.some.inj hc; rfl
  subst hw0
  clear hc
  refine goesI_seq (dt_idle _ _) ?_
  refine goesI_plain (z := z) (wr := true) (L := LT) (I := NoRow Ch) hE fineT noRow_keeps (fun v v' w w' es hi hr ho he => dt_of_z v v' w w' es hi hr ho he) hvw fineLcall0 rfl (by simp [base]) hn
    (Q := fun a w' => a = { tmps := #[Pt lb 0, Pt tb 0, Pt gb 0, .agg #[I 1, I ca, I n, I cc], undef, undef, undef, Pt v.heap.size 0, Pt (v.heap.size + 1) 0] ++ Array.replicate 31 undef, defers := [] } ∧
      w'.heap = (v.heap.push (.cells #[I 1, I ca, I n, I cc] 39)).push (.cells #[I 0, I 0] 42) ∧ w'.os = v.os ∧ w'.output = v.output) (fun τ => ?_) ?_
  · show Code.wp Try.prog (seq1 (Try.f67.body.getD .skip)) _ _ _
    unfold Try.f67 seq1
    simp only [Option.getD_some, Array.replicate_succ, Array.replicate_zero, List.push_toArray, List.append_toArray, List.nil_append, List.cons_append]
    go_wp2_with fail
    exact ⟨rfl, rfl, rfl, rfl⟩
  rintro a' v' w' ⟨rfl, hv1, hv2, hv3⟩ hr' hn' -
  have hsz : v'.heap.size = v.heap.size + 2 := by rw [hv1]; simp
  have hg : Grows v v' := ⟨by omega, fun b hb => by rw [hv1, Array.getElem?_push, if_neg (by simp; omega), Array.getElem?_push, if_neg (by omega)], hv2, hv3⟩
  have hbox : v'.heap[v.heap.size]? = some (.cells #[I 1, I ca, I n, I cc] 39) := by rw [hv1, Array.getElem?_push, if_neg (by simp)]; exact Array.getElem?_push_size
  have hans : v'.heap[v.heap.size + 1]? = some (.cells #[I 0, I 0] 42) := by rw [hv1, Array.getElem?_push, if_pos (by simp)]
  have b0 : w'.cell? ⟨v.heap.size, 0, none⟩ = some (I 1) := by rw [hr'.cell?]; simp [World.cell?, hbox]
  have HV : Hid (Grows v v' ∧ v'.heap[v.heap.size + 1]? = some (.cells #[I 0, I 0] 42) ∧ v'.heap[v.heap.size]? = some (.cells #[I 1, I ca, I n, I cc] 39) ∧ NoRow Ch v' ∧ Rel z v' w') := ⟨⟨hg, hans, hbox, hn', hr'⟩⟩
  clear hv1 hv2 hv3 hsz hg hbox hans hn' hvw hn hr'
  generalize hN : v.heap.size = N at b0 HV hstop ⊢
  simp only [Array.replicate_succ, Array.replicate_zero, List.push_toArray, List.append_toArray, List.nil_append, List.cons_append]
  show GoesI Try.prog main (DT (ScZ z) Ch) Stop (G ((base 67).at _ [.code (seq2 (Try.f67.body.getD .skip))]) _) w'
  unfold Try.f67 seq2
  simp only [Option.getD_some]
  refine goesI_seq (dt_idle _ _) ?_
  refine goesI_seq (dt_idle _ _) ?_
  refine goesI_region (dt_idle _ _) ?_
  simp only [List.size_toArray, List.length_cons, List.length_nil, Nat.reduceAdd, Nat.zero_add, List.range, List.range.loop]
  iterate 2
    (refine goesI_oper rfl rfl (by decide) (fun d K hK => ?_)
     go_simp
     refine hK _ _ ⟨dt_reads (fun e he => ?_), GoesI.at ?_ d⟩
     · have hm := mem_listed he
       simp [go_sem, *] at hm
       try exact ⟨_, _, hm⟩
     clear hK K)
  refine goesI_regionEnd (dt_idle _ _) ?_
  refine goesI_block (dt_idle _ _) ?_
  refine goesI_seq (dt_idle _ _) ?_
  refine goesI_region (dt_idle _ _) ?_
  simp only [List.size_toArray, List.length_cons, List.length_nil, Nat.reduceAdd, Nat.zero_add, List.range, List.range.loop]
  iterate 2
    (refine goesI_oper rfl rfl (by decide) (fun d K hK => ?_)
     go_simp
     refine hK _ _ ⟨dt_reads (fun e he => ?_), GoesI.at ?_ d⟩
     · have hm := mem_listed he
       simp [go_sem, *] at hm
       try exact ⟨_, _, hm⟩
     clear hK K)
  refine goesI_regionEnd (dt_idle _ _) ?_
  refine goesI_cond (dt_idle _ _) (t := true) (rfl) ?_
  simp only [if_true, if_false, Bool.false_eq_true]
  refine goesI_seq (dt_idle _ _) ?_
  refine goesI_seq (dt_idle _ _) ?_
  refine goesI_region (dt_idle _ _) ?_
  simp only [List.size_toArray, List.length_cons, List.length_nil, Nat.reduceAdd, Nat.zero_add, List.range, List.range.loop]
  iterate 2
    (refine goesI_oper rfl rfl (by decide) (fun d K hK => ?_)
     go_simp
     refine hK _ _ ⟨dt_reads (fun e he => ?_), GoesI.at ?_ d⟩
     · have hm := mem_listed he
       simp [go_sem, *] at hm
       try exact ⟨_, _, hm⟩
     clear hK K)
  refine goesI_into (f := 38) (fn := Try.f38) (args := #[Pt lb 0, Pt tb 0]) (dt_idle _ _) rfl rfl (by decide) rfl (by simp [Act.eval]) Try.func38 (by decide) rfl ?_
  refine hstop v' w' ⟨_, _, _, _, _, _, _, _⟩ HV.out.2.2.2.2 HV.out.2.2.2.1 HV.out.1 HV.out.2.1 HV.out.2.2.1 rfl ?_ ?_ _ rfl
  · clear b0 HV hstop
    intro z1 Ch1 St w2 v2 S1 K1 r2 n2 m2 hpb2 hown2 hk
    show GoesI Try.prog main (DT (ScZ z1) Ch1) St (G _ _) w2
    walk_nrm
    iterate 1
      (refine goesI_oper rfl rfl (by decide) (fun d K hK => ?_)
       go_simp
       refine hK _ _ ⟨dt_reads (fun e he => ?_), GoesI.at ?_ d⟩
       · have hm := mem_listed he
         simp [go_sem, *] at hm
         try exact ⟨_, _, hm⟩
       clear hK K)
    refine goesI_regionEnd (dt_idle _ _) ?_
    refine goesI_cond (dt_idle _ _) (t := true) (rfl) ?_
    simp only [if_true, if_false, Bool.false_eq_true]
    refine goesI_seq (dt_idle _ _) ?_
    refine goesI_region (dt_idle _ _) ?_
    simp only [List.size_toArray, List.length_cons, List.length_nil, Nat.reduceAdd, Nat.zero_add, List.range, List.range.loop]
    have q0 : v2.cell? ⟨N + 1, 0, none⟩ = some (I 0) := by simp [World.cell?, hpb2]
    have q1 : v2.cell? ⟨N + 1, 1, none⟩ = some (I 0) := by simp [World.cell?, hpb2]
    have p0 : v2.frozen? ⟨N + 1, 0, none⟩ = false := by simp [World.frozen?, hpb2]
    have p1 : v2.frozen? ⟨N + 1, 1, none⟩ = false := by simp [World.frozen?, hpb2]
    have e3 := m2.other (v' := (v2.setCell ⟨N + 1, 0, none⟩ (I 4)).setCell ⟨N + 1, 1, none⟩ (I 0)) hown2 (fun b hb => by rw [Below.heap_setCell _ _ _ _ hb, Below.heap_setCell _ _ _ _ hb]) (by simp [World.setCell]) rfl rfl
    have hrow : ((v2.setCell ⟨N + 1, 0, none⟩ (I 4)).setCell ⟨N + 1, 1, none⟩ (I 0)).heap[N + 1]? = some (.cells #[I 4, I 0] 42 (0, 0)) := by
      have := heap_setCell_same (o := 1) (heap_setCell_same (o := 0) hpb2 (I 4)) (I 0)
      simpa using this
    have HM : Hid (Mem z1 S1 K1 v2 ∧ v2.heap[N + 1]? = some (.cells #[I 0, I 0] 42 (0, 0))) := ⟨⟨m2, hpb2⟩⟩
    clear m2 hpb2
    try walk_nrm
    iterate 1
      (refine goesI_oper rfl rfl (by decide) (fun d K hK => ?_)
       go_simp
       refine hK _ _ ⟨dt_reads (fun e he => ?_), GoesI.at ?_ d⟩
       · have hm := mem_listed he
         simp [go_sem, *] at hm
         try exact ⟨_, _, hm⟩
       clear hK K)
    refine goesI_doZ (L := LT) rfl rfl (by decide) (fineOp_ask callT extT (by kernel_rfl)) r2 n2 (v' := (v2.setCell ⟨N + 1, 0, none⟩ (I 4)).setCell ⟨N + 1, 1, none⟩ (I 0)) (by go_simp) rfl (fun w3 r3 n3 => ?_)
    refine goesI_regionEnd (dt_idle _ _) ?_
    refine GoesI.ctl rfl (fun _ => stepG_ret') (dt_idle _ _) ?_
    refine goesI_leaveZ (f := 67) (fn := Try.f67) (x := .agg #[I 4, I 0]) r3 n3 Try.func67 rfl hoc ?_ (fun w' r' => hk _ w' r' n3 e3)
    generalize ((v2.setCell ⟨N + 1, 0, none⟩ (I 4)).setCell ⟨N + 1, 1, none⟩ (I 0)) = V at hrow
    have k0 : V.cell? ⟨N + 1, 0, none⟩ = some (I 4) := by simp [World.cell?, hrow]
    have k1 : V.cell? ⟨N + 1, 1, none⟩ = some (I 0) := by simp [World.cell?, hrow]
    simp [results, go_sem, Try.f67, *]
  · clear b0 HV hstop
    intro z1 Ch1 St w2 v2 a r2 n2 hq hk
    have e1 : w2.cell? ⟨N, 1, none⟩ = some (I a) := by rw [r2.cell?]; exact hq
    show GoesI Try.prog main (DT (ScZ z1) Ch1) St (G _ _) w2
    walk_nrm
    iterate 1
      (refine goesI_oper rfl rfl (by decide) (fun d K hK => ?_)
       go_simp
       refine hK _ _ ⟨dt_reads (fun e he => ?_), GoesI.at ?_ d⟩
       · have hm := mem_listed he
         simp [go_sem, *] at hm
         try exact ⟨_, _, hm⟩
       clear hK K)
    refine goesI_regionEnd (dt_idle _ _) ?_
    refine goesI_cond (dt_idle _ _) (t := false) (rfl) ?_
    simp only [if_true, if_false, Bool.false_eq_true]
    refine goesI_skip (dt_idle _ _) ?_
    refine goesI_seq (dt_idle _ _) ?_
    refine goesI_region (dt_idle _ _) ?_
    simp only [List.size_toArray, List.length_cons, List.length_nil, Nat.reduceAdd, Nat.zero_add, List.range, List.range.loop]
    iterate 5
      (refine goesI_oper rfl rfl (by decide) (fun d K hK => ?_)
       go_simp
       refine hK _ _ ⟨dt_reads (fun e he => ?_), GoesI.at ?_ d⟩
       · have hm := mem_listed he
         simp [go_sem, *] at hm
         try exact ⟨_, _, hm⟩
       clear hK K)
    refine goesI_into (f := 94) (fn := Try.f94) (args := #[Pt lb 0, Pt tb 0, Pt gb 0, I a]) (dt_idle _ _) rfl rfl (by decide) rfl (by simp [Act.eval]) Try.func94 (by decide) rfl ?_
    refine hk w2 ⟨_, _, _, _, _, _, _, _⟩ r2 rfl ?_ _ rfl
    clear e1 hq hk
    intro y z1 Ch1 St w2 v2 S1 K1 r2 n2 m2 hpb2 hown2 hk
    show GoesI Try.prog main (DT (ScZ z1) Ch1) St (G _ _) w2
    have q0 : v2.cell? ⟨N + 1, 0, none⟩ = some (I 0) := by simp [World.cell?, hpb2]
    have q1 : v2.cell? ⟨N + 1, 1, none⟩ = some (I 0) := by simp [World.cell?, hpb2]
    have p0 : v2.frozen? ⟨N + 1, 0, none⟩ = false := by simp [World.frozen?, hpb2]
    have p1 : v2.frozen? ⟨N + 1, 1, none⟩ = false := by simp [World.frozen?, hpb2]
    have e3 := m2.other (v' := (v2.setCell ⟨N + 1, 0, none⟩ (I 0)).setCell ⟨N + 1, 1, none⟩ (I y)) hown2 (fun b hb => by rw [Below.heap_setCell _ _ _ _ hb, Below.heap_setCell _ _ _ _ hb]) (by simp [World.setCell]) rfl rfl
    have hrow : ((v2.setCell ⟨N + 1, 0, none⟩ (I 0)).setCell ⟨N + 1, 1, none⟩ (I y)).heap[N + 1]? = some (.cells #[I 0, I y] 42 (0, 0)) := by
      have := heap_setCell_same (o := 1) (heap_setCell_same (o := 0) hpb2 (I 0)) (I y)
      simpa using this
    have HM : Hid (Mem z1 S1 K1 v2 ∧ v2.heap[N + 1]? = some (.cells #[I 0, I 0] 42 (0, 0))) := ⟨⟨m2, hpb2⟩⟩
    clear m2 hpb2
    try walk_nrm
    iterate 1
      (refine goesI_oper rfl rfl (by decide) (fun d K hK => ?_)
       go_simp
       refine hK _ _ ⟨dt_reads (fun e he => ?_), GoesI.at ?_ d⟩
       · have hm := mem_listed he
         simp [go_sem, *] at hm
         try exact ⟨_, _, hm⟩
       clear hK K)
    refine goesI_doZ (L := LT) rfl rfl (by decide) (fineOp_ask callT extT (by kernel_rfl)) r2 n2 (v' := (v2.setCell ⟨N + 1, 0, none⟩ (I 0)).setCell ⟨N + 1, 1, none⟩ (I y)) (by go_simp) rfl (fun w3 r3 n3 => ?_)
    refine goesI_regionEnd (dt_idle _ _) ?_
    refine GoesI.ctl rfl (fun _ => stepG_ret') (dt_idle _ _) ?_
    refine goesI_leaveZ (f := 67) (fn := Try.f67) (x := .agg #[I 0, I y]) r3 n3 Try.func67 rfl hoc ?_ (fun w' r' => hk _ w' r' n3 e3)
    generalize ((v2.setCell ⟨N + 1, 0, none⟩ (I 0)).setCell ⟨N + 1, 1, none⟩ (I y)) = V at hrow
    have k0 : V.cell? ⟨N + 1, 0, none⟩ = some (I 0) := by simp [World.cell?, hrow]
    have k1 : V.cell? ⟨N + 1, 1, none⟩ = some (I y) := by simp [World.cell?, hrow]
    simp [results, go_sem, Try.f67, *]

set_option maxHeartbeats 1000000 in
set_option maxRecDepth 100000 in
/-- The call is Try. -/
theorem lcall_try {z : Nat → Option Nat} {Ch : Nat → Prop} {Stop : Goroutine → World → Prop} {main : Bool} {v w : World} {lb gb tb : Nat} (ca n cc : Int) (cs : List Frame) {bc : Frame} {ac : Act} {ops : Array Oper} {q : Nat} {rest : List Nat} {oc : Oper} {k : List Item} (hoc : ops[q]? = some oc)
    (hvw : Rel z v w) (hn : NoRow Ch v)
    (hstop : ∀ v' w' (f : Frs), Rel z v' w' → NoRow Ch v' → Grows v v' → v'.heap[v.heap.size + 1]? = some (.cells #[I 0, I 0] 42 (0, 0)) → v'.heap[v.heap.size]? = some (.cells #[I 2, I ca, I n, I cc] 39 (0, 0)) → f.od[f.qd]? = some f.oe →
      MBack main (v.heap.size + 1) (f.cu (.bool false)) (fun r => G (bc.at (ac.put oc.dst r) (.inRegion ops rest :: k)) cs) (0) ((-1)) → TBack main v.heap.size (v.heap.size + 1) lb gb tb (f.cu (.bool true)) (fun r => G (bc.at (ac.put oc.dst r) (.inRegion ops rest :: k)) cs) → ∀ code, Try.f39.body = some code →
      GoesI Try.prog main (DT (ScZ z) Ch) Stop (G ((base 39).at { tmps := #[Pt lb 0, Pt tb 0] ++ Array.replicate 19 undef, defers := [] } [.code code]) (f.top :: f.fs)) w') (code : Code) (hc : Try.f67.body = some code) :
    GoesI Try.prog main (DT (ScZ z) Ch) Stop (G ((base 67).at { tmps := #[Pt lb 0, Pt tb 0, Pt gb 0, .agg #[I 2, I ca, I n, I cc]] ++ Array.replicate 36 undef, defers := [] } [.code code]) (bc.at ac (.inRegion ops (q :: rest) :: k) :: cs)) w := by
  have hw0 : code = .seq lcall0 (seq2 (Try.f67.body.getD .skip)) := by
    rw [hc]; obtain rfl := Option.some.inj hc; rfl
  subst hw0
  clear hc
  refine goesI_seq (dt_idle _ _) ?_
  refine goesI_plain (z := z) (wr := true) (L := LT) (I := NoRow Ch) hE fineT noRow_keeps (fun v v' w w' es hi hr ho he => dt_of_z v v' w w' es hi hr ho he) hvw fineLcall0 rfl (by simp [base]) hn
    (Q := fun a w' => a = { tmps := #[Pt lb 0, Pt tb 0, Pt gb 0, .agg #[I 2, I ca, I n, I cc], undef, undef, undef, Pt v.heap.size 0, Pt (v.heap.size + 1) 0] ++ Array.replicate 31 undef, defers := [] } ∧
      w'.heap = (v.heap.push (.cells #[I 2, I ca, I n, I cc] 39)).push (.cells #[I 0, I 0] 42) ∧ w'.os = v.os ∧ w'.output = v.output) (fun τ => ?_) ?_
  · show Code.wp Try.prog (seq1 (Try.f67.body.getD .skip)) _ _ _
    unfold Try.f67 seq1
    simp only [Option.getD_some, Array.replicate_succ, Array.replicate_zero, List.push_toArray, List.append_toArray, List.nil_append, List.cons_append]
    go_wp2_with fail
    exact ⟨rfl, rfl, rfl, rfl⟩
  rintro a' v' w' ⟨rfl, hv1, hv2, hv3⟩ hr' hn' -
  have hsz : v'.heap.size = v.heap.size + 2 := by rw [hv1]; simp
  have hg : Grows v v' := ⟨by omega, fun b hb => by rw [hv1, Array.getElem?_push, if_neg (by simp; omega), Array.getElem?_push, if_neg (by omega)], hv2, hv3⟩
  have hbox : v'.heap[v.heap.size]? = some (.cells #[I 2, I ca, I n, I cc] 39) := by rw [hv1, Array.getElem?_push, if_neg (by simp)]; exact Array.getElem?_push_size
  have hans : v'.heap[v.heap.size + 1]? = some (.cells #[I 0, I 0] 42) := by rw [hv1, Array.getElem?_push, if_pos (by simp)]
  have b0 : w'.cell? ⟨v.heap.size, 0, none⟩ = some (I 2) := by rw [hr'.cell?]; simp [World.cell?, hbox]
  have HV : Hid (Grows v v' ∧ v'.heap[v.heap.size + 1]? = some (.cells #[I 0, I 0] 42) ∧ v'.heap[v.heap.size]? = some (.cells #[I 2, I ca, I n, I cc] 39) ∧ NoRow Ch v' ∧ Rel z v' w') := ⟨⟨hg, hans, hbox, hn', hr'⟩⟩
  clear hv1 hv2 hv3 hsz hg hbox hans hn' hvw hn hr'
  generalize hN : v.heap.size = N at b0 HV hstop ⊢
  simp only [Array.replicate_succ, Array.replicate_zero, List.push_toArray, List.append_toArray, List.nil_append, List.cons_append]
  show GoesI Try.prog main (DT (ScZ z) Ch) Stop (G ((base 67).at _ [.code (seq2 (Try.f67.body.getD .skip))]) _) w'
  unfold Try.f67 seq2
  simp only [Option.getD_some]
  refine goesI_seq (dt_idle _ _) ?_
  refine goesI_seq (dt_idle _ _) ?_
  refine goesI_region (dt_idle _ _) ?_
  simp only [List.size_toArray, List.length_cons, List.length_nil, Nat.reduceAdd, Nat.zero_add, List.range, List.range.loop]
  iterate 2
    (refine goesI_oper rfl rfl (by decide) (fun d K hK => ?_)
     go_simp
     refine hK _ _ ⟨dt_reads (fun e he => ?_), GoesI.at ?_ d⟩
     · have hm := mem_listed he
       simp [go_sem, *] at hm
       try exact ⟨_, _, hm⟩
     clear hK K)
  refine goesI_regionEnd (dt_idle _ _) ?_
  refine goesI_block (dt_idle _ _) ?_
  refine goesI_seq (dt_idle _ _) ?_
  refine goesI_region (dt_idle _ _) ?_
  simp only [List.size_toArray, List.length_cons, List.length_nil, Nat.reduceAdd, Nat.zero_add, List.range, List.range.loop]
  iterate 2
    (refine goesI_oper rfl rfl (by decide) (fun d K hK => ?_)
     go_simp
     refine hK _ _ ⟨dt_reads (fun e he => ?_), GoesI.at ?_ d⟩
     · have hm := mem_listed he
       simp [go_sem, *] at hm
       try exact ⟨_, _, hm⟩
     clear hK K)
  refine goesI_regionEnd (dt_idle _ _) ?_
  refine goesI_cond (dt_idle _ _) (t := false) (rfl) ?_
  simp only [if_true, if_false, Bool.false_eq_true]
  refine goesI_seq (dt_idle _ _) ?_
  refine goesI_region (dt_idle _ _) ?_
  simp only [List.size_toArray, List.length_cons, List.length_nil, Nat.reduceAdd, Nat.zero_add, List.range, List.range.loop]
  iterate 2
    (refine goesI_oper rfl rfl (by decide) (fun d K hK => ?_)
     go_simp
     refine hK _ _ ⟨dt_reads (fun e he => ?_), GoesI.at ?_ d⟩
     · have hm := mem_listed he
       simp [go_sem, *] at hm
       try exact ⟨_, _, hm⟩
     clear hK K)
  refine goesI_regionEnd (dt_idle _ _) ?_
  refine goesI_cond (dt_idle _ _) (t := true) (rfl) ?_
  simp only [if_true, if_false, Bool.false_eq_true]
  refine goesI_seq (dt_idle _ _) ?_
  refine goesI_seq (dt_idle _ _) ?_
  refine goesI_region (dt_idle _ _) ?_
  simp only [List.size_toArray, List.length_cons, List.length_nil, Nat.reduceAdd, Nat.zero_add, List.range, List.range.loop]
  iterate 2
    (refine goesI_oper rfl rfl (by decide) (fun d K hK => ?_)
     go_simp
     refine hK _ _ ⟨dt_reads (fun e he => ?_), GoesI.at ?_ d⟩
     · have hm := mem_listed he
       simp [go_sem, *] at hm
       try exact ⟨_, _, hm⟩
     clear hK K)
  refine goesI_into (f := 39) (fn := Try.f39) (args := #[Pt lb 0, Pt tb 0]) (dt_idle _ _) rfl rfl (by decide) rfl (by simp [Act.eval]) Try.func39 (by decide) rfl ?_
  refine hstop v' w' ⟨_, _, _, _, _, _, _, _⟩ HV.out.2.2.2.2 HV.out.2.2.2.1 HV.out.1 HV.out.2.1 HV.out.2.2.1 rfl ?_ ?_ _ rfl
  · clear b0 HV hstop
    intro z1 Ch1 St w2 v2 S1 K1 r2 n2 m2 hpb2 hown2 hk
    show GoesI Try.prog main (DT (ScZ z1) Ch1) St (G _ _) w2
    walk_nrm
    iterate 1
      (refine goesI_oper rfl rfl (by decide) (fun d K hK => ?_)
       go_simp
       refine hK _ _ ⟨dt_reads (fun e he => ?_), GoesI.at ?_ d⟩
       · have hm := mem_listed he
         simp [go_sem, *] at hm
         try exact ⟨_, _, hm⟩
       clear hK K)
    refine goesI_regionEnd (dt_idle _ _) ?_
    refine goesI_cond (dt_idle _ _) (t := true) (rfl) ?_
    simp only [if_true, if_false, Bool.false_eq_true]
    refine goesI_seq (dt_idle _ _) ?_
    refine goesI_region (dt_idle _ _) ?_
    simp only [List.size_toArray, List.length_cons, List.length_nil, Nat.reduceAdd, Nat.zero_add, List.range, List.range.loop]
    have q0 : v2.cell? ⟨N + 1, 0, none⟩ = some (I 0) := by simp [World.cell?, hpb2]
    have q1 : v2.cell? ⟨N + 1, 1, none⟩ = some (I 0) := by simp [World.cell?, hpb2]
    have p0 : v2.frozen? ⟨N + 1, 0, none⟩ = false := by simp [World.frozen?, hpb2]
    have p1 : v2.frozen? ⟨N + 1, 1, none⟩ = false := by simp [World.frozen?, hpb2]
    have e3 := m2.other (v' := (v2.setCell ⟨N + 1, 0, none⟩ (I 0)).setCell ⟨N + 1, 1, none⟩ (I (-1))) hown2 (fun b hb => by rw [Below.heap_setCell _ _ _ _ hb, Below.heap_setCell _ _ _ _ hb]) (by simp [World.setCell]) rfl rfl
    have hrow : ((v2.setCell ⟨N + 1, 0, none⟩ (I 0)).setCell ⟨N + 1, 1, none⟩ (I (-1))).heap[N + 1]? = some (.cells #[I 0, I (-1)] 42 (0, 0)) := by
      have := heap_setCell_same (o := 1) (heap_setCell_same (o := 0) hpb2 (I 0)) (I (-1))
      simpa using this
    have HM : Hid (Mem z1 S1 K1 v2 ∧ v2.heap[N + 1]? = some (.cells #[I 0, I 0] 42 (0, 0))) := ⟨⟨m2, hpb2⟩⟩
    clear m2 hpb2
    try walk_nrm
    iterate 1
      (refine goesI_oper rfl rfl (by decide) (fun d K hK => ?_)
       go_simp
       refine hK _ _ ⟨dt_reads (fun e he => ?_), GoesI.at ?_ d⟩
       · have hm := mem_listed he
         simp [go_sem, *] at hm
         try exact ⟨_, _, hm⟩
       clear hK K)
    refine goesI_doZ (L := LT) rfl rfl (by decide) (fineOp_ask callT extT (by kernel_rfl)) r2 n2 (v' := (v2.setCell ⟨N + 1, 0, none⟩ (I 0)).setCell ⟨N + 1, 1, none⟩ (I (-1))) (by go_simp) rfl (fun w3 r3 n3 => ?_)
    refine goesI_regionEnd (dt_idle _ _) ?_
    refine GoesI.ctl rfl (fun _ => stepG_ret') (dt_idle _ _) ?_
    refine goesI_leaveZ (f := 67) (fn := Try.f67) (x := .agg #[I 0, I (-1)]) r3 n3 Try.func67 rfl hoc ?_ (fun w' r' => hk _ w' r' n3 e3)
    generalize ((v2.setCell ⟨N + 1, 0, none⟩ (I 0)).setCell ⟨N + 1, 1, none⟩ (I (-1))) = V at hrow
    have k0 : V.cell? ⟨N + 1, 0, none⟩ = some (I 0) := by simp [World.cell?, hrow]
    have k1 : V.cell? ⟨N + 1, 1, none⟩ = some (I (-1)) := by simp [World.cell?, hrow]
    simp [results, go_sem, Try.f67, *]
  · clear b0 HV hstop
    intro z1 Ch1 St w2 v2 a r2 n2 hq hk
    have e1 : w2.cell? ⟨N, 1, none⟩ = some (I a) := by rw [r2.cell?]; exact hq
    show GoesI Try.prog main (DT (ScZ z1) Ch1) St (G _ _) w2
    walk_nrm
    iterate 1
      (refine goesI_oper rfl rfl (by decide) (fun d K hK => ?_)
       go_simp
       refine hK _ _ ⟨dt_reads (fun e he => ?_), GoesI.at ?_ d⟩
       · have hm := mem_listed he
         simp [go_sem, *] at hm
         try exact ⟨_, _, hm⟩
       clear hK K)
    refine goesI_regionEnd (dt_idle _ _) ?_
    refine goesI_cond (dt_idle _ _) (t := false) (rfl) ?_
    simp only [if_true, if_false, Bool.false_eq_true]
    refine goesI_skip (dt_idle _ _) ?_
    refine goesI_seq (dt_idle _ _) ?_
    refine goesI_region (dt_idle _ _) ?_
    simp only [List.size_toArray, List.length_cons, List.length_nil, Nat.reduceAdd, Nat.zero_add, List.range, List.range.loop]
    iterate 5
      (refine goesI_oper rfl rfl (by decide) (fun d K hK => ?_)
       go_simp
       refine hK _ _ ⟨dt_reads (fun e he => ?_), GoesI.at ?_ d⟩
       · have hm := mem_listed he
         simp [go_sem, *] at hm
         try exact ⟨_, _, hm⟩
       clear hK K)
    refine goesI_into (f := 94) (fn := Try.f94) (args := #[Pt lb 0, Pt tb 0, Pt gb 0, I a]) (dt_idle _ _) rfl rfl (by decide) rfl (by simp [Act.eval]) Try.func94 (by decide) rfl ?_
    refine hk w2 ⟨_, _, _, _, _, _, _, _⟩ r2 rfl ?_ _ rfl
    clear e1 hq hk
    intro y z1 Ch1 St w2 v2 S1 K1 r2 n2 m2 hpb2 hown2 hk
    show GoesI Try.prog main (DT (ScZ z1) Ch1) St (G _ _) w2
    have q0 : v2.cell? ⟨N + 1, 0, none⟩ = some (I 0) := by simp [World.cell?, hpb2]
    have q1 : v2.cell? ⟨N + 1, 1, none⟩ = some (I 0) := by simp [World.cell?, hpb2]
    have p0 : v2.frozen? ⟨N + 1, 0, none⟩ = false := by simp [World.frozen?, hpb2]
    have p1 : v2.frozen? ⟨N + 1, 1, none⟩ = false := by simp [World.frozen?, hpb2]
    have e3 := m2.other (v' := (v2.setCell ⟨N + 1, 0, none⟩ (I 0)).setCell ⟨N + 1, 1, none⟩ (I y)) hown2 (fun b hb => by rw [Below.heap_setCell _ _ _ _ hb, Below.heap_setCell _ _ _ _ hb]) (by simp [World.setCell]) rfl rfl
    have hrow : ((v2.setCell ⟨N + 1, 0, none⟩ (I 0)).setCell ⟨N + 1, 1, none⟩ (I y)).heap[N + 1]? = some (.cells #[I 0, I y] 42 (0, 0)) := by
      have := heap_setCell_same (o := 1) (heap_setCell_same (o := 0) hpb2 (I 0)) (I y)
      simpa using this
    have HM : Hid (Mem z1 S1 K1 v2 ∧ v2.heap[N + 1]? = some (.cells #[I 0, I 0] 42 (0, 0))) := ⟨⟨m2, hpb2⟩⟩
    clear m2 hpb2
    try walk_nrm
    iterate 1
      (refine goesI_oper rfl rfl (by decide) (fun d K hK => ?_)
       go_simp
       refine hK _ _ ⟨dt_reads (fun e he => ?_), GoesI.at ?_ d⟩
       · have hm := mem_listed he
         simp [go_sem, *] at hm
         try exact ⟨_, _, hm⟩
       clear hK K)
    refine goesI_doZ (L := LT) rfl rfl (by decide) (fineOp_ask callT extT (by kernel_rfl)) r2 n2 (v' := (v2.setCell ⟨N + 1, 0, none⟩ (I 0)).setCell ⟨N + 1, 1, none⟩ (I y)) (by go_simp) rfl (fun w3 r3 n3 => ?_)
    refine goesI_regionEnd (dt_idle _ _) ?_
    refine GoesI.ctl rfl (fun _ => stepG_ret') (dt_idle _ _) ?_
    refine goesI_leaveZ (f := 67) (fn := Try.f67) (x := .agg #[I 0, I y]) r3 n3 Try.func67 rfl hoc ?_ (fun w' r' => hk _ w' r' n3 e3)
    generalize ((v2.setCell ⟨N + 1, 0, none⟩ (I 0)).setCell ⟨N + 1, 1, none⟩ (I y)) = V at hrow
    have k0 : V.cell? ⟨N + 1, 0, none⟩ = some (I 0) := by simp [World.cell?, hrow]
    have k1 : V.cell? ⟨N + 1, 1, none⟩ = some (I y) := by simp [World.cell?, hrow]
    simp [results, go_sem, Try.f67, *]

set_option maxHeartbeats 1000000 in
set_option maxRecDepth 100000 in
/-- There is no such Op. -/
theorem lcall_none {z : Nat → Option Nat} {Ch : Nat → Prop} {Stop : Goroutine → World → Prop} {main : Bool} {v w : World} {lb gb tb : Nat} (po ca n cc : Int) (h1 : po ≠ 1) (h2 : po ≠ 2) (cs : List Frame) {bc : Frame} {ac : Act} {ops : Array Oper} {q : Nat} {rest : List Nat} {oc : Oper} {k : List Item} (hoc : ops[q]? = some oc)
    (hvw : Rel z v w) (hn : NoRow Ch v)
    (hstop : ∀ v' w', Rel z v' w' → NoRow Ch v' → Grows v v' → GoesI Try.prog main (DT (ScZ z) Ch) Stop (G (bc.at (ac.put oc.dst (.agg #[I 1, I 0])) (.inRegion ops rest :: k)) cs) w') (code : Code) (hc : Try.f67.body = some code) :
    GoesI Try.prog main (DT (ScZ z) Ch) Stop (G ((base 67).at { tmps := #[Pt lb 0, Pt tb 0, Pt gb 0, .agg #[I po, I ca, I n, I cc]] ++ Array.replicate 36 undef, defers := [] } [.code code]) (bc.at ac (.inRegion ops (q :: rest) :: k) :: cs)) w := by
  have hw0 : code = .seq lcall0 (seq2 (Try.f67.body.getD .skip)) := by
    rw [hc]; obtain rfl := Option.some.inj hc; rfl
  subst hw0
  clear hc
  refine goesI_seq (dt_idle _ _) ?_
  refine goesI_plain (z := z) (wr := true) (L := LT) (I := NoRow Ch) hE fineT noRow_keeps (fun v v' w w' es hi hr ho he => dt_of_z v v' w w' es hi hr ho he) hvw fineLcall0 rfl (by simp [base]) hn
    (Q := fun a w' => a = { tmps := #[Pt lb 0, Pt tb 0, Pt gb 0, .agg #[I po, I ca, I n, I cc], undef, undef, undef, Pt v.heap.size 0, Pt (v.heap.size + 1) 0] ++ Array.replicate 31 undef, defers := [] } ∧
      w'.heap = (v.heap.push (.cells #[I po, I ca, I n, I cc] 39)).push (.cells #[I 0, I 0] 42) ∧ w'.os = v.os ∧ w'.output = v.output) (fun τ => ?_) ?_
  · show Code.wp Try.prog (seq1 (Try.f67.body.getD .skip)) _ _ _
    unfold Try.f67 seq1
    simp only [Option.getD_some, Array.replicate_succ, Array.replicate_zero, List.push_toArray, List.append_toArray, List.nil_append, List.cons_append]
    go_wp2_with fail
    exact ⟨rfl, rfl, rfl, rfl⟩
  rintro a' v' w' ⟨rfl, hv1, hv2, hv3⟩ hr' hn' -
  have hsz : v'.heap.size = v.heap.size + 2 := by rw [hv1]; simp
  have hg : Grows v v' := ⟨by omega, fun b hb => by rw [hv1, Array.getElem?_push, if_neg (by simp; omega), Array.getElem?_push, if_neg (by omega)], hv2, hv3⟩
  have hbox : v'.heap[v.heap.size]? = some (.cells #[I po, I ca, I n, I cc] 39) := by rw [hv1, Array.getElem?_push, if_neg (by simp)]; exact Array.getElem?_push_size
  have hans : v'.heap[v.heap.size + 1]? = some (.cells #[I 0, I 0] 42) := by rw [hv1, Array.getElem?_push, if_pos (by simp)]
  have b0 : w'.cell? ⟨v.heap.size, 0, none⟩ = some (I po) := by rw [hr'.cell?]; simp [World.cell?, hbox]
  have HV : Hid (Grows v v' ∧ v'.heap[v.heap.size + 1]? = some (.cells #[I 0, I 0] 42) ∧ v'.heap[v.heap.size]? = some (.cells #[I po, I ca, I n, I cc] 39) ∧ NoRow Ch v' ∧ Rel z v' w') := ⟨⟨hg, hans, hbox, hn', hr'⟩⟩
  clear hv1 hv2 hv3 hsz hg hbox hans hn' hvw hn hr'
  generalize hN : v.heap.size = N at b0 HV hstop ⊢
  simp only [Array.replicate_succ, Array.replicate_zero, List.push_toArray, List.append_toArray, List.nil_append, List.cons_append]
  show GoesI Try.prog main (DT (ScZ z) Ch) Stop (G ((base 67).at _ [.code (seq2 (Try.f67.body.getD .skip))]) _) w'
  unfold Try.f67 seq2
  simp only [Option.getD_some]
  refine goesI_seq (dt_idle _ _) ?_
  refine goesI_seq (dt_idle _ _) ?_
  refine goesI_region (dt_idle _ _) ?_
  simp only [List.size_toArray, List.length_cons, List.length_nil, Nat.reduceAdd, Nat.zero_add, List.range, List.range.loop]
  iterate 2
    (refine goesI_oper rfl rfl (by decide) (fun d K hK => ?_)
     go_simp
     refine hK _ _ ⟨dt_reads (fun e he => ?_), GoesI.at ?_ d⟩
     · have hm := mem_listed he
       simp [go_sem, *] at hm
       try exact ⟨_, _, hm⟩
     clear hK K)
  refine goesI_regionEnd (dt_idle _ _) ?_
  refine goesI_block (dt_idle _ _) ?_
  refine goesI_seq (dt_idle _ _) ?_
  refine goesI_region (dt_idle _ _) ?_
  simp only [List.size_toArray, List.length_cons, List.length_nil, Nat.reduceAdd, Nat.zero_add, List.range, List.range.loop]
  iterate 2
    (refine goesI_oper rfl rfl (by decide) (fun d K hK => ?_)
     go_simp
     refine hK _ _ ⟨dt_reads (fun e he => ?_), GoesI.at ?_ d⟩
     · have hm := mem_listed he
       simp [go_sem, *] at hm
       try exact ⟨_, _, hm⟩
     clear hK K)
  refine goesI_regionEnd (dt_idle _ _) ?_
  refine goesI_cond (dt_idle _ _) (t := false) (by simp [Act.eval, h1]) ?_
  simp only [if_true, if_false, Bool.false_eq_true]
  refine goesI_seq (dt_idle _ _) ?_
  refine goesI_region (dt_idle _ _) ?_
  simp only [List.size_toArray, List.length_cons, List.length_nil, Nat.reduceAdd, Nat.zero_add, List.range, List.range.loop]
  iterate 2
    (refine goesI_oper rfl rfl (by decide) (fun d K hK => ?_)
     go_simp
     refine hK _ _ ⟨dt_reads (fun e he => ?_), GoesI.at ?_ d⟩
     · have hm := mem_listed he
       simp [go_sem, *] at hm
       try exact ⟨_, _, hm⟩
     clear hK K)
  refine goesI_regionEnd (dt_idle _ _) ?_
  refine goesI_cond (dt_idle _ _) (t := false) (by simp [Act.eval, h2]) ?_
  simp only [if_true, if_false, Bool.false_eq_true]
  refine goesI_skip (dt_idle _ _) ?_
  refine goesI_inBlock (dt_idle _ _) ?_
  refine goesI_seq (dt_idle _ _) ?_
  refine goesI_region (dt_idle _ _) ?_
  simp only [List.size_toArray, List.length_cons, List.length_nil, Nat.reduceAdd, Nat.zero_add, List.range, List.range.loop]
  iterate 1
    (refine goesI_oper rfl rfl (by decide) (fun d K hK => ?_)
     go_simp
     refine hK _ _ ⟨dt_reads (fun e he => ?_), GoesI.at ?_ d⟩
     · have hm := mem_listed he
       simp [go_sem, *] at hm
       try exact ⟨_, _, hm⟩
     clear hK K)
  have c0 : v'.cell? ⟨N + 1, 0, none⟩ = some (I 0) := by simp [World.cell?, HV.out.2.1]
  have c1 : v'.cell? ⟨N + 1, 1, none⟩ = some (I 0) := by simp [World.cell?, HV.out.2.1]
  have f0 : v'.frozen? ⟨N + 1, 0, none⟩ = false := by simp [World.frozen?, HV.out.2.1]
  have f1 : v'.frozen? ⟨N + 1, 1, none⟩ = false := by simp [World.frozen?, HV.out.2.1]
  clear b0 h1 h2
  refine goesI_doZ (L := LT) rfl rfl (by decide) (fineOp_ask callT extT (by kernel_rfl)) HV.out.2.2.2.2 HV.out.2.2.2.1 (v' := (v'.setCell ⟨N + 1, 0, none⟩ (I 1)).setCell ⟨N + 1, 1, none⟩ (I 0)) (by go_simp) rfl (fun w2 hr2 hn2 => ?_)
  have hrow : ((v'.setCell ⟨N + 1, 0, none⟩ (I 1)).setCell ⟨N + 1, 1, none⟩ (I 0)).heap[N + 1]? = some (.cells #[I 1, I 0] 42 (0, 0)) := by
    have := heap_setCell_same (o := 1) (heap_setCell_same (o := 0) HV.out.2.1 (I 1)) (I 0)
    simpa using this
  have hG : Grows v ((v'.setCell ⟨N + 1, 0, none⟩ (I 1)).setCell ⟨N + 1, 1, none⟩ (I 0)) := ⟨by have := HV.out.1.size; simpa [World.setCell] using this, fun b hb => by
    rw [Below.heap_setCell _ _ _ _ (by show b ≠ N + 1; omega), Below.heap_setCell _ _ _ _ (by show b ≠ N + 1; omega)]
    exact HV.out.1.old b hb, HV.out.1.os, HV.out.1.output⟩
  refine goesI_regionEnd (dt_idle _ _) ?_
  refine GoesI.ctl rfl (fun _ => stepG_ret') (dt_idle _ _) ?_
  refine goesI_leaveZ (f := 67) (fn := Try.f67) (x := .agg #[I 1, I 0]) hr2 hn2 Try.func67 rfl hoc ?_ (fun w' r' => hstop _ w' r' hn2 hG)
  generalize ((v'.setCell ⟨N + 1, 0, none⟩ (I 1)).setCell ⟨N + 1, 1, none⟩ (I 0)) = V at hrow
  have k0 : V.cell? ⟨N + 1, 0, none⟩ = some (I 1) := by simp [World.cell?, hrow]
  have k1 : V.cell? ⟨N + 1, 1, none⟩ = some (I 0) := by simp [World.cell?, hrow]
  simp [results, go_sem, Try.f67, *]
end Go.Proofs.Ytfjjoohflcchnaa.Gen

namespace Go.Proofs.Ytfjjoohflcchnaa.Gen
open Go Go.Lift Go.Conc Go.RowKit

/-- call has answered: the closure lays its answer in memory of its own (pb), and comes back with it. -/
def KBack (main : Bool) (pb : Nat) (cu : Value → Goroutine) (cl : Value → Goroutine) : Prop :=
  ∀ (z : Nat → Option Nat) (Ch : Nat → Prop) (Stop : Goroutine → World → Prop) (w v : World) (S : TS) (K : List (Nat × Int)) (e y : Int), Rel z v w → NoRow Ch v → Mem z S K v → v.heap[pb]? = some (.cells #[I 0, I 0] 42 (0, 0)) → ¬ Own S K pb →
    (∀ v' w', Rel z v' w' → NoRow Ch v' → EvoP (· = pb) z S K v S K v' → GoesI Try.prog main (DT (ScZ z) Ch) Stop (cl (.agg #[I e, I y])) w') →
    GoesI Try.prog main (DT (ScZ z) Ch) Stop (cu (.agg #[I e, I y])) w

noncomputable def lclo0 : Code := seq1 (Try.f66.body.getD .skip)
theorem fineLclo0 : fineCode Try.prog true LT lclo0 := fineCode_ask callT extT (by kernel_rfl)

set_option maxHeartbeats 1000000 in
set_option maxRecDepth 100000 in
theorem lclo_goes {z : Nat → Option Nat} {Ch : Nat → Prop} {Stop : Goroutine → World → Prop} {main : Bool} {v w : World} {lb gb tb xl xx : Nat} (po ca n cc : Int) (hx0 : v.cell? ⟨xl, 0, none⟩ = some (Pt lb 0)) (hx1 : v.cell? ⟨xx, 0, none⟩ = some (Pt gb 0)) (cs : List Frame) {bc : Frame} {ac : Act} {ops : Array Oper} {q : Nat} {rest : List Nat} {oc : Oper} {k : List Item} (hoc : ops[q]? = some oc)
    (hvw : Rel z v w) (hn : NoRow Ch v)
    (hstop : ∀ v' w' (bd : Frame) (ad : Act) (od : Array Oper) (qd : Nat) (rd : List Nat) (oe : Oper) (kd : List Item), Rel z v' w' → NoRow Ch v' → Grows v v' → v'.heap[v.heap.size + 1]? = some (.cells #[I 0, I 0] 42 (0, 0)) → od[qd]? = some oe →
      KBack main (v.heap.size + 1) (fun r => G (bd.at (ad.put oe.dst r) (.inRegion od rd :: kd)) (bc.at ac (.inRegion ops (q :: rest) :: k) :: cs)) (fun r => G (bc.at (ac.put oc.dst r) (.inRegion ops rest :: k)) cs) → ∀ code, Try.f67.body = some code →
      GoesI Try.prog main (DT (ScZ z) Ch) Stop (G ((base 67).at { tmps := #[Pt lb 0, Pt tb 0, Pt gb 0, .agg #[I po, I ca, I n, I cc]] ++ Array.replicate 36 undef, defers := [] } [.code code]) (bd.at ad (.inRegion od (qd :: rd) :: kd) :: bc.at ac (.inRegion ops (q :: rest) :: k) :: cs)) w') (code : Code) (hc : Try.f66.body = some code) :
    GoesI Try.prog main (DT (ScZ z) Ch) Stop (G ((base 66).at { tmps := #[Pt tb 0, .agg #[I po, I ca, I n, I cc], Pt xl 0, Pt xx 0] ++ Array.replicate 8 undef, defers := [] } [.code code]) (bc.at ac (.inRegion ops (q :: rest) :: k) :: cs)) w := by
  have hw0 : code = .seq lclo0 (seq2 (Try.f66.body.getD .skip)) := by
    rw [hc]; obtain rfl := Option.some.inj hc; rfl
  subst hw0
  clear hc
  refine goesI_seq (dt_idle _ _) ?_
  refine goesI_plain (z := z) (wr := true) (L := LT) (I := NoRow Ch) hE fineT noRow_keeps (fun v v' w w' es hi hr ho he => dt_of_z v v' w w' es hi hr ho he) hvw fineLclo0 rfl (by simp [base]) hn
    (Q := fun a w' => a = { tmps := #[Pt tb 0, .agg #[I po, I ca, I n, I cc], Pt xl 0, Pt xx 0, undef, Pt v.heap.size 0, Pt (v.heap.size + 1) 0] ++ Array.replicate 5 undef, defers := [] } ∧
      w'.heap = (v.heap.push (.cells #[I po, I ca, I n, I cc] 39)).push (.cells #[I 0, I 0] 42) ∧ w'.os = v.os ∧ w'.output = v.output) (fun τ => ?_) ?_
  · show Code.wp Try.prog (seq1 (Try.f66.body.getD .skip)) _ _ _
    unfold Try.f66 seq1
    simp only [Option.getD_some, Array.replicate_succ, Array.replicate_zero, List.push_toArray, List.append_toArray, List.nil_append, List.cons_append]
    go_wp2_with fail
    exact ⟨rfl, rfl, rfl, rfl⟩
  rintro a' v' w' ⟨rfl, hv1, hv2, hv3⟩ hr' hn' -
  have hsz : v'.heap.size = v.heap.size + 2 := by rw [hv1]; simp
  have hg : Grows v v' := ⟨by omega, fun b hb => by rw [hv1, Array.getElem?_push, if_neg (by simp; omega), Array.getElem?_push, if_neg (by omega)], hv2, hv3⟩
  have hbox : v'.heap[v.heap.size]? = some (.cells #[I po, I ca, I n, I cc] 39) := by rw [hv1, Array.getElem?_push, if_neg (by simp)]; exact Array.getElem?_push_size
  have hans : v'.heap[v.heap.size + 1]? = some (.cells #[I 0, I 0] 42) := by rw [hv1, Array.getElem?_push, if_pos (by simp)]
  have b0 : v'.cell? ⟨v.heap.size, 0, none⟩ = some (I po) := by simp [World.cell?, hbox]
  have b1 : v'.cell? ⟨v.heap.size, 1, none⟩ = some (I ca) := by simp [World.cell?, hbox]
  have b2 : v'.cell? ⟨v.heap.size, 2, none⟩ = some (I n) := by simp [World.cell?, hbox]
  have b3 : v'.cell? ⟨v.heap.size, 3, none⟩ = some (I cc) := by simp [World.cell?, hbox]
  have x0 : w'.cell? ⟨xl, 0, none⟩ = some (Pt lb 0) := by rw [hr'.cell?]; exact hg.cell hx0
  have x1 : w'.cell? ⟨xx, 0, none⟩ = some (Pt gb 0) := by rw [hr'.cell?]; exact hg.cell hx1
  have HV : Hid (Grows v v' ∧ v'.heap[v.heap.size + 1]? = some (.cells #[I 0, I 0] 42) ∧ NoRow Ch v' ∧ Rel z v' w') := ⟨⟨hg, hans, hn', hr'⟩⟩
  clear hv1 hv2 hv3 hsz hg hbox hans hn' hvw hn hr' hx0 hx1
  generalize hN : v.heap.size = N at b0 b1 b2 b3 HV hstop ⊢
  simp only [Array.replicate_succ, Array.replicate_zero, List.push_toArray, List.append_toArray, List.nil_append, List.cons_append]
  show GoesI Try.prog main (DT (ScZ z) Ch) Stop (G ((base 66).at _ [.code (seq2 (Try.f66.body.getD .skip))]) _) w'
  unfold Try.f66 seq2
  simp only [Option.getD_some]
  refine goesI_seq (dt_idle _ _) ?_
  refine goesI_region (dt_idle _ _) ?_
  simp only [List.size_toArray, List.length_cons, List.length_nil, Nat.reduceAdd, Nat.zero_add, List.range, List.range.loop]
  iterate 3
    (refine goesI_oper rfl rfl (by decide) (fun d K hK => ?_)
     go_simp
     refine hK _ _ ⟨dt_reads (fun e he => ?_), GoesI.at ?_ d⟩
     · have hm := mem_listed he
       simp [go_sem, *] at hm
       try exact ⟨_, _, hm⟩
     clear hK K)
  refine goesI_opZ (L := LT) rfl rfl (by decide) (fineOp_ask callT extT (by kernel_rfl)) HV.out.2.2.2 HV.out.2.2.1 (x := .agg #[I po, I ca, I n, I cc]) (v' := v') (by go_simp) rfl (fun w1 hr1 _ => ?_)
  try walk_nrm
  refine goesI_into (f := 67) (fn := Try.f67) (args := #[Pt lb 0, Pt tb 0, Pt gb 0, .agg #[I po, I ca, I n, I cc]]) (dt_idle _ _) rfl rfl (by decide) rfl (by simp [Act.eval]) Try.func67 (by decide) rfl ?_
  refine hstop v' w1 _ _ _ _ _ _ _ hr1 HV.out.2.2.1 HV.out.1 HV.out.2.1 rfl ?_ _ rfl
  clear b0 b1 b2 b3 x0 x1 HV hstop
  intro z1 Ch1 St w2 v2 S1 K1 e y r2 n2 m2 hpb2 hown2 hk
  have q0 : v2.cell? ⟨N + 1, 0, none⟩ = some (I 0) := by simp [World.cell?, hpb2]
  have q1 : v2.cell? ⟨N + 1, 1, none⟩ = some (I 0) := by simp [World.cell?, hpb2]
  have p0 : v2.frozen? ⟨N + 1, 0, none⟩ = false := by simp [World.frozen?, hpb2]
  have p1 : v2.frozen? ⟨N + 1, 1, none⟩ = false := by simp [World.frozen?, hpb2]
  have e3 := m2.other (v' := (v2.setCell ⟨N + 1, 0, none⟩ (I e)).setCell ⟨N + 1, 1, none⟩ (I y)) hown2 (fun b hb => by rw [Below.heap_setCell _ _ _ _ hb, Below.heap_setCell _ _ _ _ hb]) (by simp [World.setCell]) rfl rfl
  have hrow : ((v2.setCell ⟨N + 1, 0, none⟩ (I e)).setCell ⟨N + 1, 1, none⟩ (I y)).heap[N + 1]? = some (.cells #[I e, I y] 42 (0, 0)) := by
    have := heap_setCell_same (o := 1) (heap_setCell_same (o := 0) hpb2 (I e)) (I y)
    simpa using this
  have HM : Hid (Mem z1 S1 K1 v2 ∧ v2.heap[N + 1]? = some (.cells #[I 0, I 0] 42 (0, 0))) := ⟨⟨m2, hpb2⟩⟩
  clear m2 hpb2
  show GoesI Try.prog main (DT (ScZ z1) Ch1) St _ w2
  walk_nrm
  refine goesI_doZ (L := LT) rfl rfl (by decide) (fineOp_ask callT extT (by kernel_rfl)) r2 n2 (v' := (v2.setCell ⟨N + 1, 0, none⟩ (I e)).setCell ⟨N + 1, 1, none⟩ (I y)) (by go_simp) rfl (fun w3 r3 n3 => ?_)
  refine goesI_regionEnd (dt_idle _ _) ?_
  refine GoesI.ctl rfl (fun _ => stepG_ret') (dt_idle _ _) ?_
  refine goesI_leaveZ (f := 66) (fn := Try.f66) (x := .agg #[I e, I y]) r3 n3 Try.func66 rfl hoc ?_ (fun w' r' => hk _ w' r' n3 e3)
  generalize ((v2.setCell ⟨N + 1, 0, none⟩ (I e)).setCell ⟨N + 1, 1, none⟩ (I y)) = V at hrow
  have k0 : V.cell? ⟨N + 1, 0, none⟩ = some (I e) := by simp [World.cell?, hrow]
  have k1 : V.cell? ⟨N + 1, 1, none⟩ = some (I y) := by simp [World.cell?, hrow]
  simp [results, go_sem, Try.f66, *]
end Go.Proofs.Ytfjjoohflcchnaa.Gen
