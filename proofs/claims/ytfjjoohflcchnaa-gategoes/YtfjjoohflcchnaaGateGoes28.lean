/- GateGoes: for every schedule and all rows of numbers, the Play of scripts in which each Enter has a Leave of its own behind it, ahead of the next Shut, leaves nobody stuck and nobody in; no conditions. Part 28 of 37. (Joined, by program, of: GatC, GNow, LatPk.) -/
import Derived.Test.YtfjjoohflcchnaaGateGoes18
import Derived.Test.YtfjjoohflcchnaaGateGoes26
import Derived.Test.YtfjjoohflcchnaaGateGoes27
set_option linter.unusedSimpArgs false
set_option linter.unusedVariables false
namespace Go.Proofs.Ytfjjoohflcchnaa.Gen
open Go Go.Lift Go.Conc Go.RowKit

/-- With what was called answered, an answer is laid in memory of its own (pb), and goes to the caller. -/
def ABk (main : Bool) (pb : Nat) (cu : Goroutine) (r : Int × Int) (cl : Value → Goroutine) : Prop :=
  ∀ (z : Nat → Option Nat) (Ch : Nat → Prop) (Stop : Goroutine → World → Prop) (w v : World) (S : TS) (K : List (Nat × Int)), Rel z v w → NoRow Ch v → Mem z S K v → v.heap[pb]? = some (.cells #[I 0, I 0] 42 (0, 0)) → ¬ Own S K pb →
    (∀ v' w', Rel z v' w' → NoRow Ch v' → EvoP (· = pb) z S K v S K v' → GoesI Try.prog main (DT (ScZ z) Ch) Stop (cl (.agg #[I r.1, I r.2])) w') →
    GoesI Try.prog main (DT (ScZ z) Ch) Stop cu w

/-! ### act -/
def actF (po : Int) : FuncId := if po = 1 then 100 else if po = 2 then 101 else if po = 3 then 102 else 103
def plainA : List FuncId := [78]
def LA73 (f : FuncId) : Prop := f ∈ plainA
theorem callA : ∀ f ∈ plainA, Callable Try.prog LA73 f := by
  intro f hf
  have hf' := hf
  simp only [plainA, List.mem_cons, List.not_mem_nil, or_false] at hf
  subst hf
  exact ⟨hf', Try.f78, Try.func78, by kernel_rfl, by kernel_rfl⟩
theorem fineA : ∀ f, LA73 f → fineFn Try.prog true LA73 f := by
  intro f hf
  simp only [LA73, plainA, List.mem_cons, List.not_mem_nil, or_false] at hf
  subst hf
  exact fineFn_ask callA extT Try.func78 (c := Try.f78.body.getD .skip) (by rfl) (by kernel_rfl)
set_option maxHeartbeats 1000000 in
set_option maxRecDepth 100000 in
theorem act_wp (v : World) (lb : Nat) (po : Int) : (Try.f78.body.getD .skip).wp Try.prog (bodyPost Try.prog Try.f78 (fun e w' => ∃ r, e = .returned r ∧ r = .func (.func (actF po)) #[Pt lb 0] #[] ∧ w'.heap = v.heap ∧ w'.os = v.os ∧ w'.output = v.output)) { tmps := #[Pt lb 0, I po] ++ Array.replicate (Try.f78.ntmps - 2) undef, defers := [] } v := by
  unfold Try.f78
  simp only [Option.getD_some, Nat.reduceSub, Array.replicate_succ, Array.replicate_zero, List.push_toArray, List.append_toArray, List.nil_append, List.cons_append]
  by_cases h1 : po = 1
  · subst h1
    go_wp2_with fail
    go_ret
    exact ⟨_, rfl, rfl, rfl, rfl, rfl⟩
  · have f1 : (po == 1) = false := by simp [h1]
    by_cases h2 : po = 2
    · subst h2
      go_wp2_with fail
      go_ret
      exact ⟨_, rfl, rfl, rfl, rfl, rfl⟩
    · have f2 : (po == 2) = false := by simp [h2]
      by_cases h3 : po = 3
      · subst h3
        go_wp2_with fail
        go_ret
        exact ⟨_, rfl, rfl, rfl, rfl, rfl⟩
      · have f3 : (po == 3) = false := by simp [h3]
        have ha : Hid (actF po = 103) := ⟨by unfold actF; rw [if_neg h1, if_neg h2, if_neg h3]⟩
        clear h1 h2 h3
        go_wp2_with fail
        go_ret
        exact ⟨_, rfl, by rw [ha.out]; rfl, rfl, rfl, rfl⟩

/-! ### The closure -/
noncomputable def clg0 : Code := seq1 (Try.f77.body.getD .skip)
theorem fineClg0 : fineCode Try.prog true LT clg0 := fineCode_ask callT extT (by kernel_rfl)
set_option maxHeartbeats 1000000 in
set_option maxRecDepth 100000 in
theorem clg_goes {z : Nat → Option Nat} {Ch : Nat → Prop} {Stop : Goroutine → World → Prop} {main : Bool} {v w : World} {lb tb xb : Nat} (po ca cb0 cc : Int) (hx0 : v.cell? ⟨xb, 0, none⟩ = some (Pt lb 0)) (cs : List Frame) {bc : Frame} {ac : Act} {ops : Array Oper} {q : Nat} {rest : List Nat} {oc : Oper} {k : List Item} (hoc : ops[q]? = some oc)
    (hvw : Rel z v w) (hn : NoRow Ch v)
    (hstop : ∀ v' w' (bd : Frame) (ad : Act) (od : Array Oper) (qd : Nat) (rd : List Nat) (oe : Oper) (kd : List Item), Rel z v' w' → NoRow Ch v' → Grows v v' → v'.heap[v.heap.size + 1]? = some (.cells #[I 0, I 0] 42 (0, 0)) → od[qd]? = some oe →
      (∀ r : Int × Int, ABk main (v.heap.size + 1) (G (bd.at (ad.put oe.dst (.agg #[I r.1, I r.2])) (.inRegion od rd :: kd)) (bc.at ac (.inRegion ops (q :: rest) :: k) :: cs)) r (fun r => G (bc.at (ac.put oc.dst r) (.inRegion ops rest :: k)) cs)) →
      ∀ fn code, Try.prog.funcs[actF po]? = some fn → fn.body = some code →
      GoesI Try.prog main (DT (ScZ z) Ch) Stop (G ((base (actF po)).at { tmps := #[Pt lb 0, Pt tb 0] ++ Array.replicate (fn.ntmps - 2) undef, defers := [] } [.code code]) (bd.at ad (.inRegion od (qd :: rd) :: kd) :: bc.at ac (.inRegion ops (q :: rest) :: k) :: cs)) w') (code : Code) (hc : Try.f77.body = some code) :
    GoesI Try.prog main (DT (ScZ z) Ch) Stop (G ((base 77).at { tmps := #[Pt tb 0, .agg #[I po, I ca, I cb0, I cc], Pt xb 0] ++ Array.replicate 9 undef, defers := [] } [.code code]) (bc.at ac (.inRegion ops (q :: rest) :: k) :: cs)) w := by
  have hw0 : code = .seq clg0 (seq2 (Try.f77.body.getD .skip)) := by
    rw [hc]; obtain rfl := Option.some.inj hc; rfl
  subst hw0
  clear hc
  refine goesI_seq (dt_idle _ _) ?_
  refine goesI_plain (z := z) (wr := true) (L := LT) (I := NoRow Ch) hE fineT noRow_keeps (fun v v' w w' es hi hr ho he => dt_of_z v v' w w' es hi hr ho he) hvw fineClg0 rfl (by simp [base]) hn
    (Q := fun a w' => a = { tmps := #[Pt tb 0, .agg #[I po, I ca, I cb0, I cc], Pt xb 0, undef, Pt v.heap.size 0, Pt (v.heap.size + 1) 0] ++ Array.replicate 6 undef, defers := [] } ∧
      w'.heap = (v.heap.push (.cells #[I po, I ca, I cb0, I cc] 39)).push (.cells #[I 0, I 0] 42) ∧ w'.os = v.os ∧ w'.output = v.output) (fun τ => ?_) ?_
  · show Code.wp Try.prog (seq1 (Try.f77.body.getD .skip)) _ _ _
    unfold Try.f77 seq1
    simp only [Option.getD_some, Array.replicate_succ, Array.replicate_zero, List.push_toArray, List.append_toArray, List.nil_append, List.cons_append]
    go_wp2_with fail
    exact ⟨rfl, rfl, rfl, rfl⟩
  rintro a' v' w' ⟨rfl, hv1, hv2, hv3⟩ hr' hn' -
  have hsz : v'.heap.size = v.heap.size + 2 := by rw [hv1]; simp
  have hg : Grows v v' := ⟨by omega, fun b hb => by rw [hv1, Array.getElem?_push, if_neg (by simp; omega), Array.getElem?_push, if_neg (by omega)], hv2, hv3⟩
  have hbox : v'.heap[v.heap.size]? = some (.cells #[I po, I ca, I cb0, I cc] 39) := by rw [hv1, Array.getElem?_push, if_neg (by simp)]; exact Array.getElem?_push_size
  have hans : v'.heap[v.heap.size + 1]? = some (.cells #[I 0, I 0] 42) := by rw [hv1, Array.getElem?_push, if_pos (by simp)]
  have b0 : w'.cell? ⟨v.heap.size, 0, none⟩ = some (I po) := by rw [hr'.cell?]; simp [World.cell?, hbox]
  have x0 : w'.cell? ⟨xb, 0, none⟩ = some (Pt lb 0) := by rw [hr'.cell?]; exact hg.cell hx0
  have HV : Hid (Grows v v' ∧ v'.heap[v.heap.size + 1]? = some (.cells #[I 0, I 0] 42)) := ⟨⟨hg, hans⟩⟩
  clear hv1 hv2 hv3 hsz hg hbox hans hvw hn hx0
  generalize hN : v.heap.size = N at b0 HV hstop ⊢
  simp only [Array.replicate_succ, Array.replicate_zero, List.push_toArray, List.append_toArray, List.nil_append, List.cons_append]
  show GoesI Try.prog main (DT (ScZ z) Ch) Stop (G ((base 77).at _ [.code (seq2 (Try.f77.body.getD .skip))]) _) w'
  unfold Try.f77 seq2
  simp only [Option.getD_some]
  refine goesI_seq (dt_idle _ _) ?_
  refine goesI_region (dt_idle _ _) ?_
  simp only [List.size_toArray, List.length_cons, List.length_nil, Nat.reduceAdd, Nat.zero_add, List.range, List.range.loop]
  iterate 3
    (refine goesI_oper rfl rfl (by decide) (fun d K hK => ?_)
     go_simp
     refine hK _ _ ⟨dt_reads (fun e he => ?_), GoesI.at ?_ d⟩
     · have hm := mem_listed he
       simp [go_sem, *] at hm
       try exact ⟨_, _, hm⟩
     clear hK K)
  refine goesI_call (f := 78) (fn := Try.f78) (args := #[Pt lb 0, I po]) hE fineA rfl rfl (by decide) rfl (by simp [Act.eval]) Try.func78 (by kernel_rfl) rfl (fineFn_body fineA (by simp [LA73, plainA]) Try.func78 rfl) (fun tmps => ⟨_, fun w => results_tmp rfl _ _ _, fun w => by simp [results, go_sem]⟩) hr' hn'
    (R := fun r v4 => r = .func (.func (actF po)) #[Pt lb 0] #[] ∧ v4.heap = v'.heap ∧ v4.os = v'.os ∧ v4.output = v'.output) (fun τ => act_wp (onTape v' τ 0) lb po) (fun r v4 w4 hR hvw4 hn4 => ?_)
  obtain ⟨rfl, h1, h2, h3⟩ := hR
  have hg4 : Grows v v4 := ⟨by rw [h1]; exact HV.out.1.size, fun b hb => by rw [h1]; exact HV.out.1.old b hb, h2.trans HV.out.1.os, h3.trans HV.out.1.output⟩
  have hans4 : v4.heap[N + 1]? = some (.cells #[I 0, I 0] 42) := by rw [h1]; exact HV.out.2
  clear HV b0 x0 h1 h2 h3 hr' hn'
  walk_nrm
  iterate 1
    (refine goesI_oper rfl rfl (by decide) (fun d K hK => ?_)
     go_simp
     refine hK _ _ ⟨dt_reads (fun e he => ?_), GoesI.at ?_ d⟩
     · have hm := mem_listed he
       simp [go_sem, *] at hm
       try exact ⟨_, _, hm⟩
     clear hK K)
  obtain ⟨fn, code, hfn, hcode, hname⟩ : ∃ fn code, Try.prog.funcs[actF po]? = some fn ∧ fn.body = some code ∧ (fn.name == "runtime.NumGoroutine") = false := by
    unfold actF
    split
    · exact ⟨Try.f100, _, Try.func100, rfl, by kernel_rfl⟩
    · split
      · exact ⟨Try.f101, _, Try.func101, rfl, by kernel_rfl⟩
      · split
        · exact ⟨Try.f102, _, Try.func102, rfl, by kernel_rfl⟩
        · exact ⟨Try.f103, _, Try.func103, rfl, by kernel_rfl⟩
  have hname' : fn.name ≠ "runtime.NumGoroutine" := by simpa using hname
  refine goesI_enter (f := actF po) (fn := fn) (args := #[Pt lb 0, Pt tb 0]) rfl rfl (by decide) (fun w => ?_) (fun w => ?_) (dt_idle _ _) hfn hcode ?_
  · simp [execOp, resolve, Deferred.ofValue, Act.eval, invoke, callFunc, hfn, hname', hcode]
  · refine listed_none ?_
    simp [go_sem, execOp, resolve, Deferred.ofValue, Act.eval, invoke, callFunc, hfn, hname', hcode]
  refine hstop v4 w4 _ _ _ _ _ _ _ hvw4 hn4 hg4 hans4 rfl ?_ fn code hfn hcode
  clear hstop hg4 hans4 hvw4 hn4 hfn hcode hname hname'
  rintro ⟨e, x⟩ z1 Ch1 St w2 v2 S1 K1 r2 n2 m2 hpb2 hown2 hk
  have q0 : v2.cell? ⟨N + 1, 0, none⟩ = some (I 0) := by simp [World.cell?, hpb2]
  have q1 : v2.cell? ⟨N + 1, 1, none⟩ = some (I 0) := by simp [World.cell?, hpb2]
  have p0 : v2.frozen? ⟨N + 1, 0, none⟩ = false := by simp [World.frozen?, hpb2]
  have p1 : v2.frozen? ⟨N + 1, 1, none⟩ = false := by simp [World.frozen?, hpb2]
  have e3 := m2.other (v' := (v2.setCell ⟨N + 1, 0, none⟩ (I e)).setCell ⟨N + 1, 1, none⟩ (I x)) hown2 (fun b hb => by rw [Below.heap_setCell _ _ _ _ hb, Below.heap_setCell _ _ _ _ hb]) (by simp [World.setCell]) rfl rfl
  have hrow : ((v2.setCell ⟨N + 1, 0, none⟩ (I e)).setCell ⟨N + 1, 1, none⟩ (I x)).heap[N + 1]? = some (.cells #[I e, I x] 42 (0, 0)) := by
    have := heap_setCell_same (o := 1) (heap_setCell_same (o := 0) hpb2 (I e)) (I x)
    simpa using this
  have HM : Hid (Mem z1 S1 K1 v2 ∧ v2.heap[N + 1]? = some (.cells #[I 0, I 0] 42 (0, 0))) := ⟨⟨m2, hpb2⟩⟩
  clear m2 hpb2
  show GoesI Try.prog main (DT (ScZ z1) Ch1) St _ w2
  walk_nrm
  refine goesI_doZ (L := LT) rfl rfl (by decide) (fineOp_ask callT extT (by kernel_rfl)) r2 n2 (v' := (v2.setCell ⟨N + 1, 0, none⟩ (I e)).setCell ⟨N + 1, 1, none⟩ (I x)) (by go_simp) rfl (fun w3 r3 n3 => ?_)
  refine goesI_regionEnd (dt_idle _ _) ?_
  refine GoesI.ctl rfl (fun _ => stepG_ret') (dt_idle _ _) ?_
  refine goesI_leaveZ (f := 77) (fn := Try.f77) (x := .agg #[I e, I x]) r3 n3 Try.func77 rfl hoc ?_ (fun w' r' => hk _ w' r' n3 e3)
  generalize ((v2.setCell ⟨N + 1, 0, none⟩ (I e)).setCell ⟨N + 1, 1, none⟩ (I x)) = V at hrow
  have k0 : V.cell? ⟨N + 1, 0, none⟩ = some (I e) := by simp [World.cell?, hrow]
  have k1 : V.cell? ⟨N + 1, 1, none⟩ = some (I x) := by simp [World.cell?, hrow]
  simp [results, go_sem, Try.f77, *]

noncomputable def w910 : Code := seq1 (Try.f100.body.getD .skip)
theorem fineW910 : fineCode Try.prog true LT w910 := fineCode_ask callT extT (by kernel_rfl)
set_option maxHeartbeats 1000000 in
set_option maxRecDepth 100000 in
theorem enters_in {z : Nat → Option Nat} {Ch : Nat → Prop} {Stop : Goroutine → World → Prop} {main : Bool} {v w : World} {lb tb : Nat} (cs : List Frame) {bc : Frame} {ac : Act} {ops : Array Oper} {q : Nat} {rest : List Nat} {oc : Oper} {k : List Item} (hoc : ops[q]? = some oc)
    (hvw : Rel z v w) (hn : NoRow Ch v)
    (hstop : ∀ v' w' (bd : Frame) (ad : Act) (od : Array Oper) (qd : Nat) (rd : List Nat) (oe : Oper) (kd : List Item), Rel z v' w' → NoRow Ch v' → Grows v v' → v'.heap[v.heap.size]? = some (.cells #[I 0, I 0] 42 (0, 0)) → od[qd]? = some oe →
      (∀ e : Int, ABk main v.heap.size (G (bd.at (ad.put oe.dst (I e)) (.inRegion od rd :: kd)) (bc.at ac (.inRegion ops (q :: rest) :: k) :: cs)) (e, 0) (fun r => G (bc.at (ac.put oc.dst r) (.inRegion ops rest :: k)) cs)) → ∀ code, Try.f74.body = some code →
      GoesI Try.prog main (DT (ScZ z) Ch) Stop (G ((base 74).at { tmps := #[Pt lb 0, Pt tb 0] ++ Array.replicate 22 undef, defers := [] } [.code code]) (bd.at ad (.inRegion od (qd :: rd) :: kd) :: bc.at ac (.inRegion ops (q :: rest) :: k) :: cs)) w') (code : Code) (hc : Try.f100.body = some code) :
    GoesI Try.prog main (DT (ScZ z) Ch) Stop (G ((base 100).at { tmps := #[Pt lb 0, Pt tb 0] ++ Array.replicate 7 undef, defers := [] } [.code code]) (bc.at ac (.inRegion ops (q :: rest) :: k) :: cs)) w := by
  have hw0 : code = .seq w910 (seq2 (Try.f100.body.getD .skip)) := by
    rw [hc]; obtain rfl := Option.some.inj hc; rfl
  subst hw0
  clear hc
  refine goesI_seq (dt_idle _ _) ?_
  refine goesI_plain (z := z) (wr := true) (L := LT) (I := NoRow Ch) hE fineT noRow_keeps (fun v v' w w' es hi hr ho he => dt_of_z v v' w w' es hi hr ho he) hvw fineW910 rfl (by simp [base]) hn
    (Q := fun a w' => a = { tmps := #[Pt lb 0, Pt tb 0, undef, undef, Pt v.heap.size 0] ++ Array.replicate 4 undef, defers := [] } ∧
      w'.heap = v.heap.push (.cells #[I 0, I 0] 42) ∧ w'.os = v.os ∧ w'.output = v.output) (fun τ => ?_) ?_
  · show Code.wp Try.prog (seq1 (Try.f100.body.getD .skip)) _ _ _
    unfold Try.f100 seq1
    simp only [Option.getD_some, Array.replicate_succ, Array.replicate_zero, List.push_toArray, List.append_toArray, List.nil_append, List.cons_append]
    go_wp2_with fail
    exact ⟨rfl, rfl, rfl, rfl⟩
  rintro a' v' w' ⟨rfl, hv1, hv2, hv3⟩ hr' hn' -
  have hg : Grows v v' := ⟨by rw [hv1]; simp, fun b hb => by rw [hv1, Array.getElem?_push, if_neg (by omega)], hv2, hv3⟩
  have hans : v'.heap[v.heap.size]? = some (.cells #[I 0, I 0] 42) := by rw [hv1]; exact Array.getElem?_push_size
  clear hv1 hv2 hv3 hvw hn
  generalize hN : v.heap.size = N at hans hstop ⊢
  simp only [Array.replicate_succ, Array.replicate_zero, List.push_toArray, List.append_toArray, List.nil_append, List.cons_append]
  show GoesI Try.prog main (DT (ScZ z) Ch) Stop (G ((base 100).at _ [.code (seq2 (Try.f100.body.getD .skip))]) _) w'
  unfold Try.f100 seq2
  simp only [Option.getD_some]
  refine goesI_seq (dt_idle _ _) ?_
  refine goesI_region (dt_idle _ _) ?_
  simp only [List.size_toArray, List.length_cons, List.length_nil, Nat.reduceAdd, Nat.zero_add, List.range, List.range.loop]
  iterate 2
    (refine goesI_oper rfl rfl (by decide) (fun d K hK => ?_)
     go_simp
     refine hK _ _ ⟨dt_reads (fun e he => ?_), GoesI.at ?_ d⟩
     · have hm := mem_listed he
       simp [go_sem, *] at hm
       try exact ⟨_, _, hm⟩
     clear hK K)
  refine goesI_into (f := 74) (fn := Try.f74) (args := #[Pt lb 0, Pt tb 0]) (dt_idle _ _) rfl rfl (by decide) rfl (by simp [Act.eval]) Try.func74 (by decide) rfl ?_
  refine hstop v' w' _ _ _ _ _ _ _ hr' hn' hg hans rfl ?_ _ rfl
  clear hstop hg hans hr' hn'
  intro e z1 Ch1 St w2 v2 S1 K1 r2 n2 m2 hpb2 hown2 hk
  have q0 : v2.cell? ⟨N, 0, none⟩ = some (I 0) := by simp [World.cell?, hpb2]
  have q1 : v2.cell? ⟨N, 1, none⟩ = some (I 0) := by simp [World.cell?, hpb2]
  have p0 : v2.frozen? ⟨N, 0, none⟩ = false := by simp [World.frozen?, hpb2]
  have p1 : v2.frozen? ⟨N, 1, none⟩ = false := by simp [World.frozen?, hpb2]
  have e3 := m2.other (v' := (v2.setCell ⟨N, 0, none⟩ (I e)).setCell ⟨N, 1, none⟩ (I 0)) hown2 (fun b hb => by rw [Below.heap_setCell _ _ _ _ hb, Below.heap_setCell _ _ _ _ hb]) (by simp [World.setCell]) rfl rfl
  have hrow : ((v2.setCell ⟨N, 0, none⟩ (I e)).setCell ⟨N, 1, none⟩ (I 0)).heap[N]? = some (.cells #[I e, I 0] 42 (0, 0)) := by
    have := heap_setCell_same (o := 1) (heap_setCell_same (o := 0) hpb2 (I e)) (I 0)
    simpa using this
  have HM : Hid (Mem z1 S1 K1 v2 ∧ v2.heap[N]? = some (.cells #[I 0, I 0] 42 (0, 0))) := ⟨⟨m2, hpb2⟩⟩
  clear m2 hpb2
  show GoesI Try.prog main (DT (ScZ z1) Ch1) St _ w2
  walk_nrm
  iterate 1
    (refine goesI_oper rfl rfl (by decide) (fun d K hK => ?_)
     go_simp
     refine hK _ _ ⟨dt_reads (fun e he => ?_), GoesI.at ?_ d⟩
     · have hm := mem_listed he
       simp [go_sem, *] at hm
       try exact ⟨_, _, hm⟩
     clear hK K)
  refine goesI_doZ (L := LT) rfl rfl (by decide) (fineOp_ask callT extT (by kernel_rfl)) r2 n2 (v' := (v2.setCell ⟨N, 0, none⟩ (I e)).setCell ⟨N, 1, none⟩ (I 0)) (by go_simp) rfl (fun w3 r3 n3 => ?_)
  refine goesI_regionEnd (dt_idle _ _) ?_
  refine GoesI.ctl rfl (fun _ => stepG_ret') (dt_idle _ _) ?_
  refine goesI_leaveZ (f := 100) (fn := Try.f100) (x := .agg #[I e, I 0]) r3 n3 Try.func100 rfl hoc ?_ (fun w' r' => hk _ w' r' n3 e3)
  generalize ((v2.setCell ⟨N, 0, none⟩ (I e)).setCell ⟨N, 1, none⟩ (I 0)) = V at hrow
  have k0 : V.cell? ⟨N, 0, none⟩ = some (I e) := by simp [World.cell?, hrow]
  have k1 : V.cell? ⟨N, 1, none⟩ = some (I 0) := by simp [World.cell?, hrow]
  simp [results, go_sem, Try.f100, *]

noncomputable def w920 : Code := seq1 (Try.f101.body.getD .skip)
theorem fineW920 : fineCode Try.prog true LT w920 := fineCode_ask callT extT (by kernel_rfl)
set_option maxHeartbeats 1000000 in
set_option maxRecDepth 100000 in
theorem leaves_in {z : Nat → Option Nat} {Ch : Nat → Prop} {Stop : Goroutine → World → Prop} {main : Bool} {v w : World} {lb tb : Nat} (cs : List Frame) {bc : Frame} {ac : Act} {ops : Array Oper} {q : Nat} {rest : List Nat} {oc : Oper} {k : List Item} (hoc : ops[q]? = some oc)
    (hvw : Rel z v w) (hn : NoRow Ch v)
    (hstop : ∀ v' w' (bd : Frame) (ad : Act) (od : Array Oper) (qd : Nat) (rd : List Nat) (oe : Oper) (kd : List Item), Rel z v' w' → NoRow Ch v' → Grows v v' → v'.heap[v.heap.size]? = some (.cells #[I 0, I 0] 42 (0, 0)) → od[qd]? = some oe →
      (∀ e : Int, ABk main v.heap.size (G (bd.at (ad.put oe.dst (I e)) (.inRegion od rd :: kd)) (bc.at ac (.inRegion ops (q :: rest) :: k) :: cs)) (e, 0) (fun r => G (bc.at (ac.put oc.dst r) (.inRegion ops rest :: k)) cs)) → ∀ code, Try.f75.body = some code →
      GoesI Try.prog main (DT (ScZ z) Ch) Stop (G ((base 75).at { tmps := #[Pt lb 0, Pt tb 0] ++ Array.replicate 21 undef, defers := [] } [.code code]) (bd.at ad (.inRegion od (qd :: rd) :: kd) :: bc.at ac (.inRegion ops (q :: rest) :: k) :: cs)) w') (code : Code) (hc : Try.f101.body = some code) :
    GoesI Try.prog main (DT (ScZ z) Ch) Stop (G ((base 101).at { tmps := #[Pt lb 0, Pt tb 0] ++ Array.replicate 7 undef, defers := [] } [.code code]) (bc.at ac (.inRegion ops (q :: rest) :: k) :: cs)) w := by
  have hw0 : code = .seq w920 (seq2 (Try.f101.body.getD .skip)) := by
    rw [hc]; obtain rfl := Option.some.inj hc; rfl
  subst hw0
  clear hc
  refine goesI_seq (dt_idle _ _) ?_
  refine goesI_plain (z := z) (wr := true) (L := LT) (I := NoRow Ch) hE fineT noRow_keeps (fun v v' w w' es hi hr ho he => dt_of_z v v' w w' es hi hr ho he) hvw fineW920 rfl (by simp [base]) hn
    (Q := fun a w' => a = { tmps := #[Pt lb 0, Pt tb 0, undef, undef, Pt v.heap.size 0] ++ Array.replicate 4 undef, defers := [] } ∧
      w'.heap = v.heap.push (.cells #[I 0, I 0] 42) ∧ w'.os = v.os ∧ w'.output = v.output) (fun τ => ?_) ?_
  · show Code.wp Try.prog (seq1 (Try.f101.body.getD .skip)) _ _ _
    unfold Try.f101 seq1
    simp only [Option.getD_some, Array.replicate_succ, Array.replicate_zero, List.push_toArray, List.append_toArray, List.nil_append, List.cons_append]
    go_wp2_with fail
    exact ⟨rfl, rfl, rfl, rfl⟩
  rintro a' v' w' ⟨rfl, hv1, hv2, hv3⟩ hr' hn' -
  have hg : Grows v v' := ⟨by rw [hv1]; simp, fun b hb => by rw [hv1, Array.getElem?_push, if_neg (by omega)], hv2, hv3⟩
  have hans : v'.heap[v.heap.size]? = some (.cells #[I 0, I 0] 42) := by rw [hv1]; exact Array.getElem?_push_size
  clear hv1 hv2 hv3 hvw hn
  generalize hN : v.heap.size = N at hans hstop ⊢
  simp only [Array.replicate_succ, Array.replicate_zero, List.push_toArray, List.append_toArray, List.nil_append, List.cons_append]
  show GoesI Try.prog main (DT (ScZ z) Ch) Stop (G ((base 101).at _ [.code (seq2 (Try.f101.body.getD .skip))]) _) w'
  unfold Try.f101 seq2
  simp only [Option.getD_some]
  refine goesI_seq (dt_idle _ _) ?_
  refine goesI_region (dt_idle _ _) ?_
  simp only [List.size_toArray, List.length_cons, List.length_nil, Nat.reduceAdd, Nat.zero_add, List.range, List.range.loop]
  iterate 2
    (refine goesI_oper rfl rfl (by decide) (fun d K hK => ?_)
     go_simp
     refine hK _ _ ⟨dt_reads (fun e he => ?_), GoesI.at ?_ d⟩
     · have hm := mem_listed he
       simp [go_sem, *] at hm
       try exact ⟨_, _, hm⟩
     clear hK K)
  refine goesI_into (f := 75) (fn := Try.f75) (args := #[Pt lb 0, Pt tb 0]) (dt_idle _ _) rfl rfl (by decide) rfl (by simp [Act.eval]) Try.func75 (by decide) rfl ?_
  refine hstop v' w' _ _ _ _ _ _ _ hr' hn' hg hans rfl ?_ _ rfl
  clear hstop hg hans hr' hn'
  intro e z1 Ch1 St w2 v2 S1 K1 r2 n2 m2 hpb2 hown2 hk
  have q0 : v2.cell? ⟨N, 0, none⟩ = some (I 0) := by simp [World.cell?, hpb2]
  have q1 : v2.cell? ⟨N, 1, none⟩ = some (I 0) := by simp [World.cell?, hpb2]
  have p0 : v2.frozen? ⟨N, 0, none⟩ = false := by simp [World.frozen?, hpb2]
  have p1 : v2.frozen? ⟨N, 1, none⟩ = false := by simp [World.frozen?, hpb2]
  have e3 := m2.other (v' := (v2.setCell ⟨N, 0, none⟩ (I e)).setCell ⟨N, 1, none⟩ (I 0)) hown2 (fun b hb => by rw [Below.heap_setCell _ _ _ _ hb, Below.heap_setCell _ _ _ _ hb]) (by simp [World.setCell]) rfl rfl
  have hrow : ((v2.setCell ⟨N, 0, none⟩ (I e)).setCell ⟨N, 1, none⟩ (I 0)).heap[N]? = some (.cells #[I e, I 0] 42 (0, 0)) := by
    have := heap_setCell_same (o := 1) (heap_setCell_same (o := 0) hpb2 (I e)) (I 0)
    simpa using this
  have HM : Hid (Mem z1 S1 K1 v2 ∧ v2.heap[N]? = some (.cells #[I 0, I 0] 42 (0, 0))) := ⟨⟨m2, hpb2⟩⟩
  clear m2 hpb2
  show GoesI Try.prog main (DT (ScZ z1) Ch1) St _ w2
  walk_nrm
  iterate 1
    (refine goesI_oper rfl rfl (by decide) (fun d K hK => ?_)
     go_simp
     refine hK _ _ ⟨dt_reads (fun e he => ?_), GoesI.at ?_ d⟩
     · have hm := mem_listed he
       simp [go_sem, *] at hm
       try exact ⟨_, _, hm⟩
     clear hK K)
  refine goesI_doZ (L := LT) rfl rfl (by decide) (fineOp_ask callT extT (by kernel_rfl)) r2 n2 (v' := (v2.setCell ⟨N, 0, none⟩ (I e)).setCell ⟨N, 1, none⟩ (I 0)) (by go_simp) rfl (fun w3 r3 n3 => ?_)
  refine goesI_regionEnd (dt_idle _ _) ?_
  refine GoesI.ctl rfl (fun _ => stepG_ret') (dt_idle _ _) ?_
  refine goesI_leaveZ (f := 101) (fn := Try.f101) (x := .agg #[I e, I 0]) r3 n3 Try.func101 rfl hoc ?_ (fun w' r' => hk _ w' r' n3 e3)
  generalize ((v2.setCell ⟨N, 0, none⟩ (I e)).setCell ⟨N, 1, none⟩ (I 0)) = V at hrow
  have k0 : V.cell? ⟨N, 0, none⟩ = some (I e) := by simp [World.cell?, hrow]
  have k1 : V.cell? ⟨N, 1, none⟩ = some (I 0) := by simp [World.cell?, hrow]
  simp [results, go_sem, Try.f101, *]

noncomputable def w930 : Code := seq1 (Try.f102.body.getD .skip)
theorem fineW930 : fineCode Try.prog true LT w930 := fineCode_ask callT extT (by kernel_rfl)
set_option maxHeartbeats 1000000 in
set_option maxRecDepth 100000 in
theorem shuts_in {z : Nat → Option Nat} {Ch : Nat → Prop} {Stop : Goroutine → World → Prop} {main : Bool} {v w : World} {lb tb : Nat} (cs : List Frame) {bc : Frame} {ac : Act} {ops : Array Oper} {q : Nat} {rest : List Nat} {oc : Oper} {k : List Item} (hoc : ops[q]? = some oc)
    (hvw : Rel z v w) (hn : NoRow Ch v)
    (hstop : ∀ v' w' (bd : Frame) (ad : Act) (od : Array Oper) (qd : Nat) (rd : List Nat) (oe : Oper) (kd : List Item), Rel z v' w' → NoRow Ch v' → Grows v v' → v'.heap[v.heap.size]? = some (.cells #[I 0, I 0] 42 (0, 0)) → od[qd]? = some oe →
      (∀ (fi : Bool) (e : Int), ABk main v.heap.size (G (bd.at (ad.put oe.dst (.tuple #[.bool fi, I e])) (.inRegion od rd :: kd)) (bc.at ac (.inRegion ops (q :: rest) :: k) :: cs)) (e, if fi then 1 else 0) (fun r => G (bc.at (ac.put oc.dst r) (.inRegion ops rest :: k)) cs)) → ∀ code, Try.f76.body = some code →
      GoesI Try.prog main (DT (ScZ z) Ch) Stop (G ((base 76).at { tmps := #[Pt lb 0, Pt tb 0] ++ Array.replicate 24 undef, defers := [] } [.code code]) (bd.at ad (.inRegion od (qd :: rd) :: kd) :: bc.at ac (.inRegion ops (q :: rest) :: k) :: cs)) w') (code : Code) (hc : Try.f102.body = some code) :
    GoesI Try.prog main (DT (ScZ z) Ch) Stop (G ((base 102).at { tmps := #[Pt lb 0, Pt tb 0] ++ Array.replicate 16 undef, defers := [] } [.code code]) (bc.at ac (.inRegion ops (q :: rest) :: k) :: cs)) w := by
  have hw0 : code = .seq w930 (seq2 (Try.f102.body.getD .skip)) := by
    rw [hc]; obtain rfl := Option.some.inj hc; rfl
  subst hw0
  clear hc
  refine goesI_seq (dt_idle _ _) ?_
  refine goesI_plain (z := z) (wr := true) (L := LT) (I := NoRow Ch) hE fineT noRow_keeps (fun v v' w w' es hi hr ho he => dt_of_z v v' w w' es hi hr ho he) hvw fineW930 rfl (by simp [base]) hn
    (Q := fun a w' => a = { tmps := #[Pt lb 0, Pt tb 0, undef, undef, Pt v.heap.size 0] ++ Array.replicate 13 undef, defers := [] } ∧
      w'.heap = v.heap.push (.cells #[I 0, I 0] 42) ∧ w'.os = v.os ∧ w'.output = v.output) (fun τ => ?_) ?_
  · show Code.wp Try.prog (seq1 (Try.f102.body.getD .skip)) _ _ _
    unfold Try.f102 seq1
    simp only [Option.getD_some, Array.replicate_succ, Array.replicate_zero, List.push_toArray, List.append_toArray, List.nil_append, List.cons_append]
    go_wp2_with fail
    exact ⟨rfl, rfl, rfl, rfl⟩
  rintro a' v' w' ⟨rfl, hv1, hv2, hv3⟩ hr' hn' -
  have hg : Grows v v' := ⟨by rw [hv1]; simp, fun b hb => by rw [hv1, Array.getElem?_push, if_neg (by omega)], hv2, hv3⟩
  have hans : v'.heap[v.heap.size]? = some (.cells #[I 0, I 0] 42) := by rw [hv1]; exact Array.getElem?_push_size
  clear hv1 hv2 hv3 hvw hn
  generalize hN : v.heap.size = N at hans hstop ⊢
  simp only [Array.replicate_succ, Array.replicate_zero, List.push_toArray, List.append_toArray, List.nil_append, List.cons_append]
  show GoesI Try.prog main (DT (ScZ z) Ch) Stop (G ((base 102).at _ [.code (seq2 (Try.f102.body.getD .skip))]) _) w'
  unfold Try.f102 seq2
  simp only [Option.getD_some]
  refine goesI_seq (dt_idle _ _) ?_
  refine goesI_region (dt_idle _ _) ?_
  simp only [List.size_toArray, List.length_cons, List.length_nil, Nat.reduceAdd, Nat.zero_add, List.range, List.range.loop]
  iterate 2
    (refine goesI_oper rfl rfl (by decide) (fun d K hK => ?_)
     go_simp
     refine hK _ _ ⟨dt_reads (fun e he => ?_), GoesI.at ?_ d⟩
     · have hm := mem_listed he
       simp [go_sem, *] at hm
       try exact ⟨_, _, hm⟩
     clear hK K)
  refine goesI_into (f := 76) (fn := Try.f76) (args := #[Pt lb 0, Pt tb 0]) (dt_idle _ _) rfl rfl (by decide) rfl (by simp [Act.eval]) Try.func76 (by decide) rfl ?_
  refine hstop v' w' _ _ _ _ _ _ _ hr' hn' hg hans rfl ?_ _ rfl
  clear hstop hg hans hr' hn'
  intro fi e z1 Ch1 St w2 v2 S1 K1 r2 n2 m2 hpb2 hown2 hk
  cases fi
  · simp only [Bool.false_eq_true, if_false] at hk
    have q0 : v2.cell? ⟨N, 0, none⟩ = some (I 0) := by simp [World.cell?, hpb2]
    have q1 : v2.cell? ⟨N, 1, none⟩ = some (I 0) := by simp [World.cell?, hpb2]
    have p0 : v2.frozen? ⟨N, 0, none⟩ = false := by simp [World.frozen?, hpb2]
    have p1 : v2.frozen? ⟨N, 1, none⟩ = false := by simp [World.frozen?, hpb2]
    have e3 := m2.other (v' := (v2.setCell ⟨N, 0, none⟩ (I e)).setCell ⟨N, 1, none⟩ (I 0)) hown2 (fun b hb => by rw [Below.heap_setCell _ _ _ _ hb, Below.heap_setCell _ _ _ _ hb]) (by simp [World.setCell]) rfl rfl
    have hrow : ((v2.setCell ⟨N, 0, none⟩ (I e)).setCell ⟨N, 1, none⟩ (I 0)).heap[N]? = some (.cells #[I e, I 0] 42 (0, 0)) := by
      have := heap_setCell_same (o := 1) (heap_setCell_same (o := 0) hpb2 (I e)) (I 0)
      simpa using this
    have HM : Hid (Mem z1 S1 K1 v2 ∧ v2.heap[N]? = some (.cells #[I 0, I 0] 42 (0, 0))) := ⟨⟨m2, hpb2⟩⟩
    clear m2 hpb2
    show GoesI Try.prog main (DT (ScZ z1) Ch1) St _ w2
    walk_nrm
    iterate 5
      (refine goesI_oper rfl rfl (by decide) (fun d K hK => ?_)
       go_simp
       refine hK _ _ ⟨dt_reads (fun e he => ?_), GoesI.at ?_ d⟩
       · have hm := mem_listed he
         simp [go_sem, *] at hm
         try exact ⟨_, _, hm⟩
       clear hK K)
    refine goesI_regionEnd (dt_idle _ _) ?_
    refine goesI_seq (dt_idle _ _) ?_
    refine goesI_seq (dt_idle _ _) ?_
    refine goesI_region (dt_idle _ _) ?_
    simp only [List.size_toArray, List.length_cons, List.length_nil, Nat.reduceAdd, Nat.zero_add, List.range, List.range.loop]
    iterate 1
      (refine goesI_oper rfl rfl (by decide) (fun d K hK => ?_)
       go_simp
       refine hK _ _ ⟨dt_reads (fun e he => ?_), GoesI.at ?_ d⟩
       · have hm := mem_listed he
         simp [go_sem, *] at hm
         try exact ⟨_, _, hm⟩
       clear hK K)
    refine goesI_regionEnd (dt_idle _ _) ?_
    refine goesI_cond (dt_idle _ _) (t := false) rfl ?_
    simp only [if_true, if_false, Bool.false_eq_true]
    refine goesI_skip (dt_idle _ _) ?_
    refine goesI_seq (dt_idle _ _) ?_
    refine goesI_region (dt_idle _ _) ?_
    simp only [List.size_toArray, List.length_cons, List.length_nil, Nat.reduceAdd, Nat.zero_add, List.range, List.range.loop]
    iterate 2
      (refine goesI_oper rfl rfl (by decide) (fun d K hK => ?_)
       go_simp
       refine hK _ _ ⟨dt_reads (fun e he => ?_), GoesI.at ?_ d⟩
       · have hm := mem_listed he
         simp [go_sem, *] at hm
         try exact ⟨_, _, hm⟩
       clear hK K)
    refine goesI_doZ (L := LT) rfl rfl (by decide) (fineOp_ask callT extT (by kernel_rfl)) r2 n2 (v' := (v2.setCell ⟨N, 0, none⟩ (I e)).setCell ⟨N, 1, none⟩ (I 0)) (by go_simp) rfl (fun w3 r3 n3 => ?_)
    refine goesI_regionEnd (dt_idle _ _) ?_
    refine GoesI.ctl rfl (fun _ => stepG_ret') (dt_idle _ _) ?_
    refine goesI_leaveZ (f := 102) (fn := Try.f102) (x := .agg #[I e, I 0]) r3 n3 Try.func102 rfl hoc ?_ (fun w' r' => hk _ w' r' n3 e3)
    generalize ((v2.setCell ⟨N, 0, none⟩ (I e)).setCell ⟨N, 1, none⟩ (I 0)) = V at hrow
    have k0 : V.cell? ⟨N, 0, none⟩ = some (I e) := by simp [World.cell?, hrow]
    have k1 : V.cell? ⟨N, 1, none⟩ = some (I 0) := by simp [World.cell?, hrow]
    simp [results, go_sem, Try.f102, *]
  · simp only [if_true] at hk
    have q0 : v2.cell? ⟨N, 0, none⟩ = some (I 0) := by simp [World.cell?, hpb2]
    have q1 : v2.cell? ⟨N, 1, none⟩ = some (I 0) := by simp [World.cell?, hpb2]
    have p0 : v2.frozen? ⟨N, 0, none⟩ = false := by simp [World.frozen?, hpb2]
    have p1 : v2.frozen? ⟨N, 1, none⟩ = false := by simp [World.frozen?, hpb2]
    have e3 := m2.other (v' := (v2.setCell ⟨N, 0, none⟩ (I e)).setCell ⟨N, 1, none⟩ (I 1)) hown2 (fun b hb => by rw [Below.heap_setCell _ _ _ _ hb, Below.heap_setCell _ _ _ _ hb]) (by simp [World.setCell]) rfl rfl
    have hrow : ((v2.setCell ⟨N, 0, none⟩ (I e)).setCell ⟨N, 1, none⟩ (I 1)).heap[N]? = some (.cells #[I e, I 1] 42 (0, 0)) := by
      have := heap_setCell_same (o := 1) (heap_setCell_same (o := 0) hpb2 (I e)) (I 1)
      simpa using this
    have HM : Hid (Mem z1 S1 K1 v2 ∧ v2.heap[N]? = some (.cells #[I 0, I 0] 42 (0, 0))) := ⟨⟨m2, hpb2⟩⟩
    clear m2 hpb2
    show GoesI Try.prog main (DT (ScZ z1) Ch1) St _ w2
    walk_nrm
    iterate 5
      (refine goesI_oper rfl rfl (by decide) (fun d K hK => ?_)
       go_simp
       refine hK _ _ ⟨dt_reads (fun e he => ?_), GoesI.at ?_ d⟩
       · have hm := mem_listed he
         simp [go_sem, *] at hm
         try exact ⟨_, _, hm⟩
       clear hK K)
    refine goesI_regionEnd (dt_idle _ _) ?_
    refine goesI_seq (dt_idle _ _) ?_
    refine goesI_seq (dt_idle _ _) ?_
    refine goesI_region (dt_idle _ _) ?_
    simp only [List.size_toArray, List.length_cons, List.length_nil, Nat.reduceAdd, Nat.zero_add, List.range, List.range.loop]
    iterate 1
      (refine goesI_oper rfl rfl (by decide) (fun d K hK => ?_)
       go_simp
       refine hK _ _ ⟨dt_reads (fun e he => ?_), GoesI.at ?_ d⟩
       · have hm := mem_listed he
         simp [go_sem, *] at hm
         try exact ⟨_, _, hm⟩
       clear hK K)
    refine goesI_regionEnd (dt_idle _ _) ?_
    refine goesI_cond (dt_idle _ _) (t := true) rfl ?_
    simp only [if_true, if_false, Bool.false_eq_true]
    refine goesI_seq (dt_idle _ _) ?_
    refine goesI_region (dt_idle _ _) ?_
    simp only [List.size_toArray, List.length_cons, List.length_nil, Nat.reduceAdd, Nat.zero_add, List.range, List.range.loop]
    iterate 2
      (refine goesI_oper rfl rfl (by decide) (fun d K hK => ?_)
       go_simp
       refine hK _ _ ⟨dt_reads (fun e he => ?_), GoesI.at ?_ d⟩
       · have hm := mem_listed he
         simp [go_sem, *] at hm
         try exact ⟨_, _, hm⟩
       clear hK K)
    refine goesI_doZ (L := LT) rfl rfl (by decide) (fineOp_ask callT extT (by kernel_rfl)) r2 n2 (v' := (v2.setCell ⟨N, 0, none⟩ (I e)).setCell ⟨N, 1, none⟩ (I 1)) (by go_simp) rfl (fun w3 r3 n3 => ?_)
    refine goesI_regionEnd (dt_idle _ _) ?_
    refine GoesI.ctl rfl (fun _ => stepG_ret') (dt_idle _ _) ?_
    refine goesI_leaveZ (f := 102) (fn := Try.f102) (x := .agg #[I e, I 1]) r3 n3 Try.func102 rfl hoc ?_ (fun w' r' => hk _ w' r' n3 e3)
    generalize ((v2.setCell ⟨N, 0, none⟩ (I e)).setCell ⟨N, 1, none⟩ (I 1)) = V at hrow
    have k0 : V.cell? ⟨N, 0, none⟩ = some (I e) := by simp [World.cell?, hrow]
    have k1 : V.cell? ⟨N, 1, none⟩ = some (I 1) := by simp [World.cell?, hrow]
    simp [results, go_sem, Try.f102, *]

noncomputable def w94 : Code := Try.f103.body.getD .skip
theorem fineW94 : fineCode Try.prog true LT w94 := fineCode_ask callT extT (by kernel_rfl)
set_option maxHeartbeats 1000000 in
set_option maxRecDepth 100000 in
theorem refuses_goes {z : Nat → Option Nat} {Ch : Nat → Prop} {Stop : Goroutine → World → Prop} {main : Bool} {v w : World} {lb tb : Nat} (cs : List Frame) {bc : Frame} {ac : Act} {ops : Array Oper} {q : Nat} {rest : List Nat} {oc : Oper} {k : List Item} (hoc : ops[q]? = some oc)
    (hvw : Rel z v w) (hn : NoRow Ch v)
    (hk : ∀ v' w', Rel z v' w' → NoRow Ch v' → Grows v v' → GoesI Try.prog main (DT (ScZ z) Ch) Stop (G (bc.at (ac.put oc.dst (.agg #[I 1, I 0])) (.inRegion ops rest :: k)) cs) w') (code : Code) (hc : Try.f103.body = some code) :
    GoesI Try.prog main (DT (ScZ z) Ch) Stop (G ((base 103).at { tmps := #[Pt lb 0, Pt tb 0] ++ Array.replicate 4 undef, defers := [] } [.code code]) (bc.at ac (.inRegion ops (q :: rest) :: k) :: cs)) w := by
  have hw0 : code = w94 := by
    obtain rfl := Option.some.inj hc; rfl
  subst hw0
  clear hc
  refine goesI_outZ (c := w94) (f := 103) (fn := Try.f103) (L := LT) hE fineT hvw hn Try.func103 fineW94 rfl hoc (R := fun r w' => r = .agg #[I 1, I 0] ∧ w'.heap = v.heap.push (.cells #[I 1, I 0] 42) ∧ w'.os = v.os ∧ w'.output = v.output) (fun τ => ?_) (fun r v' w' hR hr' hn' => ?_)
  · show Code.wp Try.prog (Try.f103.body.getD .skip) _ _ _
    unfold Try.f103
    simp only [Option.getD_some, Array.replicate_succ, Array.replicate_zero, List.push_toArray, List.append_toArray, List.nil_append, List.cons_append]
    go_wp2_with fail
    refine ⟨.agg #[I 1, I 0], ?_, rfl, ?_, rfl, rfl⟩
    · simp [results, go_sem, Try.f103]
    · first | rfl | (trace_state; fail)
  · obtain ⟨rfl, h1, h2, h3⟩ := hR
    exact hk v' w' hr' hn' ⟨by rw [h1]; simp, fun b hb => by rw [h1, Array.getElem?_push, if_neg (by omega)], h2, h3⟩
end Go.Proofs.Ytfjjoohflcchnaa.Gen

namespace Go.Proofs.Ytfjjoohflcchnaa.Gen
open Go Go.Lift Go.Conc Go.RowKit
variable {mc : Mc}

/-- It goes on from a world v0 (state S0, cells K0), and is in a world v: state S (σ, but for the trace's place), cells κ; Mo is its own. -/
structure Now (X : Fix mc) (z : Nat → Option Nat) (cont : Addr → Value) (Ch : Nat → Prop) (S0 : TS) (K0 : List (Nat × Int)) (v0 : World) (Mo0 Mo : Nat → Option Obj) (σ : TS) (κ : List (Nat × Int)) (S : TS) (v w : World) (t : Thr) : Prop where
  at_ : At X z cont Ch S κ v w t
  evo : EvoP (fun b => Mo0 b ≠ none) z S0 K0 v0 S κ v
  nv : nv S = σ
  bk : S.bk = S0.bk
  mo : Has Mo v
  far : ∀ b, Mo b ≠ none → ¬ Own S κ b
  new : ∀ b, Mo b ≠ none → Mo0 b ≠ none ∨ v0.heap.size ≤ b
  row : ∀ b o, Mo b = some o → ∃ c e f, o = .cells c e f

section
variable {X : Fix mc} {z : Nat → Option Nat} {cont : Addr → Value} {Ch : Nat → Prop} {Stop : Goroutine → World → Prop} {cu : Value → Goroutine} {S0 : TS} {K0 : List (Nat × Int)} {v0 : World} {Mo0 Mo : Nat → Option Obj} {σ : TS} {κ : List (Nat × Int)} {S : TS} {v w : World} {t : Thr} {H : Nx → (Nat → Option Obj) → Goroutine → Prop}

theorem Now.good (N : Now X z cont Ch S0 K0 v0 Mo0 Mo σ κ S v w t) {x : Nx} (hx : ∀ e y, x ≠ .ans e y) : Good v0 Mo0 x Mo := ⟨hx, N.new, N.row⟩

/-- It goes on. -/
theorem Now.on (N : Now X z cont Ch S0 K0 v0 Mo0 Mo σ κ S v w t) {S' σ' : TS} {κ' : List (Nat × Int)} {v' w' : World} {t' : Thr} (e : Evo z S κ v S' κ' v') (r : Rel z v' w') (n : NoRow Ch v') (hS : Gen.nv S' = σ') (ht : S'.thr[X.i]? = some t') (htb : t'.tb = X.tb) (hgc : t'.gc = X.gc) (hbk : S'.bk = S.bk) : Now X z cont Ch S0 K0 v0 Mo0 Mo σ' κ' S' v' w' t' := by
  have kp : ∀ b, b < v.heap.size → ¬ Own S κ b → v'.heap[b]? = v.heap[b]? ∧ ¬ Own S' κ' b := fun b hb ho => (Evo.toP (Pr := fun _ => False) e).keeps hb ho (fun h => h)
  have km : ∀ (M : Nat → Option Obj), Has M v → (∀ b, M b ≠ none → ¬ Own S κ b) → Has M v' ∧ ∀ b, M b ≠ none → ¬ Own S' κ' b := fun M hM hf => by
    have h1 : ∀ b o, M b = some o → v'.heap[b]? = v.heap[b]? ∧ ¬ Own S' κ' b := fun b o hb => kp b (Array.getElem?_eq_some_iff.1 (hM b o hb)).1 (hf b (by rw [hb]; simp))
    refine ⟨fun b o hb => by rw [(h1 b o hb).1]; exact hM b o hb, fun b hb => ?_⟩
    obtain ⟨o, ho⟩ := Option.ne_none_iff_exists'.1 hb
    exact (h1 b o ho).2
  have k1 := km X.pk N.at_.pk N.at_.far
  have k2 := km Mo N.mo N.far
  exact ⟨⟨r, n, e.mem, ht, htb, hgc, e.blks.trans N.at_.kb, N.at_.z, N.at_.cont, k1.1, k1.2⟩, N.evo.trans (Evo.toP e), hS, hbk.trans N.bk, k2.1, k2.2, N.new, N.row⟩
/-- .. with nothing changed. -/
theorem Now.same (N : Now X z cont Ch S0 K0 v0 Mo0 Mo σ κ S v w t) {v' w' : World} (r : Rel z v' w') (n : NoRow Ch v') (e1 : v'.heap = v.heap) (e2 : v'.os = v.os) (e3 : v'.output = v.output) : Now X z cont Ch S0 K0 v0 Mo0 Mo σ κ S v' w' t :=
  N.on (N.at_.mem.grows ⟨by rw [e1]; exact Nat.le_refl _, fun b _ => by rw [e1], e2, e3⟩) r n N.nv N.at_.thr N.at_.tb N.at_.gc rfl
/-- A call goes on from its seat. -/
theorem Now.here (A : At X z cont Ch S κ v w t) (hm : Has Mo v) (hf : ∀ b, Mo b ≠ none → ¬ Own S κ b) (hr : ∀ b o, Mo b = some o → ∃ c e f, o = .cells c e f) : Now X z cont Ch S κ v Mo Mo (Gen.nv S) κ S v w t :=
  ⟨A, Evo.toP (A.mem.grows ⟨Nat.le_refl _, fun _ _ => rfl, rfl, rfl⟩), rfl, rfl, hm, hf, fun b hb => .inl hb, hr⟩
theorem Now.cell (N : Now X z cont Ch S0 K0 v0 Mo0 Mo σ κ S v w t) {j cb : Nat} (h : X.kb[j]? = some cb) : κ[j]? = some (cb, (cellAt κ j).2) ∧ cellAt κ j = (cb, (cellAt κ j).2) := by
  rw [← N.at_.kb, List.getElem?_map, Option.map_eq_some_iff] at h
  obtain ⟨p, h1, rfl⟩ := h
  have : cellAt κ j = p := by unfold cellAt; rw [h1]; rfl
  rw [this]
  exact ⟨h1, rfl⟩

/-- A turn. -/
theorem ob_turn {op : Int} {j : Nat} {q : Q} (hob : Ob X H z cont Ch Stop cu S0 K0 v0 Mo0 σ κ (.turn op j q)) (N : Now X z cont Ch S0 K0 v0 Mo0 Mo σ κ S v w t) (g : Goroutine) (w' : World) (hg : GiveT z cont X.h S.bk t.gc (H (.turn op j q) Mo) (Then z Ch S κ v (waiting S X.i t 1 op j) κ) g w') : Stop g w' := by
  refine hob.seat 1 op j (.inl ⟨⟨q, rfl⟩, rfl⟩) g w' Mo (N.good (fun _ _ h => by cases h)) ?_
  rw [N.at_.gc, N.bk] at hg
  refine atGive_mono (fun hF => ?_) hg
  obtain ⟨v', r, n, e⟩ := hF
  have N' := N.on e r n rfl (t' := { t with st := 1, op := op, ce := j, se := _ }) (List.getElem?_set_self (List.getElem?_eq_some_iff.1 N.at_.thr).1) N.at_.tb N.at_.gc rfl
  refine ⟨v', _, r, n, ?_, N'.evo, N'.mo, N'.far⟩
  rw [← N.nv, show thrI (Gen.nv S) X.i = t from thrI_of N.at_.thr]
  rfl
/-- An Await. -/
theorem ob_wait {j : Nat} {q : Q} (hob : Ob X H z cont Ch Stop cu S0 K0 v0 Mo0 σ κ (.wait j q)) (hs : S.stk = false) (N : Now X z cont Ch S0 K0 v0 Mo0 Mo σ κ S v w t) (g : Goroutine) (w' : World) (hg : GiveT z cont X.h S.bk t.gc (H (.wait j q) Mo) (Then z Ch S κ v (waiting S X.i t 2 6 j) κ) g w') : Stop g w' := by
  refine hob.seat 2 6 j (.inr ⟨⟨q, rfl⟩, by rw [← N.nv]; exact hs, rfl, rfl⟩) g w' Mo (N.good (fun _ _ h => by cases h)) ?_
  rw [N.at_.gc, N.bk] at hg
  refine atGive_mono (fun hF => ?_) hg
  obtain ⟨v', r, n, e⟩ := hF
  have N' := N.on e r n rfl (t' := { t with st := 2, op := 6, ce := j, se := _ }) (List.getElem?_set_self (List.getElem?_eq_some_iff.1 N.at_.thr).1) N.at_.tb N.at_.gc rfl
  refine ⟨v', _, r, n, ?_, N'.evo, N'.mo, N'.far⟩
  rw [← N.nv, show thrI (Gen.nv S) X.i = t from thrI_of N.at_.thr]
  rfl
end
end Go.Proofs.Ytfjjoohflcchnaa.Gen

namespace Go.Proofs.Ytfjjoohflcchnaa.Gen
open Go Go.Lift Go.Conc Go.RowKit

/-- Down: 0 it looks, 1 it tries; Wait: 2 it looks, 3 it awaits. -/
def mcLatch : Mc where
  start c := if c.po = 1 then .turn 1 0 (0, []) else if c.po = 2 then .turn 1 0 (2, []) else .ans 1 0
  turn q x :=
    if q.1 = 0 then ((x, x), x, if x = 0 then .ans 50 0 else .turn 4 0 (1, [x]))
    else if q.1 = 1 then ((effCas (q.2.headD 0) (wrap64 (q.2.headD 0 - 1)) x).1, (effCas (q.2.headD 0) (wrap64 (q.2.headD 0 - 1)) x).2.1, if x = q.2.headD 0 then .ans 0 0 else .turn 1 0 (0, []))
    else ((x, x), x, if x = 0 then .ans 0 0 else .wait 0 (3, []))
  woke _ := .turn 1 0 (2, [])
  stuck _ := (4, 0)

abbrev box0 : Obj := .cells #[I 0, I 0] 42 (0, 0)
/-- The frames below what a call calls. -/
structure Frs where
  bd : Frame
  ad : Act
  od : Array Oper
  qd : Nat
  rd : List Nat
  oe : Oper
  kd : List Item
  fs : List Frame
namespace Frs
def cu (f : Frs) (r : Value) : Goroutine := G (f.bd.at (f.ad.put f.oe.dst r) (.inRegion f.od f.rd :: f.kd)) f.fs
def top (f : Frs) : Frame := f.bd.at f.ad (.inRegion f.od (f.qd :: f.rd) :: f.kd)
end Frs

structure LMine (X : Fix mcLatch) (xb lb cb : Nat) : Prop where
  caps : X.caps = #[Pt xb 0]
  mem : ∀ v, Has X.pk v → v.cell? ⟨xb, 0, none⟩ = some (Pt lb 0) ∧ v.cell? ⟨lb, 0, none⟩ = some (Pt cb 0)
  kb : X.kb[0]? = some cb
/-- Below Down, below Wait. -/
structure DF (main : Bool) (f : Frs) (c64 : Value → Goroutine) : Prop where
  oe : f.od[f.qd]? = some f.oe
  back : ∀ e : Int, ABack main (f.cu (I e)) (c64 (I e))
structure WF (main : Bool) (f : Frs) (c64 : Value → Goroutine) : Prop where
  oe : f.od[f.qd]? = some f.oe
  back : ∀ b : Bool, ABack main (f.cu (.bool b)) (c64 (I (if b then 0 else 4)))

section
variable {X : Fix mcLatch} {z : Nat → Option Nat} {cont : Addr → Value} {Ch : Nat → Prop} {Stop : Goroutine → World → Prop} {cu : Value → Goroutine} {S0 : TS} {K0 : List (Nat × Int)} {v0 : World} {Mo0 : Nat → Option Obj} {σ : TS} {κ : List (Nat × Int)} {S : TS} {v w : World} {t : Thr} {H : Nx → (Nat → Option Obj) → Goroutine → Prop} {xb lb cb pb : Nat} {c64 : Value → Goroutine} {f : Frs} {x : Nx}

end
end Go.Proofs.Ytfjjoohflcchnaa.Gen
