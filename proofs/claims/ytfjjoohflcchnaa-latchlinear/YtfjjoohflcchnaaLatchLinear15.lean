/- Of the proof of LatchLinear. Part 15 of 27. (Joined, by program, and written short, of: LatC, LatP, GNow, LatPk, LatPkg.) -/
import Derived.Test.YtfjjoohflcchnaaLatchLinear05
import Derived.Test.YtfjjoohflcchnaaLatchLinear10
import Derived.Test.YtfjjoohflcchnaaLatchLinear11
import Derived.Test.YtfjjoohflcchnaaLatchLinear14
set_option linter.unusedSimpArgs false
set_option linter.unusedVariables false
set_option maxHeartbeats 4000000
set_option maxRecDepth 100000
namespace Go.Proofs.Ytfjjoohflcchnaa.Gen
open Go Go.Lift Go.Conc Go.RowKit
def ABack (main:Bool) (cu:Goroutine) (cl:Goroutine):Prop :=
 ∀ (z:Nat→Option Nat) (Ch:Nat→Prop) (Stop:Goroutine→World→Prop) (w v:World),Rel z v w→NoRow Ch v →
   (∀ v' w',Rel z v' w'→NoRow Ch v'→v'.heap=v.heap→v'.os=v.os→v'.output=v.output→GoesI Try.prog main (DT (ScZ z) Ch) Stop cl w') →
   GoesI Try.prog main (DT (ScZ z) Ch) Stop cu w
theorem call_down {z:Nat→Option Nat} {Ch:Nat→Prop} {Stop:Goroutine→World→Prop} {main:Bool} {v w:World} {lb tb:Nat} (cs:List Frame) {bc:Frame} {ac:Act} {ops:Array Oper} {q:Nat} {rest:List Nat} {oc:Oper} {k:List Item} (hoc:ops[q]? = some oc)
 (hstop:∀ (bd:Frame) (ad:Act) (od:Array Oper) (qd:Nat) (rd:List Nat) (oe:Oper) (kd:List Item),od[qd]? = some oe →
   (∀ e:Int,ABack main (G (bd.at (ad.put oe.dst (I e)) (.inRegion od rd :: kd)) (bc.at ac (.inRegion ops (q :: rest) :: k) :: cs)) (G (bc.at (ac.put oc.dst (I e)) (.inRegion ops rest :: k)) cs))→∀ code,Try.f46.body=some code →
   GoesI Try.prog main (DT (ScZ z) Ch) Stop (G ((base 46).at { tmps:=#[Pt lb 0,Pt tb 0]++Array.replicate 21 undef,defers:=[] } [.code code]) (bd.at ad (.inRegion od (qd :: rd) :: kd) :: bc.at ac (.inRegion ops (q :: rest) :: k) :: cs)) w) (code:Code) (hc:Try.f70.body=some code) :
 GoesI Try.prog main (DT (ScZ z) Ch) Stop (G ((base 70).at { tmps:=#[Pt lb 0,Pt tb 0,I 1]++Array.replicate 15 undef,defers:=[] } [.code code]) (bc.at ac (.inRegion ops (q :: rest) :: k) :: cs)) w:=by
 obtain rfl:=Option.some.inj hc
 clear hc
 simp only [Array.replicate_succ,Array.replicate_zero,List.push_toArray,List.append_toArray,List.nil_append,List.cons_append]
 refine goesI_seq (dt_idle _ _) ?_
 refine goesI_region (dt_idle _ _) ?_
 simp only [List.size_toArray,List.length_cons,List.length_nil,Nat.reduceAdd,Nat.zero_add,List.range,List.range.loop]
 iterate 1
  (refine goesI_oper rfl rfl (by decide) (fun d K hK=>?_)
   go_simp
   refine hK _ _ ⟨dt_reads (fun e he=>?_),GoesI.at ?_ d⟩
   ·have hm:=mem_listed he
    simp [go_sem, *] at hm
   clear hK K)
 refine goesI_regionEnd (dt_idle _ _) ?_
 refine goesI_seq (dt_idle _ _) ?_
 refine goesI_seq (dt_idle _ _) ?_
 refine goesI_region (dt_idle _ _) ?_
 simp only [List.size_toArray,List.length_cons,List.length_nil,Nat.reduceAdd,Nat.zero_add,List.range,List.range.loop]
 iterate 1
  (refine goesI_oper rfl rfl (by decide) (fun d K hK=>?_)
   go_simp
   refine hK _ _ ⟨dt_reads (fun e he=>?_),GoesI.at ?_ d⟩
   ·have hm:=mem_listed he
    simp [go_sem, *] at hm
   clear hK K)
 refine goesI_regionEnd (dt_idle _ _) ?_
 refine goesI_block (dt_idle _ _) ?_
 refine goesI_seq (dt_idle _ _) ?_
 refine goesI_region (dt_idle _ _) ?_
 simp only [List.size_toArray,List.length_cons,List.length_nil,Nat.reduceAdd,Nat.zero_add,List.range,List.range.loop]
 iterate 2
  (refine goesI_oper rfl rfl (by decide) (fun d K hK=>?_)
   go_simp
   refine hK _ _ ⟨dt_reads (fun e he=>?_),GoesI.at ?_ d⟩
   ·have hm:=mem_listed he
    simp [go_sem, *] at hm
   clear hK K)
 refine goesI_regionEnd (dt_idle _ _) ?_
 refine goesI_cond (dt_idle _ _) (t:=true) (by simp [Act.eval]) ?_
 simp only [if_true,if_false,Bool.false_eq_true]
 refine goesI_seq (dt_idle _ _) ?_
 refine goesI_region (dt_idle _ _) ?_
 simp only [List.size_toArray,List.length_cons,List.length_nil,Nat.reduceAdd,Nat.zero_add,List.range,List.range.loop]
 iterate 2
  (refine goesI_oper rfl rfl (by decide) (fun d K hK=>?_)
   go_simp
   refine hK _ _ ⟨dt_reads (fun e he=>?_),GoesI.at ?_ d⟩
   ·have hm:=mem_listed he
    simp [go_sem, *] at hm
   clear hK K)
 refine goesI_into (f:=46) (fn:=Try.f46) (args:=#[Pt lb 0,Pt tb 0]) (dt_idle _ _) rfl rfl (by decide) rfl (by simp [Act.eval]) Try.func46 (by decide) rfl ?_
 refine hstop _ _ _ _ _ _ _ rfl ?_ _ rfl
 intro e z1 Ch1 St w1 v1 r1 n1 hk
 walk_nrm
 (refine goesI_oper rfl rfl (by decide) (fun d K hK=>?_)
  go_simp
  refine hK _ _ ⟨dt_reads (fun e he=>?_),GoesI.at ?_ d⟩
  ·have hm:=mem_listed he
   simp [go_sem, *] at hm
  clear hK K)
 refine goesI_regionEnd (dt_idle _ _) ?_
 refine GoesI.ctl rfl (fun _=>stepG_ret') (dt_idle _ _) ?_
 exact goesI_leaveZ (f:=70) (fn:=Try.f70) (x:=I e) r1 n1 Try.func70 rfl hoc (by simp [results,go_sem,Try.f70]) (fun w' r'=>hk _ w' r' n1 rfl rfl rfl)
theorem call_wait {z:Nat→Option Nat} {Ch:Nat→Prop} {Stop:Goroutine→World→Prop} {main:Bool} {v w:World} {lb tb:Nat} (cs:List Frame) {bc:Frame} {ac:Act} {ops:Array Oper} {q:Nat} {rest:List Nat} {oc:Oper} {k:List Item} (hoc:ops[q]? = some oc)
 (hstop:∀ (bd:Frame) (ad:Act) (od:Array Oper) (qd:Nat) (rd:List Nat) (oe:Oper) (kd:List Item),od[qd]? = some oe →
   (∀ b:Bool,ABack main (G (bd.at (ad.put oe.dst (.bool b)) (.inRegion od rd :: kd)) (bc.at ac (.inRegion ops (q :: rest) :: k) :: cs)) (G (bc.at (ac.put oc.dst (I (if b then 0 else 4))) (.inRegion ops rest :: k)) cs))→∀ code,Try.f45.body=some code →
   GoesI Try.prog main (DT (ScZ z) Ch) Stop (G ((base 45).at { tmps:=#[Pt lb 0,Pt tb 0]++Array.replicate 18 undef,defers:=[] } [.code code]) (bd.at ad (.inRegion od (qd :: rd) :: kd) :: bc.at ac (.inRegion ops (q :: rest) :: k) :: cs)) w) (code:Code) (hc:Try.f70.body=some code) :
 GoesI Try.prog main (DT (ScZ z) Ch) Stop (G ((base 70).at { tmps:=#[Pt lb 0,Pt tb 0,I 2]++Array.replicate 15 undef,defers:=[] } [.code code]) (bc.at ac (.inRegion ops (q :: rest) :: k) :: cs)) w:=by
 obtain rfl:=Option.some.inj hc
 clear hc
 simp only [Array.replicate_succ,Array.replicate_zero,List.push_toArray,List.append_toArray,List.nil_append,List.cons_append]
 refine goesI_seq (dt_idle _ _) ?_
 refine goesI_region (dt_idle _ _) ?_
 simp only [List.size_toArray,List.length_cons,List.length_nil,Nat.reduceAdd,Nat.zero_add,List.range,List.range.loop]
 iterate 1
  (refine goesI_oper rfl rfl (by decide) (fun d K hK=>?_)
   go_simp
   refine hK _ _ ⟨dt_reads (fun e he=>?_),GoesI.at ?_ d⟩
   ·have hm:=mem_listed he
    simp [go_sem, *] at hm
   clear hK K)
 refine goesI_regionEnd (dt_idle _ _) ?_
 refine goesI_seq (dt_idle _ _) ?_
 refine goesI_seq (dt_idle _ _) ?_
 refine goesI_region (dt_idle _ _) ?_
 simp only [List.size_toArray,List.length_cons,List.length_nil,Nat.reduceAdd,Nat.zero_add,List.range,List.range.loop]
 iterate 1
  (refine goesI_oper rfl rfl (by decide) (fun d K hK=>?_)
   go_simp
   refine hK _ _ ⟨dt_reads (fun e he=>?_),GoesI.at ?_ d⟩
   ·have hm:=mem_listed he
    simp [go_sem, *] at hm
   clear hK K)
 refine goesI_regionEnd (dt_idle _ _) ?_
 refine goesI_block (dt_idle _ _) ?_
 refine goesI_seq (dt_idle _ _) ?_
 refine goesI_region (dt_idle _ _) ?_
 simp only [List.size_toArray,List.length_cons,List.length_nil,Nat.reduceAdd,Nat.zero_add,List.range,List.range.loop]
 iterate 2
  (refine goesI_oper rfl rfl (by decide) (fun d K hK=>?_)
   go_simp
   refine hK _ _ ⟨dt_reads (fun e he=>?_),GoesI.at ?_ d⟩
   ·have hm:=mem_listed he
    simp [go_sem, *] at hm
   clear hK K)
 refine goesI_regionEnd (dt_idle _ _) ?_
 refine goesI_cond (dt_idle _ _) (t:=false) (by simp [Act.eval]) ?_
 simp only [if_true,if_false,Bool.false_eq_true]
 refine goesI_seq (dt_idle _ _) ?_
 refine goesI_region (dt_idle _ _) ?_
 simp only [List.size_toArray,List.length_cons,List.length_nil,Nat.reduceAdd,Nat.zero_add,List.range,List.range.loop]
 iterate 2
  (refine goesI_oper rfl rfl (by decide) (fun d K hK=>?_)
   go_simp
   refine hK _ _ ⟨dt_reads (fun e he=>?_),GoesI.at ?_ d⟩
   ·have hm:=mem_listed he
    simp [go_sem, *] at hm
   clear hK K)
 refine goesI_regionEnd (dt_idle _ _) ?_
 refine goesI_cond (dt_idle _ _) (t:=true) (by simp [Act.eval]) ?_
 simp only [if_true,if_false,Bool.false_eq_true]
 refine goesI_seq (dt_idle _ _) ?_
 refine goesI_seq (dt_idle _ _) ?_
 refine goesI_region (dt_idle _ _) ?_
 simp only [List.size_toArray,List.length_cons,List.length_nil,Nat.reduceAdd,Nat.zero_add,List.range,List.range.loop]
 iterate 2
  (refine goesI_oper rfl rfl (by decide) (fun d K hK=>?_)
   go_simp
   refine hK _ _ ⟨dt_reads (fun e he=>?_),GoesI.at ?_ d⟩
   ·have hm:=mem_listed he
    simp [go_sem, *] at hm
   clear hK K)
 refine goesI_into (f:=45) (fn:=Try.f45) (args:=#[Pt lb 0,Pt tb 0]) (dt_idle _ _) rfl rfl (by decide) rfl (by simp [Act.eval]) Try.func45 (by decide) rfl ?_
 refine hstop _ _ _ _ _ _ _ rfl ?_ _ rfl
 intro b z1 Ch1 St w1 v1 r1 n1 hk
 walk_nrm
 refine goesI_regionEnd (dt_idle _ _) ?_
 cases b with
 |true =>
  refine goesI_cond (dt_idle _ _) (t:=true) (rfl) ?_
  simp only [if_true,if_false,Bool.false_eq_true]
  refine goesI_seq (dt_idle _ _) ?_
  refine goesI_region (dt_idle _ _) ?_
  simp only [List.size_toArray,List.length_cons,List.length_nil,Nat.reduceAdd,Nat.zero_add,List.range,List.range.loop]
  iterate 1
   (refine goesI_oper rfl rfl (by decide) (fun d K hK=>?_)
    go_simp
    refine hK _ _ ⟨dt_reads (fun e he=>?_),GoesI.at ?_ d⟩
    ·have hm:=mem_listed he
     simp [go_sem, *] at hm
    clear hK K)
  refine goesI_regionEnd (dt_idle _ _) ?_
  refine GoesI.ctl rfl (fun _=>stepG_ret') (dt_idle _ _) ?_
  exact goesI_leaveZ (f:=70) (fn:=Try.f70) (x:=I 0) r1 n1 Try.func70 rfl hoc (by simp [results,go_sem,Try.f70]) (fun w' r'=>hk _ w' r' n1 rfl rfl rfl)
 |false =>
  refine goesI_cond (dt_idle _ _) (t:=false) (rfl) ?_
  simp only [if_true,if_false,Bool.false_eq_true]
  refine goesI_skip (dt_idle _ _) ?_
  refine goesI_seq (dt_idle _ _) ?_
  refine goesI_region (dt_idle _ _) ?_
  simp only [List.size_toArray,List.length_cons,List.length_nil,Nat.reduceAdd,Nat.zero_add,List.range,List.range.loop]
  iterate 1
   (refine goesI_oper rfl rfl (by decide) (fun d K hK=>?_)
    go_simp
    refine hK _ _ ⟨dt_reads (fun e he=>?_),GoesI.at ?_ d⟩
    ·have hm:=mem_listed he
     simp [go_sem, *] at hm
    clear hK K)
  refine goesI_regionEnd (dt_idle _ _) ?_
  refine GoesI.ctl rfl (fun _=>stepG_ret') (dt_idle _ _) ?_
  exact goesI_leaveZ (f:=70) (fn:=Try.f70) (x:=I 4) r1 n1 Try.func70 rfl hoc (by simp [results,go_sem,Try.f70]) (fun w' r'=>hk _ w' r' n1 rfl rfl rfl)
theorem call_none {z:Nat→Option Nat} {Ch:Nat→Prop} {Stop:Goroutine→World→Prop} {main:Bool} {v w:World} {lb tb:Nat} (op:Int) (h1:op≠1) (h2:op≠2) (cs:List Frame) {bc:Frame} {ac:Act} {ops:Array Oper} {q:Nat} {rest:List Nat} {oc:Oper} {k:List Item} (hoc:ops[q]? = some oc) (hvw:Rel z v w) (hn:NoRow Ch v)
 (hk:∀ w',Rel z v w'→GoesI Try.prog main (DT (ScZ z) Ch) Stop (G (bc.at (ac.put oc.dst (I 1)) (.inRegion ops rest :: k)) cs) w') (code:Code) (hc:Try.f70.body=some code) :
 GoesI Try.prog main (DT (ScZ z) Ch) Stop (G ((base 70).at { tmps:=#[Pt lb 0,Pt tb 0,I op]++Array.replicate 15 undef,defers:=[] } [.code code]) (bc.at ac (.inRegion ops (q :: rest) :: k) :: cs)) w:=by
 obtain rfl:=Option.some.inj hc
 clear hc
 simp only [Array.replicate_succ,Array.replicate_zero,List.push_toArray,List.append_toArray,List.nil_append,List.cons_append]
 refine goesI_seq (dt_idle _ _) ?_
 refine goesI_region (dt_idle _ _) ?_
 simp only [List.size_toArray,List.length_cons,List.length_nil,Nat.reduceAdd,Nat.zero_add,List.range,List.range.loop]
 iterate 1
  (refine goesI_oper rfl rfl (by decide) (fun d K hK=>?_)
   go_simp
   refine hK _ _ ⟨dt_reads (fun e he=>?_),GoesI.at ?_ d⟩
   ·have hm:=mem_listed he
    simp [go_sem, *] at hm
   clear hK K)
 refine goesI_regionEnd (dt_idle _ _) ?_
 refine goesI_seq (dt_idle _ _) ?_
 refine goesI_seq (dt_idle _ _) ?_
 refine goesI_region (dt_idle _ _) ?_
 simp only [List.size_toArray,List.length_cons,List.length_nil,Nat.reduceAdd,Nat.zero_add,List.range,List.range.loop]
 iterate 1
  (refine goesI_oper rfl rfl (by decide) (fun d K hK=>?_)
   go_simp
   refine hK _ _ ⟨dt_reads (fun e he=>?_),GoesI.at ?_ d⟩
   ·have hm:=mem_listed he
    simp [go_sem, *] at hm
   clear hK K)
 refine goesI_regionEnd (dt_idle _ _) ?_
 refine goesI_block (dt_idle _ _) ?_
 refine goesI_seq (dt_idle _ _) ?_
 refine goesI_region (dt_idle _ _) ?_
 simp only [List.size_toArray,List.length_cons,List.length_nil,Nat.reduceAdd,Nat.zero_add,List.range,List.range.loop]
 iterate 2
  (refine goesI_oper rfl rfl (by decide) (fun d K hK=>?_)
   go_simp
   refine hK _ _ ⟨dt_reads (fun e he=>?_),GoesI.at ?_ d⟩
   ·have hm:=mem_listed he
    simp [go_sem, *] at hm
   clear hK K)
 refine goesI_regionEnd (dt_idle _ _) ?_
 refine goesI_cond (dt_idle _ _) (t:=false) (by simp [Act.eval,h1]) ?_
 simp only [if_true,if_false,Bool.false_eq_true]
 refine goesI_seq (dt_idle _ _) ?_
 refine goesI_region (dt_idle _ _) ?_
 simp only [List.size_toArray,List.length_cons,List.length_nil,Nat.reduceAdd,Nat.zero_add,List.range,List.range.loop]
 iterate 2
  (refine goesI_oper rfl rfl (by decide) (fun d K hK=>?_)
   go_simp
   refine hK _ _ ⟨dt_reads (fun e he=>?_),GoesI.at ?_ d⟩
   ·have hm:=mem_listed he
    simp [go_sem, *] at hm
   clear hK K)
 refine goesI_regionEnd (dt_idle _ _) ?_
 refine goesI_cond (dt_idle _ _) (t:=false) (by simp [Act.eval,h2]) ?_
 simp only [if_true,if_false,Bool.false_eq_true]
 refine goesI_skip (dt_idle _ _) ?_
 refine goesI_inBlock (dt_idle _ _) ?_
 refine goesI_seq (dt_idle _ _) ?_
 refine goesI_region (dt_idle _ _) ?_
 simp only [List.size_toArray,List.length_cons,List.length_nil,Nat.reduceAdd,Nat.zero_add,List.range,List.range.loop]
 iterate 1
  (refine goesI_oper rfl rfl (by decide) (fun d K hK=>?_)
   go_simp
   refine hK _ _ ⟨dt_reads (fun e he=>?_),GoesI.at ?_ d⟩
   ·have hm:=mem_listed he
    simp [go_sem, *] at hm
   clear hK K)
 refine goesI_regionEnd (dt_idle _ _) ?_
 refine GoesI.ctl rfl (fun _=>stepG_ret') (dt_idle _ _) ?_
 exact goesI_leaveZ (f:=70) (fn:=Try.f70) (x:=I 1) hvw hn Try.func70 rfl hoc (by simp [results,go_sem,Try.f70]) (fun w' r'=>hk w' r')
def LBack (main:Bool) (pb:Nat) (cu:Value→Goroutine) (cl:Value→Goroutine):Prop :=
 ∀ (z:Nat→Option Nat) (Ch:Nat→Prop) (Stop:Goroutine→World→Prop) (w v:World) (S:TS) (K:List (Nat×Int)) (e:Int),Rel z v w→NoRow Ch v→Mem z S K v→v.heap[pb]? = some (.cells #[I 0,I 0] 42 (0,0))→¬ Own S K pb →
   (∀ v' w',Rel z v' w'→NoRow Ch v'→EvoP (· = pb) z S K v S K v'→GoesI Try.prog main (DT (ScZ z) Ch) Stop (cl (.agg #[I e,I 0])) w') →
   GoesI Try.prog main (DT (ScZ z) Ch) Stop (cu (I e)) w
noncomputable def clo0:Code:=seq1 (Try.f69.body.getD .skip)
theorem fineClo0:fineCode Try.prog true LT clo0:=fineCode_ask callT extT (by kernel_rfl)
theorem clo_goes {z:Nat→Option Nat} {Ch:Nat→Prop} {Stop:Goroutine→World→Prop} {main:Bool} {v w:World} {lb tb xb:Nat} (po ca n cc:Int) (hx0:v.cell? ⟨xb,0,none⟩=some (Pt lb 0)) (cs:List Frame) {bc:Frame} {ac:Act} {ops:Array Oper} {q:Nat} {rest:List Nat} {oc:Oper} {k:List Item} (hoc:ops[q]? = some oc)
 (hvw:Rel z v w) (hn:NoRow Ch v)
 (hstop:∀ v' w' (bd:Frame) (ad:Act) (od:Array Oper) (qd:Nat) (rd:List Nat) (oe:Oper) (kd:List Item),Rel z v' w'→NoRow Ch v'→Grows v v'→v'.heap[v.heap.size+1]? = some (.cells #[I 0,I 0] 42 (0,0))→od[qd]? = some oe →
   LBack main (v.heap.size+1) (fun r=>G (bd.at (ad.put oe.dst r) (.inRegion od rd :: kd)) (bc.at ac (.inRegion ops (q :: rest) :: k) :: cs)) (fun r=>G (bc.at (ac.put oc.dst r) (.inRegion ops rest :: k)) cs)→∀ code,Try.f70.body=some code →
   GoesI Try.prog main (DT (ScZ z) Ch) Stop (G ((base 70).at { tmps:=#[Pt lb 0,Pt tb 0,I po]++Array.replicate 15 undef,defers:=[] } [.code code]) (bd.at ad (.inRegion od (qd :: rd) :: kd) :: bc.at ac (.inRegion ops (q :: rest) :: k) :: cs)) w') (code:Code) (hc:Try.f69.body=some code) :
 GoesI Try.prog main (DT (ScZ z) Ch) Stop (G ((base 69).at { tmps:=#[Pt tb 0,.agg #[I po,I ca,I n,I cc],Pt xb 0]++Array.replicate 9 undef,defers:=[] } [.code code]) (bc.at ac (.inRegion ops (q :: rest) :: k) :: cs)) w:=by
 have hw0:code=.seq clo0 (seq2 (Try.f69.body.getD .skip)):=by
  rw [hc];obtain rfl:=Option.some.inj hc;rfl
 subst hw0
 clear hc
 refine goesI_seq (dt_idle _ _) ?_
 refine goesI_plain (z:=z) (wr:=true) (L:=LT) (I:=NoRow Ch) hE fineT noRow_keeps (fun v v' w w' es hi hr ho he=>dt_of_z v v' w w' es hi hr ho he) hvw fineClo0 rfl (by simp [base]) hn
  (Q:=fun a w'=>a={ tmps:=#[Pt tb 0,.agg #[I po,I ca,I n,I cc],Pt xb 0,undef,Pt v.heap.size 0,Pt (v.heap.size+1) 0]++Array.replicate 6 undef,defers:=[] } ∧
    w'.heap=(v.heap.push (.cells #[I po,I ca,I n,I cc] 39)).push (.cells #[I 0,I 0] 42)∧w'.os=v.os∧w'.output=v.output) (fun τ=>?_) ?_
 ·show Code.wp Try.prog (seq1 (Try.f69.body.getD .skip)) _ _ _
  unfold Try.f69 seq1
  simp only [Option.getD_some,Array.replicate_succ,Array.replicate_zero,List.push_toArray,List.append_toArray,List.nil_append,List.cons_append]
  go_wp2_with fail
  exact ⟨rfl,rfl,rfl,rfl⟩
 rintro a' v' w' ⟨rfl,hv1,hv2,hv3⟩ hr' hn' -
 have hsz:v'.heap.size=v.heap.size+2:=by rw [hv1];simp
 have hg:Grows v v':=⟨by omega,fun b hb=>by rw [hv1,Array.getElem?_push,if_neg (by simp;omega),Array.getElem?_push,if_neg (by omega)],hv2,hv3⟩
 have hbox:v'.heap[v.heap.size]? = some (.cells #[I po,I ca,I n,I cc] 39):=by rw [hv1,Array.getElem?_push,if_neg (by simp)];exact Array.getElem?_push_size
 have hans:v'.heap[v.heap.size+1]? = some (.cells #[I 0,I 0] 42):=by rw [hv1,Array.getElem?_push,if_pos (by simp)]
 have b0:w'.cell? ⟨v.heap.size,0,none⟩=some (I po):=by rw [hr'.cell?];simp [World.cell?,hbox]
 have x0:w'.cell? ⟨xb,0,none⟩=some (Pt lb 0):=by rw [hr'.cell?];exact hg.cell hx0
 have HV:Hid (Grows v v'∧v'.heap[v.heap.size+1]? = some (.cells #[I 0,I 0] 42)∧NoRow Ch v'∧Rel z v' w'):=⟨⟨hg,hans,hn',hr'⟩⟩
 clear hv1 hv2 hv3 hsz hg hbox hans hn' hvw hn hr' hx0
 generalize hN:v.heap.size=N at b0 HV hstop ⊢
 simp only [Array.replicate_succ,Array.replicate_zero,List.push_toArray,List.append_toArray,List.nil_append,List.cons_append]
 show GoesI Try.prog main (DT (ScZ z) Ch) Stop (G ((base 69).at _ [.code (seq2 (Try.f69.body.getD .skip))]) _) w'
 unfold Try.f69 seq2
 simp only [Option.getD_some]
 refine goesI_seq (dt_idle _ _) ?_
 refine goesI_region (dt_idle _ _) ?_
 simp only [List.size_toArray,List.length_cons,List.length_nil,Nat.reduceAdd,Nat.zero_add,List.range,List.range.loop]
 iterate 4
  (refine goesI_oper rfl rfl (by decide) (fun d K hK=>?_)
   go_simp
   refine hK _ _ ⟨dt_reads (fun e he=>?_),GoesI.at ?_ d⟩
   ·have hm:=mem_listed he
    simp [go_sem, *] at hm
    try exact ⟨_,_,hm⟩
   clear hK K)
 refine goesI_into (f:=70) (fn:=Try.f70) (args:=#[Pt lb 0,Pt tb 0,I po]) (dt_idle _ _) rfl rfl (by decide) rfl (by simp [Act.eval]) Try.func70 (by decide) rfl ?_
 refine hstop v' w' _ _ _ _ _ _ _ HV.out.2.2.2 HV.out.2.2.1 HV.out.1 HV.out.2.1 rfl ?_ _ rfl
 clear b0 x0 HV hstop
 intro z1 Ch1 St w2 v2 S1 K1 e r2 n2 m2 hpb2 hown2 hk
 have q0:v2.cell? ⟨N+1,0,none⟩=some (I 0):=by simp [World.cell?,hpb2]
 have q1:v2.cell? ⟨N+1,1,none⟩=some (I 0):=by simp [World.cell?,hpb2]
 have p0:v2.frozen? ⟨N+1,0,none⟩=false:=by simp [World.frozen?,hpb2]
 have p1:v2.frozen? ⟨N+1,1,none⟩=false:=by simp [World.frozen?,hpb2]
 have e3:=m2.other (v':=(v2.setCell ⟨N+1,0,none⟩ (I e)).setCell ⟨N+1,1,none⟩ (I 0)) hown2 (fun b hb=>by rw [Below.heap_setCell _ _ _ _ hb,Below.heap_setCell _ _ _ _ hb]) (by simp [World.setCell]) rfl rfl
 have hrow:((v2.setCell ⟨N+1,0,none⟩ (I e)).setCell ⟨N+1,1,none⟩ (I 0)).heap[N+1]? = some (.cells #[I e,I 0] 42 (0,0)):=by
  have:=heap_setCell_same (o:=1) (heap_setCell_same (o:=0) hpb2 (I e)) (I 0)
  simpa using this
 have HM:Hid (Mem z1 S1 K1 v2∧v2.heap[N+1]? = some (.cells #[I 0,I 0] 42 (0,0))):=⟨⟨m2,hpb2⟩⟩
 clear m2 hpb2
 show GoesI Try.prog main (DT (ScZ z1) Ch1) St _ w2
 walk_nrm
 (refine goesI_oper rfl rfl (by decide) (fun d K hK=>?_)
  go_simp
  refine hK _ _ ⟨dt_reads (fun e he=>?_),GoesI.at ?_ d⟩
  ·have hm:=mem_listed he
   simp [go_sem, *] at hm
  clear hK K)
 refine goesI_doZ (L:=LT) rfl rfl (by decide) (fineOp_ask callT extT (by kernel_rfl)) r2 n2 (v':=(v2.setCell ⟨N+1,0,none⟩ (I e)).setCell ⟨N+1,1,none⟩ (I 0)) (by go_simp) rfl (fun w3 r3 n3=>?_)
 refine goesI_regionEnd (dt_idle _ _) ?_
 refine GoesI.ctl rfl (fun _=>stepG_ret') (dt_idle _ _) ?_
 refine goesI_leaveZ (f:=69) (fn:=Try.f69) (x:=.agg #[I e,I 0]) r3 n3 Try.func69 rfl hoc ?_ (fun w' r'=>hk _ w' r' n3 e3)
 generalize ((v2.setCell ⟨N+1,0,none⟩ (I e)).setCell ⟨N+1,1,none⟩ (I 0))=V at hrow
 have k0:V.cell? ⟨N+1,0,none⟩=some (I e):=by simp [World.cell?,hrow]
 have k1:V.cell? ⟨N+1,1,none⟩=some (I 0):=by simp [World.cell?,hrow]
 simp [results,go_sem,Try.f69, *]
variable {mc:Mc}
structure Now (X:Fix mc) (z:Nat→Option Nat) (cont:Addr→Value) (Ch:Nat→Prop) (S0:TS) (K0:List (Nat×Int)) (v0:World) (Mo0 Mo:Nat→Option Obj) (σ:TS) (κ:List (Nat×Int)) (S:TS) (v w:World) (t:Thr):Prop where
 at_:At X z cont Ch S κ v w t
 evo:EvoP (fun b=>Mo0 b≠none) z S0 K0 v0 S κ v
 nv:nv S=σ
 bk:S.bk=S0.bk
 mo:Has Mo v
 far:∀ b,Mo b≠none→¬ Own S κ b
 new:∀ b,Mo b≠none→Mo0 b≠none∨v0.heap.size≤b
 row:∀ b o,Mo b=some o→∃ c e f,o=.cells c e f
section
variable {X:Fix mc} {z:Nat→Option Nat} {cont:Addr→Value} {Ch:Nat→Prop} {Stop:Goroutine→World→Prop} {cu:Value→Goroutine} {S0:TS} {K0:List (Nat×Int)} {v0:World} {Mo0 Mo:Nat→Option Obj} {σ:TS} {κ:List (Nat×Int)} {S:TS} {v w:World} {t:Thr} {H:Nx→(Nat→Option Obj)→Goroutine→Prop}
theorem Now.good (N:Now X z cont Ch S0 K0 v0 Mo0 Mo σ κ S v w t) {x:Nx} (hx:∀ e y,x≠.ans e y):Good v0 Mo0 x Mo:=⟨hx,N.new,N.row⟩
theorem Now.on (N:Now X z cont Ch S0 K0 v0 Mo0 Mo σ κ S v w t) {S' σ':TS} {κ':List (Nat×Int)} {v' w':World} {t':Thr} (e:Evo z S κ v S' κ' v') (r:Rel z v' w') (n:NoRow Ch v') (hS:Gen.nv S'=σ') (ht:S'.thr[X.i]? = some t') (htb:t'.tb=X.tb) (hgc:t'.gc=X.gc) (hbk:S'.bk=S.bk):Now X z cont Ch S0 K0 v0 Mo0 Mo σ' κ' S' v' w' t':=by
 have kp:∀ b,b<v.heap.size→¬ Own S κ b→v'.heap[b]? = v.heap[b]?∧¬ Own S' κ' b:=fun b hb ho=>(Evo.toP (Pr:=fun _=>False) e).keeps hb ho (fun h=>h)
 have km:∀ (M:Nat→Option Obj),Has M v→(∀ b,M b≠none→¬ Own S κ b)→Has M v'∧∀ b,M b≠none→¬ Own S' κ' b:=fun M hM hf=>by
  have h1:∀ b o,M b=some o→v'.heap[b]? = v.heap[b]?∧¬ Own S' κ' b:=fun b o hb=>kp b (Array.getElem?_eq_some_iff.1 (hM b o hb)).1 (hf b (by rw [hb];simp))
  refine ⟨fun b o hb=>by rw [(h1 b o hb).1];exact hM b o hb,fun b hb=>?_⟩
  obtain ⟨o,ho⟩:=Option.ne_none_iff_exists'.1 hb
  exact (h1 b o ho).2
 have k1:=km X.pk N.at_.pk N.at_.far
 have k2:=km Mo N.mo N.far
 exact ⟨⟨r,n,e.mem,ht,htb,hgc,e.blks.trans N.at_.kb,N.at_.z,N.at_.cont,k1.1,k1.2⟩,N.evo.trans (Evo.toP e),hS,hbk.trans N.bk,k2.1,k2.2,N.new,N.row⟩
theorem Now.same (N:Now X z cont Ch S0 K0 v0 Mo0 Mo σ κ S v w t) {v' w':World} (r:Rel z v' w') (n:NoRow Ch v') (e1:v'.heap=v.heap) (e2:v'.os=v.os) (e3:v'.output=v.output):Now X z cont Ch S0 K0 v0 Mo0 Mo σ κ S v' w' t :=
 N.on (N.at_.mem.grows ⟨by rw [e1];exact Nat.le_refl _,fun b _=>by rw [e1],e2,e3⟩) r n N.nv N.at_.thr N.at_.tb N.at_.gc rfl
theorem Now.here (A:At X z cont Ch S κ v w t) (hm:Has Mo v) (hf:∀ b,Mo b≠none→¬ Own S κ b) (hr:∀ b o,Mo b=some o→∃ c e f,o=.cells c e f):Now X z cont Ch S κ v Mo Mo (Gen.nv S) κ S v w t :=
 ⟨A,Evo.toP (A.mem.grows ⟨Nat.le_refl _,fun _ _=>rfl,rfl,rfl⟩),rfl,rfl,hm,hf,fun b hb=>.inl hb,hr⟩
theorem Now.cell (N:Now X z cont Ch S0 K0 v0 Mo0 Mo σ κ S v w t) {j cb:Nat} (h:X.kb[j]? = some cb):κ[j]? = some (cb,(cellAt κ j).2)∧cellAt κ j=(cb,(cellAt κ j).2):=by
 rw [←N.at_.kb,List.getElem?_map,Option.map_eq_some_iff] at h
 obtain ⟨p,h1,rfl⟩:=h
 have:cellAt κ j=p:=by unfold cellAt;rw [h1];rfl
 rw [this]
 exact ⟨h1,rfl⟩
theorem ob_turn {op:Int} {j:Nat} {q:Q} (hob:Ob X H z cont Ch Stop cu S0 K0 v0 Mo0 σ κ (.turn op j q)) (N:Now X z cont Ch S0 K0 v0 Mo0 Mo σ κ S v w t) (g:Goroutine) (w':World) (hg:GiveT z cont X.h S.bk t.gc (H (.turn op j q) Mo) (Then z Ch S κ v (waiting S X.i t 1 op j) κ) g w'):Stop g w':=by
 refine hob.seat 1 op j (.inl ⟨⟨q,rfl⟩,rfl⟩) g w' Mo (N.good (fun _ _ h=>by cases h)) ?_
 rw [N.at_.gc,N.bk] at hg
 refine atGive_mono (fun hF=>?_) hg
 obtain ⟨v',r,n,e⟩:=hF
 have N':=N.on e r n rfl (t':={ t with st:=1,op:=op,ce:=j,se:=_ }) (List.getElem?_set_self (List.getElem?_eq_some_iff.1 N.at_.thr).1) N.at_.tb N.at_.gc rfl
 refine ⟨v',_,r,n,?_,N'.evo,N'.mo,N'.far⟩
 rw [←N.nv,show thrI (Gen.nv S) X.i=t from thrI_of N.at_.thr]
 rfl
theorem ob_wait {j:Nat} {q:Q} (hob:Ob X H z cont Ch Stop cu S0 K0 v0 Mo0 σ κ (.wait j q)) (hs:S.stk=false) (N:Now X z cont Ch S0 K0 v0 Mo0 Mo σ κ S v w t) (g:Goroutine) (w':World) (hg:GiveT z cont X.h S.bk t.gc (H (.wait j q) Mo) (Then z Ch S κ v (waiting S X.i t 2 6 j) κ) g w'):Stop g w':=by
 refine hob.seat 2 6 j (.inr ⟨⟨q,rfl⟩,by rw [←N.nv];exact hs,rfl,rfl⟩) g w' Mo (N.good (fun _ _ h=>by cases h)) ?_
 rw [N.at_.gc,N.bk] at hg
 refine atGive_mono (fun hF=>?_) hg
 obtain ⟨v',r,n,e⟩:=hF
 have N':=N.on e r n rfl (t':={ t with st:=2,op:=6,ce:=j,se:=_ }) (List.getElem?_set_self (List.getElem?_eq_some_iff.1 N.at_.thr).1) N.at_.tb N.at_.gc rfl
 refine ⟨v',_,r,n,?_,N'.evo,N'.mo,N'.far⟩
 rw [←N.nv,show thrI (Gen.nv S) X.i=t from thrI_of N.at_.thr]
 rfl
end
def mcLatch:Mc where
 start c:=if c.po=1 then .turn 1 0 (0,[]) else if c.po=2 then .turn 1 0 (2,[]) else .ans 1 0
 turn q x :=
  if q.1=0 then ((x,x),x,if x=0 then .ans 50 0 else .turn 4 0 (1,[x]))
  else if q.1=1 then ((effCas (q.2.headD 0) (wrap64 (q.2.headD 0 - 1)) x).1,(effCas (q.2.headD 0) (wrap64 (q.2.headD 0 - 1)) x).2.1,if x=q.2.headD 0 then .ans 0 0 else .turn 1 0 (0,[]))
  else ((x,x),x,if x=0 then .ans 0 0 else .wait 0 (3,[]))
 woke _:=.turn 1 0 (2,[])
 stuck _:=(4,0)
abbrev box0:Obj:=.cells #[I 0,I 0] 42 (0,0)
def boxO (pb:Nat):Nat→Option Obj:=fun b=>if b=pb then some box0 else none
theorem boxO_at (pb:Nat):boxO pb pb=some box0:=by unfold boxO;rw [if_pos rfl]
theorem boxO_eq {pb b:Nat} (h:boxO pb b≠none):b=pb:=by
 unfold boxO at h
 split at h
 ·assumption
 ·exact absurd rfl h
theorem boxO_row (pb:Nat):∀ b o,boxO pb b=some o→∃ c e f,o=.cells c e f:=fun b o h=>by
 unfold boxO at h
 split at h
 ·cases h;exact ⟨_,_,_,rfl⟩
 ·cases h
structure Frs where
 bd:Frame
 ad:Act
 od:Array Oper
 qd:Nat
 rd:List Nat
 oe:Oper
 kd:List Item
 fs:List Frame
namespace Frs
def cu (f:Frs) (r:Value):Goroutine:=G (f.bd.at (f.ad.put f.oe.dst r) (.inRegion f.od f.rd :: f.kd)) f.fs
def top (f:Frs):Frame:=f.bd.at f.ad (.inRegion f.od (f.qd :: f.rd) :: f.kd)
end Frs
structure LMine (X:Fix mcLatch) (xb lb cb:Nat):Prop where
 caps:X.caps=#[Pt xb 0]
 mem:∀ v,Has X.pk v→v.cell? ⟨xb,0,none⟩=some (Pt lb 0)∧v.cell? ⟨lb,0,none⟩=some (Pt cb 0)
 kb:X.kb[0]? = some cb
structure DF (main:Bool) (f:Frs) (c64:Value→Goroutine):Prop where
 oe:f.od[f.qd]? = some f.oe
 back:∀ e:Int,ABack main (f.cu (I e)) (c64 (I e))
structure WF (main:Bool) (f:Frs) (c64:Value→Goroutine):Prop where
 oe:f.od[f.qd]? = some f.oe
 back:∀ b:Bool,ABack main (f.cu (.bool b)) (c64 (I (if b then 0 else 4)))
def latSit (X:Fix mcLatch) (x:Nx) (Mo:Nat→Option Obj) (cu:Value→Goroutine) (g:Goroutine):Prop :=
 ∃ (xb lb cb pb:Nat) (c64:Value→Goroutine) (f:Frs),LMine X xb lb cb∧Mo=boxO pb∧LBack (X.h==0) pb c64 cu ∧
   ((DF (X.h==0) f c64∧((x=.turn 1 0 (0,[])∧∃ u,OpBack (X.h==0) X.i 0 cb X.tb 1 effLoad (fun r=>G (dSeen lb cb X.tb u r) (f.top :: f.fs)) g) ∨
      (∃ a u,x=.turn 4 0 (1,[a])∧OpBack (X.h==0) X.i 0 cb X.tb 4 (effCas a (wrap64 (a - 1))) (fun r=>G (dTried lb X.tb u r) (f.top :: f.fs)) g))) ∨
    (WF (X.h==0) f c64∧((x=.turn 1 0 (2,[])∧∃ u,OpBack (X.h==0) X.i 0 cb X.tb 1 effLoad (fun r=>G (wSeen lb cb X.tb u r) (f.top :: f.fs)) g) ∨
      (x=.wait 0 (3,[])∧∃ u,WakeBack (X.h==0) X.i X.tb 0 (fun r=>G (wWoke lb X.tb u r) (f.top :: f.fs)) g))))
section
variable {X:Fix mcLatch} {z:Nat→Option Nat} {cont:Addr→Value} {Ch:Nat→Prop} {Stop:Goroutine→World→Prop} {cu:Value→Goroutine} {S0:TS} {K0:List (Nat×Int)} {v0:World} {Mo0:Nat→Option Obj} {σ:TS} {κ:List (Nat×Int)} {S:TS} {v w:World} {t:Thr} {H:Nx→(Nat→Option Obj)→Goroutine→Prop} {xb lb cb pb:Nat} {c64:Value→Goroutine} {f:Frs} {x:Nx}
theorem lat_ans (hlb:LBack (X.h==0) pb c64 cu) (e:Int) (hob:Ob X H z cont Ch Stop cu S0 K0 v0 Mo0 σ κ x) (hx:x=.ans e 0∨∃ j q,x=.wait j q∧σ.stk=true∧(e,(0:Int))=mcLatch.stuck q) (N:Now X z cont Ch S0 K0 v0 Mo0 (boxO pb) σ κ S v w t) :
 GoesI Try.prog (X.h==0) (DT (ScZ z) Ch) Stop (c64 (I e)) w :=
 hlb z Ch Stop w v S κ e N.at_.rel N.at_.noRow N.at_.mem (N.mo pb _ (boxO_at pb)) (N.far pb (by rw [boxO_at];simp)) (fun v' w' r n ev=>hob.ans (e,0) hx v' w' S r n N.nv (N.evo.join ev (fun b hb=>by
  have hb':b=pb:=hb
  subst hb'
  exact N.new b (by rw [boxO_at];simp))))
theorem lat_down (hm:LMine X xb lb cb) (hlb:LBack (X.h==0) pb c64 cu) (hf:DF (X.h==0) f c64) (hH:∀ x Mo' g,Good v0 Mo0 x Mo'→latSit X x Mo' cu g→H x Mo' g) (hob:Ob X H z cont Ch Stop cu S0 K0 v0 Mo0 σ κ (.turn 1 0 (0,[]))) (N:Now X z cont Ch S0 K0 v0 Mo0 (boxO pb) σ κ S v w t) (u:Nat→Value) :
 GoesI Try.prog (X.h==0) (DT (ScZ z) Ch) Stop (G (dFr lb X.tb u) (f.top :: f.fs)) w:=by
 rw [←N.at_.tb]
 exact down_loop (h:=X.h) (i:=X.i) (j:=0) (cb:=cb) _ u _ (H (.turn 1 0 (0,[])) (boxO pb)) (fun g hg=>hH _ _ g (N.good (fun _ _ h=>by cases h)) ⟨xb,lb,cb,pb,c64,f,hm,rfl,hlb,.inl ⟨hf,.inl ⟨rfl,u,by rw [←N.at_.tb];exact hg⟩⟩⟩) (hm.mem v N.at_.pk).2 N.at_.rel N.at_.noRow N.at_.mem N.at_.thr (N.cell hm.kb).1 (by rw [N.at_.tb];exact N.at_.z) (by rw [N.at_.tb,N.at_.gc];exact N.at_.cont) (ob_turn hob N)
theorem lat_wait (hm:LMine X xb lb cb) (hlb:LBack (X.h==0) pb c64 cu) (hf:WF (X.h==0) f c64) (hH:∀ x Mo' g,Good v0 Mo0 x Mo'→latSit X x Mo' cu g→H x Mo' g) (hob:Ob X H z cont Ch Stop cu S0 K0 v0 Mo0 σ κ (.turn 1 0 (2,[]))) (N:Now X z cont Ch S0 K0 v0 Mo0 (boxO pb) σ κ S v w t) (u:Nat→Value) :
 GoesI Try.prog (X.h==0) (DT (ScZ z) Ch) Stop (G (wFr lb X.tb u) (f.top :: f.fs)) w:=by
 rw [←N.at_.tb]
 exact wait_loop (h:=X.h) (i:=X.i) (j:=0) (cb:=cb) _ u _ (H (.turn 1 0 (2,[])) (boxO pb)) (fun g hg=>hH _ _ g (N.good (fun _ _ h=>by cases h)) ⟨xb,lb,cb,pb,c64,f,hm,rfl,hlb,.inr ⟨hf,.inl ⟨rfl,u,by rw [←N.at_.tb];exact hg⟩⟩⟩) (hm.mem v N.at_.pk).2 N.at_.rel N.at_.noRow N.at_.mem N.at_.thr (N.cell hm.kb).1 (by rw [N.at_.tb];exact N.at_.z) (by rw [N.at_.tb,N.at_.gc];exact N.at_.cont) (ob_turn hob N)
end
end Go.Proofs.Ytfjjoohflcchnaa.Gen
namespace Go.Proofs.Ytfjjoohflcchnaa.Gen
open Go Go.Lift Go.Conc Go.RowKit
section
variable {X:Fix mcLatch} {z:Nat→Option Nat} {cont:Addr→Value} {Ch:Nat→Prop} {Stop:Goroutine→World→Prop} {cu:Value→Goroutine} {S0:TS} {K0:List (Nat×Int)} {v0:World} {Mo0:Nat→Option Obj} {σ:TS} {κ:List (Nat×Int)} {S:TS} {v w:World} {t:Thr} {H:Nx→(Nat→Option Obj)→Goroutine→Prop} {xb lb cb pb:Nat} {c64:Value→Goroutine} {f:Frs}
theorem lat_dseen (hm:LMine X xb lb cb) (hL:LBack (X.h==0) pb c64 cu) (hf:DF (X.h==0) f c64) (hH:∀ x Mo' g,Good v0 Mo0 x Mo'→latSit X x Mo' cu g→H x Mo' g) (x:Int) (hob:Ob X H z cont Ch Stop cu S0 K0 v0 Mo0 σ κ (if x=0 then .ans 50 0 else .turn 4 0 (1,[x]))) (N:Now X z cont Ch S0 K0 v0 Mo0 (boxO pb) σ κ S v w t) (u:Nat→Value) :
 GoesI Try.prog (X.h==0) (DT (ScZ z) Ch) Stop (G (dSeen lb cb X.tb u (I x)) (f.top :: f.fs)) w:=by
 by_cases hx:x=0
 ·subst hx
  rw [if_pos rfl] at hob
  exact down_low (bc:=f.bd) (ac:=f.ad) (ops:=f.od) (q:=f.qd) (rest:=f.rd) (oc:=f.oe) (k:=f.kd) u f.fs hf.oe N.at_.rel N.at_.noRow (fun v2 w2 r2 n2 a b c=>hf.back 50 z Ch Stop w2 v2 r2 n2 (fun v3 w3 r3 n3 a' b' c'=>lat_ans hL 50 hob (.inl rfl) ((N.same r2 n2 a b c).same r3 n3 a' b' c')))
 ·rw [if_neg hx] at hob
  rw [←N.at_.tb]
  exact down_try (h:=X.h) (i:=X.i) (j:=0) x hx _ u _ (H (.turn 4 0 (1,[x])) (boxO pb)) (fun g hg=>hH _ _ g (N.good (fun _ _ h=>by cases h)) ⟨xb,lb,cb,pb,c64,f,hm,rfl,hL,.inl ⟨hf,.inr ⟨x,_,rfl,by rw [N.at_.tb] at hg;exact hg⟩⟩⟩) (hm.mem v N.at_.pk).2 N.at_.rel N.at_.noRow N.at_.mem N.at_.thr (N.cell hm.kb).1 (by rw [N.at_.tb];exact N.at_.z) (by rw [N.at_.tb,N.at_.gc];exact N.at_.cont) (ob_turn hob N)
theorem lat_wseen (hm:LMine X xb lb cb) (hL:LBack (X.h==0) pb c64 cu) (hf:WF (X.h==0) f c64) (hH:∀ x Mo' g,Good v0 Mo0 x Mo'→latSit X x Mo' cu g→H x Mo' g) (x:Int) (hob:Ob X H z cont Ch Stop cu S0 K0 v0 Mo0 σ κ (if x=0 then .ans 0 0 else .wait 0 (3,[]))) (N:Now X z cont Ch S0 K0 v0 Mo0 (boxO pb) σ κ S v w t) (u:Nat→Value) :
 GoesI Try.prog (X.h==0) (DT (ScZ z) Ch) Stop (G (wSeen lb cb X.tb u (I x)) (f.top :: f.fs)) w:=by
 by_cases hx:x=0
 ·subst hx
  rw [if_pos rfl] at hob
  exact wait_done (bc:=f.bd) (ac:=f.ad) (ops:=f.od) (q:=f.qd) (rest:=f.rd) (oc:=f.oe) (k:=f.kd) u f.fs hf.oe N.at_.rel N.at_.noRow (fun v2 w2 r2 n2 a b c=>hf.back true z Ch Stop w2 v2 r2 n2 (fun v3 w3 r3 n3 a' b' c'=>lat_ans hL 0 hob (.inl rfl) ((N.same r2 n2 a b c).same r3 n3 a' b' c')))
 ·rw [if_neg hx] at hob
  refine wait_more (j:=0) x hx _ u _ (hm.mem v N.at_.pk).2 N.at_.rel N.at_.noRow N.at_.mem (N.cell hm.kb).1 (fun v' w' bd ad od qd rd oe kd r n e hoe hfr code hcode=>?_)
  have N':=N.on e r n N.nv N.at_.thr N.at_.tb N.at_.gc rfl
  cases hs:S.stk with
  |true =>
   have:=await_no (i:=X.i) (main:=X.h==0) (Ch:=Ch) (Stop:=Stop) ((0:Nat):Int) (f.top :: f.fs) hoe N'.at_.rel N'.at_.noRow N'.at_.mem hs N'.at_.thr (fun v2 w2 r2 n2 e2=>by
    rw [hfr]
    have N2:=N'.on e2 r2 n2 N'.nv N'.at_.thr N'.at_.tb N'.at_.gc rfl
    exact wait_no (bc:=f.bd) (ac:=f.ad) (ops:=f.od) (q:=f.qd) (rest:=f.rd) (oc:=f.oe) (k:=f.kd) _ f.fs hf.oe r2 n2 (fun v3 w3 r3 n3 a b c=>hf.back false z Ch Stop w3 v3 r3 n3 (fun v4 w4 r4 n4 a' b' c'=>lat_ans hL 4 hob (.inr ⟨0,(3,[]),rfl,by rw [←N.nv];exact hs,rfl⟩) ((N2.same r3 n3 a b c).same r4 n4 a' b' c')))) code hcode
   rw [N'.at_.tb] at this
   exact this
  |false =>
   have ee:(fun r=>G (bd.at (ad.put oe.dst r) (.inRegion od rd :: kd)) (f.top :: f.fs))=(fun r=>G (wWoke lb X.tb (wVal lb cb X.tb x 0 u) r) (f.top :: f.fs)):=funext fun r=>by rw [hfr]
   have:=await_goes (h:=X.h) (cont:=cont) (i:=X.i) (Stop:=Stop) ((0:Nat):Int) (f.top :: f.fs) (H (.wait 0 (3,[])) (boxO pb)) hoe (fun g hg=>hH _ _ g (N'.good (fun _ _ h=>by cases h)) ⟨xb,lb,cb,pb,c64,f,hm,rfl,hL,.inr ⟨hf,.inr ⟨rfl,wVal lb cb X.tb x 0 u,by rw [←ee,←N'.at_.tb];exact hg⟩⟩⟩) N'.at_.rel N'.at_.noRow N'.at_.mem hs N'.at_.thr (by rw [N'.at_.tb];exact N'.at_.z) (by rw [N'.at_.tb,N'.at_.gc];exact N'.at_.cont) (ob_wait hob hs N') code hcode
   rw [N'.at_.tb] at this
   exact this
end
noncomputable def pkgLatch:Pkg mcLatch 69 where
 fn:=Try.f69
 code:=Try.f69.body.getD .skip
 hf:=Try.func69
 hname:=by kernel_rfl
 hcode:=rfl
 Mine X:=∃ xb lb cb,LMine X xb lb cb
 Sit:=latSit
 start:=by
  rintro X ok ⟨xb,lb,cb,hm⟩ hfid c hc cs bc ac ops q rest oc k hoc H z cont Ch Stop S K v w t A hH hob
  rw [hm.caps]
  show GoesI Try.prog (X.h==0) (DT (ScZ z) Ch) Stop (G ((base 69).at { tmps:=#[Pt X.tb 0,.agg #[I c.po,I c.ca,I c.cb,I c.cc],Pt xb 0]++Array.replicate 9 undef,defers:=[] } [.code (Try.f69.body.getD .skip)]) (bc.at ac (.inRegion ops (q :: rest) :: k) :: cs)) w
  refine clo_goes c.po c.ca c.cb c.cc (hm.mem v A.pk).1 cs hoc A.rel A.noRow (fun v' w' bd ad od qd rd oe kd hr hn hg hbox hoe hL code hcode=>?_) _ rfl
  have hlt:v.heap.size+1<v'.heap.size:=(Array.getElem?_eq_some_iff.1 hbox).1
  have N:Now X z cont Ch S K v (fun _=>none) (boxO (v.heap.size+1)) (Gen.nv S) K S v' w' t:=by
   refine ⟨⟨hr,hn,(A.mem.grows hg).mem,A.thr,A.tb,A.gc,A.kb,A.z,A.cont,fun b o hb=>?_,A.far⟩,Evo.toP (A.mem.grows hg),rfl,rfl,fun b o hb=>?_,fun b hb ho=>?_,fun b hb=>?_,boxO_row _⟩
   ·have h1:=A.pk b o hb
    rw [hg.old b (Array.getElem?_eq_some_iff.1 h1).1];exact h1
   ·have e:=boxO_eq (pb:=v.heap.size+1) (b:=b) (by rw [hb];simp)
    subst e
    rw [boxO_at] at hb
    cases hb
    exact hbox
   ·have e:=boxO_eq hb
    have:=A.mem.lt ho
    omega
   ·have e:=boxO_eq hb
    exact .inr (by omega)
  by_cases h1:c.po=1
  ·have es:mcLatch.start c=.turn 1 0 (0,[]):=by simp [mcLatch,h1]
   rw [es] at hob
   rw [h1]
   exact call_down (v:=v') _ hoe (fun bd2 ad2 od2 qd2 rd2 oe2 kd2 h2 hA code2 hcode2=>down_in _ (fun u=>lat_down (f:=⟨bd2,ad2,od2,qd2,rd2,oe2,kd2,_⟩) hm hL ⟨h2,hA⟩ hH hob N u) code2 hcode2) code hcode
  ·by_cases h2:c.po=2
   ·have es:mcLatch.start c=.turn 1 0 (2,[]):=by simp [mcLatch,h2]
    rw [es] at hob
    rw [h2]
    exact call_wait (v:=v') _ hoe (fun bd2 ad2 od2 qd2 rd2 oe2 kd2 h2 hA code2 hcode2=>wait_in _ (fun u=>lat_wait (f:=⟨bd2,ad2,od2,qd2,rd2,oe2,kd2,_⟩) hm hL ⟨h2,hA⟩ hH hob N u) code2 hcode2) code hcode
   ·have es:mcLatch.start c=.ans 1 0:=by simp [mcLatch,h1,h2]
    rw [es] at hob
    exact call_none c.po h1 h2 _ hoe hr hn (fun w2 r2=>lat_ans (w:=w2) hL 1 hob (.inl rfl) (N.same r2 hn rfl rfl rfl)) code hcode
 turn:=by
  rintro X ok - hfid op j q Mo cu g ⟨xb,lb,cb,pb,c64,f,hm,rfl,hL,hsit⟩ H z cont Ch Stop y S K v w t A hH hop hce hl hMo hMf hMp hob
  have N0:=Now.here A hMo hMf (boxO_row pb)
  have hc:=N0.cell hm.kb
  rcases hsit with ⟨hf,⟨hx,u,hg⟩|⟨a,u,hx,hg⟩⟩|⟨hf,⟨hx,u,hg⟩|⟨hx,_⟩⟩
  ·cases hx
   refine hg z Ch Stop y w v S K t (cellAt K 0).2 A.rel A.noRow A.mem A.thr A.tb hop hce hc.1 hl (fun v1 w1 tv r1 n1 e1=>?_)
   have sd:=sta_did (i:=X.i) S tv t (cellAt K 0).2 (cellAt K 0).2
   have N1:=N0.on e1 r1 n1 (nv_did tv t _ _) (did_thr A.thr) A.tb A.gc sd.bk
   have e2:(cellAt K 0).1=cb:=by rw [hc.2]
   rw [e2] at hob
   exact lat_dseen hm hL hf hH (cellAt K 0).2 hob N1 u
  ·cases hx
   refine hg z Ch Stop y w v S K t (cellAt K 0).2 A.rel A.noRow A.mem A.thr A.tb hop hce hc.1 hl (fun v1 w1 tv r1 n1 e1=>?_)
   have sd:=sta_did (i:=X.i) S tv t (effCas a (wrap64 (a - 1)) (cellAt K 0).2).1.1 (effCas a (wrap64 (a - 1)) (cellAt K 0).2).1.2
   have N1:=N0.on e1 r1 n1 (nv_did tv t _ _) (did_thr A.thr) A.tb A.gc sd.bk
   have e2:(cellAt K 0).1=cb:=by rw [hc.2]
   rw [e2] at hob
   have hob:Ob X H z cont Ch Stop cu S K v (boxO pb) (didS (Gen.nv S) undef X.i t (effCas a (wrap64 (a - 1)) (cellAt K 0).2).1.1 (effCas a (wrap64 (a - 1)) (cellAt K 0).2).1.2) (K.set 0 (cb,(effCas a (wrap64 (a - 1)) (cellAt K 0).2).2.1)) (if (cellAt K 0).2=a then .ans 0 0 else .turn 1 0 (0,[])):=hob
   by_cases hx:(cellAt K 0).2=a
   ·rw [if_pos hx] at hob
    rw [show (effCas a (wrap64 (a - 1)) (cellAt K 0).2).2.2=.bool true by unfold effCas;rw [if_pos hx]]
    exact down_won (bc:=f.bd) (ac:=f.ad) (ops:=f.od) (q:=f.qd) (rest:=f.rd) (oc:=f.oe) (k:=f.kd) u f.fs hf.oe r1 n1 (fun v2 w2 r2 n2 a b c=>hf.back 0 z Ch Stop w2 v2 r2 n2 (fun v3 w3 r3 n3 a' b' c'=>lat_ans hL 0 hob (.inl rfl) ((N1.same r2 n2 a b c).same r3 n3 a' b' c')))
   ·rw [if_neg hx] at hob
    rw [show (effCas a (wrap64 (a - 1)) (cellAt K 0).2).2.2=.bool false by unfold effCas;rw [if_neg hx]]
    exact down_again u _ (fun u=>lat_down hm hL hf hH hob N1 u)
  ·cases hx
   refine hg z Ch Stop y w v S K t (cellAt K 0).2 A.rel A.noRow A.mem A.thr A.tb hop hce hc.1 hl (fun v1 w1 tv r1 n1 e1=>?_)
   have sd:=sta_did (i:=X.i) S tv t (cellAt K 0).2 (cellAt K 0).2
   have N1:=N0.on e1 r1 n1 (nv_did tv t _ _) (did_thr A.thr) A.tb A.gc sd.bk
   have e2:(cellAt K 0).1=cb:=by rw [hc.2]
   rw [e2] at hob
   exact lat_wseen hm hL hf hH (cellAt K 0).2 hob N1 u
  ·cases hx
 wake:=by
  rintro X ok - hfid j q Mo cu g ⟨xb,lb,cb,pb,c64,f,hm,rfl,hL,hsit⟩ H z cont Ch Stop y S K v w t A hH hl hMo hMf hMp hob1 hob2
  have N0:=Now.here A hMo hMf (boxO_row pb)
  rcases hsit with ⟨hf,⟨hx,u,hg⟩|⟨a,u,hx,hg⟩⟩|⟨hf,⟨hx,u,hg⟩|⟨hx,u,hg⟩⟩
  ·cases hx
  ·cases hx
  ·cases hx
  ·cases hx
   refine hg z Ch Stop y w v S K t A.rel A.noRow A.mem A.thr A.tb hl (fun v1 w1 tv hs r1 n1 e1=>?_) (fun v1 w1 hs r1 n1 e1=>?_)
   ·have N1:=N0.on e1 r1 n1 rfl A.thr A.tb A.gc rfl
    exact wait_again u _ (fun u=>lat_wait hm hL hf hH (hob2 hs) N1 u)
   ·have N1:=N0.on e1 r1 n1 rfl A.thr A.tb A.gc rfl
    exact wait_no (bc:=f.bd) (ac:=f.ad) (ops:=f.od) (q:=f.qd) (rest:=f.rd) (oc:=f.oe) (k:=f.kd) u f.fs hf.oe r1 n1 (fun v2 w2 r2 n2 a b c=>hf.back false z Ch Stop w2 v2 r2 n2 (fun v3 w3 r3 n3 a' b' c'=>lat_ans hL 4 (hob1 hs) (.inl rfl) ((N1.same r2 n2 a b c).same r3 n3 a' b' c')))
end Go.Proofs.Ytfjjoohflcchnaa.Gen
