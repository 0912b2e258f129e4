/- Of the proof of OnceAlone. Part 22 of 30. (Joined, by program, and written short, of: OnT2, OnT3, GMeas, GView.) -/
import Derived.Test.YtfjjoohflcchnaaDoorOnceAlone15
import Derived.Test.YtfjjoohflcchnaaDoorOnceAlone21
set_option linter.unusedSimpArgs false
set_option linter.unusedVariables false
set_option maxHeartbeats 4000000
set_option maxRecDepth 100000
namespace Go.Proofs.YtfjjoohflcchnaaDoor.Gen
open Go Go.Lift Go.Conc Go.RowKit
theorem ev_iface (ty:TypeId) (x:Int) (w:World):(binOp .neq 20 (.iface ty (I x)) .nilIface).events Tryd.prog w #[]=#[]:=by
 show Sem.events Tryd.prog (do pure (Value.bool (!(←Op.equalIn (9999+1) 20 (.iface ty (I x)) .nilIface)))) w #[]=#[]
 unfold Op.equalIn
 simp [go_sem]
theorem come2 {z:Nat→Option Nat} {Ch:Nat→Prop} {Stop:Goroutine→World→Prop} {main:Bool} {v w:World} {ob tb:Nat} {kd b:Int} (hkd:kd=2) (cs:List Frame) {bc:Frame} {ac:Act} {ops:Array Oper} {q:Nat} {rest:List Nat} {oc:Oper} {k0:List Item} (hoc:ops[q]? = some oc) (hvw:Rel z v w) (hn:NoRow Ch v)
 (hk:∀ v' w',Rel z v' w'→NoRow Ch v'→Grows v v'→GoesI Tryd.prog main (DT (ScZ z) Ch) Stop (G (bc.at (ac.put oc.dst (.agg #[I (71),I (b)])) (.inRegion ops rest :: k0)) cs) w') (code:Code) (hc:Tryd.f66.body=some code) :
 GoesI Tryd.prog main (DT (ScZ z) Ch) Stop (G ((base 66).at { tmps:=#[Pt ob 0,Pt tb 0,.agg #[I kd,I b]]++Array.replicate 31 undef,defers:=[] } [.code code]) (bc.at ac (.inRegion ops (q :: rest) :: k0) :: cs)) w:=by
 have hw0:code=.seq (seq1 tB) (seq2 tB):=by
  rw [show code=tB by unfold tB;rw [hc];rfl];exact eTB
 subst hw0
 clear hc
 refine goesI_seq (dt_idle _ _) ?_
 refine goesI_plain (z:=z) (wr:=true) (L:=LT) (I:=NoRow Ch) hE fineT noRow_keeps (fun v v' w w' es hi hr ho he=>dt_of_z v v' w w' es hi hr ho he) hvw fine_t0 rfl (by simp [base]) hn
  (Q:=fun a w'=>a={ tmps:=#[Pt ob 0,Pt tb 0,.agg #[I kd,I b],undef,undef,Pt v.heap.size 0,Pt (v.heap.size+1) 0]++Array.replicate 27 undef,defers:=[] }∧w'.heap=((v.heap.push (.cells #[I kd,I b] 52)).push (.cells #[I 0,I 0] 38))∧w'.os=v.os∧w'.output=v.output) (fun τ=>?_) ?_
 ·unfold tB Tryd.f66 seq1
  simp only [Option.getD_some,Array.replicate_succ,Array.replicate_zero,List.push_toArray,List.append_toArray,List.nil_append,List.cons_append]
  go_wp2_with fail
  exact ⟨rfl,rfl,rfl,rfl⟩
 rintro a' v' w' ⟨rfl,hv1,hv2,hv3⟩ hr' hn' -
 have hsz:v'.heap.size=v.heap.size+2:=by rw [hv1];simp
 have hg:Grows v v':=⟨by omega,fun b hb=>by rw [hv1,Array.getElem?_push,if_neg (by simp;omega),Array.getElem?_push,if_neg (by omega)],hv2,hv3⟩
 have hb0:v'.heap[v.heap.size]? = some (.cells #[I kd,I b] 52 (0,0)):=by rw [hv1,Array.getElem?_push,if_neg (by simp<;>omega),Array.getElem?_push,if_pos (by simp)]
 have hb1:v'.heap[v.heap.size+1]? = some (.cells #[I 0,I 0] 38 (0,0)):=by rw [hv1,Array.getElem?_push,if_pos (by simp)]
 have d0:w'.cell? ⟨v.heap.size,0,none⟩=some (I kd):=by rw [hr'.cell?];simp [World.cell?,hb0]
 have d1:w'.cell? ⟨v.heap.size,1,none⟩=some (I b):=by rw [hr'.cell?];simp [World.cell?,hb0]
 clear hv1 hv2 hv3 hvw hn
 subst hkd
 have hgr:∀ e x,Grows v (ansW v' (v.heap.size+1) e x):=fun e x=>⟨by rw [ans_size];omega,fun b hb=>by rw [ans_far _ _ _ _ _ (by omega)];exact hg.old b hb,hg.os,hg.output⟩
 have hk:=fun e x w' r' n'=>hk (ansW v' (v.heap.size+1) e x) w' r' n' (hgr e x)
 clear hgr hg hsz hb0
 have hpb:=hb1
 clear hb1
 generalize v.heap.size=N at hpb d0 d1 hk ⊢
 unfold tB Tryd.f66 seq2
 simp only [Option.getD_some,Array.replicate_succ,Array.replicate_zero,List.push_toArray,List.append_toArray,List.nil_append,List.cons_append]
 refine goesI_seq (dt_idle _ _) ?_
 refine goesI_region (dt_idle _ _) ?_
 simp only [List.size_toArray,List.length_cons,List.length_nil,Nat.reduceAdd,Nat.zero_add,List.range,List.range.loop]
 iterate 1
  (refine goesI_oper rfl rfl (by decide) (fun d K hK=>?_)
   go_simp
   refine hK _ _ ⟨dt_reads (fun e he=>?_),GoesI.at ?_ d⟩
   ·have hm:=mem_listed he
    simp [go_sem, *] at hm
    try exact ⟨_,_,hm⟩
    try (rcases hm with rfl|rfl<;>exact ⟨_,_,rfl⟩)
   clear hK K)
 refine goesI_deferV (d:=dclo 100 #[Pt N 0,Pt (N+1) 0]) (dt_idle _ _) rfl rfl (by decide) (fun w=>?_) (fun w=>?_) ?_
 ·simp [execOp,resolve,Deferred.ofValue,Act.eval,dclo,go_sem]
 ·simp [go_sem,execOp,resolve,Deferred.ofValue,Act.eval]
 refine goesI_regionEnd (dt_idle _ _) ?_
 refine goesI_seq (dt_idle _ _) ?_
 refine goesI_seq (dt_idle _ _) ?_
 refine goesI_region (dt_idle _ _) ?_
 simp only [List.size_toArray,List.length_cons,List.length_nil,Nat.reduceAdd,Nat.zero_add,List.range,List.range.loop]
 iterate 2
  (refine goesI_oper rfl rfl (by decide) (fun d K hK=>?_)
   go_simp
   refine hK _ _ ⟨dt_reads (fun e he=>?_),GoesI.at ?_ d⟩
   ·have hm:=mem_listed he
    simp [go_sem, *] at hm
    try exact ⟨_,_,hm⟩
    try (rcases hm with rfl|rfl<;>exact ⟨_,_,rfl⟩)
   clear hK K)
 refine goesI_regionEnd (dt_idle _ _) ?_
 refine goesI_block (dt_idle _ _) ?_
 refine goesI_seq (dt_idle _ _) ?_
 refine goesI_region (dt_idle _ _) ?_
 simp only [List.size_toArray,List.length_cons,List.length_nil,Nat.reduceAdd,Nat.zero_add,List.range,List.range.loop]
 iterate 2
  (refine goesI_oper rfl rfl (by decide) (fun d K hK=>?_)
   go_simp
   refine hK _ _ ⟨dt_reads (fun e he=>?_),GoesI.at ?_ d⟩
   ·have hm:=mem_listed he
    simp [go_sem, *] at hm
    try exact ⟨_,_,hm⟩
    try (rcases hm with rfl|rfl<;>exact ⟨_,_,rfl⟩)
   clear hK K)
 refine goesI_regionEnd (dt_idle _ _) ?_
 refine goesI_cond (dt_idle _ _) (t:=false) (by simp [Act.eval]) ?_
 simp only [if_true,if_false,Bool.false_eq_true]
 refine goesI_seq (dt_idle _ _) ?_
 refine goesI_region (dt_idle _ _) ?_
 simp only [List.size_toArray,List.length_cons,List.length_nil,Nat.reduceAdd,Nat.zero_add,List.range,List.range.loop]
 iterate 2
  (refine goesI_oper rfl rfl (by decide) (fun d K hK=>?_)
   go_simp
   refine hK _ _ ⟨dt_reads (fun e he=>?_),GoesI.at ?_ d⟩
   ·have hm:=mem_listed he
    simp [go_sem, *] at hm
    try exact ⟨_,_,hm⟩
    try (rcases hm with rfl|rfl<;>exact ⟨_,_,rfl⟩)
   clear hK K)
 refine goesI_regionEnd (dt_idle _ _) ?_
 refine goesI_cond (dt_idle _ _) (t:=false) (by simp [Act.eval]) ?_
 simp only [if_true,if_false,Bool.false_eq_true]
 refine goesI_seq (dt_idle _ _) ?_
 refine goesI_region (dt_idle _ _) ?_
 simp only [List.size_toArray,List.length_cons,List.length_nil,Nat.reduceAdd,Nat.zero_add,List.range,List.range.loop]
 iterate 2
  (refine goesI_oper rfl rfl (by decide) (fun d K hK=>?_)
   go_simp
   refine hK _ _ ⟨dt_reads (fun e he=>?_),GoesI.at ?_ d⟩
   ·have hm:=mem_listed he
    simp [go_sem, *] at hm
    try exact ⟨_,_,hm⟩
    try (rcases hm with rfl|rfl<;>exact ⟨_,_,rfl⟩)
   clear hK K)
 refine goesI_regionEnd (dt_idle _ _) ?_
 refine goesI_cond (dt_idle _ _) (t:=true) (by simp [Act.eval]) ?_
 simp only [if_true,if_false,Bool.false_eq_true]
 refine goesI_region (dt_idle _ _) ?_
 simp only [List.size_toArray,List.length_cons,List.length_nil,Nat.reduceAdd,Nat.zero_add,List.range,List.range.loop]
 iterate 2
  (refine goesI_oper rfl rfl (by decide) (fun d K hK=>?_)
   go_simp
   refine hK _ _ ⟨dt_reads (fun e he=>?_),GoesI.at ?_ d⟩
   ·have hm:=mem_listed he
    simp [go_sem, *] at hm
    try exact ⟨_,_,hm⟩
    try (rcases hm with rfl|rfl<;>exact ⟨_,_,rfl⟩)
   clear hK K)
 refine goesI_oper rfl rfl (by decide) (fun d K hK=>?_)
 go_simp
 refine hK _ _ ⟨dt_reads (fun e he=>?_),GoesI.at ?_ d⟩
 ·have hm:=mem_listed he
  simp [go_sem,Instr.makeInterface, *] at hm
 clear hK K
 refine GoesI.ctl rfl (fun w=>stepG_panic (v:=.iface 3 (I b)) rfl rfl (by decide) (by simp [execOp,go_sem,Instr.panic,Act.eval]) (by simp [go_sem,execOp,Instr.panic,Act.eval])) (dt_idle _ _) ?_
 refine GoesI.ctl rfl (fun w=>stepG_unwind_cloP (f:=100) (fn:=Tryd.f100) (cap:=#[Pt N 0,Pt (N+1) 0]) (ds:=[]) rfl Tryd.func100 (by kernel_rfl) rfl) (dt_idle _ _) ?_
 simp only [Tryd.ntmps100,List.size_toArray,List.length_cons,List.length_nil,Nat.reduceAdd,Nat.reduceSub,Array.replicate_succ,Array.replicate_zero,List.push_toArray,List.append_toArray,List.nil_append,List.cons_append]
 refine goesI_seq (dt_idle _ _) ?_
 refine goesI_region (dt_idle _ _) ?_
 simp only [List.size_toArray,List.length_cons,List.length_nil,Nat.reduceAdd,Nat.zero_add,List.range,List.range.loop]
 refine GoesI.ctl rfl (fun w=>stepG_recover_some (v:=.iface 3 (I b)) rfl rfl rfl rfl (by go_simp) (by simp [go_sem,execOp,resolve,invoke,builtin])) (dt_idle _ _) ?_
 (refine goesI_oper rfl rfl (by decide) (fun d K hK=>?_)
  go_simp
  refine hK _ _ ⟨dt_reads (fun e he=>?_),GoesI.at ?_ d⟩
  ·have hm:=mem_listed he
   simp [go_sem,ev_iface, *] at hm
  clear hK K)
 refine goesI_regionEnd (dt_idle _ _) ?_
 refine goesI_cond (dt_idle _ _) (t:=true) (by simp [Act.eval]) ?_
 simp only [if_true,if_false,Bool.false_eq_true]
 refine goesI_region (dt_idle _ _) ?_
 simp only [List.size_toArray,List.length_cons,List.length_nil,Nat.reduceAdd,Nat.zero_add,List.range,List.range.loop]
 iterate 3
  (refine goesI_oper rfl rfl (by decide) (fun d K hK=>?_)
   go_simp
   refine hK _ _ ⟨dt_reads (fun e he=>?_),GoesI.at ?_ d⟩
   ·have hm:=mem_listed he
    simp [go_sem, *] at hm
    try exact ⟨_,_,hm⟩
    try (rcases hm with rfl|rfl<;>exact ⟨_,_,rfl⟩)
   clear hK K)
 have q0:v'.cell? ⟨N+1,0,none⟩=some (I 0):=by simp [World.cell?,hpb]
 have q1:v'.cell? ⟨N+1,1,none⟩=some (I 0):=by simp [World.cell?,hpb]
 have p0:v'.frozen? ⟨N+1,0,none⟩=false:=by simp [World.frozen?,hpb]
 have p1:v'.frozen? ⟨N+1,1,none⟩=false:=by simp [World.frozen?,hpb]
 have hrow:=ans_row hpb (71) (b)
 refine goesI_doZ (L:=LT) rfl rfl (by decide) (fineOp_ask callT extT (by kernel_rfl)) hr' hn' (v':=ansW v' (N+1) (71) (b)) (by unfold ansW;go_simp) rfl (fun w9 r9 n9=>?_)
 refine goesI_regionEnd (dt_idle _ _) ?_
 refine goesI_end (dt_idle _ _) ?_
 refine GoesI.ctl rfl (fun w=>stepG_backD (v:=.iface 3 (I b)) Tryd.func100 rfl rfl) (dt_idle _ _) ?_
 change GoesI Tryd.prog main (DT (ScZ z) Ch) Stop (G { (base 66).at ⟨_,[]⟩ _ with mode:=.returning } _) _
 refine goesI_leaveZ (f:=66) (fn:=Tryd.f66) (x:=.agg #[I (71),I (b)]) r9 n9 Tryd.func66 rfl hoc ?_ (fun w' r'=>hk (71) (b) w' r' n9)
 generalize ansW v' (N+1) (71) (b)=V at hrow
 have k0:V.cell? ⟨N+1,0,none⟩=some (I (71)):=by simp [World.cell?,hrow]
 have k1:V.cell? ⟨N+1,1,none⟩=some (I (b)):=by simp [World.cell?,hrow]
 simp [results,go_sem,Tryd.f66,Frame.at, *]
theorem come3 {z:Nat→Option Nat} {Ch:Nat→Prop} {Stop:Goroutine→World→Prop} {main:Bool} {v w:World} {ob tb:Nat} {kd b:Int} (hkd:kd=3) (cs:List Frame) {bc:Frame} {ac:Act} {ops:Array Oper} {q:Nat} {rest:List Nat} {oc:Oper} {k0:List Item} (hoc:ops[q]? = some oc) (hvw:Rel z v w) (hn:NoRow Ch v)
 (hk:∀ v' w' (bd:Frame) (ad:Act) (od:Array Oper) (qd:Nat) (rd:List Nat) (oe:Oper) (kd:List Item),Rel z v' w'→NoRow Ch v'→Grows v v'→v'.heap[v.heap.size+1]? = some (.cells #[I 0,I 0] 38 (0,0))→od[qd]? = some oe→KBack main (oneM (v.heap.size+1) (.cells #[I 0,I 0] 38 (0,0))) (fun a=>(70,a.1)) (fun r=>G (bd.at (ad.put oe.dst r) (.inRegion od rd :: kd)) (bc.at ac (.inRegion ops (q :: rest) :: k0) :: cs)) (fun r=>(G (bc.at (ac.put oc.dst r) (.inRegion ops rest :: k0)) cs))→∀ code,Tryd.f28.body=some code →
   GoesI Tryd.prog main (DT (ScZ z) Ch) Stop (G ((base 28).at { tmps:=#[Pt ob 0,Pt tb 0,.agg #[I 3,I b]]++Array.replicate 11 undef,defers:=[] } [.code code]) (bd.at ad (.inRegion od (qd :: rd) :: kd) :: (bc.at ac (.inRegion ops (q :: rest) :: k0) :: cs))) w') (code:Code) (hc:Tryd.f66.body=some code) :
 GoesI Tryd.prog main (DT (ScZ z) Ch) Stop (G ((base 66).at { tmps:=#[Pt ob 0,Pt tb 0,.agg #[I kd,I b]]++Array.replicate 31 undef,defers:=[] } [.code code]) (bc.at ac (.inRegion ops (q :: rest) :: k0) :: cs)) w:=by
 have hw0:code=.seq (seq1 tB) (seq2 tB):=by
  rw [show code=tB by unfold tB;rw [hc];rfl];exact eTB
 subst hw0
 clear hc
 refine goesI_seq (dt_idle _ _) ?_
 refine goesI_plain (z:=z) (wr:=true) (L:=LT) (I:=NoRow Ch) hE fineT noRow_keeps (fun v v' w w' es hi hr ho he=>dt_of_z v v' w w' es hi hr ho he) hvw fine_t0 rfl (by simp [base]) hn
  (Q:=fun a w'=>a={ tmps:=#[Pt ob 0,Pt tb 0,.agg #[I kd,I b],undef,undef,Pt v.heap.size 0,Pt (v.heap.size+1) 0]++Array.replicate 27 undef,defers:=[] }∧w'.heap=((v.heap.push (.cells #[I kd,I b] 52)).push (.cells #[I 0,I 0] 38))∧w'.os=v.os∧w'.output=v.output) (fun τ=>?_) ?_
 ·unfold tB Tryd.f66 seq1
  simp only [Option.getD_some,Array.replicate_succ,Array.replicate_zero,List.push_toArray,List.append_toArray,List.nil_append,List.cons_append]
  go_wp2_with fail
  exact ⟨rfl,rfl,rfl,rfl⟩
 rintro a' v' w' ⟨rfl,hv1,hv2,hv3⟩ hr' hn' -
 have hsz:v'.heap.size=v.heap.size+2:=by rw [hv1];simp
 have hg:Grows v v':=⟨by omega,fun b hb=>by rw [hv1,Array.getElem?_push,if_neg (by simp;omega),Array.getElem?_push,if_neg (by omega)],hv2,hv3⟩
 have hb0:v'.heap[v.heap.size]? = some (.cells #[I kd,I b] 52 (0,0)):=by rw [hv1,Array.getElem?_push,if_neg (by simp<;>omega),Array.getElem?_push,if_pos (by simp)]
 have hb1:v'.heap[v.heap.size+1]? = some (.cells #[I 0,I 0] 38 (0,0)):=by rw [hv1,Array.getElem?_push,if_pos (by simp)]
 have d0:w'.cell? ⟨v.heap.size,0,none⟩=some (I kd):=by rw [hr'.cell?];simp [World.cell?,hb0]
 have d1:w'.cell? ⟨v.heap.size,1,none⟩=some (I b):=by rw [hr'.cell?];simp [World.cell?,hb0]
 clear hv1 hv2 hv3 hvw hn
 subst hkd
 have hk:=fun w1 bd ad od qd rd oe kd (r1:Rel z v' w1)=>hk v' w1 bd ad od qd rd oe kd r1 hn' hg hb1
 clear hg hsz hb0 hb1
 generalize v.heap.size=N at d0 d1 hk ⊢
 unfold tB Tryd.f66 seq2
 simp only [Option.getD_some,Array.replicate_succ,Array.replicate_zero,List.push_toArray,List.append_toArray,List.nil_append,List.cons_append]
 refine goesI_seq (dt_idle _ _) ?_
 refine goesI_region (dt_idle _ _) ?_
 simp only [List.size_toArray,List.length_cons,List.length_nil,Nat.reduceAdd,Nat.zero_add,List.range,List.range.loop]
 iterate 1
  (refine goesI_oper rfl rfl (by decide) (fun d K hK=>?_)
   go_simp
   refine hK _ _ ⟨dt_reads (fun e he=>?_),GoesI.at ?_ d⟩
   ·have hm:=mem_listed he
    simp [go_sem, *] at hm
    try exact ⟨_,_,hm⟩
    try (rcases hm with rfl|rfl<;>exact ⟨_,_,rfl⟩)
   clear hK K)
 refine goesI_deferV (d:=dclo 100 #[Pt N 0,Pt (N+1) 0]) (dt_idle _ _) rfl rfl (by decide) (fun w=>?_) (fun w=>?_) ?_
 ·simp [execOp,resolve,Deferred.ofValue,Act.eval,dclo,go_sem]
 ·simp [go_sem,execOp,resolve,Deferred.ofValue,Act.eval]
 refine goesI_regionEnd (dt_idle _ _) ?_
 refine goesI_seq (dt_idle _ _) ?_
 refine goesI_seq (dt_idle _ _) ?_
 refine goesI_region (dt_idle _ _) ?_
 simp only [List.size_toArray,List.length_cons,List.length_nil,Nat.reduceAdd,Nat.zero_add,List.range,List.range.loop]
 iterate 2
  (refine goesI_oper rfl rfl (by decide) (fun d K hK=>?_)
   go_simp
   refine hK _ _ ⟨dt_reads (fun e he=>?_),GoesI.at ?_ d⟩
   ·have hm:=mem_listed he
    simp [go_sem, *] at hm
    try exact ⟨_,_,hm⟩
    try (rcases hm with rfl|rfl<;>exact ⟨_,_,rfl⟩)
   clear hK K)
 refine goesI_regionEnd (dt_idle _ _) ?_
 refine goesI_block (dt_idle _ _) ?_
 refine goesI_seq (dt_idle _ _) ?_
 refine goesI_region (dt_idle _ _) ?_
 simp only [List.size_toArray,List.length_cons,List.length_nil,Nat.reduceAdd,Nat.zero_add,List.range,List.range.loop]
 iterate 2
  (refine goesI_oper rfl rfl (by decide) (fun d K hK=>?_)
   go_simp
   refine hK _ _ ⟨dt_reads (fun e he=>?_),GoesI.at ?_ d⟩
   ·have hm:=mem_listed he
    simp [go_sem, *] at hm
    try exact ⟨_,_,hm⟩
    try (rcases hm with rfl|rfl<;>exact ⟨_,_,rfl⟩)
   clear hK K)
 refine goesI_regionEnd (dt_idle _ _) ?_
 refine goesI_cond (dt_idle _ _) (t:=false) (by simp [Act.eval]) ?_
 simp only [if_true,if_false,Bool.false_eq_true]
 refine goesI_seq (dt_idle _ _) ?_
 refine goesI_region (dt_idle _ _) ?_
 simp only [List.size_toArray,List.length_cons,List.length_nil,Nat.reduceAdd,Nat.zero_add,List.range,List.range.loop]
 iterate 2
  (refine goesI_oper rfl rfl (by decide) (fun d K hK=>?_)
   go_simp
   refine hK _ _ ⟨dt_reads (fun e he=>?_),GoesI.at ?_ d⟩
   ·have hm:=mem_listed he
    simp [go_sem, *] at hm
    try exact ⟨_,_,hm⟩
    try (rcases hm with rfl|rfl<;>exact ⟨_,_,rfl⟩)
   clear hK K)
 refine goesI_regionEnd (dt_idle _ _) ?_
 refine goesI_cond (dt_idle _ _) (t:=false) (by simp [Act.eval]) ?_
 simp only [if_true,if_false,Bool.false_eq_true]
 refine goesI_seq (dt_idle _ _) ?_
 refine goesI_region (dt_idle _ _) ?_
 simp only [List.size_toArray,List.length_cons,List.length_nil,Nat.reduceAdd,Nat.zero_add,List.range,List.range.loop]
 iterate 2
  (refine goesI_oper rfl rfl (by decide) (fun d K hK=>?_)
   go_simp
   refine hK _ _ ⟨dt_reads (fun e he=>?_),GoesI.at ?_ d⟩
   ·have hm:=mem_listed he
    simp [go_sem, *] at hm
    try exact ⟨_,_,hm⟩
    try (rcases hm with rfl|rfl<;>exact ⟨_,_,rfl⟩)
   clear hK K)
 refine goesI_regionEnd (dt_idle _ _) ?_
 refine goesI_cond (dt_idle _ _) (t:=false) (by simp [Act.eval]) ?_
 simp only [if_true,if_false,Bool.false_eq_true]
 refine goesI_seq (dt_idle _ _) ?_
 refine goesI_region (dt_idle _ _) ?_
 simp only [List.size_toArray,List.length_cons,List.length_nil,Nat.reduceAdd,Nat.zero_add,List.range,List.range.loop]
 iterate 2
  (refine goesI_oper rfl rfl (by decide) (fun d K hK=>?_)
   go_simp
   refine hK _ _ ⟨dt_reads (fun e he=>?_),GoesI.at ?_ d⟩
   ·have hm:=mem_listed he
    simp [go_sem, *] at hm
    try exact ⟨_,_,hm⟩
    try (rcases hm with rfl|rfl<;>exact ⟨_,_,rfl⟩)
   clear hK K)
 refine goesI_regionEnd (dt_idle _ _) ?_
 refine goesI_cond (dt_idle _ _) (t:=true) (by simp [Act.eval]) ?_
 simp only [if_true,if_false,Bool.false_eq_true]
 refine goesI_seq (dt_idle _ _) ?_
 refine goesI_region (dt_idle _ _) ?_
 simp only [List.size_toArray,List.length_cons,List.length_nil,Nat.reduceAdd,Nat.zero_add,List.range,List.range.loop]
 iterate 3
  (refine goesI_oper rfl rfl (by decide) (fun d K hK=>?_)
   go_simp
   refine hK _ _ ⟨dt_reads (fun e he=>?_),GoesI.at ?_ d⟩
   ·have hm:=mem_listed he
    simp [go_sem, *] at hm
    try exact ⟨_,_,hm⟩
    try (rcases hm with rfl|rfl<;>exact ⟨_,_,rfl⟩)
   clear hK K)
 refine goesI_into (f:=28) (fn:=Tryd.f28) (args:=#[Pt ob 0,Pt tb 0,.agg #[I 3,I b]]) (dt_idle _ _) rfl rfl (by decide) rfl (by simp [Act.eval]) Tryd.func28 (by decide) rfl ?_
 refine hk _ _ _ _ _ _ _ _ (hr'.re rfl rfl rfl rfl rfl rfl) rfl ?_ _ rfl
 clear hk hr' hn' d0 d1
 intro z1 Ch1 St w2 v2 S1 K1 a r2 n2 m2 hM hO hk
 have hpb:v2.heap[N+1]? = some (.cells #[I 0,I 0] 38 (0,0)):=has_one.1 hM
 have hO1:¬ Own S1 K1 (N+1):=hO (N+1) (by rw [oneM_at];simp)
 have he:=ans_evo m2 hO1 70 a.1
 have hk:=fun w' r' n'=>hk (ansW v2 (N+1) 70 a.1) w' r' n' (he.wider (fun b _ hb=>by rw [show b=N+1 from hb,oneM_at];simp))
 walk_nrm
 iterate 2
  (refine goesI_oper rfl rfl (by decide) (fun d K hK=>?_)
   go_simp
   refine hK _ _ ⟨dt_reads (fun e he=>?_),GoesI.at ?_ d⟩
   ·have hm:=mem_listed he
    simp [go_sem, *] at hm
    try exact ⟨_,_,hm⟩
    try (rcases hm with rfl|rfl<;>exact ⟨_,_,rfl⟩)
   clear hK K)
 have q0:v2.cell? ⟨N+1,0,none⟩=some (I 0):=by simp [World.cell?,hpb]
 have q1:v2.cell? ⟨N+1,1,none⟩=some (I 0):=by simp [World.cell?,hpb]
 have p0:v2.frozen? ⟨N+1,0,none⟩=false:=by simp [World.frozen?,hpb]
 have p1:v2.frozen? ⟨N+1,1,none⟩=false:=by simp [World.frozen?,hpb]
 have hrow:=ans_row hpb (70) (a.1)
 refine goesI_doZ (L:=LT) rfl rfl (by decide) (fineOp_ask callT extT (by kernel_rfl)) r2 n2 (v':=ansW v2 (N+1) (70) (a.1)) (by unfold ansW;go_simp) rfl (fun w9 r9 n9=>?_)
 refine goesI_regionEnd (dt_idle _ _) ?_
 refine GoesI.ctl rfl (fun _=>stepG_ret') (dt_idle _ _) ?_
 refine goesI_unwind_clo (dt_idle _ _) rfl Tryd.func100 (by kernel_rfl) rfl ?_
 simp only [Tryd.ntmps100,List.size_toArray,List.length_cons,List.length_nil,Nat.reduceAdd,Nat.reduceSub,Array.replicate_succ,Array.replicate_zero,List.push_toArray,List.append_toArray,List.nil_append,List.cons_append]
 refine goesI_seq (dt_idle _ _) ?_
 refine goesI_region (dt_idle _ _) ?_
 simp only [List.size_toArray,List.length_cons,List.length_nil,Nat.reduceAdd,Nat.zero_add,List.range,List.range.loop]
 refine goesI_recover_none (dt_idle _ _) rfl rfl rfl rfl (fun w=>by go_simp) (fun w=>by simp [go_sem,execOp,resolve,invoke,builtin]) ?_
 (refine goesI_oper rfl rfl (by decide) (fun d K hK=>?_)
  go_simp
  refine hK _ _ ⟨dt_reads (fun e he=>?_),GoesI.at ?_ d⟩
  ·have hm:=mem_listed he
   simp [go_sem,ev_nil, *] at hm
  clear hK K)
 refine goesI_regionEnd (dt_idle _ _) ?_
 refine goesI_cond (dt_idle _ _) (t:=false) rfl ?_
 simp only [if_true,if_false,Bool.false_eq_true]
 refine goesI_skip (dt_idle _ _) ?_
 refine goesI_end (dt_idle _ _) ?_
 refine GoesI.ctl rfl (fun w=>stepG_backR Tryd.func100 rfl rfl) (dt_idle _ _) ?_
 refine goesI_leaveZ (f:=66) (fn:=Tryd.f66) (x:=.agg #[I (70),I (a.1)]) r9 n9 Tryd.func66 rfl hoc ?_ (fun w' r'=>hk w' r' n9)
 generalize ansW v2 (N+1) (70) (a.1)=V at hrow
 have k0:V.cell? ⟨N+1,0,none⟩=some (I (70)):=by simp [World.cell?,hrow]
 have k1:V.cell? ⟨N+1,1,none⟩=some (I (a.1)):=by simp [World.cell?,hrow]
 simp [results,go_sem,Tryd.f66,Frame.at, *]
theorem come4 {z:Nat→Option Nat} {Ch:Nat→Prop} {Stop:Goroutine→World→Prop} {main:Bool} {v w:World} {ob tb:Nat} {kd b:Int} (hkd0:kd≠0) (hkd1:kd≠1) (hkd2:kd≠2) (hkd3:kd≠3) (cs:List Frame) {bc:Frame} {ac:Act} {ops:Array Oper} {q:Nat} {rest:List Nat} {oc:Oper} {k0:List Item} (hoc:ops[q]? = some oc) (hvw:Rel z v w) (hn:NoRow Ch v)
 (hk:∀ v' w',Rel z v' w'→NoRow Ch v'→Grows v v'→GoesI Tryd.prog main (DT (ScZ z) Ch) Stop (G (bc.at (ac.put oc.dst (.agg #[I (1),I (0)])) (.inRegion ops rest :: k0)) cs) w') (code:Code) (hc:Tryd.f66.body=some code) :
 GoesI Tryd.prog main (DT (ScZ z) Ch) Stop (G ((base 66).at { tmps:=#[Pt ob 0,Pt tb 0,.agg #[I kd,I b]]++Array.replicate 31 undef,defers:=[] } [.code code]) (bc.at ac (.inRegion ops (q :: rest) :: k0) :: cs)) w:=by
 have hw0:code=.seq (seq1 tB) (seq2 tB):=by
  rw [show code=tB by unfold tB;rw [hc];rfl];exact eTB
 subst hw0
 clear hc
 refine goesI_seq (dt_idle _ _) ?_
 refine goesI_plain (z:=z) (wr:=true) (L:=LT) (I:=NoRow Ch) hE fineT noRow_keeps (fun v v' w w' es hi hr ho he=>dt_of_z v v' w w' es hi hr ho he) hvw fine_t0 rfl (by simp [base]) hn
  (Q:=fun a w'=>a={ tmps:=#[Pt ob 0,Pt tb 0,.agg #[I kd,I b],undef,undef,Pt v.heap.size 0,Pt (v.heap.size+1) 0]++Array.replicate 27 undef,defers:=[] }∧w'.heap=((v.heap.push (.cells #[I kd,I b] 52)).push (.cells #[I 0,I 0] 38))∧w'.os=v.os∧w'.output=v.output) (fun τ=>?_) ?_
 ·unfold tB Tryd.f66 seq1
  simp only [Option.getD_some,Array.replicate_succ,Array.replicate_zero,List.push_toArray,List.append_toArray,List.nil_append,List.cons_append]
  go_wp2_with fail
  exact ⟨rfl,rfl,rfl,rfl⟩
 rintro a' v' w' ⟨rfl,hv1,hv2,hv3⟩ hr' hn' -
 have hsz:v'.heap.size=v.heap.size+2:=by rw [hv1];simp
 have hg:Grows v v':=⟨by omega,fun b hb=>by rw [hv1,Array.getElem?_push,if_neg (by simp;omega),Array.getElem?_push,if_neg (by omega)],hv2,hv3⟩
 have hb0:v'.heap[v.heap.size]? = some (.cells #[I kd,I b] 52 (0,0)):=by rw [hv1,Array.getElem?_push,if_neg (by simp<;>omega),Array.getElem?_push,if_pos (by simp)]
 have hb1:v'.heap[v.heap.size+1]? = some (.cells #[I 0,I 0] 38 (0,0)):=by rw [hv1,Array.getElem?_push,if_pos (by simp)]
 have d0:w'.cell? ⟨v.heap.size,0,none⟩=some (I kd):=by rw [hr'.cell?];simp [World.cell?,hb0]
 have d1:w'.cell? ⟨v.heap.size,1,none⟩=some (I b):=by rw [hr'.cell?];simp [World.cell?,hb0]
 clear hv1 hv2 hv3 hvw hn
 have hgr:∀ e x,Grows v (ansW v' (v.heap.size+1) e x):=fun e x=>⟨by rw [ans_size];omega,fun b hb=>by rw [ans_far _ _ _ _ _ (by omega)];exact hg.old b hb,hg.os,hg.output⟩
 have hk:=fun e x w' r' n'=>hk (ansW v' (v.heap.size+1) e x) w' r' n' (hgr e x)
 clear hgr hg hsz hb0
 have hpb:=hb1
 clear hb1
 generalize v.heap.size=N at hpb d0 d1 hk ⊢
 unfold tB Tryd.f66 seq2
 simp only [Option.getD_some,Array.replicate_succ,Array.replicate_zero,List.push_toArray,List.append_toArray,List.nil_append,List.cons_append]
 refine goesI_seq (dt_idle _ _) ?_
 refine goesI_region (dt_idle _ _) ?_
 simp only [List.size_toArray,List.length_cons,List.length_nil,Nat.reduceAdd,Nat.zero_add,List.range,List.range.loop]
 iterate 1
  (refine goesI_oper rfl rfl (by decide) (fun d K hK=>?_)
   go_simp
   refine hK _ _ ⟨dt_reads (fun e he=>?_),GoesI.at ?_ d⟩
   ·have hm:=mem_listed he
    simp [go_sem, *] at hm
    try exact ⟨_,_,hm⟩
    try (rcases hm with rfl|rfl<;>exact ⟨_,_,rfl⟩)
   clear hK K)
 refine goesI_deferV (d:=dclo 100 #[Pt N 0,Pt (N+1) 0]) (dt_idle _ _) rfl rfl (by decide) (fun w=>?_) (fun w=>?_) ?_
 ·simp [execOp,resolve,Deferred.ofValue,Act.eval,dclo,go_sem]
 ·simp [go_sem,execOp,resolve,Deferred.ofValue,Act.eval]
 refine goesI_regionEnd (dt_idle _ _) ?_
 refine goesI_seq (dt_idle _ _) ?_
 refine goesI_seq (dt_idle _ _) ?_
 refine goesI_region (dt_idle _ _) ?_
 simp only [List.size_toArray,List.length_cons,List.length_nil,Nat.reduceAdd,Nat.zero_add,List.range,List.range.loop]
 iterate 2
  (refine goesI_oper rfl rfl (by decide) (fun d K hK=>?_)
   go_simp
   refine hK _ _ ⟨dt_reads (fun e he=>?_),GoesI.at ?_ d⟩
   ·have hm:=mem_listed he
    simp [go_sem, *] at hm
    try exact ⟨_,_,hm⟩
    try (rcases hm with rfl|rfl<;>exact ⟨_,_,rfl⟩)
   clear hK K)
 refine goesI_regionEnd (dt_idle _ _) ?_
 refine goesI_block (dt_idle _ _) ?_
 refine goesI_seq (dt_idle _ _) ?_
 refine goesI_region (dt_idle _ _) ?_
 simp only [List.size_toArray,List.length_cons,List.length_nil,Nat.reduceAdd,Nat.zero_add,List.range,List.range.loop]
 iterate 2
  (refine goesI_oper rfl rfl (by decide) (fun d K hK=>?_)
   go_simp
   refine hK _ _ ⟨dt_reads (fun e he=>?_),GoesI.at ?_ d⟩
   ·have hm:=mem_listed he
    simp [go_sem, *] at hm
    try exact ⟨_,_,hm⟩
    try (rcases hm with rfl|rfl<;>exact ⟨_,_,rfl⟩)
   clear hK K)
 refine goesI_regionEnd (dt_idle _ _) ?_
 refine goesI_cond (dt_idle _ _) (t:=false) (by simp [Act.eval,hkd0]) ?_
 simp only [if_true,if_false,Bool.false_eq_true]
 refine goesI_seq (dt_idle _ _) ?_
 refine goesI_region (dt_idle _ _) ?_
 simp only [List.size_toArray,List.length_cons,List.length_nil,Nat.reduceAdd,Nat.zero_add,List.range,List.range.loop]
 iterate 2
  (refine goesI_oper rfl rfl (by decide) (fun d K hK=>?_)
   go_simp
   refine hK _ _ ⟨dt_reads (fun e he=>?_),GoesI.at ?_ d⟩
   ·have hm:=mem_listed he
    simp [go_sem, *] at hm
    try exact ⟨_,_,hm⟩
    try (rcases hm with rfl|rfl<;>exact ⟨_,_,rfl⟩)
   clear hK K)
 refine goesI_regionEnd (dt_idle _ _) ?_
 refine goesI_cond (dt_idle _ _) (t:=false) (by simp [Act.eval,hkd1]) ?_
 simp only [if_true,if_false,Bool.false_eq_true]
 refine goesI_seq (dt_idle _ _) ?_
 refine goesI_region (dt_idle _ _) ?_
 simp only [List.size_toArray,List.length_cons,List.length_nil,Nat.reduceAdd,Nat.zero_add,List.range,List.range.loop]
 iterate 2
  (refine goesI_oper rfl rfl (by decide) (fun d K hK=>?_)
   go_simp
   refine hK _ _ ⟨dt_reads (fun e he=>?_),GoesI.at ?_ d⟩
   ·have hm:=mem_listed he
    simp [go_sem, *] at hm
    try exact ⟨_,_,hm⟩
    try (rcases hm with rfl|rfl<;>exact ⟨_,_,rfl⟩)
   clear hK K)
 refine goesI_regionEnd (dt_idle _ _) ?_
 refine goesI_cond (dt_idle _ _) (t:=false) (by simp [Act.eval,hkd2]) ?_
 simp only [if_true,if_false,Bool.false_eq_true]
 refine goesI_seq (dt_idle _ _) ?_
 refine goesI_region (dt_idle _ _) ?_
 simp only [List.size_toArray,List.length_cons,List.length_nil,Nat.reduceAdd,Nat.zero_add,List.range,List.range.loop]
 iterate 2
  (refine goesI_oper rfl rfl (by decide) (fun d K hK=>?_)
   go_simp
   refine hK _ _ ⟨dt_reads (fun e he=>?_),GoesI.at ?_ d⟩
   ·have hm:=mem_listed he
    simp [go_sem, *] at hm
    try exact ⟨_,_,hm⟩
    try (rcases hm with rfl|rfl<;>exact ⟨_,_,rfl⟩)
   clear hK K)
 refine goesI_regionEnd (dt_idle _ _) ?_
 refine goesI_cond (dt_idle _ _) (t:=false) (by simp [Act.eval,hkd3]) ?_
 simp only [if_true,if_false,Bool.false_eq_true]
 refine goesI_skip (dt_idle _ _) ?_
 refine goesI_inBlock (dt_idle _ _) ?_
 refine goesI_seq (dt_idle _ _) ?_
 refine goesI_region (dt_idle _ _) ?_
 simp only [List.size_toArray,List.length_cons,List.length_nil,Nat.reduceAdd,Nat.zero_add,List.range,List.range.loop]
 iterate 1
  (refine goesI_oper rfl rfl (by decide) (fun d K hK=>?_)
   go_simp
   refine hK _ _ ⟨dt_reads (fun e he=>?_),GoesI.at ?_ d⟩
   ·have hm:=mem_listed he
    simp [go_sem, *] at hm
    try exact ⟨_,_,hm⟩
    try (rcases hm with rfl|rfl<;>exact ⟨_,_,rfl⟩)
   clear hK K)
 have q0:v'.cell? ⟨N+1,0,none⟩=some (I 0):=by simp [World.cell?,hpb]
 have q1:v'.cell? ⟨N+1,1,none⟩=some (I 0):=by simp [World.cell?,hpb]
 have p0:v'.frozen? ⟨N+1,0,none⟩=false:=by simp [World.frozen?,hpb]
 have p1:v'.frozen? ⟨N+1,1,none⟩=false:=by simp [World.frozen?,hpb]
 have hrow:=ans_row hpb (1) (0)
 refine goesI_doZ (L:=LT) rfl rfl (by decide) (fineOp_ask callT extT (by kernel_rfl)) hr' hn' (v':=ansW v' (N+1) (1) (0)) (by unfold ansW;go_simp) rfl (fun w9 r9 n9=>?_)
 refine goesI_regionEnd (dt_idle _ _) ?_
 refine GoesI.ctl rfl (fun _=>stepG_ret') (dt_idle _ _) ?_
 refine goesI_unwind_clo (dt_idle _ _) rfl Tryd.func100 (by kernel_rfl) rfl ?_
 simp only [Tryd.ntmps100,List.size_toArray,List.length_cons,List.length_nil,Nat.reduceAdd,Nat.reduceSub,Array.replicate_succ,Array.replicate_zero,List.push_toArray,List.append_toArray,List.nil_append,List.cons_append]
 refine goesI_seq (dt_idle _ _) ?_
 refine goesI_region (dt_idle _ _) ?_
 simp only [List.size_toArray,List.length_cons,List.length_nil,Nat.reduceAdd,Nat.zero_add,List.range,List.range.loop]
 refine goesI_recover_none (dt_idle _ _) rfl rfl rfl rfl (fun w=>by go_simp) (fun w=>by simp [go_sem,execOp,resolve,invoke,builtin]) ?_
 (refine goesI_oper rfl rfl (by decide) (fun d K hK=>?_)
  go_simp
  refine hK _ _ ⟨dt_reads (fun e he=>?_),GoesI.at ?_ d⟩
  ·have hm:=mem_listed he
   simp [go_sem,ev_nil, *] at hm
  clear hK K)
 refine goesI_regionEnd (dt_idle _ _) ?_
 refine goesI_cond (dt_idle _ _) (t:=false) rfl ?_
 simp only [if_true,if_false,Bool.false_eq_true]
 refine goesI_skip (dt_idle _ _) ?_
 refine goesI_end (dt_idle _ _) ?_
 refine GoesI.ctl rfl (fun w=>stepG_backR Tryd.func100 rfl rfl) (dt_idle _ _) ?_
 refine goesI_leaveZ (f:=66) (fn:=Tryd.f66) (x:=.agg #[I (1),I (0)]) r9 n9 Tryd.func66 rfl hoc ?_ (fun w' r'=>hk (1) (0) w' r' n9)
 generalize ansW v' (N+1) (1) (0)=V at hrow
 have k0:V.cell? ⟨N+1,0,none⟩=some (I (1)):=by simp [World.cell?,hrow]
 have k1:V.cell? ⟨N+1,1,none⟩=some (I (0)):=by simp [World.cell?,hrow]
 simp [results,go_sem,Tryd.f66,Frame.at, *]
theorem come3f {z:Nat→Option Nat} {Ch:Nat→Prop} {Stop:Goroutine→World→Prop} {main:Bool} {v w:World} {ob tb:Nat} {kd b:Int} (hkd:kd=3) (cs:List Frame) {bc:Frame} {ac:Act} {ops:Array Oper} {q:Nat} {rest:List Nat} {oc:Oper} {k0:List Item} (hoc:ops[q]? = some oc) (hvw:Rel z v w) (hn:NoRow Ch v)
 (hk:∀ v' w' (bd:Frame) (ad:Act) (od:Array Oper) (qd:Nat) (rd:List Nat) (oe:Oper) (kd:List Item),Rel z v' w'→NoRow Ch v'→Grows v v'→v'.heap[v.heap.size+1]? = some (.cells #[I 0,I 0] 38 (0,0))→od[qd]? = some oe→(∀ (v2 w2:World) (a:Int×Int),Rel z v2 w2→NoRow Ch v2→v2.heap[v.heap.size+1]? = some (.cells #[I 0,I 0] 38 (0,0))→(∀ w',Rel z (ansW v2 (v.heap.size+1) 70 a.1) w'→NoRow Ch (ansW v2 (v.heap.size+1) 70 a.1)→GoesI Tryd.prog main (DT (ScZ z) Ch) Stop (G (bc.at (ac.put oc.dst (.agg #[I 70,I a.1])) (.inRegion ops rest :: k0)) cs) w')→GoesI Tryd.prog main (DT (ScZ z) Ch) Stop (G (bd.at (ad.put oe.dst (.agg #[I a.1,I a.2])) (.inRegion od rd :: kd)) (bc.at ac (.inRegion ops (q :: rest) :: k0) :: cs)) w2)→∀ code,Tryd.f28.body=some code →
   GoesI Tryd.prog main (DT (ScZ z) Ch) Stop (G ((base 28).at { tmps:=#[Pt ob 0,Pt tb 0,.agg #[I 3,I b]]++Array.replicate 11 undef,defers:=[] } [.code code]) (bd.at ad (.inRegion od (qd :: rd) :: kd) :: (bc.at ac (.inRegion ops (q :: rest) :: k0) :: cs))) w') (code:Code) (hc:Tryd.f66.body=some code) :
 GoesI Tryd.prog main (DT (ScZ z) Ch) Stop (G ((base 66).at { tmps:=#[Pt ob 0,Pt tb 0,.agg #[I kd,I b]]++Array.replicate 31 undef,defers:=[] } [.code code]) (bc.at ac (.inRegion ops (q :: rest) :: k0) :: cs)) w:=by
 have hw0:code=.seq (seq1 tB) (seq2 tB):=by
  rw [show code=tB by unfold tB;rw [hc];rfl];exact eTB
 subst hw0
 clear hc
 refine goesI_seq (dt_idle _ _) ?_
 refine goesI_plain (z:=z) (wr:=true) (L:=LT) (I:=NoRow Ch) hE fineT noRow_keeps (fun v v' w w' es hi hr ho he=>dt_of_z v v' w w' es hi hr ho he) hvw fine_t0 rfl (by simp [base]) hn
  (Q:=fun a w'=>a={ tmps:=#[Pt ob 0,Pt tb 0,.agg #[I kd,I b],undef,undef,Pt v.heap.size 0,Pt (v.heap.size+1) 0]++Array.replicate 27 undef,defers:=[] }∧w'.heap=((v.heap.push (.cells #[I kd,I b] 52)).push (.cells #[I 0,I 0] 38))∧w'.os=v.os∧w'.output=v.output) (fun τ=>?_) ?_
 ·unfold tB Tryd.f66 seq1
  simp only [Option.getD_some,Array.replicate_succ,Array.replicate_zero,List.push_toArray,List.append_toArray,List.nil_append,List.cons_append]
  go_wp2_with fail
  exact ⟨rfl,rfl,rfl,rfl⟩
 rintro a' v' w' ⟨rfl,hv1,hv2,hv3⟩ hr' hn' -
 have hsz:v'.heap.size=v.heap.size+2:=by rw [hv1];simp
 have hg:Grows v v':=⟨by omega,fun b hb=>by rw [hv1,Array.getElem?_push,if_neg (by simp;omega),Array.getElem?_push,if_neg (by omega)],hv2,hv3⟩
 have hb0:v'.heap[v.heap.size]? = some (.cells #[I kd,I b] 52 (0,0)):=by rw [hv1,Array.getElem?_push,if_neg (by simp<;>omega),Array.getElem?_push,if_pos (by simp)]
 have hb1:v'.heap[v.heap.size+1]? = some (.cells #[I 0,I 0] 38 (0,0)):=by rw [hv1,Array.getElem?_push,if_pos (by simp)]
 have d0:w'.cell? ⟨v.heap.size,0,none⟩=some (I kd):=by rw [hr'.cell?];simp [World.cell?,hb0]
 have d1:w'.cell? ⟨v.heap.size,1,none⟩=some (I b):=by rw [hr'.cell?];simp [World.cell?,hb0]
 clear hv1 hv2 hv3 hvw hn
 subst hkd
 have hk:=fun w1 bd ad od qd rd oe kd (r1:Rel z v' w1)=>hk v' w1 bd ad od qd rd oe kd r1 hn' hg hb1
 clear hg hsz hb0 hb1
 generalize v.heap.size=N at d0 d1 hk ⊢
 unfold tB Tryd.f66 seq2
 simp only [Option.getD_some,Array.replicate_succ,Array.replicate_zero,List.push_toArray,List.append_toArray,List.nil_append,List.cons_append]
 refine goesI_seq (dt_idle _ _) ?_
 refine goesI_region (dt_idle _ _) ?_
 simp only [List.size_toArray,List.length_cons,List.length_nil,Nat.reduceAdd,Nat.zero_add,List.range,List.range.loop]
 iterate 1
  (refine goesI_oper rfl rfl (by decide) (fun d K hK=>?_)
   go_simp
   refine hK _ _ ⟨dt_reads (fun e he=>?_),GoesI.at ?_ d⟩
   ·have hm:=mem_listed he
    simp [go_sem, *] at hm
    try exact ⟨_,_,hm⟩
    try (rcases hm with rfl|rfl<;>exact ⟨_,_,rfl⟩)
   clear hK K)
 refine goesI_deferV (d:=dclo 100 #[Pt N 0,Pt (N+1) 0]) (dt_idle _ _) rfl rfl (by decide) (fun w=>?_) (fun w=>?_) ?_
 ·simp [execOp,resolve,Deferred.ofValue,Act.eval,dclo,go_sem]
 ·simp [go_sem,execOp,resolve,Deferred.ofValue,Act.eval]
 refine goesI_regionEnd (dt_idle _ _) ?_
 refine goesI_seq (dt_idle _ _) ?_
 refine goesI_seq (dt_idle _ _) ?_
 refine goesI_region (dt_idle _ _) ?_
 simp only [List.size_toArray,List.length_cons,List.length_nil,Nat.reduceAdd,Nat.zero_add,List.range,List.range.loop]
 iterate 2
  (refine goesI_oper rfl rfl (by decide) (fun d K hK=>?_)
   go_simp
   refine hK _ _ ⟨dt_reads (fun e he=>?_),GoesI.at ?_ d⟩
   ·have hm:=mem_listed he
    simp [go_sem, *] at hm
    try exact ⟨_,_,hm⟩
    try (rcases hm with rfl|rfl<;>exact ⟨_,_,rfl⟩)
   clear hK K)
 refine goesI_regionEnd (dt_idle _ _) ?_
 refine goesI_block (dt_idle _ _) ?_
 refine goesI_seq (dt_idle _ _) ?_
 refine goesI_region (dt_idle _ _) ?_
 simp only [List.size_toArray,List.length_cons,List.length_nil,Nat.reduceAdd,Nat.zero_add,List.range,List.range.loop]
 iterate 2
  (refine goesI_oper rfl rfl (by decide) (fun d K hK=>?_)
   go_simp
   refine hK _ _ ⟨dt_reads (fun e he=>?_),GoesI.at ?_ d⟩
   ·have hm:=mem_listed he
    simp [go_sem, *] at hm
    try exact ⟨_,_,hm⟩
    try (rcases hm with rfl|rfl<;>exact ⟨_,_,rfl⟩)
   clear hK K)
 refine goesI_regionEnd (dt_idle _ _) ?_
 refine goesI_cond (dt_idle _ _) (t:=false) (by simp [Act.eval]) ?_
 simp only [if_true,if_false,Bool.false_eq_true]
 refine goesI_seq (dt_idle _ _) ?_
 refine goesI_region (dt_idle _ _) ?_
 simp only [List.size_toArray,List.length_cons,List.length_nil,Nat.reduceAdd,Nat.zero_add,List.range,List.range.loop]
 iterate 2
  (refine goesI_oper rfl rfl (by decide) (fun d K hK=>?_)
   go_simp
   refine hK _ _ ⟨dt_reads (fun e he=>?_),GoesI.at ?_ d⟩
   ·have hm:=mem_listed he
    simp [go_sem, *] at hm
    try exact ⟨_,_,hm⟩
    try (rcases hm with rfl|rfl<;>exact ⟨_,_,rfl⟩)
   clear hK K)
 refine goesI_regionEnd (dt_idle _ _) ?_
 refine goesI_cond (dt_idle _ _) (t:=false) (by simp [Act.eval]) ?_
 simp only [if_true,if_false,Bool.false_eq_true]
 refine goesI_seq (dt_idle _ _) ?_
 refine goesI_region (dt_idle _ _) ?_
 simp only [List.size_toArray,List.length_cons,List.length_nil,Nat.reduceAdd,Nat.zero_add,List.range,List.range.loop]
 iterate 2
  (refine goesI_oper rfl rfl (by decide) (fun d K hK=>?_)
   go_simp
   refine hK _ _ ⟨dt_reads (fun e he=>?_),GoesI.at ?_ d⟩
   ·have hm:=mem_listed he
    simp [go_sem, *] at hm
    try exact ⟨_,_,hm⟩
    try (rcases hm with rfl|rfl<;>exact ⟨_,_,rfl⟩)
   clear hK K)
 refine goesI_regionEnd (dt_idle _ _) ?_
 refine goesI_cond (dt_idle _ _) (t:=false) (by simp [Act.eval]) ?_
 simp only [if_true,if_false,Bool.false_eq_true]
 refine goesI_seq (dt_idle _ _) ?_
 refine goesI_region (dt_idle _ _) ?_
 simp only [List.size_toArray,List.length_cons,List.length_nil,Nat.reduceAdd,Nat.zero_add,List.range,List.range.loop]
 iterate 2
  (refine goesI_oper rfl rfl (by decide) (fun d K hK=>?_)
   go_simp
   refine hK _ _ ⟨dt_reads (fun e he=>?_),GoesI.at ?_ d⟩
   ·have hm:=mem_listed he
    simp [go_sem, *] at hm
    try exact ⟨_,_,hm⟩
    try (rcases hm with rfl|rfl<;>exact ⟨_,_,rfl⟩)
   clear hK K)
 refine goesI_regionEnd (dt_idle _ _) ?_
 refine goesI_cond (dt_idle _ _) (t:=true) (by simp [Act.eval]) ?_
 simp only [if_true,if_false,Bool.false_eq_true]
 refine goesI_seq (dt_idle _ _) ?_
 refine goesI_region (dt_idle _ _) ?_
 simp only [List.size_toArray,List.length_cons,List.length_nil,Nat.reduceAdd,Nat.zero_add,List.range,List.range.loop]
 iterate 3
  (refine goesI_oper rfl rfl (by decide) (fun d K hK=>?_)
   go_simp
   refine hK _ _ ⟨dt_reads (fun e he=>?_),GoesI.at ?_ d⟩
   ·have hm:=mem_listed he
    simp [go_sem, *] at hm
    try exact ⟨_,_,hm⟩
    try (rcases hm with rfl|rfl<;>exact ⟨_,_,rfl⟩)
   clear hK K)
 refine goesI_into (f:=28) (fn:=Tryd.f28) (args:=#[Pt ob 0,Pt tb 0,.agg #[I 3,I b]]) (dt_idle _ _) rfl rfl (by decide) rfl (by simp [Act.eval]) Tryd.func28 (by decide) rfl ?_
 refine hk _ _ _ _ _ _ _ _ (hr'.re rfl rfl rfl rfl rfl rfl) rfl ?_ _ rfl
 clear hk hr' hn' d0 d1
 intro v2 w2 a r2 n2 hpb hk
 walk_nrm
 iterate 2
  (refine goesI_oper rfl rfl (by decide) (fun d K hK=>?_)
   go_simp
   refine hK _ _ ⟨dt_reads (fun e he=>?_),GoesI.at ?_ d⟩
   ·have hm:=mem_listed he
    simp [go_sem, *] at hm
    try exact ⟨_,_,hm⟩
    try (rcases hm with rfl|rfl<;>exact ⟨_,_,rfl⟩)
   clear hK K)
 have q0:v2.cell? ⟨N+1,0,none⟩=some (I 0):=by simp [World.cell?,hpb]
 have q1:v2.cell? ⟨N+1,1,none⟩=some (I 0):=by simp [World.cell?,hpb]
 have p0:v2.frozen? ⟨N+1,0,none⟩=false:=by simp [World.frozen?,hpb]
 have p1:v2.frozen? ⟨N+1,1,none⟩=false:=by simp [World.frozen?,hpb]
 have hrow:=ans_row hpb (70) (a.1)
 refine goesI_doZ (L:=LT) rfl rfl (by decide) (fineOp_ask callT extT (by kernel_rfl)) r2 n2 (v':=ansW v2 (N+1) (70) (a.1)) (by unfold ansW;go_simp) rfl (fun w9 r9 n9=>?_)
 refine goesI_regionEnd (dt_idle _ _) ?_
 refine GoesI.ctl rfl (fun _=>stepG_ret') (dt_idle _ _) ?_
 refine goesI_unwind_clo (dt_idle _ _) rfl Tryd.func100 (by kernel_rfl) rfl ?_
 simp only [Tryd.ntmps100,List.size_toArray,List.length_cons,List.length_nil,Nat.reduceAdd,Nat.reduceSub,Array.replicate_succ,Array.replicate_zero,List.push_toArray,List.append_toArray,List.nil_append,List.cons_append]
 refine goesI_seq (dt_idle _ _) ?_
 refine goesI_region (dt_idle _ _) ?_
 simp only [List.size_toArray,List.length_cons,List.length_nil,Nat.reduceAdd,Nat.zero_add,List.range,List.range.loop]
 refine goesI_recover_none (dt_idle _ _) rfl rfl rfl rfl (fun w=>by go_simp) (fun w=>by simp [go_sem,execOp,resolve,invoke,builtin]) ?_
 (refine goesI_oper rfl rfl (by decide) (fun d K hK=>?_)
  go_simp
  refine hK _ _ ⟨dt_reads (fun e he=>?_),GoesI.at ?_ d⟩
  ·have hm:=mem_listed he
   simp [go_sem,ev_nil, *] at hm
  clear hK K)
 refine goesI_regionEnd (dt_idle _ _) ?_
 refine goesI_cond (dt_idle _ _) (t:=false) rfl ?_
 simp only [if_true,if_false,Bool.false_eq_true]
 refine goesI_skip (dt_idle _ _) ?_
 refine goesI_end (dt_idle _ _) ?_
 refine GoesI.ctl rfl (fun w=>stepG_backR Tryd.func100 rfl rfl) (dt_idle _ _) ?_
 refine goesI_leaveZ (f:=66) (fn:=Tryd.f66) (x:=.agg #[I (70),I (a.1)]) r9 n9 Tryd.func66 rfl hoc ?_ (fun w' r'=>hk w' r' n9)
 generalize ansW v2 (N+1) (70) (a.1)=V at hrow
 have k0:V.cell? ⟨N+1,0,none⟩=some (I (70)):=by simp [World.cell?,hrow]
 have k1:V.cell? ⟨N+1,1,none⟩=some (I (a.1)):=by simp [World.cell?,hrow]
 simp [results,go_sem,Tryd.f66,Frame.at, *]
end Go.Proofs.YtfjjoohflcchnaaDoor.Gen
namespace Go.Proofs.YtfjjoohflcchnaaDoor.Gen
open Go Go.Lift Go.Conc Go.RowKit
open Go.ConcN (upd upd_same upd_ne)
def seatOk (L:Nat) (lev:Q→Nat) (cl:Q→Nat) (wq:Q→Prop):Nx→Prop
 |.ans _ _=>True
 |.turn _ j q=>1≤lev q∧lev q≤L∧j=cl q
 |.wait _ q=>1≤lev q∧lev q≤L∧wq q
def nlev (lev:Q→Nat):Nx→Nat
 |.ans _ _=>0
 |.turn _ _ q=>lev q
 |.wait _ q=>lev q
structure Met (mc:Mc) where
 L:Nat
 hL:1≤L
 lev:Q→Nat
 ws:Q→Int→Nat
 cl:Q→Nat
 wq:Q→Prop
 ws_le:∀ q x,ws q x≤3
 gq:Nat→Q→Int→Prop:=fun _ _ _=>True
 start:∀ i c,seatOk L lev cl wq (mc.start i c)
 nt:∀ q x,mc.nts q x=[]∨((mc.nts q x).length=1∧∃ op j q',(mc.turn q x).2.2=.turn op j q'∧lev q'<lev q):=by intro q x;exact .inl rfl
 stuck:∀ q,1≤lev q→lev q≤L→wq q→seatOk L lev cl wq (mc.stuck q)∧nlev lev (mc.stuck q)<lev q:=by intro q h _ _;exact ⟨trivial,h⟩
 turn:∀ i q x,gq i q x→1≤lev q→lev q≤L→seatOk L lev cl wq (mc.turn q x).2.2∧(nlev lev (mc.turn q x).2.2<lev q∨((mc.turn q x).1.1=(mc.turn q x).1.2∧(mc.turn q x).2.1=x∧nlev lev (mc.turn q x).2.2=lev q ∧
  match (mc.turn q x).2.2 with
  |.ans _ _=>False
  |.turn _ _ q'=>cl q'=cl q∧ws q' x+1≤ws q x
  |.wait _ _=>1≤ws q x))
 woke:∀ q,1≤lev q→lev q≤L→wq q→seatOk L lev cl wq (mc.woke q)∧(nlev lev (mc.woke q)<lev q∨(nlev lev (mc.woke q)=lev q ∧
  match mc.woke q with
  |.ans _ _=>False
  |.turn _ _ q'=>∀ y,ws q' y≤1
  |.wait _ _=>True))
section
variable {mc:Mc} (M:Met mc)
def sits:Ph→Prop
 |.turn _ j q _ _ _=>1≤M.lev q∧M.lev q≤M.L∧j=M.cl q
 |.wait _ q _ _ _=>1≤M.lev q∧M.lev q≤M.L∧M.wq q
 |.done _=>True
structure Gd (p:PSt):Prop where
 len:p.S.thr.length≤8
 sit:∀ i t,p.S.thr[i]? = some t→FitsN (p.l i) t∧StN (p.l i) t∧sits M (p.l i)
end
structure Stp where
 th:Int
 ce:Int
 op:Int
 ol:Int
 ne:Int
def flat (L:List Stp):List Value:=L.flatMap fun s=>[I s.th,I s.ce,I s.op,I s.ol,I s.ne]
theorem flat_app (a b:List Stp):flat (a++b)=flat a++flat b:=List.flatMap_append
structure Adds (S S':TS) (X:List Stp):Prop where
 tr:S'.tr=S.tr++flat X
 n:S'.n=S.n+X.length
theorem Adds.refl (S:TS):Adds S S []:=⟨by simp [flat],rfl⟩
theorem Adds.trans {S S1 S2:TS} {L L':List Stp} (h:Adds S S1 L) (k:Adds S1 S2 L'):Adds S S2 (L++L'):=⟨by rw [k.tr,h.tr,flat_app,List.append_assoc],by rw [k.n,h.n,List.length_append,Nat.add_assoc]⟩
section
variable {mc:Mc}
inductive Fw (mc:Mc) (i:Nat) (stk:Bool):List Cl→Nat→Bool→List (Int×Int)→List Stp→Ph→Prop
 |nil {ii:Nat} {sk:Bool} {ans:List (Int×Int)}:Fw mc i stk [] ii sk ans [] (.done ans)
 |skip {c:Cl} {rest:List Cl} {ii:Nat} {ans:List (Int×Int)} {X:List Stp} {l:Ph}:Fw mc i stk rest (ii+1) true (ans.set ii (4,0)) X l→Fw mc i stk (c :: rest) ii true ans X l
 |ans {c:Cl} {rest:List Cl} {ii:Nat} {ans:List (Int×Int)} {X:List Stp} {l:Ph} {e x:Int}:mc.set stk (mc.start i c)=.ans e x→Fw mc i stk rest (ii+1) (e==4) (ans.set ii (e,x)) X l→Fw mc i stk (c :: rest) ii false ans (⟨i,-1,9,ii,0⟩ :: ⟨i,-1,10,ii,e⟩ :: X) l
 |turn {c:Cl} {rest:List Cl} {ii:Nat} {ans:List (Int×Int)} {op:Int} {j:Nat} {q:Q}:mc.set stk (mc.start i c)=.turn op j q→Fw mc i stk (c :: rest) ii false ans [⟨i,-1,9,ii,0⟩] (.turn op j q rest ii ans)
 |wait {c:Cl} {rest:List Cl} {ii:Nat} {ans:List (Int×Int)} {j:Nat} {q:Q}:mc.set stk (mc.start i c)=.wait j q→Fw mc i stk (c :: rest) ii false ans [⟨i,-1,9,ii,0⟩] (.wait j q rest ii ans)
inductive On (mc:Mc) (i:Nat) (stk:Bool) (rest:List Cl) (ii:Nat) (ans:List (Int×Int)):Nx→List Stp→Ph→Prop
 |ans {e x:Int} {X:List Stp} {l:Ph}:Fw mc i stk rest (ii+1) (e==4) (ans.set ii (e,x)) X l→On mc i stk rest ii ans (.ans e x) (⟨i,-1,10,ii,e⟩ :: X) l
 |turn {op:Int} {j:Nat} {q:Q}:On mc i stk rest ii ans (.turn op j q) [] (.turn op j q rest ii ans)
 |wait {j:Nat} {q:Q}:On mc i stk rest ii ans (.wait j q) [] (.wait j q rest ii ans)
def ntsL (i:Nat) (l:List (Int×Int×Int)):List Stp:=l.map fun n=>⟨i,-1,n.1,n.2.1,n.2.2⟩
structure Vw where
 K:List Int
 stk:Bool
 chg:List Int
 se:Nat→Int
 l:Nat→Ph
 L:List Stp
def bump (chg:List Int) (j:Nat) (o n:Int):List Int:=if o≠n∧j<chg.length then chg.modify j (fun x=>wrap64 (x+1)) else chg
structure Els (i:Nat) (l':Ph) (v v1:Vw):Prop where
 l:v1.l=upd v.l i l'
 oth:∀ k,k≠i→v1.se k=v.se k
 own:∀ j q r k a,l'=.wait j q r k a→v1.se i=chgOf v1.chg j
inductive Mv (mc:Mc) (N:Nat) (v v1:Vw):Prop
 |stuck:v.stk=false→(∀ i,i<N→(∃ a,v.l i=.done a)∨∃ j q r k a,v.l i=.wait j q r k a∧chgOf v.chg j=v.se i)→(∃ i,i<N∧∃ j q r k a,v.l i=.wait j q r k a) →
   v1={ v with stk:=true,L:=v.L++[⟨-1,-1,7,0,0⟩] }→Mv mc N v v1
 |turn (i:Nat) (op:Int) (j:Nat) (q:Q) (rest:List Cl) (ii:Nat) (ans:List (Int×Int)) (X:List Stp) (l':Ph):i<N→v.l i=.turn op j q rest ii ans→On mc i v.stk rest ii ans (mc.set v.stk (mc.turn q (v.K.getD j 0)).2.2) X l'→Els i l' v v1 →
   v1.K=v.K.set j (mc.turn q (v.K.getD j 0)).2.1→v1.stk=v.stk→v1.chg=bump v.chg j (mc.turn q (v.K.getD j 0)).1.1 (mc.turn q (v.K.getD j 0)).1.2→v1.L=v.L++⟨i,j,op,(mc.turn q (v.K.getD j 0)).1.1,(mc.turn q (v.K.getD j 0)).1.2⟩ :: (ntsL i (mc.nts q (v.K.getD j 0))++X)→Mv mc N v v1
 |wake (i j:Nat) (q:Q) (rest:List Cl) (ii:Nat) (ans:List (Int×Int)) (X:List Stp) (l':Ph):i<N→v.l i=.wait j q rest ii ans→v.stk=false→chgOf v.chg j≠v.se i→On mc i false rest ii ans (mc.woke q) X l'→Els i l' v v1 →
   v1.K=v.K→v1.stk=false→v1.chg=v.chg→v1.L=v.L++⟨i,j,6,0,0⟩ :: X→Mv mc N v v1
 |free (i j:Nat) (q:Q) (rest:List Cl) (ii:Nat) (ans:List (Int×Int)) (X:List Stp) (l':Ph):i<N→v.l i=.wait j q rest ii ans→v.stk=true→On mc i true rest ii ans (mc.stuck q) X l'→Els i l' v v1 →
   v1.K=v.K→v1.stk=true→v1.chg=v.chg→v1.L=v.L++X→Mv mc N v v1
structure Seen (p:PSt) (v:Vw):Prop where
 K:v.K=p.K.map (·.2)
 stk:v.stk=p.S.stk
 chg:v.chg=p.S.chg
 se:∀ i,v.se i=(thrI p.S i).se
 l:v.l=p.l
 tr:p.S.tr=flat v.L
 n:p.S.n=v.L.length
 ce:∀ i t,p.S.thr[i]? = some t→∀ (j:Nat) (q:Q) (r:List Cl) (k:Nat) (a:List (Int×Int)),p.l i=.wait j q r k a→t.ce=(j:Int)
inductive Hi (mc:Mc):Nat→List (List Cl)→Vw→Vw→Prop
 |nil {k:Nat} {v:Vw}:Hi mc k [] v v
 |cons {k:Nat} {c:List Cl} {cs:List (List Cl)} {v v1 v2:Vw} {X:List Stp} {l':Ph}:Fw mc k v.stk c 0 false (List.replicate c.length (0,0)) X l'→v1.K=v.K→v1.stk=v.stk→v1.chg=v.chg→v1.L=v.L++X→Els k l' v v1→Hi mc (k+1) cs v1 v2→Hi mc k (c :: cs) v v2
end
end Go.Proofs.YtfjjoohflcchnaaDoor.Gen
