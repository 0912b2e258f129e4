/- OnceLinear, part 16 of 26: OnT, OnT2, OnS, OnPk, OnPkg, OnN. -/
import Derived.Test.YtfjjoohflcchnaaDoorOnceLinear01
import Derived.Test.YtfjjoohflcchnaaDoorOnceLinear07
import Derived.Test.YtfjjoohflcchnaaDoorOnceLinear10
import Derived.Test.YtfjjoohflcchnaaDoorOnceLinear14
import Derived.Test.YtfjjoohflcchnaaDoorOnceLinear15
set_option linter.unusedSimpArgs false
set_option linter.unusedVariables false
set_option maxHeartbeats 4000000
set_option maxRecDepth 100000
noncomputable section
namespace Go.Proofs.YtfjjoohflcchnaaDoor.Gen
open Go Go.Lift Go.Conc Go.RowKit
variable {z:Nat->Option Nat} {Ch:Nat->Prop} {Stop:Goroutine->World->Prop} {v w:World} {n ob q:Nat} {b kd:Int} {bc:Frame} {ac:Act} {ops:Array Oper} {oc:Oper} {k0:List Item}
def tB:Code:=Tryd.f66.body.getD .skip
theorem fine_t0:fineCode Tryd.prog true LT (seq1 tB):=fineCode_ask callT extT (by kernel_rfl)
theorem eTB:tB=.seq (seq1 tB) (seq2 tB):=by kernel_rfl
theorem come0 {main:Bool}{tb:Nat}(hkd:kd=0) (cs:List Frame) {rest:List Nat}(hoc:ops[q]? = some oc) (hvw:Rel z v w) (hn:NoRow Ch v)
 (hk:∀ v' w',Rel z v' w'->NoRow Ch v'->Grows v v'->GoesI Tryd.prog main (DT (ScZ z) Ch) Stop (G (bc.at (ac.put oc.dst (.agg #[I (0),I (b)])) (.inRegion ops rest :: k0)) cs) w') (code:Code) (hc:Tryd.f66.body=some code):
 GoesI Tryd.prog main (DT (ScZ z) Ch) Stop (G ((base 66).at { tmps:=#[Pt ob 0,Pt tb 0,.agg #[I kd,I b]]++Array.replicate 31 undef,defers:=[] } [.code code]) (bc.at ac (.inRegion ops (q :: rest) :: k0) :: cs)) w:=by
 have hw0:code=.seq (seq1 tB) (seq2 tB):=by rw[show code=tB by unfold tB;rw[hc];rfl];exact eTB
 subst hw0;clear hc;refine goesI_seq (dt_idle _ _) ?_;refine goesI_plain (z:=z) (wr:=true) (L:=LT) (I:=NoRow Ch) hE fineT noRow_keeps (λv v' w w' es hi hr ho he=>dt_of_z v v' w w' es hi hr ho he) hvw fine_t0 rfl (by simp[base]) hn
  (Q:=λa w'=>a={ tmps:=#[Pt ob 0,Pt tb 0,.agg #[I kd,I b],undef,undef,Pt v.heap.size 0,Pt (v.heap.size+1) 0]++Array.replicate 27 undef,defers:=[] }∧w'.heap=((v.heap.push (.cells #[I kd,I b] 52)).push (.cells #[I 0,I 0] 38))∧w'.os=v.os∧w'.output=v.output) (λτ=>?_) ?_
 .unfold tB Tryd.f66 seq1
  simp only[Qa,Sy];go_wp2_with fail;exact ⟨rfl,rfl,rfl,rfl⟩
 rintro a' v' w' ⟨rfl,hv1,hv2,hv3⟩ hr' hn' -;have hsz:v'.heap.size=v.heap.size+2:=by rw[hv1];simp
 have hg:Grows v v':=⟨by omega,λb hb=>by rw[hv1,Qg,if_neg (by simp;omega),Qg,if_neg (by omega)],hv2,hv3⟩
 have hb0:v'.heap[v.heap.size]? = some (.cells #[I kd,I b] 52 (0,0)):=by rw[hv1,Qg,if_neg (by simp<;>omega),Qg,if_pos (by simp)]
 have hb1:v'.heap[v.heap.size+1]? = some (.cells #[I 0,I 0] 38 (0,0)):=by rw[hv1,Qg,if_pos (by simp)]
 have d0:w'.cell? ⟨v.heap.size,0,none⟩=some (I kd):=by rw[hr'.cell?];simp[World.cell?,hb0]
 have d1:w'.cell? ⟨v.heap.size,1,none⟩=some (I b):=by rw[hr'.cell?];simp[World.cell?,hb0]
 clear hv1 hv2 hv3 hvw hn;subst hkd;have hgr:∀ e x,Grows v (ansW v' (v.heap.size+1) e x):=λe x=>⟨by rw[ans_size];omega,λb hb=>by rw[ans_far _ _ _ _ _ (by omega)];exact hg.old b hb,hg.os,hg.output⟩
 have hk:=λe x w' r' n'=>hk (ansW v' (v.heap.size+1) e x) w' r' n' (hgr e x);clear hgr hg hsz hb0;have hpb:=hb1;clear hb1;generalize v.heap.size=N at hpb d0 d1 hk ⊢;unfold tB Tryd.f66 seq2;simp only[Qa,Sy];refine goesI_seq (dt_idle _ _) ?_;refine goesI_region (dt_idle _ _) ?_;simp only[Sz,Sr,Nat.reduceAdd];iterate 1
  (refine goesI_oper rfl rfl (by decide) (λd K hK=>?_)
   go_simp;refine hK _ _ ⟨dt_reads (λe he=>?_),GoesI.at ?_ d⟩
   .have hm:=mem_listed he
    simp[go_sem, *] at hm
    try exact ⟨_,_,hm⟩
    try (rcases hm with rfl|rfl<;>exact ⟨_,_,rfl⟩)
   clear hK K)
 refine goesI_deferV (d:=dclo 100 #[Pt N 0,Pt (N+1) 0]) (dt_idle _ _) rfl rfl (by decide) (λw=>?_) (λw=>?_) ?_
 .simp[execOp,resolve,Deferred.ofValue,Act.eval,dclo,go_sem]
 .simp[go_sem,execOp,resolve,Deferred.ofValue,Act.eval]
 refine goesI_regionEnd (dt_idle _ _) ?_;refine goesI_seq (dt_idle _ _) ?_;refine goesI_seq (dt_idle _ _) ?_;refine goesI_region (dt_idle _ _) ?_;simp only[Sz,Sr,Nat.reduceAdd];iterate 2
  (refine goesI_oper rfl rfl (by decide) (λd K hK=>?_)
   go_simp;refine hK _ _ ⟨dt_reads (λe he=>?_),GoesI.at ?_ d⟩
   .have hm:=mem_listed he
    simp[go_sem, *] at hm
    try exact ⟨_,_,hm⟩
    try (rcases hm with rfl|rfl<;>exact ⟨_,_,rfl⟩)
   clear hK K)
 refine goesI_regionEnd (dt_idle _ _) ?_;refine goesI_block (dt_idle _ _) ?_;refine goesI_seq (dt_idle _ _) ?_;refine goesI_region (dt_idle _ _) ?_;simp only[Sz,Sr,Nat.reduceAdd];iterate 2
  (refine goesI_oper rfl rfl (by decide) (λd K hK=>?_)
   go_simp;refine hK _ _ ⟨dt_reads (λe he=>?_),GoesI.at ?_ d⟩
   .have hm:=mem_listed he
    simp[go_sem, *] at hm
    try exact ⟨_,_,hm⟩
    try (rcases hm with rfl|rfl<;>exact ⟨_,_,rfl⟩)
   clear hK K)
 refine goesI_regionEnd (dt_idle _ _) ?_;refine goesI_cond (dt_idle _ _) (t:=true) (by simp[Act.eval]) ?_;simp only[if_true,if_false,Qh];refine goesI_seq (dt_idle _ _) ?_;refine goesI_region (dt_idle _ _) ?_;simp only[Sz,Sr,Nat.reduceAdd];iterate 3
  (refine goesI_oper rfl rfl (by decide) (λd K hK=>?_)
   go_simp;refine hK _ _ ⟨dt_reads (λe he=>?_),GoesI.at ?_ d⟩
   .have hm:=mem_listed he
    simp[go_sem, *] at hm
    try exact ⟨_,_,hm⟩
    try (rcases hm with rfl|rfl<;>exact ⟨_,_,rfl⟩)
   clear hK K)
 have q0:v'.cell? ⟨N+1,0,none⟩=some (I 0):=by simp[World.cell?,hpb]
 have q1:v'.cell? ⟨N+1,1,none⟩=some (I 0):=by simp[World.cell?,hpb]
 have p0:v'.frozen? ⟨N+1,0,none⟩=false:=by simp[World.frozen?,hpb]
 have p1:v'.frozen? ⟨N+1,1,none⟩=false:=by simp[World.frozen?,hpb]
 have hrow:=Aq hpb (0) (b);refine goesI_doZ (L:=LT) rfl rfl (by decide) (fineOp_ask callT extT (by kernel_rfl)) hr' hn' (v':=ansW v' (N+1) (0) (b)) (by unfold ansW;go_simp) rfl (λw9 r9 n9=>?_);refine goesI_regionEnd (dt_idle _ _) ?_;refine GoesI.ctl rfl (λ_=>stepG_ret') (dt_idle _ _) ?_;refine goesI_unwind_clo (dt_idle _ _) rfl Tryd.func100 (by kernel_rfl) rfl ?_;simp only[Tryd.ntmps100,Sz,Nat.reduceAdd,Nat.reduceSub,Sy];refine goesI_seq (dt_idle _ _) ?_;refine goesI_region (dt_idle _ _) ?_;simp only[Sz,Sr,Nat.reduceAdd];refine goesI_recover_none (dt_idle _ _) rfl rfl rfl rfl (λw=>by go_simp) (λw=>by simp[go_sem,execOp,resolve,invoke,builtin]) ?_
 (refine goesI_oper rfl rfl (by decide) (λd K hK=>?_)
  go_simp;refine hK _ _ ⟨dt_reads (λe he=>?_),GoesI.at ?_ d⟩
  .have hm:=mem_listed he
   simp[go_sem,ev_nil, *] at hm
  clear hK K)
 refine goesI_regionEnd (dt_idle _ _) ?_;refine goesI_cond (dt_idle _ _) (t:=false) rfl ?_;simp only[if_true,if_false,Qh];refine goesI_skip (dt_idle _ _) ?_;refine goesI_end (dt_idle _ _) ?_;refine GoesI.ctl rfl (λw=>stepG_backR Tryd.func100 rfl rfl) (dt_idle _ _) ?_;refine goesI_leaveZ (f:=66) (fn:=Tryd.f66) (x:=.agg #[I (0),I (b)]) r9 n9 Tryd.func66 rfl hoc ?_ (λw' r'=>hk (0) (b) w' r' n9);generalize ansW v' (N+1) (0) (b)=V at hrow;have k0:V.cell? ⟨N+1,0,none⟩=some (I (0)):=by simp[World.cell?,hrow]
 have k1:V.cell? ⟨N+1,1,none⟩=some (I (b)):=by simp[World.cell?,hrow]
 simp[results,go_sem,Tryd.f66, *]
theorem come1 {main:Bool}{tb:Nat}(hkd:kd=1) (cs:List Frame) {rest:List Nat}(hoc:ops[q]? = some oc) (hvw:Rel z v w) (hn:NoRow Ch v)
 (hk:∀ v' w',Rel z v' w'->NoRow Ch v'->Grows v v'->GoesI Tryd.prog main (DT (ScZ z) Ch) Stop (G (bc.at (ac.put oc.dst (.agg #[I (70),I (b)])) (.inRegion ops rest :: k0)) cs) w') (code:Code) (hc:Tryd.f66.body=some code):
 GoesI Tryd.prog main (DT (ScZ z) Ch) Stop (G ((base 66).at { tmps:=#[Pt ob 0,Pt tb 0,.agg #[I kd,I b]]++Array.replicate 31 undef,defers:=[] } [.code code]) (bc.at ac (.inRegion ops (q :: rest) :: k0) :: cs)) w:=by
 have hw0:code=.seq (seq1 tB) (seq2 tB):=by rw[show code=tB by unfold tB;rw[hc];rfl];exact eTB
 subst hw0;clear hc;refine goesI_seq (dt_idle _ _) ?_;refine goesI_plain (z:=z) (wr:=true) (L:=LT) (I:=NoRow Ch) hE fineT noRow_keeps (λv v' w w' es hi hr ho he=>dt_of_z v v' w w' es hi hr ho he) hvw fine_t0 rfl (by simp[base]) hn
  (Q:=λa w'=>a={ tmps:=#[Pt ob 0,Pt tb 0,.agg #[I kd,I b],undef,undef,Pt v.heap.size 0,Pt (v.heap.size+1) 0]++Array.replicate 27 undef,defers:=[] }∧w'.heap=((v.heap.push (.cells #[I kd,I b] 52)).push (.cells #[I 0,I 0] 38))∧w'.os=v.os∧w'.output=v.output) (λτ=>?_) ?_
 .unfold tB Tryd.f66 seq1
  simp only[Qa,Sy];go_wp2_with fail;exact ⟨rfl,rfl,rfl,rfl⟩
 rintro a' v' w' ⟨rfl,hv1,hv2,hv3⟩ hr' hn' -;have hsz:v'.heap.size=v.heap.size+2:=by rw[hv1];simp
 have hg:Grows v v':=⟨by omega,λb hb=>by rw[hv1,Qg,if_neg (by simp;omega),Qg,if_neg (by omega)],hv2,hv3⟩
 have hb0:v'.heap[v.heap.size]? = some (.cells #[I kd,I b] 52 (0,0)):=by rw[hv1,Qg,if_neg (by simp<;>omega),Qg,if_pos (by simp)]
 have hb1:v'.heap[v.heap.size+1]? = some (.cells #[I 0,I 0] 38 (0,0)):=by rw[hv1,Qg,if_pos (by simp)]
 have d0:w'.cell? ⟨v.heap.size,0,none⟩=some (I kd):=by rw[hr'.cell?];simp[World.cell?,hb0]
 have d1:w'.cell? ⟨v.heap.size,1,none⟩=some (I b):=by rw[hr'.cell?];simp[World.cell?,hb0]
 clear hv1 hv2 hv3 hvw hn;subst hkd;have hgr:∀ e x,Grows v (ansW v' (v.heap.size+1) e x):=λe x=>⟨by rw[ans_size];omega,λb hb=>by rw[ans_far _ _ _ _ _ (by omega)];exact hg.old b hb,hg.os,hg.output⟩
 have hk:=λe x w' r' n'=>hk (ansW v' (v.heap.size+1) e x) w' r' n' (hgr e x);clear hgr hg hsz hb0;have hpb:=hb1;clear hb1;generalize v.heap.size=N at hpb d0 d1 hk ⊢;unfold tB Tryd.f66 seq2;simp only[Qa,Sy];refine goesI_seq (dt_idle _ _) ?_;refine goesI_region (dt_idle _ _) ?_;simp only[Sz,Sr,Nat.reduceAdd];iterate 1
  (refine goesI_oper rfl rfl (by decide) (λd K hK=>?_)
   go_simp;refine hK _ _ ⟨dt_reads (λe he=>?_),GoesI.at ?_ d⟩
   .have hm:=mem_listed he
    simp[go_sem, *] at hm
    try exact ⟨_,_,hm⟩
    try (rcases hm with rfl|rfl<;>exact ⟨_,_,rfl⟩)
   clear hK K)
 refine goesI_deferV (d:=dclo 100 #[Pt N 0,Pt (N+1) 0]) (dt_idle _ _) rfl rfl (by decide) (λw=>?_) (λw=>?_) ?_
 .simp[execOp,resolve,Deferred.ofValue,Act.eval,dclo,go_sem]
 .simp[go_sem,execOp,resolve,Deferred.ofValue,Act.eval]
 refine goesI_regionEnd (dt_idle _ _) ?_;refine goesI_seq (dt_idle _ _) ?_;refine goesI_seq (dt_idle _ _) ?_;refine goesI_region (dt_idle _ _) ?_;simp only[Sz,Sr,Nat.reduceAdd];iterate 2
  (refine goesI_oper rfl rfl (by decide) (λd K hK=>?_)
   go_simp;refine hK _ _ ⟨dt_reads (λe he=>?_),GoesI.at ?_ d⟩
   .have hm:=mem_listed he
    simp[go_sem, *] at hm
    try exact ⟨_,_,hm⟩
    try (rcases hm with rfl|rfl<;>exact ⟨_,_,rfl⟩)
   clear hK K)
 refine goesI_regionEnd (dt_idle _ _) ?_;refine goesI_block (dt_idle _ _) ?_;refine goesI_seq (dt_idle _ _) ?_;refine goesI_region (dt_idle _ _) ?_;simp only[Sz,Sr,Nat.reduceAdd];iterate 2
  (refine goesI_oper rfl rfl (by decide) (λd K hK=>?_)
   go_simp;refine hK _ _ ⟨dt_reads (λe he=>?_),GoesI.at ?_ d⟩
   .have hm:=mem_listed he
    simp[go_sem, *] at hm
    try exact ⟨_,_,hm⟩
    try (rcases hm with rfl|rfl<;>exact ⟨_,_,rfl⟩)
   clear hK K)
 refine goesI_regionEnd (dt_idle _ _) ?_;refine goesI_cond (dt_idle _ _) (t:=false) (by simp[Act.eval]) ?_;simp only[if_true,if_false,Qh];refine goesI_seq (dt_idle _ _) ?_;refine goesI_region (dt_idle _ _) ?_;simp only[Sz,Sr,Nat.reduceAdd];iterate 2
  (refine goesI_oper rfl rfl (by decide) (λd K hK=>?_)
   go_simp;refine hK _ _ ⟨dt_reads (λe he=>?_),GoesI.at ?_ d⟩
   .have hm:=mem_listed he
    simp[go_sem, *] at hm
    try exact ⟨_,_,hm⟩
    try (rcases hm with rfl|rfl<;>exact ⟨_,_,rfl⟩)
   clear hK K)
 refine goesI_regionEnd (dt_idle _ _) ?_;refine goesI_cond (dt_idle _ _) (t:=true) (by simp[Act.eval]) ?_;simp only[if_true,if_false,Qh];refine goesI_seq (dt_idle _ _) ?_;refine goesI_region (dt_idle _ _) ?_;simp only[Sz,Sr,Nat.reduceAdd];iterate 3
  (refine goesI_oper rfl rfl (by decide) (λd K hK=>?_)
   go_simp;refine hK _ _ ⟨dt_reads (λe he=>?_),GoesI.at ?_ d⟩
   .have hm:=mem_listed he
    simp[go_sem, *] at hm
    try exact ⟨_,_,hm⟩
    try (rcases hm with rfl|rfl<;>exact ⟨_,_,rfl⟩)
   clear hK K)
 have q0:v'.cell? ⟨N+1,0,none⟩=some (I 0):=by simp[World.cell?,hpb]
 have q1:v'.cell? ⟨N+1,1,none⟩=some (I 0):=by simp[World.cell?,hpb]
 have p0:v'.frozen? ⟨N+1,0,none⟩=false:=by simp[World.frozen?,hpb]
 have p1:v'.frozen? ⟨N+1,1,none⟩=false:=by simp[World.frozen?,hpb]
 have hrow:=Aq hpb (70) (b);refine goesI_doZ (L:=LT) rfl rfl (by decide) (fineOp_ask callT extT (by kernel_rfl)) hr' hn' (v':=ansW v' (N+1) (70) (b)) (by unfold ansW;go_simp) rfl (λw9 r9 n9=>?_);refine goesI_regionEnd (dt_idle _ _) ?_;refine GoesI.ctl rfl (λ_=>stepG_ret') (dt_idle _ _) ?_;refine goesI_unwind_clo (dt_idle _ _) rfl Tryd.func100 (by kernel_rfl) rfl ?_;simp only[Tryd.ntmps100,Sz,Nat.reduceAdd,Nat.reduceSub,Sy];refine goesI_seq (dt_idle _ _) ?_;refine goesI_region (dt_idle _ _) ?_;simp only[Sz,Sr,Nat.reduceAdd];refine goesI_recover_none (dt_idle _ _) rfl rfl rfl rfl (λw=>by go_simp) (λw=>by simp[go_sem,execOp,resolve,invoke,builtin]) ?_
 (refine goesI_oper rfl rfl (by decide) (λd K hK=>?_)
  go_simp;refine hK _ _ ⟨dt_reads (λe he=>?_),GoesI.at ?_ d⟩
  .have hm:=mem_listed he
   simp[go_sem,ev_nil, *] at hm
  clear hK K)
 refine goesI_regionEnd (dt_idle _ _) ?_;refine goesI_cond (dt_idle _ _) (t:=false) rfl ?_;simp only[if_true,if_false,Qh];refine goesI_skip (dt_idle _ _) ?_;refine goesI_end (dt_idle _ _) ?_;refine GoesI.ctl rfl (λw=>stepG_backR Tryd.func100 rfl rfl) (dt_idle _ _) ?_;refine goesI_leaveZ (f:=66) (fn:=Tryd.f66) (x:=.agg #[I (70),I (b)]) r9 n9 Tryd.func66 rfl hoc ?_ (λw' r'=>hk (70) (b) w' r' n9);generalize ansW v' (N+1) (70) (b)=V at hrow;have k0:V.cell? ⟨N+1,0,none⟩=some (I (70)):=by simp[World.cell?,hrow]
 have k1:V.cell? ⟨N+1,1,none⟩=some (I (b)):=by simp[World.cell?,hrow]
 simp[results,go_sem,Tryd.f66, *]
theorem ev_iface (ty:TypeId) (x:Int) (w:World):(binOp .neq 20 (.iface ty (I x)) .nilIface).events Tryd.prog w #[]=#[]:=by show Sem.events Tryd.prog (do pure (Value.bool (!(<-Op.equalIn (9999+1) 20 (.iface ty (I x)) .nilIface)))) w #[]=#[];unfold Op.equalIn;simp[go_sem]
theorem come2 {main:Bool}{tb:Nat}(hkd:kd=2) (cs:List Frame) {rest:List Nat}(hoc:ops[q]? = some oc) (hvw:Rel z v w) (hn:NoRow Ch v)
 (hk:∀ v' w',Rel z v' w'->NoRow Ch v'->Grows v v'->GoesI Tryd.prog main (DT (ScZ z) Ch) Stop (G (bc.at (ac.put oc.dst (.agg #[I (71),I (b)])) (.inRegion ops rest :: k0)) cs) w') (code:Code) (hc:Tryd.f66.body=some code):
 GoesI Tryd.prog main (DT (ScZ z) Ch) Stop (G ((base 66).at { tmps:=#[Pt ob 0,Pt tb 0,.agg #[I kd,I b]]++Array.replicate 31 undef,defers:=[] } [.code code]) (bc.at ac (.inRegion ops (q :: rest) :: k0) :: cs)) w:=by
 have hw0:code=.seq (seq1 tB) (seq2 tB):=by rw[show code=tB by unfold tB;rw[hc];rfl];exact eTB
 subst hw0;clear hc;refine goesI_seq (dt_idle _ _) ?_;refine goesI_plain (z:=z) (wr:=true) (L:=LT) (I:=NoRow Ch) hE fineT noRow_keeps (λv v' w w' es hi hr ho he=>dt_of_z v v' w w' es hi hr ho he) hvw fine_t0 rfl (by simp[base]) hn
  (Q:=λa w'=>a={ tmps:=#[Pt ob 0,Pt tb 0,.agg #[I kd,I b],undef,undef,Pt v.heap.size 0,Pt (v.heap.size+1) 0]++Array.replicate 27 undef,defers:=[] }∧w'.heap=((v.heap.push (.cells #[I kd,I b] 52)).push (.cells #[I 0,I 0] 38))∧w'.os=v.os∧w'.output=v.output) (λτ=>?_) ?_
 .unfold tB Tryd.f66 seq1
  simp only[Qa,Sy];go_wp2_with fail;exact ⟨rfl,rfl,rfl,rfl⟩
 rintro a' v' w' ⟨rfl,hv1,hv2,hv3⟩ hr' hn' -;have hsz:v'.heap.size=v.heap.size+2:=by rw[hv1];simp
 have hg:Grows v v':=⟨by omega,λb hb=>by rw[hv1,Qg,if_neg (by simp;omega),Qg,if_neg (by omega)],hv2,hv3⟩
 have hb0:v'.heap[v.heap.size]? = some (.cells #[I kd,I b] 52 (0,0)):=by rw[hv1,Qg,if_neg (by simp<;>omega),Qg,if_pos (by simp)]
 have hb1:v'.heap[v.heap.size+1]? = some (.cells #[I 0,I 0] 38 (0,0)):=by rw[hv1,Qg,if_pos (by simp)]
 have d0:w'.cell? ⟨v.heap.size,0,none⟩=some (I kd):=by rw[hr'.cell?];simp[World.cell?,hb0]
 have d1:w'.cell? ⟨v.heap.size,1,none⟩=some (I b):=by rw[hr'.cell?];simp[World.cell?,hb0]
 clear hv1 hv2 hv3 hvw hn;subst hkd;have hgr:∀ e x,Grows v (ansW v' (v.heap.size+1) e x):=λe x=>⟨by rw[ans_size];omega,λb hb=>by rw[ans_far _ _ _ _ _ (by omega)];exact hg.old b hb,hg.os,hg.output⟩
 have hk:=λe x w' r' n'=>hk (ansW v' (v.heap.size+1) e x) w' r' n' (hgr e x);clear hgr hg hsz hb0;have hpb:=hb1;clear hb1;generalize v.heap.size=N at hpb d0 d1 hk ⊢;unfold tB Tryd.f66 seq2;simp only[Qa,Sy];refine goesI_seq (dt_idle _ _) ?_;refine goesI_region (dt_idle _ _) ?_;simp only[Sz,Sr,Nat.reduceAdd];iterate 1
  (refine goesI_oper rfl rfl (by decide) (λd K hK=>?_)
   go_simp;refine hK _ _ ⟨dt_reads (λe he=>?_),GoesI.at ?_ d⟩
   .have hm:=mem_listed he
    simp[go_sem, *] at hm
    try exact ⟨_,_,hm⟩
    try (rcases hm with rfl|rfl<;>exact ⟨_,_,rfl⟩)
   clear hK K)
 refine goesI_deferV (d:=dclo 100 #[Pt N 0,Pt (N+1) 0]) (dt_idle _ _) rfl rfl (by decide) (λw=>?_) (λw=>?_) ?_
 .simp[execOp,resolve,Deferred.ofValue,Act.eval,dclo,go_sem]
 .simp[go_sem,execOp,resolve,Deferred.ofValue,Act.eval]
 refine goesI_regionEnd (dt_idle _ _) ?_;refine goesI_seq (dt_idle _ _) ?_;refine goesI_seq (dt_idle _ _) ?_;refine goesI_region (dt_idle _ _) ?_;simp only[Sz,Sr,Nat.reduceAdd];iterate 2
  (refine goesI_oper rfl rfl (by decide) (λd K hK=>?_)
   go_simp;refine hK _ _ ⟨dt_reads (λe he=>?_),GoesI.at ?_ d⟩
   .have hm:=mem_listed he
    simp[go_sem, *] at hm
    try exact ⟨_,_,hm⟩
    try (rcases hm with rfl|rfl<;>exact ⟨_,_,rfl⟩)
   clear hK K)
 refine goesI_regionEnd (dt_idle _ _) ?_;refine goesI_block (dt_idle _ _) ?_;refine goesI_seq (dt_idle _ _) ?_;refine goesI_region (dt_idle _ _) ?_;simp only[Sz,Sr,Nat.reduceAdd];iterate 2
  (refine goesI_oper rfl rfl (by decide) (λd K hK=>?_)
   go_simp;refine hK _ _ ⟨dt_reads (λe he=>?_),GoesI.at ?_ d⟩
   .have hm:=mem_listed he
    simp[go_sem, *] at hm
    try exact ⟨_,_,hm⟩
    try (rcases hm with rfl|rfl<;>exact ⟨_,_,rfl⟩)
   clear hK K)
 refine goesI_regionEnd (dt_idle _ _) ?_;refine goesI_cond (dt_idle _ _) (t:=false) (by simp[Act.eval]) ?_;simp only[if_true,if_false,Qh];refine goesI_seq (dt_idle _ _) ?_;refine goesI_region (dt_idle _ _) ?_;simp only[Sz,Sr,Nat.reduceAdd];iterate 2
  (refine goesI_oper rfl rfl (by decide) (λd K hK=>?_)
   go_simp;refine hK _ _ ⟨dt_reads (λe he=>?_),GoesI.at ?_ d⟩
   .have hm:=mem_listed he
    simp[go_sem, *] at hm
    try exact ⟨_,_,hm⟩
    try (rcases hm with rfl|rfl<;>exact ⟨_,_,rfl⟩)
   clear hK K)
 refine goesI_regionEnd (dt_idle _ _) ?_;refine goesI_cond (dt_idle _ _) (t:=false) (by simp[Act.eval]) ?_;simp only[if_true,if_false,Qh];refine goesI_seq (dt_idle _ _) ?_;refine goesI_region (dt_idle _ _) ?_;simp only[Sz,Sr,Nat.reduceAdd];iterate 2
  (refine goesI_oper rfl rfl (by decide) (λd K hK=>?_)
   go_simp;refine hK _ _ ⟨dt_reads (λe he=>?_),GoesI.at ?_ d⟩
   .have hm:=mem_listed he
    simp[go_sem, *] at hm
    try exact ⟨_,_,hm⟩
    try (rcases hm with rfl|rfl<;>exact ⟨_,_,rfl⟩)
   clear hK K)
 refine goesI_regionEnd (dt_idle _ _) ?_;refine goesI_cond (dt_idle _ _) (t:=true) (by simp[Act.eval]) ?_;simp only[if_true,if_false,Qh];refine goesI_region (dt_idle _ _) ?_;simp only[Sz,Sr,Nat.reduceAdd];iterate 2
  (refine goesI_oper rfl rfl (by decide) (λd K hK=>?_)
   go_simp;refine hK _ _ ⟨dt_reads (λe he=>?_),GoesI.at ?_ d⟩
   .have hm:=mem_listed he
    simp[go_sem, *] at hm
    try exact ⟨_,_,hm⟩
    try (rcases hm with rfl|rfl<;>exact ⟨_,_,rfl⟩)
   clear hK K)
 refine goesI_oper rfl rfl (by decide) (λd K hK=>?_);go_simp;refine hK _ _ ⟨dt_reads (λe he=>?_),GoesI.at ?_ d⟩
 .have hm:=mem_listed he
  simp[go_sem,Instr.makeInterface, *] at hm
 clear hK K;refine GoesI.ctl rfl (λw=>stepG_panic (v:=.iface 3 (I b)) rfl rfl (by decide) (by simp[execOp,go_sem,Instr.panic,Act.eval]) (by simp[go_sem,execOp,Instr.panic,Act.eval])) (dt_idle _ _) ?_;refine GoesI.ctl rfl (λw=>stepG_unwind_cloP (f:=100) (fn:=Tryd.f100) (cap:=#[Pt N 0,Pt (N+1) 0]) (ds:=[]) rfl Tryd.func100 (by kernel_rfl) rfl) (dt_idle _ _) ?_;simp only[Tryd.ntmps100,Sz,Nat.reduceAdd,Nat.reduceSub,Sy];refine goesI_seq (dt_idle _ _) ?_;refine goesI_region (dt_idle _ _) ?_;simp only[Sz,Sr,Nat.reduceAdd];refine GoesI.ctl rfl (λw=>stepG_recover_some (v:=.iface 3 (I b)) rfl rfl rfl rfl (by go_simp) (by simp[go_sem,execOp,resolve,invoke,builtin])) (dt_idle _ _) ?_
 (refine goesI_oper rfl rfl (by decide) (λd K hK=>?_)
  go_simp;refine hK _ _ ⟨dt_reads (λe he=>?_),GoesI.at ?_ d⟩
  .have hm:=mem_listed he
   simp[go_sem,ev_iface, *] at hm
  clear hK K)
 refine goesI_regionEnd (dt_idle _ _) ?_;refine goesI_cond (dt_idle _ _) (t:=true) (by simp[Act.eval]) ?_;simp only[if_true,if_false,Qh];refine goesI_region (dt_idle _ _) ?_;simp only[Sz,Sr,Nat.reduceAdd];iterate 3
  (refine goesI_oper rfl rfl (by decide) (λd K hK=>?_)
   go_simp;refine hK _ _ ⟨dt_reads (λe he=>?_),GoesI.at ?_ d⟩
   .have hm:=mem_listed he
    simp[go_sem, *] at hm
    try exact ⟨_,_,hm⟩
    try (rcases hm with rfl|rfl<;>exact ⟨_,_,rfl⟩)
   clear hK K)
 have q0:v'.cell? ⟨N+1,0,none⟩=some (I 0):=by simp[World.cell?,hpb]
 have q1:v'.cell? ⟨N+1,1,none⟩=some (I 0):=by simp[World.cell?,hpb]
 have p0:v'.frozen? ⟨N+1,0,none⟩=false:=by simp[World.frozen?,hpb]
 have p1:v'.frozen? ⟨N+1,1,none⟩=false:=by simp[World.frozen?,hpb]
 have hrow:=Aq hpb (71) (b);refine goesI_doZ (L:=LT) rfl rfl (by decide) (fineOp_ask callT extT (by kernel_rfl)) hr' hn' (v':=ansW v' (N+1) (71) (b)) (by unfold ansW;go_simp) rfl (λw9 r9 n9=>?_);refine goesI_regionEnd (dt_idle _ _) ?_;refine goesI_end (dt_idle _ _) ?_;refine GoesI.ctl rfl (λw=>stepG_backD (v:=.iface 3 (I b)) Tryd.func100 rfl rfl) (dt_idle _ _) ?_;change GoesI Tryd.prog main (DT (ScZ z) Ch) Stop (G { (base 66).at ⟨_,[]⟩ _ with mode:=.returning } _) _;refine goesI_leaveZ (f:=66) (fn:=Tryd.f66) (x:=.agg #[I (71),I (b)]) r9 n9 Tryd.func66 rfl hoc ?_ (λw' r'=>hk (71) (b) w' r' n9);generalize ansW v' (N+1) (71) (b)=V at hrow;have k0:V.cell? ⟨N+1,0,none⟩=some (I (71)):=by simp[World.cell?,hrow]
 have k1:V.cell? ⟨N+1,1,none⟩=some (I (b)):=by simp[World.cell?,hrow]
 simp[results,go_sem,Tryd.f66,Frame.at, *]
theorem come3 {main:Bool}{tb:Nat}(hkd:kd=3) (cs:List Frame) {rest:List Nat}(hoc:ops[q]? = some oc) (hvw:Rel z v w) (hn:NoRow Ch v)
 (hk:∀ v' w' (bd:Frame) (ad:Act) (od:Array Oper) (qd:Nat) (rd:List Nat) (oe:Oper) (kd:List Item),Rel z v' w'->NoRow Ch v'->Grows v v'->v'.heap[v.heap.size+1]? = some (.cells #[I 0,I 0] 38 (0,0))->od[qd]? = some oe->KBack main (oneM (v.heap.size+1) (.cells #[I 0,I 0] 38 (0,0))) (λa=>(70,a.1)) (λr=>G (bd.at (ad.put oe.dst r) (.inRegion od rd :: kd)) (bc.at ac (.inRegion ops (q :: rest) :: k0) :: cs)) (λr=>(G (bc.at (ac.put oc.dst r) (.inRegion ops rest :: k0)) cs))->∀ code,Tryd.f28.body=some code ->
   GoesI Tryd.prog main (DT (ScZ z) Ch) Stop (G ((base 28).at { tmps:=#[Pt ob 0,Pt tb 0,.agg #[I 3,I b]]++Array.replicate 11 undef,defers:=[] } [.code code]) (bd.at ad (.inRegion od (qd :: rd):: kd):: (bc.at ac (.inRegion ops (q :: rest):: k0):: cs))) w') (code:Code) (hc:Tryd.f66.body=some code):
 GoesI Tryd.prog main (DT (ScZ z) Ch) Stop (G ((base 66).at { tmps:=#[Pt ob 0,Pt tb 0,.agg #[I kd,I b]]++Array.replicate 31 undef,defers:=[] } [.code code]) (bc.at ac (.inRegion ops (q :: rest) :: k0) :: cs)) w:=by
 have hw0:code=.seq (seq1 tB) (seq2 tB):=by rw[show code=tB by unfold tB;rw[hc];rfl];exact eTB
 subst hw0;clear hc;refine goesI_seq (dt_idle _ _) ?_;refine goesI_plain (z:=z) (wr:=true) (L:=LT) (I:=NoRow Ch) hE fineT noRow_keeps (λv v' w w' es hi hr ho he=>dt_of_z v v' w w' es hi hr ho he) hvw fine_t0 rfl (by simp[base]) hn
  (Q:=λa w'=>a={ tmps:=#[Pt ob 0,Pt tb 0,.agg #[I kd,I b],undef,undef,Pt v.heap.size 0,Pt (v.heap.size+1) 0]++Array.replicate 27 undef,defers:=[] }∧w'.heap=((v.heap.push (.cells #[I kd,I b] 52)).push (.cells #[I 0,I 0] 38))∧w'.os=v.os∧w'.output=v.output) (λτ=>?_) ?_
 .unfold tB Tryd.f66 seq1
  simp only[Qa,Sy];go_wp2_with fail;exact ⟨rfl,rfl,rfl,rfl⟩
 rintro a' v' w' ⟨rfl,hv1,hv2,hv3⟩ hr' hn' -;have hsz:v'.heap.size=v.heap.size+2:=by rw[hv1];simp
 have hg:Grows v v':=⟨by omega,λb hb=>by rw[hv1,Qg,if_neg (by simp;omega),Qg,if_neg (by omega)],hv2,hv3⟩
 have hb0:v'.heap[v.heap.size]? = some (.cells #[I kd,I b] 52 (0,0)):=by rw[hv1,Qg,if_neg (by simp<;>omega),Qg,if_pos (by simp)]
 have hb1:v'.heap[v.heap.size+1]? = some (.cells #[I 0,I 0] 38 (0,0)):=by rw[hv1,Qg,if_pos (by simp)]
 have d0:w'.cell? ⟨v.heap.size,0,none⟩=some (I kd):=by rw[hr'.cell?];simp[World.cell?,hb0]
 have d1:w'.cell? ⟨v.heap.size,1,none⟩=some (I b):=by rw[hr'.cell?];simp[World.cell?,hb0]
 clear hv1 hv2 hv3 hvw hn;subst hkd;have hk:=λw1 bd ad od qd rd oe kd (r1:Rel z v' w1)=>hk v' w1 bd ad od qd rd oe kd r1 hn' hg hb1;clear hg hsz hb0 hb1;generalize v.heap.size=N at d0 d1 hk ⊢;unfold tB Tryd.f66 seq2;simp only[Qa,Sy];refine goesI_seq (dt_idle _ _) ?_;refine goesI_region (dt_idle _ _) ?_;simp only[Sz,Sr,Nat.reduceAdd];iterate 1
  (refine goesI_oper rfl rfl (by decide) (λd K hK=>?_)
   go_simp;refine hK _ _ ⟨dt_reads (λe he=>?_),GoesI.at ?_ d⟩
   .have hm:=mem_listed he
    simp[go_sem, *] at hm
    try exact ⟨_,_,hm⟩
    try (rcases hm with rfl|rfl<;>exact ⟨_,_,rfl⟩)
   clear hK K)
 refine goesI_deferV (d:=dclo 100 #[Pt N 0,Pt (N+1) 0]) (dt_idle _ _) rfl rfl (by decide) (λw=>?_) (λw=>?_) ?_
 .simp[execOp,resolve,Deferred.ofValue,Act.eval,dclo,go_sem]
 .simp[go_sem,execOp,resolve,Deferred.ofValue,Act.eval]
 refine goesI_regionEnd (dt_idle _ _) ?_;refine goesI_seq (dt_idle _ _) ?_;refine goesI_seq (dt_idle _ _) ?_;refine goesI_region (dt_idle _ _) ?_;simp only[Sz,Sr,Nat.reduceAdd];iterate 2
  (refine goesI_oper rfl rfl (by decide) (λd K hK=>?_)
   go_simp;refine hK _ _ ⟨dt_reads (λe he=>?_),GoesI.at ?_ d⟩
   .have hm:=mem_listed he
    simp[go_sem, *] at hm
    try exact ⟨_,_,hm⟩
    try (rcases hm with rfl|rfl<;>exact ⟨_,_,rfl⟩)
   clear hK K)
 refine goesI_regionEnd (dt_idle _ _) ?_;refine goesI_block (dt_idle _ _) ?_;refine goesI_seq (dt_idle _ _) ?_;refine goesI_region (dt_idle _ _) ?_;simp only[Sz,Sr,Nat.reduceAdd];iterate 2
  (refine goesI_oper rfl rfl (by decide) (λd K hK=>?_)
   go_simp;refine hK _ _ ⟨dt_reads (λe he=>?_),GoesI.at ?_ d⟩
   .have hm:=mem_listed he
    simp[go_sem, *] at hm
    try exact ⟨_,_,hm⟩
    try (rcases hm with rfl|rfl<;>exact ⟨_,_,rfl⟩)
   clear hK K)
 refine goesI_regionEnd (dt_idle _ _) ?_;refine goesI_cond (dt_idle _ _) (t:=false) (by simp[Act.eval]) ?_;simp only[if_true,if_false,Qh];refine goesI_seq (dt_idle _ _) ?_;refine goesI_region (dt_idle _ _) ?_;simp only[Sz,Sr,Nat.reduceAdd];iterate 2
  (refine goesI_oper rfl rfl (by decide) (λd K hK=>?_)
   go_simp;refine hK _ _ ⟨dt_reads (λe he=>?_),GoesI.at ?_ d⟩
   .have hm:=mem_listed he
    simp[go_sem, *] at hm
    try exact ⟨_,_,hm⟩
    try (rcases hm with rfl|rfl<;>exact ⟨_,_,rfl⟩)
   clear hK K)
 refine goesI_regionEnd (dt_idle _ _) ?_;refine goesI_cond (dt_idle _ _) (t:=false) (by simp[Act.eval]) ?_;simp only[if_true,if_false,Qh];refine goesI_seq (dt_idle _ _) ?_;refine goesI_region (dt_idle _ _) ?_;simp only[Sz,Sr,Nat.reduceAdd];iterate 2
  (refine goesI_oper rfl rfl (by decide) (λd K hK=>?_)
   go_simp;refine hK _ _ ⟨dt_reads (λe he=>?_),GoesI.at ?_ d⟩
   .have hm:=mem_listed he
    simp[go_sem, *] at hm
    try exact ⟨_,_,hm⟩
    try (rcases hm with rfl|rfl<;>exact ⟨_,_,rfl⟩)
   clear hK K)
 refine goesI_regionEnd (dt_idle _ _) ?_;refine goesI_cond (dt_idle _ _) (t:=false) (by simp[Act.eval]) ?_;simp only[if_true,if_false,Qh];refine goesI_seq (dt_idle _ _) ?_;refine goesI_region (dt_idle _ _) ?_;simp only[Sz,Sr,Nat.reduceAdd];iterate 2
  (refine goesI_oper rfl rfl (by decide) (λd K hK=>?_)
   go_simp;refine hK _ _ ⟨dt_reads (λe he=>?_),GoesI.at ?_ d⟩
   .have hm:=mem_listed he
    simp[go_sem, *] at hm
    try exact ⟨_,_,hm⟩
    try (rcases hm with rfl|rfl<;>exact ⟨_,_,rfl⟩)
   clear hK K)
 refine goesI_regionEnd (dt_idle _ _) ?_;refine goesI_cond (dt_idle _ _) (t:=true) (by simp[Act.eval]) ?_;simp only[if_true,if_false,Qh];refine goesI_seq (dt_idle _ _) ?_;refine goesI_region (dt_idle _ _) ?_;simp only[Sz,Sr,Nat.reduceAdd];iterate 3
  (refine goesI_oper rfl rfl (by decide) (λd K hK=>?_)
   go_simp;refine hK _ _ ⟨dt_reads (λe he=>?_),GoesI.at ?_ d⟩
   .have hm:=mem_listed he
    simp[go_sem, *] at hm
    try exact ⟨_,_,hm⟩
    try (rcases hm with rfl|rfl<;>exact ⟨_,_,rfl⟩)
   clear hK K)
 refine goesI_into (f:=28) (fn:=Tryd.f28) (args:=#[Pt ob 0,Pt tb 0,.agg #[I 3,I b]]) (dt_idle _ _) rfl rfl (by decide) rfl (by simp[Act.eval]) Tryd.func28 (by decide) rfl ?_;refine hk _ _ _ _ _ _ _ _ (hr'.re rfl rfl rfl rfl rfl rfl) rfl ?_ _ rfl;clear hk hr' hn' d0 d1;intro z1 Ch1 St w2 v2 S1 K1 a r2 n2 m2 hM hO hk;have hpb:v2.heap[N+1]? = some (.cells #[I 0,I 0] 38 (0,0)):=has_one.1 hM;have hO1:¬ Own S1 K1 (N+1):=hO (N+1) (by rw[Ah];simp);have he:=ans_evo m2 hO1 70 a.1;have hk:=λw' r' n'=>hk (ansW v2 (N+1) 70 a.1) w' r' n' (he.wider (λb _ hb=>by rw[show b=N+1 from hb,Ah];simp));walk_nrm
 iterate 2
  (refine goesI_oper rfl rfl (by decide) (λd K hK=>?_)
   go_simp;refine hK _ _ ⟨dt_reads (λe he=>?_),GoesI.at ?_ d⟩
   .have hm:=mem_listed he
    simp[go_sem, *] at hm
    try exact ⟨_,_,hm⟩
    try (rcases hm with rfl|rfl<;>exact ⟨_,_,rfl⟩)
   clear hK K)
 have q0:v2.cell? ⟨N+1,0,none⟩=some (I 0):=by simp[World.cell?,hpb]
 have q1:v2.cell? ⟨N+1,1,none⟩=some (I 0):=by simp[World.cell?,hpb]
 have p0:v2.frozen? ⟨N+1,0,none⟩=false:=by simp[World.frozen?,hpb]
 have p1:v2.frozen? ⟨N+1,1,none⟩=false:=by simp[World.frozen?,hpb]
 have hrow:=Aq hpb (70) (a.1);refine goesI_doZ (L:=LT) rfl rfl (by decide) (fineOp_ask callT extT (by kernel_rfl)) r2 n2 (v':=ansW v2 (N+1) (70) (a.1)) (by unfold ansW;go_simp) rfl (λw9 r9 n9=>?_);refine goesI_regionEnd (dt_idle _ _) ?_;refine GoesI.ctl rfl (λ_=>stepG_ret') (dt_idle _ _) ?_;refine goesI_unwind_clo (dt_idle _ _) rfl Tryd.func100 (by kernel_rfl) rfl ?_;simp only[Tryd.ntmps100,Sz,Nat.reduceAdd,Nat.reduceSub,Sy];refine goesI_seq (dt_idle _ _) ?_;refine goesI_region (dt_idle _ _) ?_;simp only[Sz,Sr,Nat.reduceAdd];refine goesI_recover_none (dt_idle _ _) rfl rfl rfl rfl (λw=>by go_simp) (λw=>by simp[go_sem,execOp,resolve,invoke,builtin]) ?_
 (refine goesI_oper rfl rfl (by decide) (λd K hK=>?_)
  go_simp;refine hK _ _ ⟨dt_reads (λe he=>?_),GoesI.at ?_ d⟩
  .have hm:=mem_listed he
   simp[go_sem,ev_nil, *] at hm
  clear hK K)
 refine goesI_regionEnd (dt_idle _ _) ?_;refine goesI_cond (dt_idle _ _) (t:=false) rfl ?_;simp only[if_true,if_false,Qh];refine goesI_skip (dt_idle _ _) ?_;refine goesI_end (dt_idle _ _) ?_;refine GoesI.ctl rfl (λw=>stepG_backR Tryd.func100 rfl rfl) (dt_idle _ _) ?_;refine goesI_leaveZ (f:=66) (fn:=Tryd.f66) (x:=.agg #[I (70),I (a.1)]) r9 n9 Tryd.func66 rfl hoc ?_ (λw' r'=>hk w' r' n9);generalize ansW v2 (N+1) (70) (a.1)=V at hrow;have k0:V.cell? ⟨N+1,0,none⟩=some (I (70)):=by simp[World.cell?,hrow]
 have k1:V.cell? ⟨N+1,1,none⟩=some (I (a.1)):=by simp[World.cell?,hrow]
 simp[results,go_sem,Tryd.f66,Frame.at, *]
def Af:Obj:=.cells #[I 0,I 0] 38 (0,0)
section
variable {mc:Mc}{X:Fix mc}{z:Nat->Option Nat}{cont:Addr->Value}{Ch:Nat->Prop}{S0:TS}{K0:List (Nat×Int)}{v0:World}{Mo0 M M1 M2:Nat->Option Obj}{σ:TS}{κ:List (Nat×Int)}{S:TS}{v w v' w':World}{t:Thr}
structure NowP (X:Fix mc) (z:Nat->Option Nat) (cont:Addr->Value) (Ch:Nat->Prop) (S0:TS) (K0:List (Nat×Int)) (v0:World) (Mo0 M:Nat->Option Obj) (σ:TS) (κ:List (Nat×Int)) (S:TS) (v w:World) (t:Thr):Prop where
 now:Now X z cont Ch S0 K0 v0 Mo0 M σ κ S v w t
 hp:∀ b,M b≠none->X.pk b=none
theorem NowP.grows (N:NowP X z cont Ch S0 K0 v0 Mo0 M σ κ S v w t) (g:Grows v v') (r:Rel z v' w') (n:NoRow Ch v'):NowP X z cont Ch S0 K0 v0 Mo0 M σ κ S v' w' t :=
 ⟨N.now.on (N.now.at_.mem.grows g) r n N.now.nv N.now.at_.thr N.now.at_.tb N.now.at_.gc rfl N.now.at_.kb.2,N.hp⟩
theorem NowP.more (N:NowP X z cont Ch S0 K0 v0 Mo0 M σ κ S v w t) (g:Grows v v') (r:Rel z v' w') (n:NoRow Ch v') (hd:∀ b,M1 b≠none->v.heap.size<=b) (hm:Has M1 v') (hr:∀ b o,M1 b=some o->∃ c e f,o=.cells c e f):NowP X z cont Ch S0 K0 v0 Mo0 (uni M1 M) σ κ S v' w' t:=by
 have N1:=N.grows g r n;refine ⟨⟨N1.now.at_,N1.now.evo,N1.now.nv,N1.now.bk,uni_has hm N1.now.mo,λb hb=>?_,λb hb=>?_,uni_rows hr N1.now.row⟩,λb hb=>?_⟩
 .rcases Ak.1 hb with h|h
  exact λho=>by have:=N.now.at_.mem.lt ho;have:=hd b h;omega
  exact N1.now.far b h
 .rcases Ak.1 hb with h|h
  exact .inr (Qk N.now.evo.fr.size (hd b h));exact N.now.new b h
 .rcases Ak.1 hb with h|h
  .cases hx:X.pk b with
   |none=>rfl
   |some o =>have:=(Qb (N.now.at_.pk b o hx)).1;have:=hd b h;omega
  exact N.hp b h
theorem NowP.to (N:NowP X z cont Ch S0 K0 v0 Mo0 M σ κ S v w t) (g:Grows v v') (r:Rel z v' w') (n:NoRow Ch v') (hd:∀ b o,M1 b=some o->M b=some o∨(v.heap.size<=b∧v'.heap[b]? = some o∧∃ c e f,o=.cells c e f)):NowP X z cont Ch S0 K0 v0 Mo0 M1 σ κ S v' w' t:=by
 have N1:=N.grows g r n;have hn:∀ b,M1 b≠none->M b≠none∨v.heap.size<=b:=λb hb=>by obtain ⟨o,ho⟩:=Option.ne_none_iff_exists'.1 hb;rcases hd b o ho with h|h;exact .inl (by rw[h];simp);exact .inr h.1
 refine ⟨⟨N1.now.at_,N1.now.evo,N1.now.nv,N1.now.bk,λb o hb=>(hd b o hb).elim (N1.now.mo b o) (λh=>h.2.1),λb hb=>?_,λb hb=>?_,λb o hb=>(hd b o hb).elim (N1.now.row b o) (λh=>h.2.2)⟩,λb hb=>?_⟩
 .rcases hn b hb with h|h
  exact N1.now.far b h;exact λho=>by have:=N.now.at_.mem.lt ho;omega
 .rcases hn b hb with h|h
  exact N.now.new b h;exact .inr (Qk N.now.evo.fr.size h)
 .rcases hn b hb with h|h
  exact N.hp b h
  .cases hx:X.pk b with
   |none=>rfl
   |some o =>have:=(Qb (N.now.at_.pk b o hx)).1;omega
theorem NowP.lt (N:NowP X z cont Ch S0 K0 v0 Mo0 M σ κ S v w t) {b:Nat}(hb:M b≠none):b<v.heap.size:=by obtain ⟨o,ho⟩:=Option.ne_none_iff_exists'.1 hb;exact (Qb (N.now.mo b o ho)).1
theorem NowP.less (N:NowP X z cont Ch S0 K0 v0 Mo0 M σ κ S v w t) (hs:∀ b o,M1 b=some o->M b=some o):NowP X z cont Ch S0 K0 v0 Mo0 M1 σ κ S v w t:=by
 have hn:∀ b,M1 b≠none->M b≠none:=λb hb=>by obtain ⟨o,ho⟩:=Option.ne_none_iff_exists'.1 hb;rw[hs b o ho];simp
 exact ⟨⟨N.now.at_,N.now.evo,N.now.nv,N.now.bk,λb o hb=>N.now.mo b o (hs b o hb),λb hb=>N.now.far b (hn b hb),λb hb=>N.now.new b (hn b hb),λb o hb=>N.now.row b o (hs b o hb)⟩,λb hb=>N.hp b (hn b hb)⟩
theorem NowP.wrote (N:NowP X z cont Ch S0 K0 v0 Mo0 (uni M1 M2) σ κ S v w t) (ha:apartM M1 M2) (e:EvoP (λb=>M1 b≠none) z S κ v S κ v') (r:Rel z v' w') (n:NoRow Ch v'):NowP X z cont Ch S0 K0 v0 Mo0 M2 σ κ S v' w' t:=by
 obtain ⟨k1,k2⟩:=has_uni N.now.mo ha;have h2:∀ b,M2 b≠none->uni M1 M2 b≠none:=λb hb=>Ak.2 (.inr hb);have h2':∀ b o,M2 b=some o->uni M1 M2 b=some o:=λb o hb=>by
  cases h1:M1 b with
  |none=>exact Al h1 hb
  |some o'=>rw[ha b (by rw[h1];simp)] at hb;cases hb
 refine ⟨⟨⟨r,n,e.mem,N.now.at_.thr,N.now.at_.tb,N.now.at_.gc,N.now.at_.kb,N.now.at_.z,N.now.at_.cont,λb o hb=>?_,N.now.at_.far⟩,N.now.evo.join e (λb hb=>?_),N.now.nv,N.now.bk,λb o hb=>?_,λb hb=>N.now.far b (h2 b hb),λb hb=>N.now.new b (h2 b hb),λb o hb=>N.now.row b o (h2' b o hb)⟩,λb hb=>N.hp b (h2 b hb)⟩
 .have hv:=N.now.at_.pk b o hb
  have:=e.keeps (Qb hv).1 (N.now.at_.far b (by rw[hb];simp)) (λh=>by have h:M1 b≠none:=h;rw[N.hp b (Ak.2 (.inl h))] at hb;cases hb)
  rw[this.1];exact hv
 .have hb:M1 b≠none:=hb
  exact N.now.new b (Ak.2 (.inl hb))
 .have hv:=k2 b o hb
  have:=e.keeps (Qb hv).1 (N.now.far b (h2 b (by rw[hb];simp))) (λh=>by have h:M1 b≠none:=h;rw[ha b h] at hb;cases hb)
  rw[this.1];exact hv
end
theorem uni_assoc (A B C:Nat->Option Obj):uni A (uni B C)=uni (uni A B) C:=by funext b;unfold uni;cases A b<;>rfl
theorem apart_lt {A B:Nat->Option Obj}(ha:∀ b,A b≠none->n<=b) (hb:∀ b,B b≠none->b<n):apartM A B:=λb h=>by
 cases hx:B b with
 |none=>rfl
 |some o =>have h1:=ha b h;have h2:=hb b (by rw[hx];simp);omega
theorem one_apart {M:Nat->Option Obj}{rb:Nat}(h:M rb=none):apartM (oneM rb Af) M:=λb hb=>by rw[Ap hb];exact h
theorem kb_of {main:Bool}{rb:Nat}{c cu:Value->Goroutine}(h:∀ (z:Nat->Option Nat) (Ch:Nat->Prop) (Stop:Goroutine->World->Prop) (v w:World) (e x:Int),v.heap[rb]? = some Af->Rel z v w->NoRow Ch v->(∀ w',Rel z (ansW v rb e x) w'->NoRow Ch (ansW v rb e x)->GoesI Tryd.prog main (DT (ScZ z) Ch) Stop (cu (.agg #[I e,I x])) w')->GoesI Tryd.prog main (DT (ScZ z) Ch) Stop (c (.agg #[I e,I x])) w):KBack main (oneM rb Af) (λa=>a) c cu:=by intro z Ch Stop w v S K a hvw hn hm hM hO hk;refine h z Ch Stop v w a.1 a.2 (has_one.1 hM) hvw hn (λw' r' n'=>hk _ w' r' n' ?_);exact (ans_evo hm (hO rb (by rw[Ah];simp)) a.1 a.2).wider (λb _ hb=>by rw[show b=rb from hb,Ah];simp)
def Box3 (ob tb:Nat) (k b:Int) (b3 b4 b5:Nat) (M:Nat->Option Obj):Prop:=M b3=some (.cells #[Pt ob 0] 46 (0,0))∧M b4=some (.cells #[Pt tb 0] 48 (0,0))∧M b5=some (.cells #[I k,I b] 52 (0,0))
inductive OCtx (main:Bool) (tb kp ob:Nat) (k b:Int):Nat->(Nat->Option Obj)->(Value->Goroutine)->(Value->Goroutine)->Prop
 |base {M:Nat->Option Obj} {c cu:Value->Goroutine}:KBack main M (λa=>a) c cu->OCtx main tb kp ob k b 0 M c cu
 |nest {d:Nat} {M0 M1:Nat->Option Obj} {c cu:Value->Goroutine} {f:Frs} {a:Act} {rb b3 b4 b5:Nat}:f.Ok->OCtx main tb kp ob k b d M0 f.ret cu->Fl 62 [(0,Pt kp 0),(1,Pt tb 0),(2,.func (.func 65) #[] #[Pt b3 0,Pt b4 0,Pt b5 0]),(6,Pt rb 0),(57,Pt kp 0),(58,Pt tb 0)] a ->
   Box3 ob tb k b b3 b4 b5 M0->KBack main M1 (λa=>(70,a.1)) c (λr=>G (gDone a r) f.stack)->apartM M1 (uni (oneM rb Af) M0)->M0 rb=none->OCtx main tb kp ob k b (d+1) (uni M1 (uni (oneM rb Af) M0)) c cu
structure ODat {m:Nat}(X:Fix (mcO m)) (o ob kp cw cv:Nat):Prop where
 mem:∀ v,Has X.pk v->R1.Flds v∧v.cell? ⟨ob,0,none⟩=some (Pt kp 0)∧v.cell? ⟨kp,0,none⟩=some (Pt cw 0)∧v.cell? ⟨kp,1,none⟩=some (Pt cv 0)
 kw:X.kb[2*o]? = some cw
 kv:X.kb[2*o+1]? = some cv
abbrev GF (kp tb b3 b4 b5 rb:Nat) (a:Act):Prop:=Fl 62 [(0,Pt kp 0),(1,Pt tb 0),(2,.func (.func 65) #[] #[Pt b3 0,Pt b4 0,Pt b5 0]),(6,Pt rb 0)] a
abbrev KF (kp tb bx rb:Nat) (a:Act):Prop:=Fl 29 [(0,Pt kp 0),(1,Pt tb 0),(5,Pt bx 0),(6,Pt rb 0)] a
def kStack (a:Act) (f:Frs):List Frame:=(base 64).at a (.inRegion gO11 [4,5] :: [.code .ret,.inBlock 2,.inBlock 1,.inLoop gL,.inBlock 0]) :: f.stack
def kMo (bx rb2 rb:Nat) (e y:Int) (M:Nat->Option Obj):Nat->Option Obj:=uni (oneM bx (.cells #[I e,I y] 38 (0,0))) (uni (oneM rb2 Af) (uni (oneM rb Af) M))
def oSit {m:Nat}(X:Fix (mcO m)) (x:Nx) (Mo:Nat->Option Obj) (cu:Value->Goroutine) (g:Goroutine):Prop :=
 (∀ b o,Mo b=some o->∃ c e f,o=.cells c e f)∧∃ (o ob kp cw cv:Nat) (k b:Int) (d:Nat) (f:Frs) (rb b3 b4 b5:Nat) (a:Act) (M:Nat->Option Obj),ODat X o ob kp cw cv∧(0<=k∧k<=3)∧f.Ok∧OCtx (X.h==0) X.tb kp ob k b d M f.ret cu∧Box3 ob X.tb k b b3 b4 b5 M∧M rb=none∧GF kp X.tb b3 b4 b5 rb a ∧
   ((Mo=uni (oneM rb Af) M ∧
     ((x=.turn 1 (2*o) (1,lO o k b d X.i)∧OpBack (X.h==0) X.i (2*o) cw X.tb 1 effLoad (λr=>G (gSeen a r) f.stack) g) ∨
      (∃ c,x=.turn 1 (2*o+1) (2,lO o k b d X.i++[c])∧Fl 62 [(37,I c)] a∧OpBack (X.h==0) X.i (2*o+1) cv X.tb 1 effLoad (λr=>G (gVal a r) f.stack) g) ∨
      (∃ c,x=.turn 4 (2*o) (3,lO o k b d X.i++[c])∧OpBack (X.h==0) X.i (2*o) cw X.tb 4 (effCas c (R1.Ae 1 X.i 0)) (λr=>G (gTry a r) f.stack) g) ∨
      (x=.wait (2*o) (4,lO o k b d X.i)∧WakeBack (X.h==0) X.i X.tb ((2*o:Nat):Int) (λr=>G (gWoke a r) f.stack) g))) ∨
    (∃ (e y:Int) (bx rb2:Nat) (a2:Act),Mo=kMo bx rb2 rb e y M∧KF kp X.tb bx rb2 a2∧(0<=e∧e<1048576)∧(bx≠rb2∧bx≠rb∧M bx=none∧rb2≠rb∧M rb2=none) ∧
     ((x=.turn 2 (2*o+1) (5,lO o k b d X.i++[e,y])∧OpBack (X.h==0) X.i (2*o+1) cv X.tb 2 (effStore y) (λr=>G (kVal a2 r) (kStack a f)) g) ∨
      (x=.turn 2 (2*o) (6,lO o k b d X.i++[e,y])∧OpBack (X.h==0) X.i (2*o) cw X.tb 2 (effStore (R1.Ae 2 0 e)) (λr=>G (kWord a2 r) (kStack a f)) g))))
section
variable {m:Nat}{X:Fix (mcO m)}{z:Nat->Option Nat}{cont:Addr->Value}{Ch:Nat->Prop}{Stop:Goroutine->World->Prop}{cu:Value->Goroutine}{S0:TS}{K0:List (Nat×Int)}{v0:World}{Mo0 M:Nat->Option Obj}{σ:TS}{κ:List (Nat×Int)}{S:TS}{v w:World}{t:Thr}{H:Nx->(Nat->Option Obj)->Goroutine->Prop}
variable {o ob kp cw cv:Nat}{k b:Int}{d:Nat}{f:Frs}{rb b3 b4 b5:Nat}{a:Act}
theorem look_goes (hD:ODat X o ob kp cw cv) (hk:0<=k∧k<=3) (hf:f.Ok) (hC:OCtx (X.h==0) X.tb kp ob k b d M f.ret cu) (hB:Box3 ob X.tb k b b3 b4 b5 M) (hr:M rb=none) (hA:GF kp X.tb b3 b4 b5 rb a) (hH:∀ x Mo' g,Good v0 Mo0 x Mo'->oSit X x Mo' cu g->H x Mo' g)
 (hob:Ob X H z cont Ch Stop cu S0 K0 v0 Mo0 σ κ (.turn 1 (2*o) (1,lO o k b d X.i))) (N:NowP X z cont Ch S0 K0 v0 Mo0 (uni (oneM rb Af) M) σ κ S v w t):
 GoesI Tryd.prog (X.h==0) (DT (ScZ z) Ch) Stop (G (gFr a) f.stack) w:=by
 have htb:=N.now.at_.tb;have hgc:=N.now.at_.gc;rw[<-htb] at hA;refine get_look (h:=X.h) (i:=X.i) (j:=2*o) (cb:=cw) (kp:=kp) (rb:=rb) (cont:=cont) (cellAt κ (2*o)).2 (hD.mem v N.now.at_.pk).2.2.1 hA _ (H (.turn 1 (2*o) (1,lO o k b d X.i)) (uni (oneM rb Af) M)) (λg hg=>?_) N.now.at_.rel N.now.at_.noRow N.now.at_.mem N.now.at_.thr (N.now.cell hD.kw).1 (by rw[htb];exact N.now.at_.z) (by rw[htb,hgc];exact N.now.at_.cont) (ob_turn hob N.now);obtain ⟨a2,hA2,hg⟩:=hg;rw[htb] at hA2 hg;exact hH _ _ g (N.now.good (λ_ _ h=>by cases h)) ⟨N.now.row,o,ob,kp,cw,cv,k,b,d,f,rb,b3,b4,b5,a2,M,hD,hk,hf,hC,hB,hr,hA2,.inl ⟨rfl,.inl ⟨rfl,hg⟩⟩⟩
theorem done_goes {e y:Int}(he:0<=e∧e<1048576) (he4:e≠4) (hD:ODat X o ob kp cw cv) (hk:0<=k∧k<=3) (hf:f.Ok) (hC:OCtx (X.h==0) X.tb kp ob k b d M f.ret cu) (hB:Box3 ob X.tb k b b3 b4 b5 M) (hr:M rb=none) (hA:Fl 62 [(0,Pt kp 0),(1,Pt X.tb 0),(2,.func (.func 65) #[] #[Pt b3 0,Pt b4 0,Pt b5 0]),(6,Pt rb 0),(57,Pt kp 0),(58,Pt X.tb 0)] a) (hH:∀ x Mo' g,Good v0 Mo0 x Mo'->oSit X x Mo' cu g->H x Mo' g)
 (hob:Ob X H z cont Ch Stop cu S0 K0 v0 Mo0 σ κ (.turn 2 (2*o+1) (5,lO o k b d X.i++[e,y]))) (N:NowP X z cont Ch S0 K0 v0 Mo0 (uni (oneM rb Af) M) σ κ S v w t):
 GoesI Tryd.prog (X.h==0) (DT (ScZ z) Ch) Stop (G (gDone a (.agg #[I e,I y])) f.stack) w:=by
 refine get_came hA f.stack (λa2 o2 hA2 ho hd code hc=>?_);refine keep_in he4 _ N.now.at_.rel N.now.at_.noRow (λa3 v' w' hA3 r n g hbx hrb=>?_) code hc;have hbx':∀ b,uni (oneM rb Af) M b≠none->b<v.heap.size:=λb hb=>N.lt hb;have hM:∀ b,M b≠none->b<v.heap.size:=λb hb=>hbx' b (Ak.2 (.inr hb));have hrl:rb<v.heap.size:=hbx' rb (Ak.2 (.inl (by rw[Ah];simp)));have hMn:∀ b,v.heap.size<=b->M b=none:=λb hb=>by
  cases hx:M b with
  |none=>rfl
  |some o=>have:=hM b (by rw[hx];simp);omega
 have N1:NowP X z cont Ch S0 K0 v0 Mo0 (kMo v.heap.size (v.heap.size+1) rb e y M) σ κ S v' w' t:=N.to g r n (λb o hb=>by
  unfold kMo at hb;by_cases h1:b=v.heap.size
  .subst h1
   rw[Ai (Ah _ _)] at hb;cases hb;exact .inr ⟨Qi _,hbx,_,_,_,rfl⟩
  by_cases h2:b=v.heap.size+1
  .subst h2
   rw[Al (Ag (by omega)) (Ai (Ah _ _))] at hb;cases hb;exact .inr ⟨by omega,hrb,_,_,_,rfl⟩
  .left
   unfold uni at hb;rw[Ag h1,Ag h2] at hb;exact hb)
 have htb:=N1.now.at_.tb;have hgc:=N1.now.at_.gc;rw[<-htb] at hA3;refine keep_store (h:=X.h) (x:=y) (i:=X.i) (j:=2*o+1) (cb:=cv) (kp:=kp) (cont:=cont) (cellAt κ (2*o+1)).2 (hD.mem v' N1.now.at_.pk).2.2.2 (by simp[World.cell?,hbx]) hA3 _ (H (.turn 2 (2*o+1) (5,lO o k b d X.i++[e,y])) (kMo v.heap.size (v.heap.size+1) rb e y M)) (λg hg=>?_) N1.now.at_.rel N1.now.at_.noRow N1.now.at_.mem N1.now.at_.thr (N1.now.cell hD.kv).1 (by rw[htb];exact N1.now.at_.z) (by rw[htb,hgc];exact N1.now.at_.cont) (ob_turn hob N1.now);obtain ⟨a4,hA4,hg⟩:=hg;rw[htb] at hA4 hg;exact hH _ _ g (N1.now.good (λ_ _ h=>by cases h)) ⟨N1.now.row,o,ob,kp,cw,cv,k,b,d,f,rb,b3,b4,b5,a2,M,hD,hk,hf,hC,hB,hr,hA2,.inr ⟨e,y,v.heap.size,v.heap.size+1,a4,rfl,hA4,he,⟨by omega,by omega,hMn _ (Qi _),by omega,hMn _ (by omega)⟩,.inl ⟨rfl,hg⟩⟩⟩
theorem ctx_ans {c:Value->Goroutine}(hD:ODat X o ob kp cw cv) (hk:0<=k∧k<=3) (hC:OCtx (X.h==0) X.tb kp ob k b d M c cu) (hH:∀ x Mo' g,Good v0 Mo0 x Mo'->oSit X x Mo' cu g->H x Mo' g) (an:Int×Int)
 (hob:Ob X H z cont Ch Stop cu S0 K0 v0 Mo0 σ κ (nxO o k b d X.i an)) (N:NowP X z cont Ch S0 K0 v0 Mo0 M σ κ S v w t):
 GoesI Tryd.prog (X.h==0) (DT (ScZ z) Ch) Stop (c (.agg #[I an.1,I an.2])) w:=by
 cases hC with
 |base hK =>exact hK z Ch Stop w v S κ an N.now.at_.rel N.now.at_.noRow N.now.at_.mem N.now.mo N.now.far (λv' w' r' n' e'=>hob.ans an rfl v' w' S r' n' N.now.nv (N.now.evo.join e' (λb hb=>N.now.new b hb)))
 |@nest d M0 M1 _ _ f a rb b3 b4 b5 hf h0 hA hB hK ha1 ha2 =>obtain ⟨k1,k2⟩:=has_uni N.now.mo ha1;refine hK z Ch Stop w v S κ an N.now.at_.rel N.now.at_.noRow N.now.at_.mem k1 (λb hb=>N.now.far b (Ak.2 (.inl hb))) (λv' w' r' n' e'=>?_);exact done_goes (e:=70) (y:=an.1) (by decide) (by decide) hD hk hf h0 hB ha2 hA hH hob (N.wrote ha1 e' r' n')
theorem NowP.laid {an:Int×Int}(N:NowP X z cont Ch S0 K0 v0 Mo0 (uni (oneM rb Af) M) σ κ S v w t) (hr:M rb=none) {w':World}(r:Rel z (ansW v rb an.1 an.2) w') (n:NoRow Ch (ansW v rb an.1 an.2)):NowP X z cont Ch S0 K0 v0 Mo0 M σ κ S (ansW v rb an.1 an.2) w' t :=
 N.wrote (one_apart hr) ((ans_evo N.now.at_.mem (N.now.far rb (Ak.2 (.inl (by rw[Ah];simp)))) an.1 an.2).wider (λb _ hb=>by rw[show b=rb from hb,Ah];simp)) r n
theorem NowP.zero (N:NowP X z cont Ch S0 K0 v0 Mo0 (uni (oneM rb Af) M) σ κ S v w t):v.heap[rb]? = some Af:=N.now.mo rb _ (Ai (Ah _ _))
theorem seen_goes (x:Int) (hD:ODat X o ob kp cw cv) (hk:0<=k∧k<=3) (hf:f.Ok) (hC:OCtx (X.h==0) X.tb kp ob k b d M f.ret cu) (hB:Box3 ob X.tb k b b3 b4 b5 M) (hr:M rb=none) (hA:GF kp X.tb b3 b4 b5 rb a) (hH:∀ x Mo' g,Good v0 Mo0 x Mo'->oSit X x Mo' cu g->H x Mo' g)
 (hob:Ob X H z cont Ch Stop cu S0 K0 v0 Mo0 σ κ ((mcO m).set S.stk (Av o k b d X.i x))) (N:NowP X z cont Ch S0 K0 v0 Mo0 (uni (oneM rb Af) M) σ κ S v w t):
 GoesI Tryd.prog (X.h==0) (DT (ScZ z) Ch) Stop (G (gSeen a (I x)) f.stack) w:=by
 refine get_st (hD.mem v N.now.at_.pk).1 hA _ N.now.at_.rel N.now.at_.noRow (λa1 v1 w1 hA1 r1 n1 g1=>?_);have N1:=N.grows g1 r1 n1;have htb:=N1.now.at_.tb;have hgc:=N1.now.at_.gc;have hz:z t.tb=some 2:=by rw[htb];exact N1.now.at_.z
 have hcont:cont ⟨t.tb,2,none⟩=.chan (some t.gc):=by rw[htb,hgc];exact N1.now.at_.cont
 obtain ⟨m1,m2,m3,m4⟩:=hD.mem v1 N1.now.at_.pk;have hid:v1.cell? ⟨X.tb,1,none⟩=some (I X.i):=by rw[<-htb];exact (N1.now.at_.mem.rep.cell N1.now.at_.thr).2.1
 unfold Av at hob;by_cases h2:R1.stI x=2
 .rw[if_pos h2] at hob
  rw[<-htb] at hA1;refine get_done (h:=X.h) (i:=X.i) (j:=2*o+1) (cb:=cv) (kp:=kp) (rb:=rb) (cont:=cont) (cellAt κ (2*o+1)).2 h2 m1 m4 hA1 _ (H (.turn 1 (2*o+1) (2,lO o k b d X.i++[R1.codI x])) (uni (oneM rb Af) M)) (λg hg=>?_) r1 n1 N1.now.at_.mem N1.now.at_.thr (N1.now.cell hD.kv).1 hz hcont (ob_turn hob N1.now);obtain ⟨a2,hA2,hg⟩:=hg;rw[htb] at hA2 hg;exact hH _ _ g (N1.now.good (λ_ _ h=>by cases h)) ⟨N1.now.row,o,ob,kp,cw,cv,k,b,d,f,rb,b3,b4,b5,a2,M,hD,hk,hf,hC,hB,hr,hA2.sub (by simp),.inl ⟨rfl,.inr (.inl ⟨R1.codI x,rfl,hA2.sub (by simp),hg⟩)⟩⟩
 rw[if_neg h2] at hob;by_cases h0:R1.stI x=0
 .rw[if_pos h0] at hob
  rw[<-htb] at hA1;refine get_new (h:=X.h) (i:=X.i) (j:=2*o) (cb:=cw) (kp:=kp) (rb:=rb) (cont:=cont) (cellAt κ (2*o)).2 h0 m1 m3 hA1 _ (H (.turn 4 (2*o) (3,lO o k b d X.i++[x])) (uni (oneM rb Af) M)) (λg hg=>?_) r1 n1 N1.now.at_.mem N1.now.at_.thr (N1.now.cell hD.kw).1 hz hcont (ob_turn hob N1.now);obtain ⟨a2,hA2,hg⟩:=hg;rw[htb] at hA2 hg;exact hH _ _ g (N1.now.good (λ_ _ h=>by cases h)) ⟨N1.now.row,o,ob,kp,cw,cv,k,b,d,f,rb,b3,b4,b5,a2,M,hD,hk,hf,hC,hB,hr,hA2,.inl ⟨rfl,.inr (.inr (.inl ⟨x,rfl,hg⟩))⟩⟩
 rw[if_neg h0] at hob;by_cases hw:R1.whoI x=(X.i:Int)
 .rw[if_pos hw,set_nx] at hob
  refine get_again (bc:=f.bd) (ac:=f.ad) (ops:=f.od) (q:=f.qd) (rest:=f.rd) (oc:=f.oe) (k0:=f.kd) h2 h0 hw m1 hid hA1 f.fs hf N1.zero r1 n1 (λv2 w2 r2 n2 g2 w' r' n'=>?_);exact ctx_ans hD hk hC hH (72,0) hob ((N1.grows g2 r2 n2).laid (an:=(72,0)) hr r' n')
 rw[if_neg hw] at hob;refine get_wait (j:=2*o) (cb:=cw) h2 h0 hw m1 hid m3 (N1.now.at_.mem.cells (N1.now.cell hD.kw).1).1 hA1 _ r1 n1 (λv2 w2 a2 bd ad od qd rd oe kd hA2 r2 n2 g2 hoe hfr code hcode=>?_);have N2:=N1.grows g2 r2 n2;cases hs:S.stk with
 |true =>
  rw[hs] at hob;have hob:Ob X H z cont Ch Stop cu S0 K0 v0 Mo0 σ κ ((mcO m).stuck (4,lO o k b d X.i)):=hob;rw[stuck4] at hob;have:=await_no (i:=X.i) (main:=X.h==0) (Ch:=Ch) (Stop:=Stop) ((2*o:Nat):Int) f.stack hoe N2.now.at_.rel N2.now.at_.noRow N2.now.at_.mem hs N2.now.at_.thr (λv3 w3 r3 n3 e3=>by
   rw[hfr];have N3:NowP X z cont Ch S0 K0 v0 Mo0 (uni (oneM rb Af) M) σ κ S v3 w3 t:=⟨N2.now.on e3 r3 n3 N2.now.nv N2.now.at_.thr N2.now.at_.tb N2.now.at_.gc rfl N2.now.at_.kb.2,N2.hp⟩
   exact get_stuck (bc:=f.bd) (ac:=f.ad) (ops:=f.od) (q:=f.qd) (rest:=f.rd) (oc:=f.oe) (k0:=f.kd) hA2 f.fs hf N3.zero r3 n3 (λw' r' n'=>ctx_ans hD hk hC hH (4,0) hob (N3.laid (an:=(4,0)) hr r' n'))) code hcode
  rw[N2.now.at_.tb] at this;exact this
 |false =>
  rw[hs,(mcO m).set_false] at hob;have ee:(λr=>G (bd.at (ad.put oe.dst r) (.inRegion od rd :: kd)) f.stack)=(λr=>G (gWoke a2 r) f.stack):=funext λr=>by rw[hfr]
  have:=await_goes (h:=X.h) (cont:=cont) (i:=X.i) (Stop:=Stop) ((2*o:Nat):Int) f.stack (H (.wait (2*o) (4,lO o k b d X.i)) (uni (oneM rb Af) M)) hoe (λg hg=>hH _ _ g (N2.now.good (λ_ _ h=>by cases h)) ⟨N2.now.row,o,ob,kp,cw,cv,k,b,d,f,rb,b3,b4,b5,a2,M,hD,hk,hf,hC,hB,hr,hA2,.inl ⟨rfl,.inr (.inr (.inr ⟨rfl,by rw[<-ee,<-N2.now.at_.tb];exact hg⟩))⟩⟩) N2.now.at_.rel N2.now.at_.noRow N2.now.at_.mem hs N2.now.at_.thr hz hcont (ob_wait hob N2.now) code hcode;rw[N2.now.at_.tb] at this;exact this
def doM (n ob tb:Nat) (k b:Int):Nat->Option Obj:=uni (oneM n (.cells #[Pt ob 0] 46 (0,0))) (uni (oneM (n+1) (.cells #[Pt tb 0] 48 (0,0))) (uni (oneM (n+2) (.cells #[I k,I b] 52 (0,0))) (oneM (n+3) Af)))
theorem doM_at (n ob tb:Nat) (k b:Int):Box3 ob tb k b n (n+1) (n+2) (doM n ob tb k b)∧doM n ob tb k b (n+3)=some Af:=by refine ⟨⟨Ai (Ah _ _),Al (Ag (by omega)) (Ai (Ah _ _)),Al (Ag (by omega)) (Al (Ag (by omega)) (Ai (Ah _ _)))⟩,Al (Ag (by omega)) (Al (Ag (by omega)) (Al (Ag (by omega)) (Ah _ _)))⟩
theorem doM_ne {tb:Nat}{k:Int}{c:Nat}(h:doM n ob tb k b c≠none):c=n∨c=n+1∨c=n+2∨c=n+3:=by unfold doM at h;rcases Ak.1 h with h|h;exact .inl (Ap h);rcases Ak.1 h with h|h;exact .inr (.inl (Ap h));rcases Ak.1 h with h|h;exact .inr (.inr (.inl (Ap h)));exact .inr (.inr (.inr (Ap h)))
theorem doM_some {tb:Nat}{k:Int}{c:Nat}{o:Obj}(h:doM n ob tb k b c=some o):n<=c∧c<=n+3∧((c=n∧o=.cells #[Pt ob 0] 46 (0,0))∨(c=n+1∧o=.cells #[Pt tb 0] 48 (0,0))∨(c=n+2∧o=.cells #[I k,I b] 52 (0,0))∨(c=n+3∧o=Af)):=by obtain ⟨⟨h3,h4,h5⟩,h6⟩:=doM_at n ob tb k b;rcases doM_ne (by rw[h];simp) with rfl|rfl|rfl|rfl;rw[h3] at h;cases h;exact ⟨by omega,by omega,.inl ⟨rfl,rfl⟩⟩;rw[h4] at h;cases h;exact ⟨by omega,by omega,.inr (.inl ⟨rfl,rfl⟩)⟩;rw[h5] at h;cases h;exact ⟨by omega,by omega,.inr (.inr (.inl ⟨rfl,rfl⟩))⟩;rw[h6] at h;cases h;exact ⟨by omega,by omega,.inr (.inr (.inr ⟨rfl,rfl⟩))⟩
theorem enter_do {f0:Frs}(hf0:f0.Ok) (hD:ODat X o ob kp cw cv) (hk:0<=k∧k<=3) (hH:∀ x Mo' g,Good v0 Mo0 x Mo'->oSit X x Mo' cu g->H x Mo' g)
 (hctx:∀ f:Frs,KBack (X.h==0) (doM v.heap.size ob X.tb k b) (λa=>a) f.ret f0.ret->OCtx (X.h==0) X.tb kp ob k b d (uni (doM v.heap.size ob X.tb k b) M) f.ret cu)
 (hob:Ob X H z cont Ch Stop cu S0 K0 v0 Mo0 σ κ (.turn 1 (2*o) (1,lO o k b d X.i))) (N:NowP X z cont Ch S0 K0 v0 Mo0 M σ κ S v w t) (code:Code) (hc:Tryd.f28.body=some code):
 GoesI Tryd.prog (X.h==0) (DT (ScZ z) Ch) Stop (G ((base 28).at { tmps:=#[Pt ob 0,Pt X.tb 0,.agg #[I k,I b]]++Array.replicate 11 undef,defers:=[] } [.code code]) f0.stack) w:=by
 refine do_in (hD.mem v N.now.at_.pk).2.1 _ N.now.at_.rel N.now.at_.noRow (λa1 v1 w1 o1 hA1 r1 n1 g1 e3 e4 e5 e6 ho1 hd1 code1 hc1=>?_) code hc;have hdm:=doM_at v.heap.size ob X.tb k b
 let f1:Frs:=⟨base 28,a1,dO1,6,[7],o1,[.code .ret],f0.stack⟩
 have hret:f1.ret=λr=>G (dFr a1 r) f0.stack:=funext λr=>by show G ((base 28).at (a1.put o1.dst r) _) _=_;rw[hd1];rfl
 have hkb:KBack (X.h==0) (doM v.heap.size ob X.tb k b) (λa=>a) f1.ret f0.ret:=by
  rw[hret];refine (kb_of (rb:=v.heap.size+3) (λz Ch Stop v w e x hz hvw hn hk=>?_)).more (λc o' hb=>by obtain ⟨rfl,rfl⟩:=oneM_eq hb;exact hdm.2)
  exact do_back (bc:=f0.bd) (ac:=f0.ad) (ops:=f0.od) (q:=f0.qd) (rest:=f0.rd) (oc:=f0.oe) (k0:=f0.kd) hA1 f0.fs hf0 hz hvw hn hk
 have hC:=hctx f1 hkb;have hl1:v.heap.size+3<v1.heap.size:=(Qb e6).1;have hMn:∀ c,v.heap.size<=c->M c=none:=λc hb=>by
  cases hx:M c with
  |none=>rfl
  |some o=>have:=N.lt (b:=c) (by rw[hx];simp);omega
 have N1:NowP X z cont Ch S0 K0 v0 Mo0 (uni (doM v.heap.size ob X.tb k b) M) σ κ S v1 w1 t:=N.to g1 r1 n1 (λc o' hb=>by
  cases hx:doM v.heap.size ob X.tb k b c with
  |none =>unfold uni at hb;rw[hx] at hb;exact .inl hb
  |some o2 =>
   rw[Ai hx] at hb;cases hb;obtain ⟨q1,q2,q3⟩:=doM_some hx;rcases q3 with ⟨rfl,rfl⟩|⟨rfl,rfl⟩|⟨rfl,rfl⟩|⟨rfl,rfl⟩
   exact .inr ⟨q1,e3,_,_,_,rfl⟩;exact .inr ⟨q1,e4,_,_,_,rfl⟩;exact .inr ⟨q1,e5,_,_,_,rfl⟩;exact .inr ⟨q1,e6,_,_,_,rfl⟩)
 refine get_in _ r1 n1 (λa2 v2 w2 hA2 r2 n2 g2 hz2=>?_) code1 hc1;have N2:NowP X z cont Ch S0 K0 v0 Mo0 (uni (oneM v1.heap.size Af) (uni (doM v.heap.size ob X.tb k b) M)) σ κ S v2 w2 t:=N1.to g2 r2 n2 (λc o' hb=>by
  by_cases hcc:c=v1.heap.size
  .subst hcc
   rw[Ai (Ah _ _)] at hb;cases hb;exact .inr ⟨Qi _,hz2,_,_,_,rfl⟩
  .left
   unfold uni at hb;rw[Ag hcc] at hb;exact hb)
 have hnone:uni (doM v.heap.size ob X.tb k b) M v1.heap.size=none:=by
  cases hx:uni (doM v.heap.size ob X.tb k b) M v1.heap.size with
  |none=>rfl
  |some o=>have:=N1.lt (b:=v1.heap.size) (by rw[hx];simp);omega
 exact look_goes (f:=f1) hD hk ho1 hC ⟨Ai hdm.1.1,Ai hdm.1.2.1,Ai hdm.1.2.2⟩ hnone hA2 hH hob N2
theorem won_goes (hD:ODat X o ob kp cw cv) (hk:0<=k∧k<=3) (hf:f.Ok) (hC:OCtx (X.h==0) X.tb kp ob k b d M f.ret cu) (hB:Box3 ob X.tb k b b3 b4 b5 M) (hr:M rb=none) (hA:GF kp X.tb b3 b4 b5 rb a) (hH:∀ x Mo' g,Good v0 Mo0 x Mo'->oSit X x Mo' cu g->H x Mo' g)
 (hob:Ob X H z cont Ch Stop cu S0 K0 v0 Mo0 σ κ (Au o k b d X.i)) (N:NowP X z cont Ch S0 K0 v0 Mo0 (uni (oneM rb Af) M) σ κ S v w t):
 GoesI Tryd.prog (X.h==0) (DT (ScZ z) Ch) Stop (G (gTry a (.bool true)) f.stack) w:=by
 have hin:∀ c o',M c=some o'->uni (oneM rb Af) M c=some o':=λc o' hb=>by by_cases e:c=rb;subst e;rw[hr] at hb;cases hb;exact Al (Ag e) hb
 refine get_won hA f.stack (λa2 o2 hA2 ho2 hd2 code hc=>?_);refine clo_in (N.now.mo _ _ (hin _ _ hB.1)) (N.now.mo _ _ (hin _ _ hB.2.1)) (N.now.mo _ _ (hin _ _ hB.2.2)) _ N.now.at_.rel N.now.at_.noRow (λa3 v1 w1 o3 hA3 r1 n1 g1 hz1 ho3 hd3 code3 hc3=>?_) code hc;have hl1:v.heap.size<v1.heap.size:=(Qb hz1).1;have hkc:KBack (X.h==0) (oneM v.heap.size Af) (λa=>a) (λr=>G ((base 65).at (a3.put o3.dst r) (.inRegion cO1 [4] :: [.code .ret])) ((base 64).at a2 (.inRegion gO11 [3,4,5] :: [.code .ret,.inBlock 2,.inBlock 1,.inLoop gL,.inBlock 0]) :: f.stack)) (λr=>G (gDone a2 r) f.stack):=by refine kb_of (λz Ch Stop v w e x hz hvw hn hk=>?_);rw[hd3];refine clo_back (bc:=base 64) (ac:=a2) (ops:=gO11) (q:=3) (rest:=[4,5]) (oc:=o2) (k0:=[.code .ret,.inBlock 2,.inBlock 1,.inLoop gL,.inBlock 0]) hA3 f.stack ho2 hz hvw hn (λw' r' n'=>?_);rw[hd2];exact hk w' r' n'
 have N1:NowP X z cont Ch S0 K0 v0 Mo0 (uni (oneM v.heap.size Af) (uni (oneM rb Af) M)) σ κ S v1 w1 t:=N.to g1 r1 n1 (λc o' hb=>by
  by_cases hcc:c=v.heap.size
  .subst hcc
   rw[Ai (Ah _ _)] at hb;cases hb;exact .inr ⟨Qi _,hz1,_,_,_,rfl⟩
  .left
   unfold uni at hb;rw[Ag hcc] at hb;exact hb)
 have hap:apartM (oneM v.heap.size Af) (uni (oneM rb Af) M):=apart_lt (n:=v.heap.size) (λc hb=>by rw[Ap hb];exact Qi _) (λc hb=>N.lt hb);have fin:∀ (e y:Int),(0<=e∧e<1048576)->e≠4->Au o k b d X.i=.turn 2 (2*o+1) (5,lO o k b d X.i++[e,y])->∀ v2 w2,Rel z v2 w2->NoRow Ch v2->Grows v1 v2->GoesI Tryd.prog (X.h==0) (DT (ScZ z) Ch) Stop (G ((base 65).at (a3.put o3.dst (.agg #[I e,I y])) (.inRegion cO1 [4] :: [.code .ret])) ((base 64).at a2 (.inRegion gO11 [3,4,5] :: [.code .ret,.inBlock 2,.inBlock 1,.inLoop gL,.inBlock 0]) :: f.stack)) w2:=λe y he he4 hce v2 w2 r2 n2 g2=>by rw[hce] at hob;have N2:=N1.grows g2 r2 n2;obtain ⟨k1,k2⟩:=has_uni N2.now.mo hap;refine hkc z Ch Stop w2 v2 S κ (e,y) r2 n2 N2.now.at_.mem k1 (λc hb=>N2.now.far c (Ak.2 (.inl hb))) (λv3 w3 r3 n3 e3=>?_);exact done_goes he he4 hD hk hf hC hB hr hA2 hH hob (N2.wrote hap e3 r3 n3)
 by_cases k0:k=0;exact come0 (bc:=base 65) (ac:=a3) (ops:=cO1) (q:=3) (rest:=[4]) (oc:=o3) (k0:=[.code .ret]) k0 _ ho3 r1 n1 (fin 0 b (by decide) (by decide) (by unfold Au;rw[if_neg (by omega)];unfold cmO;rw[if_pos k0])) code3 hc3;by_cases k1:k=1;exact come1 (bc:=base 65) (ac:=a3) (ops:=cO1) (q:=3) (rest:=[4]) (oc:=o3) (k0:=[.code .ret]) k1 _ ho3 r1 n1 (fin 70 b (by decide) (by decide) (by unfold Au;rw[if_neg (by omega)];unfold cmO;rw[if_neg k0,if_pos k1])) code3 hc3;by_cases k2:k=2;exact come2 (bc:=base 65) (ac:=a3) (ops:=cO1) (q:=3) (rest:=[4]) (oc:=o3) (k0:=[.code .ret]) k2 _ ho3 r1 n1 (fin 71 b (by decide) (by decide) (by unfold Au;rw[if_neg (by omega)];unfold cmO;rw[if_neg k0,if_neg k1])) code3 hc3;have k3:k=3:=by omega
 have hce:Au o k b d X.i=.turn 1 (2*o) (1,lO o k b (d+1) X.i):=by unfold Au;rw[if_pos k3]
 rw[hce] at hob;refine come3 (bc:=base 65) (ac:=a3) (ops:=cO1) (q:=3) (rest:=[4]) (oc:=o3) (k0:=[.code .ret]) k3 _ ho3 r1 n1 (λv2 w2 bd ad od qd rd oe kd r2 n2 g2 hz2 hoe hK code4 hc4=>?_) code3 hc3;have hl2:v1.heap.size+1<v2.heap.size:=(Qb hz2).1
 let M0:=uni (oneM rb Af) M
 have N2:NowP X z cont Ch S0 K0 v0 Mo0 (uni (oneM (v1.heap.size+1) Af) (uni (oneM v.heap.size Af) (uni (oneM rb Af) M))) σ κ S v2 w2 t:=N1.to g2 r2 n2 (λc o' hb=>by
  by_cases hcc:c=v1.heap.size+1
  .subst hcc
   rw[Ai (Ah _ _)] at hb;cases hb;exact .inr ⟨by omega,hz2,_,_,_,rfl⟩
  .left
   unfold uni at hb;rw[Ag hcc] at hb;exact hb)
 rw[<-k3];refine enter_do (f0:=⟨bd,ad,od,qd,rd,oe,kd,_⟩) hoe hD hk hH (d:=d+1) (λf5 hkb=>?_) hob N2 code4 hc4;have hap2:apartM (oneM (v1.heap.size+1) Af) (oneM v.heap.size Af):=λc hb=>by rw[Ap hb];exact Ag (by omega)
 have hj:=(hkb.trans (hK.trans hkc hap2) (apart_lt (n:=v2.heap.size) (λc hb=>by have:=doM_ne hb;omega) (λc hb=>by rcases Ak.1 hb with h|h;rw[Ap h];omega;rw[Ap h];omega)))
 have hj:KBack (X.h==0) (uni (doM v2.heap.size ob X.tb k b) (uni (oneM (v1.heap.size+1) Af) (oneM v.heap.size Af))) (λa=>(70,a.1)) f5.ret (λr=>G (gDone a2 r) f.stack):=hj;have:=OCtx.nest hf hC hA2 hB hj (apart_lt (n:=v.heap.size) (λc hb=>by rcases Ak.1 hb with h|h;have:=doM_ne h;omega;rcases Ak.1 h with h|h;rw[Ap h];omega;rw[Ap h];exact Qi _) (λc hb=>N.lt hb)) hr
 rw[<-uni_assoc,<-uni_assoc] at this;exact this
end
theorem fl_join {l l':List (Nat×Value)}{a:Act}(h:Fl n l a) (h':Fl n l' a):Fl n (l++l') a:=⟨h.1,h.2.1,λp hp=>(List.mem_append.1 hp).elim (h.2.2 p) (h'.2.2 p)⟩
structure OMine (m:Nat) (X:Fix (mcO m)) (xb mb sb:Nat):Prop where
 caps:X.caps=#[Pt xb 0,Pt mb 0]
 m0:0<m
 m1:m<=1000
 mem:∀ v,Has X.pk v->R1.Flds v∧v.cell? ⟨xb,0,none⟩=some (.slice (some ⟨sb,0,none⟩) m m)∧v.cell? ⟨mb,0,none⟩=some (I m)
 obj:∀ o,o<m->∃ ob kp cw cv,X.kb[2*o]? = some cw∧X.kb[2*o+1]? = some cv∧∀ v,Has X.pk v->v.cell? ⟨sb,o,none⟩=some (Pt ob 0)∧v.cell? ⟨ob,0,none⟩=some (Pt kp 0)∧v.cell? ⟨kp,0,none⟩=some (Pt cw 0)∧v.cell? ⟨kp,1,none⟩=some (Pt cv 0)
def pkgO (m:Nat):Pkg (mcO m) 61 where
 fn:=Tryd.f61
 code:=Tryd.f61.body.getD .skip
 hf:=Tryd.func61
 hname:=by kernel_rfl
 hcode:=rfl
 Mine X:=∃ xb mb sb,OMine m X xb mb sb
 Sit:=oSit
 start:=by
  rintro X ok ⟨xb,mb,sb,hm⟩ hfid c hc cs bc ac ops q rest oc k hoc H z cont Ch Stop S K v w t A hH hob;rw[hm.caps];show GoesI Tryd.prog (X.h==0) (DT (ScZ z) Ch) Stop (G ((base 61).at { tmps:=#[Pt X.tb 0,.agg #[I c.po,I c.ca,I c.cb,I c.cc],Pt xb 0,Pt mb 0]++Array.replicate 27 undef,defers:=[] } [.code (Tryd.f61.body.getD .skip)]) (bc.at ac (.inRegion ops (q :: rest) :: k) :: cs)) w;have N0:NowP X z cont Ch S K v (λ_=>none) (λ_=>none) (Gen.nv S) K S v w t:=⟨Now.here A (λb o h=>by cases h) (λb h=>absurd rfl h) (λb o h=>by cases h),λb h=>absurd rfl h⟩
  by_cases hp:1<=c.po∧c.po<=4
  .have es:(mcO m).start X.i c=.turn 1 (2*which c.ca m) (1,lO (which c.ca m) (c.po - 1) c.cb 0 X.i):=if_pos hp
   rw[es] at hob;obtain ⟨ob,kp,cw,cv,kw,kv,hv⟩:=hm.obj (which c.ca m) (which_lt _ hm.m0);have hD:ODat X (which c.ca m) ob kp cw cv:=⟨λv hv'=>⟨(hm.mem v hv').1,(hv v hv').2⟩,kw,kv⟩
   refine call_in hp.1 hp.2 hm.m0 hm.m1 (hm.mem v A.pk).2.1 (hm.mem v A.pk).2.2 (hv v A.pk).1 _ A.rel A.noRow (λa1 v1 w1 o1 hA1 r1 n1 g1 hz1 ho1 hd1 code1 hc1=>?_) _ rfl;have N1:NowP X z cont Ch S K v (λ_=>none) (oneM (v.heap.size+1) Af) (Gen.nv S) K S v1 w1 t:=N0.to g1 r1 n1 (λb o hb=>by obtain ⟨rfl,rfl⟩:=oneM_eq hb;exact .inr ⟨by omega,hz1,_,_,_,rfl⟩)
   have hl1:v.heap.size+1<v1.heap.size:=(Qb hz1).1;refine enter_do (f0:=⟨base 61,a1,pO3,14,[15],o1,[.code .ret],bc.at ac (.inRegion ops (q :: rest) :: k) :: cs⟩) ho1 hD (by omega) hH (d:=0) (λf hkb=>?_) hob N1 code1 hc1;refine .base (hkb.trans (f2:=λa=>a) (kb_of (rb:=v.heap.size+1) (λz Ch Stop v w e x hz hvw hn hk=>?_)) (apart_lt (n:=v1.heap.size) (λc hb=>by have:=doM_ne hb;omega) (λc hb=>by rw[Ap hb];exact hl1)));show GoesI Tryd.prog (X.h==0) (DT (ScZ z) Ch) Stop (G ((base 61).at (a1.put o1.dst (.agg #[I e,I x])) (.inRegion pO3 [15] :: [.code .ret])) _) w;rw[hd1];exact call_back hA1 cs hoc hz hvw hn hk
  .have es:(mcO m).start X.i c=.ans 1 0:=if_neg hp
   rw[es] at hob;refine call_no (by omega) cs hoc A.rel A.noRow (λv' w' r' n' g'=>?_) _ rfl;have N1:=N0.grows g' r' n';exact hob.ans (1,0) rfl v' w' S r' n' rfl N1.now.evo
 turn:=by
  rintro X ok - hfid op j q Mo cu g ⟨hrow,o,ob,kp,cw,cv,k,b,d,f,rb,b3,b4,b5,a,M,hD,hk,hf,hC,hB,hr,hA,hsit⟩ H z cont Ch Stop y S K v w t A hH hop hce hl hMo hMf hMp hob;have hpk:∀ b,Mo b≠none->X.pk b=none:=λb hb=>by
   cases hx:X.pk b with
   |none=>rfl
   |some o=>exact absurd (.inr (.inr (.inr (by rw[hx];simp)))) (hMp b hb)
  have N0:NowP X z cont Ch S K v Mo Mo (Gen.nv S) K S v w t:=⟨Now.here A hMo hMf hrow,hpk⟩
  have cw':=N0.now.cell hD.kw;have cv':=N0.now.cell hD.kv;have hokK:∀ K',KOk (mcO m) K':=λK' j p _=>trivial;rcases hsit with ⟨rfl,⟨hx,hg⟩|⟨c,hx,hA37,hg⟩|⟨c,hx,hg⟩|⟨hx,_⟩⟩|⟨e,y',bx,rb2,a2,rfl,hA2,he,hne,⟨hx,hg⟩|⟨hx,hg⟩⟩
  . -- it has looked
   cases hx;refine hg z Ch Stop y w v S K t (cellAt K (2*o)).2 A.rel A.noRow A.mem A.thr A.tb hop hce cw'.1 hl (λv1 w1 tv r1 n1 e1=>?_);have sd:=sta_did (i:=X.i) S tv t (cellAt K (2*o)).2 (cellAt K (2*o)).2;have N1:NowP X z cont Ch S K v (uni (oneM rb Af) M) (uni (oneM rb Af) M) _ _ _ v1 w1 t:=⟨N0.now.on e1 r1 n1 (nv_did tv t _ _) (did_thr A.thr) A.tb A.gc sd.bk (hokK _),hpk⟩
   rw[turn1] at hob;have e2:(cellAt K (2*o)).1=cw:=by rw[cw'.2]
   rw[e2,<-sd.stk] at hob;exact seen_goes (cellAt K (2*o)).2 hD hk hf hC hB hr hA hH hob N1
  . -- it has the value
   cases hx;refine hg z Ch Stop y w v S K t (cellAt K (2*o+1)).2 A.rel A.noRow A.mem A.thr A.tb hop hce cv'.1 hl (λv1 w1 tv r1 n1 e1=>?_);have sd:=sta_did (i:=X.i) S tv t (cellAt K (2*o+1)).2 (cellAt K (2*o+1)).2;have N1:NowP X z cont Ch S K v (uni (oneM rb Af) M) (uni (oneM rb Af) M) _ _ _ v1 w1 t:=⟨N0.now.on e1 r1 n1 (nv_did tv t _ _) (did_thr A.thr) A.tb A.gc sd.bk (hokK _),hpk⟩
   rw[turn2,set_nx] at hob;have e2:(cellAt K (2*o+1)).1=cv:=by rw[cv'.2]
   rw[e2] at hob;exact get_val (bc:=f.bd) (ac:=f.ad) (ops:=f.od) (q:=f.qd) (rest:=f.rd) (oc:=f.oe) (k0:=f.kd) (fl_join hA37 hA) f.fs hf N1.zero r1 n1 (λw' r' n'=>ctx_ans hD hk hC hH (c,(cellAt K (2*o+1)).2) hob (N1.laid (an:=(c,(cellAt K (2*o+1)).2)) hr r' n'))
  . -- it has tried
   cases hx;refine hg z Ch Stop y w v S K t (cellAt K (2*o)).2 A.rel A.noRow A.mem A.thr A.tb hop hce cw'.1 hl (λv1 w1 tv r1 n1 e1=>?_);have e2:(cellAt K (2*o)).1=cw:=by rw[cw'.2]
   rw[turn3,e2] at hob;by_cases hxc:(cellAt K (2*o)).2=c
   .rw[if_pos hxc,set_come] at hob
    have ef:effCas c (R1.Ae 1 X.i 0) (cellAt K (2*o)).2=((c,R1.Ae 1 X.i 0),R1.Ae 1 X.i 0,.bool true):=by unfold effCas;rw[if_pos hxc]
    rw[ef] at e1 ⊢;have sd:=sta_did (i:=X.i) S tv t c (R1.Ae 1 X.i 0);have N1:NowP X z cont Ch S K v (uni (oneM rb Af) M) (uni (oneM rb Af) M) _ _ _ v1 w1 t:=⟨N0.now.on e1 r1 n1 (nv_did tv t _ _) (did_thr A.thr) A.tb A.gc sd.bk (hokK _),hpk⟩
    exact won_goes hD hk hf hC hB hr hA hH hob N1
   .rw[if_neg hxc] at hob
    have ef:effCas c (R1.Ae 1 X.i 0) (cellAt K (2*o)).2=(((cellAt K (2*o)).2,(cellAt K (2*o)).2),(cellAt K (2*o)).2,.bool false):=by unfold effCas;rw[if_neg hxc]
    rw[ef] at e1 ⊢;have sd:=sta_did (i:=X.i) S tv t (cellAt K (2*o)).2 (cellAt K (2*o)).2;have N1:NowP X z cont Ch S K v (uni (oneM rb Af) M) (uni (oneM rb Af) M) _ _ _ v1 w1 t:=⟨N0.now.on e1 r1 n1 (nv_did tv t _ _) (did_thr A.thr) A.tb A.gc sd.bk (hokK _),hpk⟩
    exact get_lost hA f.stack (λa2 hA2=>look_goes hD hk hf hC hB hr hA2 hH hob N1)
  cases hx
  . -- the value is stored
   cases hx;refine hg z Ch Stop y w v S K t (cellAt K (2*o+1)).2 A.rel A.noRow A.mem A.thr A.tb hop hce cv'.1 hl (λv1 w1 tv r1 n1 e1=>?_);have sd:=sta_did (i:=X.i) S tv t (cellAt K (2*o+1)).2 y';have N1:NowP X z cont Ch S K v (kMo bx rb2 rb e y' M) (kMo bx rb2 rb e y' M) _ _ _ v1 w1 t:=⟨N0.now.on e1 r1 n1 (nv_did tv t _ _) (did_thr A.thr) A.tb A.gc sd.bk (hokK _),hpk⟩
   rw[turn5] at hob;have e2:(cellAt K (2*o+1)).1=cv:=by rw[cv'.2]
   rw[e2] at hob;have htb:=N1.now.at_.tb;have hgc:=N1.now.at_.gc;rw[<-htb] at hA2;have hbx:=N1.now.mo bx _ (Ai (Ah _ _));refine keep_word (h:=X.h) (e:=e) (i:=X.i) (j:=2*o) (cb:=cw) (kp:=kp) (cont:=cont) (cellAt (K.set (2*o+1) (cv,y')) (2*o)).2 (hD.mem v1 N1.now.at_.pk).1 (hD.mem v1 N1.now.at_.pk).2.2.1 (by simp[World.cell?,hbx]) hA2 _ _ (H (.turn 2 (2*o) (6,lO o k b d X.i++[e,y'])) (kMo bx rb2 rb e y' M)) (λg hg=>?_) N1.now.at_.rel N1.now.at_.noRow N1.now.at_.mem N1.now.at_.thr (N1.now.cell hD.kw).1 (by rw[htb];exact N1.now.at_.z) (by rw[htb,hgc];exact N1.now.at_.cont) (ob_turn hob N1.now);obtain ⟨a4,hA4,hg⟩:=hg;rw[htb] at hA4 hg;exact hH _ _ g (N1.now.good (λ_ _ h=>by cases h)) ⟨N1.now.row,o,ob,kp,cw,cv,k,b,d,f,rb,b3,b4,b5,a,M,hD,hk,hf,hC,hB,hr,hA,.inr ⟨e,y',bx,rb2,a4,rfl,hA4,he,hne,.inr ⟨rfl,hg⟩⟩⟩
  . -- both are stored
   cases hx;refine hg z Ch Stop y w v S K t (cellAt K (2*o)).2 A.rel A.noRow A.mem A.thr A.tb hop hce cw'.1 hl (λv1 w1 tv r1 n1 e1=>?_);have sd:=sta_did (i:=X.i) S tv t (cellAt K (2*o)).2 (R1.Ae 2 0 e);have N1:NowP X z cont Ch S K v (kMo bx rb2 rb e y' M) (kMo bx rb2 rb e y' M) _ _ _ v1 w1 t:=⟨N0.now.on e1 r1 n1 (nv_did tv t _ _) (did_thr A.thr) A.tb A.gc sd.bk (hokK _),hpk⟩
   rw[turn6,set_nx] at hob;have e2:(cellAt K (2*o)).1=cw:=by rw[cw'.2]
   rw[e2] at hob;have hbx:=N1.now.mo bx _ (Ai (Ah _ _));have hrn:uni (oneM rb Af) M rb2=none:=by unfold uni;rw[Ag hne.2.2.2.1];exact hne.2.2.2.2
   have N2:=N1.less (M1:=uni (oneM rb2 Af) (uni (oneM rb Af) M)) (λc o' hb=>Al (Ag (λh=>by subst h;unfold uni at hb;rw[Ag hne.1,Ag hne.2.1] at hb;simp only[Option.orElse_none] at hb;rw[hne.2.2.1] at hb;cases hb)) hb)
   have o4:gO11[4]? = some (gO11.getD 4 default):=by kernel_rfl
   refine keep_out (bc:=base 64) (ac:=a) (ops:=gO11) (q:=4) (rest:=[5]) (oc:=gO11.getD 4 default) (k0:=[.code .ret,.inBlock 2,.inBlock 1,.inLoop gL,.inBlock 0]) hA2 _ f.stack o4 hbx N2.zero r1 n1 (λw' r' n'=>?_);have N3:=N2.laid (an:=(e,y')) hrn r' n';rw[show (gO11.getD 4 default).dst=some 61 by kernel_rfl];exact get_kept (bc:=f.bd) (ac:=f.ad) (ops:=f.od) (q:=f.qd) (rest:=f.rd) (oc:=f.oe) (k0:=f.kd) hA f.fs hf N3.zero r' n' (λw'' r'' n''=>ctx_ans hD hk hC hH (e,y') hob (N3.laid (an:=(e,y')) hr r'' n''))
 wake:=by
  rintro X ok - hfid j q Mo cu g ⟨hrow,o,ob,kp,cw,cv,k,b,d,f,rb,b3,b4,b5,a,M,hD,hk,hf,hC,hB,hr,hA,hsit⟩ H z cont Ch Stop y S K v w t A hH hl hMo hMf hMp hob1 hob2;have hpk:∀ b,Mo b≠none->X.pk b=none:=λb hb=>by
   cases hx:X.pk b with
   |none=>rfl
   |some o=>exact absurd (.inr (.inr (.inr (by rw[hx];simp)))) (hMp b hb)
  have N0:NowP X z cont Ch S K v Mo Mo (Gen.nv S) K S v w t:=⟨Now.here A hMo hMf hrow,hpk⟩
  rcases hsit with ⟨rfl,⟨hx,hg⟩|⟨c,hx,hA37,hg⟩|⟨c,hx,hg⟩|⟨hx,hg⟩⟩|⟨e,y',bx,rb2,a2,rfl,hA2,he,hne,⟨hx,hg⟩|⟨hx,hg⟩⟩
  cases hx;cases hx;cases hx
  .cases hx
   refine hg z Ch Stop y w v S K t A.rel A.noRow A.mem A.thr A.tb hl (λv1 w1 tv hs r1 n1 e1=>?_) (λv1 w1 hs r1 n1 e1=>?_)
   .have N1:NowP X z cont Ch S K v (uni (oneM rb Af) M) (uni (oneM rb Af) M) _ _ _ v1 w1 t:=⟨N0.now.on e1 r1 n1 rfl A.thr A.tb A.gc rfl A.kb.2,hpk⟩
    have hob:=hob2 hs;rw[woke4] at hob;exact get_woke hA f.stack (λa2 hA2=>look_goes hD hk hf hC hB hr hA2 hH hob N1)
   .have N1:NowP X z cont Ch S K v (uni (oneM rb Af) M) (uni (oneM rb Af) M) _ _ _ v1 w1 t:=⟨N0.now.on e1 r1 n1 rfl A.thr A.tb A.gc rfl A.kb.2,hpk⟩
    have hob:=hob1 hs;rw[stuck4] at hob;exact get_stuck (bc:=f.bd) (ac:=f.ad) (ops:=f.od) (q:=f.qd) (rest:=f.rd) (oc:=f.oe) (k0:=f.kd) hA f.fs hf N1.zero r1 n1 (λw' r' n'=>ctx_ans hD hk hC hH (4,0) hob (N1.laid (an:=(4,0)) hr r' n'))
  cases hx;cases hx
section
variable {v u u':World}{S S1:TS}{K:List (Nat×Int)}{xs:List Int}{pk:Nat->Option Obj}
theorem Objs.set (h:Objs v S xs pk S1 K u) {b:Nat}{o o':Obj}(hb:pk b=some o) (hvb:v.heap.size<=b) (hw:∀ x,x≠b->u'.heap[x]? = u.heap[x]?) (hn:u'.heap[b]? = some o') (hs:u'.heap.size=u.heap.size) (e1:u'.os=u.os) (e2:u'.output=u.output) (hr:∃ c e f,o'=.cells c e f):Objs v S xs (padd pk b o') S1 K u':=by
 have ho:=(h.new b (by rw[hb];simp)).2;have em:=h.cel.mem.other (v':=u') ho hw hs e1 e2;refine ⟨⟨em.mem,⟨e1.trans h.cel.fr.os,e2.trans h.cel.fr.output,by rw[hs];exact h.cel.fr.size,λx hx hn=>by rw[hw x (by omega)];exact h.cel.fr.block x hx hn⟩,h.cel.own⟩,h.vals,h.st,λx y hx=>?_,λx hx=>?_,λx y hx=>?_⟩
 .by_cases e:x=b
  subst e;rw[padd_at] at hx;cases hx;exact hn;rw[padd_ne e] at hx;rw[hw x e];exact h.has x y hx
 .by_cases e:x=b
  subst e;exact h.new x (by rw[hb];simp);rw[padd_ne e] at hx;exact h.new x hx
 .by_cases e:x=b
  subst e;rw[padd_at] at hx;cases hx;exact hr;rw[padd_ne e] at hx;exact h.row x y hx
theorem padd_padd (pk:Nat->Option Obj) (b:Nat) (o o':Obj):padd (padd pk b o) b o'=padd pk b o':=by funext x;unfold padd;split<;>rfl
theorem kept_new (h:Objs v S xs pk S1 K u) (hl:xs.length+2<=1000000):Calls Tryd.prog 63 #[Pt S.wb 0] u (λe w'=>∃ cw cv,e=.returned (Pt u.heap.size 0)∧u.heap.size<w'.heap.size∧∃ S2,Objs v S (xs++[0]++[0]) (padd pk u.heap.size (.cells #[Pt cw 0,Pt cv 0] 146 (0,0))) S2 (K++[(cw,0)]++[(cv,0)]) w'):=by
 have o1:=h.push (u':=u.alloc (.cells #[.pointer none,.pointer none] 146)) (c:=#[.pointer none,.pointer none]) (t:=146) rfl rfl rfl;have hvu:v.heap.size<=u.heap.size:=h.cel.fr.size;have HO:Hid (Objs v S xs (padd pk u.heap.size (.cells #[.pointer none,.pointer none] 146)) S1 K (u.alloc (.cells #[.pointer none,.pointer none] 146))):=⟨o1⟩
 clear o1 h
 go_enter Tryd.func63,Tryd.ntmps63
 generalize hN:u.heap.size=N at HO hvu ⊢;go_wp2_with fail;refine (HO.out.cell 0 (by omega)).mono ?_;rintro e w1 ⟨cw,rfl,hs1,S2,o2⟩;have hk2:w1.heap[N]? = some (.cells #[.pointer none,.pointer none] 146 (0,0)):=o2.has N _ (padd_at _ _ _);have p0:w1.cell? ⟨N,0,none⟩=some (.pointer none):=by simp[World.cell?,hk2]
 have f0:w1.frozen? ⟨N,0,none⟩=false:=by simp[World.frozen?,hk2]
 have o3:=o2.set (u':=w1.setCell ⟨N,0,none⟩ (Pt cw 0)) (b:=N) (o':=.cells #[Pt cw 0,.pointer none] 146 (0,0)) (padd_at _ _ _) hvu (λx hx=>Below.heap_setCell _ _ _ _ hx) (by have:=heap_setCell_same (o:=0) hk2 (Pt cw 0);simpa using this) (by simp[World.setCell]) rfl rfl ⟨_,_,_,rfl⟩;rw[padd_padd] at o3;have HO3:Hid (Objs v S (xs++[0]) (padd pk N (.cells #[Pt cw 0,.pointer none] 146 (0,0))) S2 (K++[(cw,0)]) (w1.setCell ⟨N,0,none⟩ (Pt cw 0))):=⟨o3⟩
 clear o2 o3 hk2 HO hs1;go_wp2_with fail;refine (HO3.out.cell 0 (by simp;omega)).mono ?_;rintro e w2 ⟨cv,rfl,hs2,S3,o4⟩;have hk4:w2.heap[N]? = some (.cells #[Pt cw 0,.pointer none] 146 (0,0)):=o4.has N _ (padd_at _ _ _);have p1:w2.cell? ⟨N,1,none⟩=some (.pointer none):=by simp[World.cell?,hk4]
 have f1:w2.frozen? ⟨N,1,none⟩=false:=by simp[World.frozen?,hk4]
 have hsz:N<w2.heap.size:=(Qb hk4).1;have o5:=o4.set (u':=w2.setCell ⟨N,1,none⟩ (Pt cv 0)) (b:=N) (o':=.cells #[Pt cw 0,Pt cv 0] 146 (0,0)) (padd_at _ _ _) hvu (λx hx=>Below.heap_setCell _ _ _ _ hx) (by have:=heap_setCell_same (o:=1) hk4 (Pt cv 0);simpa using this) (by simp[World.setCell]) rfl rfl ⟨_,_,_,rfl⟩;rw[padd_padd] at o5;have HO5:Hid (Objs v S (xs++[0]++[0]) (padd pk N (.cells #[Pt cw 0,Pt cv 0] 146 (0,0))) S3 (K++[(cw,0)]++[(cv,0)]) (w2.setCell ⟨N,1,none⟩ (Pt cv 0))):=⟨o5⟩
 have HS:Hid (N<(w2.setCell ⟨N,1,none⟩ (Pt cv 0)).heap.size):=⟨by simpa [World.setCell] using hsz⟩
 clear o4 o5 hk4 HO3 hs2 p0 f0 hsz;go_wp2_with fail;go_ret;exact ⟨cw,cv,rfl,HS.out,S3,HO5.out⟩
theorem once_new (h:Objs v S xs pk S1 K u) (hl:xs.length+2<=1000000):Calls Tryd.prog 25 #[Pt S.wb 0] u (λe w'=>∃ cw cv ob,e=.returned (Pt ob 0)∧u.heap.size<ob∧ob<w'.heap.size∧∃ S2,Objs v S (xs++[0]++[0]) (padd (padd pk u.heap.size (.cells #[Pt cw 0,Pt cv 0] 146 (0,0))) ob (.cells #[Pt u.heap.size 0] 105 (0,0))) S2 (K++[(cw,0)]++[(cv,0)]) w'):=by
 have HC:Hid (Calls Tryd.prog 63 #[Pt S.wb 0] u (λe w'=>∃ cw cv,e=.returned (Pt u.heap.size 0)∧u.heap.size<w'.heap.size∧∃ S2,Objs v S (xs++[0]++[0]) (padd pk u.heap.size (.cells #[Pt cw 0,Pt cv 0] 146 (0,0))) S2 (K++[(cw,0)]++[(cv,0)]) w')):=⟨kept_new h hl⟩
 clear h
 go_enter Tryd.func25,Tryd.ntmps25
 go_wp2_with fail;refine HC.out.mono ?_;rintro e w1 ⟨cw,cv,rfl,hs1,S2,o1⟩;have o2:=o1.push (u':=w1.alloc (.cells #[Pt u.heap.size 0] 105)) (c:=#[Pt u.heap.size 0]) (t:=105) rfl rfl rfl;have HO:Hid (Objs v S (xs++[0]++[0]) (padd (padd pk u.heap.size (.cells #[Pt cw 0,Pt cv 0] 146 (0,0))) w1.heap.size (.cells #[Pt u.heap.size 0] 105)) S2 (K++[(cw,0)]++[(cv,0)]) (w1.alloc (.cells #[Pt u.heap.size 0] 105))):=⟨o2⟩
 have HS:Hid (u.heap.size<w1.heap.size):=⟨hs1⟩
 clear o1 o2 HC hs1;go_wp2_with fail;go_ret;exact ⟨cw,cv,w1.heap.size,rfl,HS.out,by simp,S2,HO.out⟩
end
end Go.Proofs.YtfjjoohflcchnaaDoor.Gen
