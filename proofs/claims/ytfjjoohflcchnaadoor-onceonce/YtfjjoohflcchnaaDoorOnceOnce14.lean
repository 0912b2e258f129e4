/- OnceOnce, part 14 of 26: OnD, OnP, OnM, OnE, OnI, OnI2, OnI3. -/
import Derived.Test.YtfjjoohflcchnaaDoorOnceOnce01
import Derived.Test.YtfjjoohflcchnaaDoorOnceOnce09
import Derived.Test.YtfjjoohflcchnaaDoorOnceOnce13
set_option linter.unusedSimpArgs false
set_option linter.unusedVariables false
set_option maxHeartbeats 4000000
set_option maxRecDepth 100000
noncomputable section
namespace Go.Proofs.YtfjjoohflcchnaaDoor.Gen
open Go Go.Lift Go.Conc Go.RowKit
variable {z:Nat->Option Nat} {Ch:Nat->Prop} {Stop:Goroutine->World->Prop} {main:Bool} {v w:World} {bx mb ob q rb tb xb:Nat} {a ac:Act} {e po x:Int} {bc:Frame} {ops:Array Oper} {oc:Oper} {k0:List Item}
def dB:Code:=Tryd.f28.body.getD .skip
def dO1:Array Oper:=opsOf (seq1 (seq2 dB))
def dFr (a:Act) (r:Value):Frame:=(base 28).at (a.put (some 13) r) [.inRegion dO1 [7],.code .ret]
theorem eDB:dB=.seq (seq1 dB) (.seq (.region 1 dO1 true) .ret):=by kernel_rfl
theorem fine_d0:fineCode Tryd.prog true LT (seq1 dB):=fineCode_ask callT extT (by kernel_rfl)
def val_d1 (ob tb kp b3 b4 b5:Nat):Nat->Value
 |0=>Pt ob 0
 |1=>Pt ob 0
 |2=>Pt ob 0
 |3=>Pt kp 0
 |4=>Pt tb 0
 |5=>.func (.func 65) #[] #[Pt b3 0,Pt b4 0,Pt b5 0]
 |_=>undef
theorem reg_d1:regOk dO1 6 7=true:=by kernel_rfl
theorem fin_d1:((dO1.extract 0 6).all λo=>plainOp Tryd.prog true o.op||askCall plainFs plainXs o.op)=true:=by kernel_rfl
theorem d1_pre (ob tb kp b3 b4 b5:Nat) (hA:Fl 14 [(3,Pt b3 0),(4,Pt b4 0),(5,Pt b5 0),(6,Pt rb 0)] a) (k:List Item) (cs:List Frame) (h3:v.cell? ⟨b3,0,none⟩=some (Pt ob 0)) (h4:v.cell? ⟨b4,0,none⟩=some (Pt tb 0)) (h1:v.cell? ⟨ob,0,none⟩=some (Pt kp 0)) (hvw:Rel z v w) (hn:NoRow Ch v)
 (hN:∀ v1 w1 a' o,dO1[6]? = some o->(∀ y,Region.wanted o y=true)->Fl 14 [(3,Pt b3 0),(4,Pt b4 0),(5,Pt b5 0),(6,Pt rb 0),(10,Pt kp 0),(11,Pt tb 0),(12,.func (.func 65) #[] #[Pt b3 0,Pt b4 0,Pt b5 0])] a'->Rel z v1 w1->NoRow Ch v1->Grows v v1->GoesI Tryd.prog main (DT (ScZ z) Ch) Stop (G ((base 28).at a' (.inRegion dO1 [6,7] :: k)) cs) w1):
 GoesI Tryd.prog main (DT (ScZ z) Ch) Stop (G ((base 28).at a (.code (.region 1 dO1 true) :: k)) cs) w:=by
 refine A7 (val:=val_d1 ob tb kp b3 b4 b5) reg_d1 (by rw[hA.1];decide) hvw hn ?_ ?_
 .intro i0 o rest a' v1 w1 hi ho hw ev ev0 r1 n1 g1 hk
  match i0,hi,ho,ev,hk with
  |0,_,ho,ev,hk=>have l0:a'.eval (.tmp 3)=Pt b3 0:=(ev0 3 (by decide)).trans (hA.at 3 _ (by simp));have c0:=g1.cell h3;exact Ab ho hw (by simp[base]) (p:=Op.load 46 (Operand.tmp 3)) (by kernel_rfl) (Ad fin_d1 (by decide) ho) r1 n1 (x:=Pt ob 0) rfl (λo' h'=>by unfold execOp;rw[h'];simp only[l0];simp[go_sem,c0]) hk
  |1,_,ho,ev,hk=>have l0:a'.eval (.tmp 7)=Pt ob 0:=ev 0 (by decide) (by kernel_rfl);exact Ab ho hw (by simp[base]) (p:=Op.nilCheck (Operand.tmp 7)) (by kernel_rfl) (Ad fin_d1 (by decide) ho) r1 n1 (x:=Pt ob 0) rfl (λo' h'=>by unfold execOp;rw[h'];simp only[l0];simp[go_sem]) hk
  |2,_,ho,ev,hk=>have l0:a'.eval (.tmp 8)=Pt ob 0:=ev 1 (by decide) (by kernel_rfl);exact Ab ho hw (by simp[base]) (p:=Op.fieldAddr 105 (Operand.tmp 8) 0) (by kernel_rfl) (Ad fin_d1 (by decide) ho) r1 n1 (x:=Pt ob 0) rfl (λo' h'=>by unfold execOp;rw[h'];simp only[l0];simp[go_sem]) hk
  |3,_,ho,ev,hk=>have l0:a'.eval (.tmp 9)=Pt ob 0:=ev 2 (by decide) (by kernel_rfl);have c0:=g1.cell h1;exact Ab ho hw (by simp[base]) (p:=Op.load 102 (Operand.tmp 9)) (by kernel_rfl) (Ad fin_d1 (by decide) ho) r1 n1 (x:=Pt kp 0) rfl (λo' h'=>by unfold execOp;rw[h'];simp only[l0];simp[go_sem,c0]) hk
  |4,_,ho,ev,hk=>have l0:a'.eval (.tmp 4)=Pt b4 0:=(ev0 4 (by decide)).trans (hA.at 4 _ (by simp));have c0:=g1.cell h4;exact Ab ho hw (by simp[base]) (p:=Op.load 48 (Operand.tmp 4)) (by kernel_rfl) (Ad fin_d1 (by decide) ho) r1 n1 (x:=Pt tb 0) rfl (λo' h'=>by unfold execOp;rw[h'];simp only[l0];simp[go_sem,c0]) hk
  |5,_,ho,ev,hk=>have l0:a'.eval (.tmp 3)=Pt b3 0:=(ev0 3 (by decide)).trans (hA.at 3 _ (by simp));have l1:a'.eval (.tmp 4)=Pt b4 0:=(ev0 4 (by decide)).trans (hA.at 4 _ (by simp));have l2:a'.eval (.tmp 5)=Pt b5 0:=(ev0 5 (by decide)).trans (hA.at 5 _ (by simp));exact Ab ho hw (by simp[base]) (p:=Op.makeFunc (Fn.func 65) #[] #[Operand.tmp 3,Operand.tmp 4,Operand.tmp 5]) (by kernel_rfl) (Ad fin_d1 (by decide) ho) r1 n1 (x:=.func (.func 65) #[] #[Pt b3 0,Pt b4 0,Pt b5 0]) rfl (λo' h'=>by unfold execOp;rw[h'];simp only[l0,l1,l2];simp[go_sem];exact ⟨by simpa [Act.eval] using l0,by simpa [Act.eval] using l1,by simpa [Act.eval] using l2⟩) hk
 .intro v1 w1 o ho hw r1 n1 g1
  refine hN v1 w1 _ o ho hw ⟨(An _ _ _ _).trans hA.1,(Al _ _ _ _).trans hA.2.1,?_⟩ r1 n1 g1;have hsz:7+6<=a.tmps.size:=by rw[hA.1];decide
  intro p hp;simp only[Sm,or_false] at hp;rcases hp with rfl|rfl|rfl|rfl|rfl|rfl|rfl;rw[Qe,Aa _ _ _ _ _ hsz,if_neg (by simp),<-Qe];exact hA.2.2 (3,Pt b3 0) (by simp);rw[Qe,Aa _ _ _ _ _ hsz,if_neg (by simp),<-Qe];exact hA.2.2 (4,Pt b4 0) (by simp);rw[Qe,Aa _ _ _ _ _ hsz,if_neg (by simp),<-Qe];exact hA.2.2 (5,Pt b5 0) (by simp);rw[Qe,Aa _ _ _ _ _ hsz,if_neg (by simp),<-Qe];exact hA.2.2 (6,Pt rb 0) (by simp);rw[Qe,Aa _ _ _ _ _ hsz,if_pos (by simp)];rfl;rw[Qe,Aa _ _ _ _ _ hsz,if_pos (by simp)];rfl;rw[Qe,Aa _ _ _ _ _ hsz,if_pos (by simp)];rfl
theorem do_in {kp:Nat}{kd b:Int}(h1:v.cell? ⟨ob,0,none⟩=some (Pt kp 0)) (cs:List Frame) (hvw:Rel z v w) (hn:NoRow Ch v)
 (hk:∀ a v' w' o,Fl 14 [(6,Pt (v.heap.size+3) 0)] a->Rel z v' w'->NoRow Ch v'->Grows v v'->v'.heap[v.heap.size]? = some (.cells #[Pt ob 0] 46 (0,0))->v'.heap[v.heap.size+1]? = some (.cells #[Pt tb 0] 48 (0,0))->v'.heap[v.heap.size+2]? = some (.cells #[I kd,I b] 52 (0,0))->v'.heap[v.heap.size+3]? = some (.cells #[I 0,I 0] 38 (0,0))->dO1[6]? = some o->o.dst=some 13->∀ code,Tryd.f64.body=some code ->
   GoesI Tryd.prog main (DT (ScZ z) Ch) Stop (G ((base 64).at { tmps:=#[Pt kp 0,Pt tb 0,.func (.func 65) #[] #[Pt v.heap.size 0,Pt (v.heap.size+1) 0,Pt (v.heap.size+2) 0]]++Array.replicate 59 undef,defers:=[] } [.code code]) ((base 28).at a (.inRegion dO1 [6,7] :: [.code .ret]):: cs)) w') (code:Code) (hc:Tryd.f28.body=some code):
 GoesI Tryd.prog main (DT (ScZ z) Ch) Stop (G ((base 28).at { tmps:=#[Pt ob 0,Pt tb 0,.agg #[I kd,I b]]++Array.replicate 11 undef,defers:=[] } [.code code]) cs) w:=by
 have hw0:code=.seq (seq1 dB) (.seq (.region 1 dO1 true) .ret):=by rw[show code=dB by unfold dB;rw[hc];rfl];exact eDB
 subst hw0;clear hc;refine goesI_seq (dt_idle _ _) ?_;refine goesI_plain (z:=z) (wr:=true) (L:=LT) (I:=NoRow Ch) hE fineT noRow_keeps (λv v' w w' es hi hr ho he=>dt_of_z v v' w w' es hi hr ho he) hvw fine_d0 rfl (by simp[base]) hn
  (Q:=λa w'=>Fl 14 [(3,Pt v.heap.size 0),(4,Pt (v.heap.size+1) 0),(5,Pt (v.heap.size+2) 0),(6,Pt (v.heap.size+3) 0)] a∧w'.heap=((((v.heap.push (.cells #[Pt ob 0] 46)).push (.cells #[Pt tb 0] 48)).push (.cells #[I kd,I b] 52)).push (.cells #[I 0,I 0] 38))∧w'.os=v.os∧w'.output=v.output) (λτ=>?_) ?_
 .unfold dB Tryd.f28 seq1
  simp only[Qa,Sy];go_wp2_with fail;exact ⟨⟨rfl,rfl,by
   intro p hp;simp only[Sm,or_false] at hp;rcases hp with rfl|rfl|rfl|rfl<;>rfl⟩,rfl,rfl,rfl⟩
 rintro a' v' w' ⟨hA,hv1,hv2,hv3⟩ hr' hn' -;have hsz:v'.heap.size=v.heap.size+4:=by rw[hv1];simp
 have hg:Grows v v':=⟨by omega,λb hb=>by rw[hv1,Qg,if_neg (by simp;omega),Qg,if_neg (by simp;omega),Qg,if_neg (by simp;omega),Qg,if_neg (by omega)],hv2,hv3⟩
 have hb0:v'.heap[v.heap.size]? = some (.cells #[Pt ob 0] 46 (0,0)):=by rw[hv1,Qg,if_neg (by simp<;>omega),Qg,if_neg (by simp<;>omega),Qg,if_neg (by simp<;>omega),Qg,if_pos (by simp)]
 have hb1:v'.heap[v.heap.size+1]? = some (.cells #[Pt tb 0] 48 (0,0)):=by rw[hv1,Qg,if_neg (by simp<;>omega),Qg,if_neg (by simp<;>omega),Qg,if_pos (by simp)]
 have hb2:v'.heap[v.heap.size+2]? = some (.cells #[I kd,I b] 52 (0,0)):=by rw[hv1,Qg,if_neg (by simp<;>omega),Qg,if_pos (by simp)]
 have hb3:v'.heap[v.heap.size+3]? = some (.cells #[I 0,I 0] 38 (0,0)):=by rw[hv1,Qg,if_pos (by simp)]
 refine goesI_seq (dt_idle _ _) ?_;refine d1_pre (main:=main) (rb:=v.heap.size+3) ob tb kp v.heap.size (v.heap.size+1) (v.heap.size+2) hA _ cs (by simp[World.cell?,hb0]) (by simp[World.cell?,hb1]) (hg.cell h1) hr' hn' (λv2 w2 a2 o ho hw hA2 r2 n2 g2=>?_);have st:∀ k,k<v'.heap.size->v2.heap[k]? = v'.heap[k]?:=λk hk=>g2.old k hk;refine goesI_into (f:=64) (fn:=Tryd.f64) (args:=#[Pt kp 0,Pt tb 0,.func (.func 65) #[] #[Pt v.heap.size 0,Pt (v.heap.size+1) 0,Pt (v.heap.size+2) 0]]) (dt_idle _ _) ho (hw _) (by simp[base]) (op_at (p:=.call { callee:=.value (.func 64),args:=#[.tmp 10,.tmp 11,.tmp 12],argTypes:=#[102,48,109] }) (by kernel_rfl) ho) (by simp only[List.map_toArray,List.map_cons,List.map_nil];rw[hA2.at 10 (Pt kp 0) (by simp),hA2.at 11 (Pt tb 0) (by simp),hA2.at 12 (.func (.func 65) #[] #[Pt v.heap.size 0,Pt (v.heap.size+1) 0,Pt (v.heap.size+2) 0]) (by simp)]) Tryd.func64 (by kernel_rfl) rfl ?_;exact hk a2 v2 w2 o (hA2.sub (by simp)) r2 n2 (Am hg g2) (by rw[st _ (by omega)];exact hb0) (by rw[st _ (by omega)];exact hb1) (by rw[st _ (by omega)];exact hb2) (by rw[st _ (by omega)];exact hb3) ho (dst_at (by kernel_rfl) ho) _ rfl
theorem do_back (hA:Fl 14 [(6,Pt rb 0)] a) (cs:List Frame) {rest:List Nat}(hoc:ops[q]? = some oc) (hpb:v.heap[rb]? = some (.cells #[I 0,I 0] 38 (0,0))) (hvw:Rel z v w) (hn:NoRow Ch v)
 (hk:∀ w',Rel z (ansW v rb e x) w'->NoRow Ch (ansW v rb e x)->GoesI Tryd.prog main (DT (ScZ z) Ch) Stop (G (bc.at (ac.put oc.dst (.agg #[I e,I x])) (.inRegion ops rest :: k0)) cs) w'):
 GoesI Tryd.prog main (DT (ScZ z) Ch) Stop (G (dFr a (.agg #[I e,I x])) (bc.at ac (.inRegion ops (q :: rest) :: k0) :: cs)) w:=by
 obtain ⟨hsz,hd,hpp⟩:=hA;obtain ⟨u,rfl,hg⟩:=litN hsz hd;have u6:=(hg 6).symm.trans (hpp (6,Pt rb 0) (by simp));clear hg hpp hsz hd;unfold dFr dO1 dB Tryd.f28 seq1 seq2 opsOf;simp only[Qa,lits,Nat.reduceAdd,u6];clear u6;walk_nrm
 have q0:v.cell? ⟨rb,0,none⟩=some (I 0):=by simp[World.cell?,hpb]
 have q1:v.cell? ⟨rb,1,none⟩=some (I 0):=by simp[World.cell?,hpb]
 have p0:v.frozen? ⟨rb,0,none⟩=false:=by simp[World.frozen?,hpb]
 have p1:v.frozen? ⟨rb,1,none⟩=false:=by simp[World.frozen?,hpb]
 have hrow:=Ap hpb (e) (x);refine goesI_doZ (L:=LT) rfl rfl (by decide) (fineOp_ask callT extT (by kernel_rfl)) hvw hn (v':=ansW v rb (e) (x)) (by unfold ansW;go_simp) rfl (λw9 r9 n9=>?_);refine goesI_regionEnd (dt_idle _ _) ?_;refine GoesI.ctl rfl (λ_=>stepG_ret') (dt_idle _ _) ?_;refine goesI_leaveZ (f:=28) (fn:=Tryd.f28) (x:=.agg #[I (e),I (x)]) r9 n9 Tryd.func28 rfl hoc ?_ (λw' r'=>hk w' r' n9);generalize ansW v rb (e) (x)=V at hrow;have k0:V.cell? ⟨rb,0,none⟩=some (I (e)):=by simp[World.cell?,hrow]
 have k1:V.cell? ⟨rb,1,none⟩=some (I (x)):=by simp[World.cell?,hrow]
 simp[results,go_sem,Tryd.f28, *]
def cB:Code:=Tryd.f65.body.getD .skip
def cO1:Array Oper:=opsOf (seq1 (seq2 cB))
def cFr1 (a:Act) (r:Value):Frame:=(base 65).at (a.put (some 7) r) [.inRegion cO1 [4],.code .ret]
theorem eCB:cB=.seq (seq1 cB) (.seq (.region 1 cO1 false) .ret):=by kernel_rfl
theorem fine_c0:fineCode Tryd.prog true LT (seq1 cB):=fineCode_ask callT extT (by kernel_rfl)
theorem clo_in {b3 b4 b5:Nat}{kd b:Int}(h3:v.heap[b3]? = some (.cells #[Pt ob 0] 46 (0,0))) (h4:v.heap[b4]? = some (.cells #[Pt tb 0] 48 (0,0))) (h5:v.heap[b5]? = some (.cells #[I kd,I b] 52 (0,0))) (cs:List Frame) (hvw:Rel z v w) (hn:NoRow Ch v)
 (hk:∀ a v' w' o,Fl 8 [(3,Pt v.heap.size 0)] a->Rel z v' w'->NoRow Ch v'->Grows v v'->v'.heap[v.heap.size]? = some (.cells #[I 0,I 0] 38 (0,0))->cO1[3]? = some o->o.dst=some 7->∀ code,Tryd.f66.body=some code ->
   GoesI Tryd.prog main (DT (ScZ z) Ch) Stop (G ((base 66).at { tmps:=#[Pt ob 0,Pt tb 0,.agg #[I kd,I b]]++Array.replicate 31 undef,defers:=[] } [.code code]) ((base 65).at a (.inRegion cO1 [3,4] :: [.code .ret]):: cs)) w') (code:Code) (hc:Tryd.f65.body=some code):
 GoesI Tryd.prog main (DT (ScZ z) Ch) Stop (G ((base 65).at { tmps:=#[Pt b3 0,Pt b4 0,Pt b5 0]++Array.replicate 5 undef,defers:=[] } [.code code]) cs) w:=by
 have hw0:code=.seq (seq1 cB) (.seq (.region 1 cO1 false) .ret):=by rw[show code=cB by unfold cB;rw[hc];rfl];exact eCB
 subst hw0;clear hc;refine goesI_seq (dt_idle _ _) ?_;refine goesI_plain (z:=z) (wr:=true) (L:=LT) (I:=NoRow Ch) hE fineT noRow_keeps (λv v' w w' es hi hr ho he=>dt_of_z v v' w w' es hi hr ho he) hvw fine_c0 rfl (by simp[base]) hn
  (Q:=λa w'=>Fl 8 [(0,Pt b3 0),(1,Pt b4 0),(2,Pt b5 0),(3,Pt v.heap.size 0)] a∧w'.heap=(v.heap.push (.cells #[I 0,I 0] 38))∧w'.os=v.os∧w'.output=v.output) (λτ=>?_) ?_
 .unfold cB Tryd.f65 seq1
  simp only[Qa,Sy];go_wp2_with fail;exact ⟨⟨rfl,rfl,by
   intro p hp;simp only[Sm,or_false] at hp;rcases hp with rfl|rfl|rfl|rfl<;>rfl⟩,rfl,rfl,rfl⟩
 rintro a' v' w' ⟨hA,hv1,hv2,hv3⟩ hr' hn' -;have hsz:v'.heap.size=v.heap.size+1:=by rw[hv1];simp
 have hg:Grows v v':=⟨by omega,λb hb=>by rw[hv1,Qg,if_neg (by omega)],hv2,hv3⟩
 have hb0:v'.heap[v.heap.size]? = some (.cells #[I 0,I 0] 38 (0,0)):=by rw[hv1,Qg,if_pos (by simp)]
 have st:∀ k o,v.heap[k]? = some o->v'.heap[k]? = some o:=λk o hk=>by rw[hg.old k (Qb hk).1];exact hk
 have d3:w'.cell? ⟨b3,0,none⟩=some (Pt ob 0):=by rw[hr'.cell?];simp[World.cell?,st _ _ h3]
 have d4:w'.cell? ⟨b4,0,none⟩=some (Pt tb 0):=by rw[hr'.cell?];simp[World.cell?,st _ _ h4]
 have d5:w'.cell? ⟨b5,0,none⟩=some (I kd):=by rw[hr'.cell?];simp[World.cell?,st _ _ h5]
 have d6:w'.cell? ⟨b5,1,none⟩=some (I b):=by rw[hr'.cell?];simp[World.cell?,st _ _ h5]
 have HV:Hid (Grows v v'∧v'.heap[v.heap.size]? = some (.cells #[I 0,I 0] 38 (0,0))∧Rel z v' w'∧NoRow Ch v'):=⟨⟨hg,hb0,hr',hn'⟩⟩
 clear hv1 hv2 hv3 hsz hg hb0 hr' hn' st h3 h4 h5 hvw hn;have hk:=λa o hA ho hd=>hk a v' w' o hA HV.out.2.2.1 HV.out.2.2.2 HV.out.1 HV.out.2.1 ho hd;clear HV;generalize v.heap.size=N at hA hk;unfold cO1 cB Tryd.f65 seq1 seq2 opsOf at hk;simp only[Qa] at hk;obtain ⟨hsz,hd,hpp⟩:=hA;obtain ⟨u,rfl,hg⟩:=litN hsz hd;have u0:=(hg 0).symm.trans (hpp (0,Pt b3 0) (by simp));have u1:=(hg 1).symm.trans (hpp (1,Pt b4 0) (by simp));have u2:=(hg 2).symm.trans (hpp (2,Pt b5 0) (by simp));have u3:=(hg 3).symm.trans (hpp (3,Pt N 0) (by simp));clear hg hpp hsz hd;unfold cO1 cB Tryd.f65 seq1 seq2 opsOf;simp only[Qa,lits,Nat.reduceAdd,u0,u1,u2,u3];clear u0 u1 u2 u3;refine goesI_seq (dt_idle _ _) ?_;refine goesI_region (dt_idle _ _) ?_;simp only[Sz,Sr,Nat.reduceAdd];iterate 3
  (refine goesI_oper rfl rfl (by decide) (λd K hK=>?_)
   go_simp;refine hK _ _ ⟨dt_reads (λe he=>?_),GoesI.at ?_ d⟩
   .have hm:=mem_listed he
    simp[go_sem, *] at hm
    try exact ⟨_,_,hm⟩
    try (rcases hm with rfl|rfl<;>exact ⟨_,_,rfl⟩)
   clear hK K)
 refine goesI_into (f:=66) (fn:=Tryd.f66) (args:=#[Pt ob 0,Pt tb 0,.agg #[I kd,I b]]) (dt_idle _ _) rfl rfl (by decide) rfl (by simp[Act.eval]) Tryd.func66 (by decide) rfl ?_;exact hk _ _ ⟨rfl,rfl,by
  intro p hp;simp only[Sm,or_false] at hp;rcases hp with rfl<;>rfl⟩ rfl rfl _ rfl
theorem clo_back (hA:Fl 8 [(3,Pt rb 0)] a) (cs:List Frame) {rest:List Nat}(hoc:ops[q]? = some oc) (hpb:v.heap[rb]? = some (.cells #[I 0,I 0] 38 (0,0))) (hvw:Rel z v w) (hn:NoRow Ch v)
 (hk:∀ w',Rel z (ansW v rb e x) w'->NoRow Ch (ansW v rb e x)->GoesI Tryd.prog main (DT (ScZ z) Ch) Stop (G (bc.at (ac.put oc.dst (.agg #[I e,I x])) (.inRegion ops rest :: k0)) cs) w'):
 GoesI Tryd.prog main (DT (ScZ z) Ch) Stop (G (cFr1 a (.agg #[I e,I x])) (bc.at ac (.inRegion ops (q :: rest) :: k0) :: cs)) w:=by
 obtain ⟨hsz,hd,hpp⟩:=hA;obtain ⟨u,rfl,hg⟩:=litN hsz hd;have u3:=(hg 3).symm.trans (hpp (3,Pt rb 0) (by simp));clear hg hpp hsz hd;unfold cFr1 cO1 cB Tryd.f65 seq1 seq2 opsOf;simp only[Qa,lits,Nat.reduceAdd,u3];clear u3;walk_nrm
 have q0:v.cell? ⟨rb,0,none⟩=some (I 0):=by simp[World.cell?,hpb]
 have q1:v.cell? ⟨rb,1,none⟩=some (I 0):=by simp[World.cell?,hpb]
 have p0:v.frozen? ⟨rb,0,none⟩=false:=by simp[World.frozen?,hpb]
 have p1:v.frozen? ⟨rb,1,none⟩=false:=by simp[World.frozen?,hpb]
 have hrow:=Ap hpb (e) (x);refine goesI_doZ (L:=LT) rfl rfl (by decide) (fineOp_ask callT extT (by kernel_rfl)) hvw hn (v':=ansW v rb (e) (x)) (by unfold ansW;go_simp) rfl (λw9 r9 n9=>?_);refine goesI_regionEnd (dt_idle _ _) ?_;refine GoesI.ctl rfl (λ_=>stepG_ret') (dt_idle _ _) ?_;refine goesI_leaveZ (f:=65) (fn:=Tryd.f65) (x:=.agg #[I (e),I (x)]) r9 n9 Tryd.func65 rfl hoc ?_ (λw' r'=>hk w' r' n9);generalize ansW v rb (e) (x)=V at hrow;have k0:V.cell? ⟨rb,0,none⟩=some (I (e)):=by simp[World.cell?,hrow]
 have k1:V.cell? ⟨rb,1,none⟩=some (I (x)):=by simp[World.cell?,hrow]
 simp[results,go_sem,Tryd.f65, *]
theorem which_body (a:Int) (n:Nat) (h0:0<n) (hb:(n:Int)<9223372036854775808) (w:World):Body Tryd.f62 #[I a,I n] w (λv w'=>v=I (which a n)∧w'=w):=by
 intro code hb';obtain rfl:=Qd hb';clear hb';simp only[Tryd.ntmps62,Sz,Nat.reduceAdd,Nat.reduceSub,Sy];have hne:¬ ((n:Int)=0):=by omega
 have HB:Hid ((n:Int)<9223372036854775808∧0<n):=⟨⟨hb,h0⟩⟩
 clear hb h0;go_wp2_with fail;all_goals
  go_ret;rename_i h;first
   |exact ⟨_,rfl,congrArg I (which_pos h),rfl⟩
   |exact ⟨_,rfl,congrArg I (which_neg h HB.out.2 HB.out.1),rfl⟩
def pB:Code:=Tryd.f61.body.getD .skip
def pO3:Array Oper:=opsOf (seq1 (seq2 (seq2 pB)))
def pFr (a:Act) (r:Value):Frame:=(base 61).at (a.put (some 30) r) [.inRegion pO3 [15],.code .ret]
theorem ePB:pB=.seq (seq1 pB) (.seq (.seq (seq1 (seq1 (seq2 pB))) (seq2 (seq1 (seq2 pB)))) (.seq (.region 3 pO3 true) .ret)):=by kernel_rfl
theorem fine_p0:fineCode Tryd.prog true LT (seq1 pB):=fineCode_ask callT extT (by kernel_rfl)
theorem fine_p1:fineCode Tryd.prog true LT (seq1 (seq1 (seq2 pB))):=fineCode_ask callT extT (by kernel_rfl)
def val_p3 (tb xb mb bx sb m ob:Nat) (po ca cb:Int):Nat->Value
 |0=>.slice (some ⟨sb,0,none⟩) m m
 |1=>Pt bx 1
 |2=>I ca
 |3=>I m
 |4=>I (which ca m)
 |5=>Pt sb (which ca m)
 |6=>Pt ob 0
 |7=>Pt tb 0
 |8=>Pt bx 0
 |9=>I po
 |10=>I (po - 1)
 |11=>Pt bx 2
 |12=>I cb
 |13=>.agg #[I (po - 1),I cb]
 |_=>undef
theorem reg_p3:regOk pO3 14 16=true:=by kernel_rfl
theorem Ax:((pO3.extract 0 14).all λo=>plainOp Tryd.prog true o.op||askCall plainFs plainXs o.op)=true:=by kernel_rfl
theorem p3_pre (tb xb mb bx sb m ob:Nat) (po ca cb:Int) (hA:Fl 31 [(0,Pt tb 0),(2,Pt xb 0),(3,Pt mb 0),(5,Pt bx 0),(6,Pt rb 0)] a) (k:List Item) (cs:List Frame) (hm0:0<m) (hm1:m<=1000) (hpo:IntKind.i64.wrap (po - 1)=po - 1) (hx:v.cell? ⟨xb,0,none⟩=some (.slice (some ⟨sb,0,none⟩) m m)) (hmb:v.cell? ⟨mb,0,none⟩=some (I m)) (hob:v.cell? ⟨sb,which ca m,none⟩=some (Pt ob 0)) (b0:v.cell? ⟨bx,0,none⟩=some (I po)) (b1:v.cell? ⟨bx,1,none⟩=some (I ca)) (b2:v.cell? ⟨bx,2,none⟩=some (I cb)) (hvw:Rel z v w) (hn:NoRow Ch v)
 (hN:∀ v1 w1 a' o,pO3[14]? = some o->(∀ y,Region.wanted o y=true)->Fl 31 [(0,Pt tb 0),(2,Pt xb 0),(3,Pt mb 0),(5,Pt bx 0),(6,Pt rb 0),(22,Pt ob 0),(23,Pt tb 0),(29,.agg #[I (po - 1),I cb])] a'->Rel z v1 w1->NoRow Ch v1->Grows v v1->GoesI Tryd.prog main (DT (ScZ z) Ch) Stop (G ((base 61).at a' (.inRegion pO3 [14,15] :: k)) cs) w1):
 GoesI Tryd.prog main (DT (ScZ z) Ch) Stop (G ((base 61).at a (.code (.region 3 pO3 true) :: k)) cs) w:=by
 refine A7 (val:=val_p3 tb xb mb bx sb m ob po ca cb) reg_p3 (by rw[hA.1];decide) hvw hn ?_ ?_
 .intro i0 o rest a' v1 w1 hi ho hw ev ev0 r1 n1 g1 hk
  match i0,hi,ho,ev,hk with
  |0,_,ho,ev,hk=>have l0:a'.eval (.tmp 2)=Pt xb 0:=(ev0 2 (by decide)).trans (hA.at 2 _ (by simp));have c0:=g1.cell hx;exact Ab ho hw (by simp[base]) (p:=Op.load 99 (Operand.tmp 2)) (by kernel_rfl) (Ad Ax (by decide) ho) r1 n1 (x:=.slice (some ⟨sb,0,none⟩) m m) rfl (λo' h'=>by unfold execOp;rw[h'];simp only[l0];simp[go_sem,c0]) hk
  |1,_,ho,ev,hk=>have l0:a'.eval (.tmp 5)=Pt bx 0:=(ev0 5 (by decide)).trans (hA.at 5 _ (by simp));exact Ab ho hw (by simp[base]) (p:=Op.fieldAddr 35 (Operand.tmp 5) 1) (by kernel_rfl) (Ad Ax (by decide) ho) r1 n1 (x:=Pt bx 1) rfl (λo' h'=>by unfold execOp;rw[h'];simp only[l0];simp[go_sem]) hk
  |2,_,ho,ev,hk=>have l0:a'.eval (.tmp 17)=Pt bx 1:=ev 1 (by decide) (by kernel_rfl);have c0:=g1.cell b1;exact Ab ho hw (by simp[base]) (p:=Op.load 3 (Operand.tmp 17)) (by kernel_rfl) (Ad Ax (by decide) ho) r1 n1 (x:=I ca) rfl (λo' h'=>by unfold execOp;rw[h'];simp only[l0];simp[go_sem,c0]) hk
  |3,_,ho,ev,hk=>have l0:a'.eval (.tmp 3)=Pt mb 0:=(ev0 3 (by decide)).trans (hA.at 3 _ (by simp));have c0:=g1.cell hmb;exact Ab ho hw (by simp[base]) (p:=Op.load 3 (Operand.tmp 3)) (by kernel_rfl) (Ad Ax (by decide) ho) r1 n1 (x:=I m) rfl (λo' h'=>by unfold execOp;rw[h'];simp only[l0];simp[go_sem,c0]) hk
  |4,_,ho,ev,hk =>have l0:a'.eval (.tmp 18)=I ca:=ev 2 (by decide) (by kernel_rfl);have l1:a'.eval (.tmp 19)=I m:=ev 3 (by decide) (by kernel_rfl);exact op_calls (f:=62) (fn:=Tryd.f62) (xs:=#[.tmp 18,.tmp 19]) (ats:=#[3,3]) (args:=#[I ca,I m]) ho hw (by simp[base]) (by kernel_rfl) (by simp only[List.map_toArray,List.map_cons,List.map_nil,l0,l1]) Tryd.func62 (by kernel_rfl) rfl (fineFn_body fineT (by simp[LT,plainFs]) Tryd.func62 rfl) (λtmps=>⟨_,λw=>results_tmp rfl _ _ _,λw=>by simp[results,go_sem]⟩) r1 n1 (x:=I (which ca m)) rfl (λτ=>wp_mono (which_body ca m hm0 (by omega) (onTape v1 τ 0) _ rfl) (bp_mono λr u hq=>⟨hq.1,by rw[hq.2];exact gtape (grefl _)⟩)) hk
  |5,_,ho,ev,hk=>have l0:a'.eval (.tmp 16)=.slice (some ⟨sb,0,none⟩) m m:=ev 0 (by decide) (by kernel_rfl);have l1:a'.eval (.tmp 20)=I (which ca m):=ev 4 (by decide) (by kernel_rfl);have hw1:=which_lt ca hm0;have hw2:((which ca m:Nat):Int)<(m:Int):=(by omega);have hw3:¬ ((which ca m:Nat):Int)<0:=(by omega);exact Ab ho hw (by simp[base]) (p:=Op.indexAddr 99 (Operand.tmp 16) (Operand.tmp 20)) (by kernel_rfl) (Ad Ax (by decide) ho) r1 n1 (x:=Pt sb (which ca m)) rfl (λo' h'=>by unfold execOp;rw[h'];simp only[l0,l1];simp[go_sem,hw1,hw2,hw3]) hk
  |6,_,ho,ev,hk=>have l0:a'.eval (.tmp 21)=Pt sb (which ca m):=ev 5 (by decide) (by kernel_rfl);have c0:=g1.cell hob;exact Ab ho hw (by simp[base]) (p:=Op.load 46 (Operand.tmp 21)) (by kernel_rfl) (Ad Ax (by decide) ho) r1 n1 (x:=Pt ob 0) rfl (λo' h'=>by unfold execOp;rw[h'];simp only[l0];simp[go_sem,c0]) hk
  |7,_,ho,ev,hk=>have l0:a'.eval (.tmp 0)=Pt tb 0:=(ev0 0 (by decide)).trans (hA.at 0 _ (by simp));exact Ab ho hw (by simp[base]) (p:=Op.move (Operand.tmp 0)) (by kernel_rfl) (Ad Ax (by decide) ho) r1 n1 (x:=Pt tb 0) rfl (λo' h'=>by unfold execOp;rw[h'];simp only[l0];simp[go_sem]) hk
  |8,_,ho,ev,hk=>have l0:a'.eval (.tmp 5)=Pt bx 0:=(ev0 5 (by decide)).trans (hA.at 5 _ (by simp));exact Ab ho hw (by simp[base]) (p:=Op.fieldAddr 35 (Operand.tmp 5) 0) (by kernel_rfl) (Ad Ax (by decide) ho) r1 n1 (x:=Pt bx 0) rfl (λo' h'=>by unfold execOp;rw[h'];simp only[l0];simp[go_sem]) hk
  |9,_,ho,ev,hk=>have l0:a'.eval (.tmp 24)=Pt bx 0:=ev 8 (by decide) (by kernel_rfl);have c0:=g1.cell b0;exact Ab ho hw (by simp[base]) (p:=Op.load 3 (Operand.tmp 24)) (by kernel_rfl) (Ad Ax (by decide) ho) r1 n1 (x:=I po) rfl (λo' h'=>by unfold execOp;rw[h'];simp only[l0];simp[go_sem,c0]) hk
  |10,_,ho,ev,hk=>have l0:a'.eval (.tmp 25)=I po:=ev 9 (by decide) (by kernel_rfl);exact Ab ho hw (by simp[base]) (p:=Op.binOp BinOp.sub 3 (Operand.tmp 25) (Operand.const (Value.int IntKind.i64 1)) 3) (by kernel_rfl) (Ad Ax (by decide) ho) r1 n1 (x:=I (po - 1)) rfl (λo' h'=>by unfold execOp;rw[h'];simp only[l0];simp[go_sem,hpo]) hk
  |11,_,ho,ev,hk=>have l0:a'.eval (.tmp 5)=Pt bx 0:=(ev0 5 (by decide)).trans (hA.at 5 _ (by simp));exact Ab ho hw (by simp[base]) (p:=Op.fieldAddr 35 (Operand.tmp 5) 2) (by kernel_rfl) (Ad Ax (by decide) ho) r1 n1 (x:=Pt bx 2) rfl (λo' h'=>by unfold execOp;rw[h'];simp only[l0];simp[go_sem]) hk
  |12,_,ho,ev,hk=>have l0:a'.eval (.tmp 27)=Pt bx 2:=ev 11 (by decide) (by kernel_rfl);have c0:=g1.cell b2;exact Ab ho hw (by simp[base]) (p:=Op.load 3 (Operand.tmp 27)) (by kernel_rfl) (Ad Ax (by decide) ho) r1 n1 (x:=I cb) rfl (λo' h'=>by unfold execOp;rw[h'];simp only[l0];simp[go_sem,c0]) hk
  |13,_,ho,ev,hk=>have l0:a'.eval (.tmp 26)=I (po - 1):=ev 10 (by decide) (by kernel_rfl);have l1:a'.eval (.tmp 28)=I cb:=ev 12 (by decide) (by kernel_rfl);have l2:a'.tmps[26]?.getD undef=I (po - 1):=(by simpa [Act.eval] using l0);have l3:a'.tmps[28]?.getD undef=I cb:=(by simpa [Act.eval] using l1);exact Ab ho hw (by simp[base]) (p:=Op.build 52 #[(0,Operand.tmp 26),(1,Operand.tmp 28)]) (by kernel_rfl) (Ad Ax (by decide) ho) r1 n1 (x:=.agg #[I (po - 1),I cb]) rfl (λo' h'=>by unfold execOp;rw[h'];simp only[l0,l1];simp[go_sem,l2,l3]) hk
 .intro v1 w1 o ho hw r1 n1 g1
  refine hN v1 w1 _ o ho hw ⟨(An _ _ _ _).trans hA.1,(Al _ _ _ _).trans hA.2.1,?_⟩ r1 n1 g1;have hsz:16+14<=a.tmps.size:=by rw[hA.1];decide
  intro p hp;simp only[Sm,or_false] at hp;rcases hp with rfl|rfl|rfl|rfl|rfl|rfl|rfl|rfl;rw[Qe,Aa _ _ _ _ _ hsz,if_neg (by simp),<-Qe];exact hA.2.2 (0,Pt tb 0) (by simp);rw[Qe,Aa _ _ _ _ _ hsz,if_neg (by simp),<-Qe];exact hA.2.2 (2,Pt xb 0) (by simp);rw[Qe,Aa _ _ _ _ _ hsz,if_neg (by simp),<-Qe];exact hA.2.2 (3,Pt mb 0) (by simp);rw[Qe,Aa _ _ _ _ _ hsz,if_neg (by simp),<-Qe];exact hA.2.2 (5,Pt bx 0) (by simp);rw[Qe,Aa _ _ _ _ _ hsz,if_neg (by simp),<-Qe];exact hA.2.2 (6,Pt rb 0) (by simp);rw[Qe,Aa _ _ _ _ _ hsz,if_pos (by simp)];rfl;rw[Qe,Aa _ _ _ _ _ hsz,if_pos (by simp)];rfl;rw[Qe,Aa _ _ _ _ _ hsz,if_pos (by simp)];rfl
theorem p1y_wp (hA:Fl 31 [(0,Pt tb 0),(2,Pt xb 0),(3,Pt mb 0),(5,Pt bx 0),(6,Pt rb 0)] a) (b0:v.cell? ⟨bx,0,none⟩=some (I po)) (h1:1<=po) (h4:po<=4):(seq1 (seq1 (seq2 pB))).wp Tryd.prog (λe a' w'=>e=.normal∧Fl 31 [(14,.bool false),(0,Pt tb 0),(2,Pt xb 0),(3,Pt mb 0),(5,Pt bx 0),(6,Pt rb 0)] a'∧w'.heap=v.heap∧w'.os=v.os∧w'.output=v.output) a v:=by
 have f1:decide (po<1)=false:=decide_eq_false (by omega);have f2:decide (po > 4)=false:=decide_eq_false (by omega);obtain ⟨hsz,hd,hpp⟩:=hA;obtain ⟨u,rfl,hg⟩:=litN hsz hd;have u0:=(hg 0).symm.trans (hpp (0,Pt tb 0) (by simp));have u2:=(hg 2).symm.trans (hpp (2,Pt xb 0) (by simp));have u3:=(hg 3).symm.trans (hpp (3,Pt mb 0) (by simp));have u5:=(hg 5).symm.trans (hpp (5,Pt bx 0) (by simp));have u6:=(hg 6).symm.trans (hpp (6,Pt rb 0) (by simp));clear hg hpp hsz hd;unfold pB Tryd.f61 seq1 seq2;simp only[Qa,lits,Nat.reduceAdd,u0,u2,u3,u5,u6];clear u0 u2 u3 u5 u6;go_wp2_with fail;all_goals first
  |exact ⟨rfl,rfl,by
  intro p hp;simp only[Sm,or_false] at hp;rcases hp with rfl|rfl|rfl|rfl|rfl|rfl<;>rfl⟩
  |omega
theorem p1l_wp (hA:Fl 31 [(0,Pt tb 0),(2,Pt xb 0),(3,Pt mb 0),(5,Pt bx 0),(6,Pt rb 0)] a) (b0:v.cell? ⟨bx,0,none⟩=some (I po)) (h1:po<1):(seq1 (seq1 (seq2 pB))).wp Tryd.prog (λe a' w'=>e=.normal∧Fl 31 [(14,.bool true),(0,Pt tb 0),(2,Pt xb 0),(3,Pt mb 0),(5,Pt bx 0),(6,Pt rb 0)] a'∧w'.heap=v.heap∧w'.os=v.os∧w'.output=v.output) a v:=by
 have f1:decide (po<1)=true:=decide_eq_true h1;obtain ⟨hsz,hd,hpp⟩:=hA;obtain ⟨u,rfl,hg⟩:=litN hsz hd;have u0:=(hg 0).symm.trans (hpp (0,Pt tb 0) (by simp));have u2:=(hg 2).symm.trans (hpp (2,Pt xb 0) (by simp));have u3:=(hg 3).symm.trans (hpp (3,Pt mb 0) (by simp));have u5:=(hg 5).symm.trans (hpp (5,Pt bx 0) (by simp));have u6:=(hg 6).symm.trans (hpp (6,Pt rb 0) (by simp));clear hg hpp hsz hd;unfold pB Tryd.f61 seq1 seq2;simp only[Qa,lits,Nat.reduceAdd,u0,u2,u3,u5,u6];clear u0 u2 u3 u5 u6;go_wp2_with fail;all_goals first
  |exact ⟨rfl,rfl,by
  intro p hp;simp only[Sm,or_false] at hp;rcases hp with rfl|rfl|rfl|rfl|rfl|rfl<;>rfl⟩
  |omega
theorem p1g_wp (hA:Fl 31 [(0,Pt tb 0),(2,Pt xb 0),(3,Pt mb 0),(5,Pt bx 0),(6,Pt rb 0)] a) (b0:v.cell? ⟨bx,0,none⟩=some (I po)) (h1:4<po):(seq1 (seq1 (seq2 pB))).wp Tryd.prog (λe a' w'=>e=.normal∧Fl 31 [(14,.bool true),(0,Pt tb 0),(2,Pt xb 0),(3,Pt mb 0),(5,Pt bx 0),(6,Pt rb 0)] a'∧w'.heap=v.heap∧w'.os=v.os∧w'.output=v.output) a v:=by
 have f1:decide (po<1)=false:=decide_eq_false (by omega);have f2:decide (po > 4)=true:=decide_eq_true h1;obtain ⟨hsz,hd,hpp⟩:=hA;obtain ⟨u,rfl,hg⟩:=litN hsz hd;have u0:=(hg 0).symm.trans (hpp (0,Pt tb 0) (by simp));have u2:=(hg 2).symm.trans (hpp (2,Pt xb 0) (by simp));have u3:=(hg 3).symm.trans (hpp (3,Pt mb 0) (by simp));have u5:=(hg 5).symm.trans (hpp (5,Pt bx 0) (by simp));have u6:=(hg 6).symm.trans (hpp (6,Pt rb 0) (by simp));clear hg hpp hsz hd;unfold pB Tryd.f61 seq1 seq2;simp only[Qa,lits,Nat.reduceAdd,u0,u2,u3,u5,u6];clear u0 u2 u3 u5 u6;go_wp2_with fail;all_goals first
  |exact ⟨rfl,rfl,by
  intro p hp;simp only[Sm,or_false] at hp;rcases hp with rfl|rfl|rfl|rfl|rfl|rfl<;>rfl⟩
  |omega
theorem call_no {ca cb cc:Int}(hpo:po<1∨4<po) (cs:List Frame) {rest:List Nat}(hoc:ops[q]? = some oc) (hvw:Rel z v w) (hn:NoRow Ch v)
 (hk:∀ v' w',Rel z v' w'->NoRow Ch v'->Grows v v'->GoesI Tryd.prog main (DT (ScZ z) Ch) Stop (G (bc.at (ac.put oc.dst (.agg #[I 1,I 0])) (.inRegion ops rest :: k0)) cs) w') (code:Code) (hc:Tryd.f61.body=some code):
 GoesI Tryd.prog main (DT (ScZ z) Ch) Stop (G ((base 61).at { tmps:=#[Pt tb 0,.agg #[I po,I ca,I cb,I cc],Pt xb 0,Pt mb 0]++Array.replicate 27 undef,defers:=[] } [.code code]) (bc.at ac (.inRegion ops (q :: rest) :: k0) :: cs)) w:=by
 have hw0:code=.seq (seq1 pB) (.seq (.seq (seq1 (seq1 (seq2 pB))) (seq2 (seq1 (seq2 pB)))) (.seq (.region 3 pO3 true) .ret)):=by rw[show code=pB by unfold pB;rw[hc];rfl];exact ePB
 subst hw0;clear hc;refine goesI_seq (dt_idle _ _) ?_;refine goesI_plain (z:=z) (wr:=true) (L:=LT) (I:=NoRow Ch) hE fineT noRow_keeps (λv v' w w' es hi hr ho he=>dt_of_z v v' w w' es hi hr ho he) hvw fine_p0 rfl (by simp[base]) hn
  (Q:=λa w'=>Fl 31 [(0,Pt tb 0),(2,Pt xb 0),(3,Pt mb 0),(5,Pt v.heap.size 0),(6,Pt (v.heap.size+1) 0)] a∧w'.heap=((v.heap.push (.cells #[I po,I ca,I cb,I cc] 35)).push (.cells #[I 0,I 0] 38))∧w'.os=v.os∧w'.output=v.output) (λτ=>?_) ?_
 .unfold pB Tryd.f61 seq1
  simp only[Qa,Sy];go_wp2_with fail;exact ⟨⟨rfl,rfl,by
   intro p hp;simp only[Sm,or_false] at hp;rcases hp with rfl|rfl|rfl|rfl|rfl<;>rfl⟩,rfl,rfl,rfl⟩
 rintro a' v' w' ⟨hA,hv1,hv2,hv3⟩ hr' hn' -;have hsz:v'.heap.size=v.heap.size+2:=by rw[hv1];simp
 have hg:Grows v v':=⟨by omega,λb hb=>by rw[hv1,Qg,if_neg (by simp;omega),Qg,if_neg (by omega)],hv2,hv3⟩
 have hb0:v'.heap[v.heap.size]? = some (.cells #[I po,I ca,I cb,I cc] 35 (0,0)):=by rw[hv1,Qg,if_neg (by simp<;>omega),Qg,if_pos (by simp)]
 have hb1:v'.heap[v.heap.size+1]? = some (.cells #[I 0,I 0] 38 (0,0)):=by rw[hv1,Qg,if_pos (by simp)]
 have c0:v'.cell? ⟨v.heap.size,0,none⟩=some (I po):=by simp[World.cell?,hb0]
 have c1:v'.cell? ⟨v.heap.size,1,none⟩=some (I ca):=by simp[World.cell?,hb0]
 have c2:v'.cell? ⟨v.heap.size,2,none⟩=some (I cb):=by simp[World.cell?,hb0]
 clear hv1 hv2 hv3;have e1:seq2 (seq1 (seq2 pB))=.cond (.tmp 14) (condA (seq2 (seq1 (seq2 pB)))) .skip:=by kernel_rfl
 refine goesI_seq (dt_idle _ _) ?_;refine goesI_seq (dt_idle _ _) ?_;rw[e1];refine goesI_plain (z:=z) (wr:=true) (L:=LT) (I:=NoRow Ch) hE fineT noRow_keeps (λv v' w w' es hi hr ho he=>dt_of_z v v' w w' es hi hr ho he) hr' fine_p1 hA.2.1 (by simp[base]) hn'
  (Q:=λa w''=>Fl 31 [(14,.bool true),(0,Pt tb 0),(2,Pt xb 0),(3,Pt mb 0),(5,Pt v.heap.size 0),(6,Pt (v.heap.size+1) 0)] a∧w''.heap=v'.heap∧w''.os=v'.os∧w''.output=v'.output) (λτ=>?_) ?_
 .rcases hpo with h|h
  exact p1l_wp (v:=onTape v' τ 0) hA c0 h;exact p1g_wp (v:=onTape v' τ 0) hA c0 h
 rintro a2 v2 w2 ⟨hA2,k1,k2,k3⟩ r2 n2 -;have hpb:v2.heap[v.heap.size+1]? = some (.cells #[I 0,I 0] 38 (0,0)):=by rw[k1];exact hb1
 have g2:Grows v v2:=Am hg ⟨by rw[k1];exact Qi _,λb _=>by rw[k1],k2,k3⟩;have hgr:Grows v (ansW v2 (v.heap.size+1) 1 0):=⟨by rw[Bg];exact g2.size,λb hb=>by rw[Bf _ _ _ _ _ (by omega)];exact g2.old b hb,g2.os,g2.output⟩
 have hk:=λw' r' n'=>hk (ansW v2 (v.heap.size+1) 1 0) w' r' n' hgr;clear hgr g2 hg hsz hb0 hb1 c0 c1 c2 k1 k2 k3 hr' hn' hvw hn hA;have hA:=hA2;clear hA2;generalize v.heap.size+1=rb at hpb hk hA;generalize v.heap.size=bx at hA;obtain ⟨hsz,hd,hpp⟩:=hA;obtain ⟨u,rfl,hg⟩:=litN hsz hd;have u14:=(hg 14).symm.trans (hpp (14,.bool true) (by simp));have u0:=(hg 0).symm.trans (hpp (0,Pt tb 0) (by simp));have u2:=(hg 2).symm.trans (hpp (2,Pt xb 0) (by simp));have u3:=(hg 3).symm.trans (hpp (3,Pt mb 0) (by simp));have u5:=(hg 5).symm.trans (hpp (5,Pt bx 0) (by simp));have u6:=(hg 6).symm.trans (hpp (6,Pt rb 0) (by simp));clear hg hpp hsz hd;unfold pB Tryd.f61 seq1 seq2 condA;simp only[Qa,lits,Nat.reduceAdd,u14,u0,u2,u3,u5,u6];clear u14 u0 u2 u3 u5 u6;refine goesI_cond (dt_idle _ _) (t:=true) (by simp[Act.eval]) ?_;simp only[if_true,if_false,Qh];refine goesI_seq (dt_idle _ _) ?_;refine goesI_region (dt_idle _ _) ?_;simp only[Sz,Sr,Nat.reduceAdd];iterate 1
  (refine goesI_oper rfl rfl (by decide) (λd K hK=>?_)
   go_simp;refine hK _ _ ⟨dt_reads (λe he=>?_),GoesI.at ?_ d⟩
   .have hm:=mem_listed he
    simp[go_sem, *] at hm
    try exact ⟨_,_,hm⟩
    try (rcases hm with rfl|rfl<;>exact ⟨_,_,rfl⟩)
   clear hK K)
 have q0:v2.cell? ⟨rb,0,none⟩=some (I 0):=by simp[World.cell?,hpb]
 have q1:v2.cell? ⟨rb,1,none⟩=some (I 0):=by simp[World.cell?,hpb]
 have p0:v2.frozen? ⟨rb,0,none⟩=false:=by simp[World.frozen?,hpb]
 have p1:v2.frozen? ⟨rb,1,none⟩=false:=by simp[World.frozen?,hpb]
 have hrow:=Ap hpb (1) (0);refine goesI_doZ (L:=LT) rfl rfl (by decide) (fineOp_ask callT extT (by kernel_rfl)) r2 n2 (v':=ansW v2 rb (1) (0)) (by unfold ansW;go_simp) rfl (λw9 r9 n9=>?_);refine goesI_regionEnd (dt_idle _ _) ?_;refine GoesI.ctl rfl (λ_=>stepG_ret') (dt_idle _ _) ?_;refine goesI_leaveZ (f:=61) (fn:=Tryd.f61) (x:=.agg #[I (1),I (0)]) r9 n9 Tryd.func61 rfl hoc ?_ (λw' r'=>hk w' r' n9);generalize ansW v2 rb (1) (0)=V at hrow;have k0:V.cell? ⟨rb,0,none⟩=some (I (1)):=by simp[World.cell?,hrow]
 have k1:V.cell? ⟨rb,1,none⟩=some (I (0)):=by simp[World.cell?,hrow]
 simp[results,go_sem,Tryd.f61, *]
theorem call_in {ca cb cc:Int}{sb m:Nat}(h1:1<=po) (h4:po<=4) (hm0:0<m) (hm1:m<=1000) (hx:v.cell? ⟨xb,0,none⟩=some (.slice (some ⟨sb,0,none⟩) m m)) (hmb:v.cell? ⟨mb,0,none⟩=some (I m)) (hob:v.cell? ⟨sb,which ca m,none⟩=some (Pt ob 0)) (cs:List Frame) (hvw:Rel z v w) (hn:NoRow Ch v)
 (hk:∀ a v' w' o,Fl 31 [(6,Pt (v.heap.size+1) 0)] a->Rel z v' w'->NoRow Ch v'->Grows v v'->v'.heap[v.heap.size+1]? = some (.cells #[I 0,I 0] 38 (0,0))->pO3[14]? = some o->o.dst=some 30->∀ code,Tryd.f28.body=some code ->
   GoesI Tryd.prog main (DT (ScZ z) Ch) Stop (G ((base 28).at { tmps:=#[Pt ob 0,Pt tb 0,.agg #[I (po - 1),I cb]]++Array.replicate 11 undef,defers:=[] } [.code code]) ((base 61).at a (.inRegion pO3 [14,15] :: [.code .ret]):: cs)) w') (code:Code) (hc:Tryd.f61.body=some code):
 GoesI Tryd.prog main (DT (ScZ z) Ch) Stop (G ((base 61).at { tmps:=#[Pt tb 0,.agg #[I po,I ca,I cb,I cc],Pt xb 0,Pt mb 0]++Array.replicate 27 undef,defers:=[] } [.code code]) cs) w:=by
 have hw0:code=.seq (seq1 pB) (.seq (.seq (seq1 (seq1 (seq2 pB))) (seq2 (seq1 (seq2 pB)))) (.seq (.region 3 pO3 true) .ret)):=by rw[show code=pB by unfold pB;rw[hc];rfl];exact ePB
 subst hw0;clear hc;refine goesI_seq (dt_idle _ _) ?_;refine goesI_plain (z:=z) (wr:=true) (L:=LT) (I:=NoRow Ch) hE fineT noRow_keeps (λv v' w w' es hi hr ho he=>dt_of_z v v' w w' es hi hr ho he) hvw fine_p0 rfl (by simp[base]) hn
  (Q:=λa w'=>Fl 31 [(0,Pt tb 0),(2,Pt xb 0),(3,Pt mb 0),(5,Pt v.heap.size 0),(6,Pt (v.heap.size+1) 0)] a∧w'.heap=((v.heap.push (.cells #[I po,I ca,I cb,I cc] 35)).push (.cells #[I 0,I 0] 38))∧w'.os=v.os∧w'.output=v.output) (λτ=>?_) ?_
 .unfold pB Tryd.f61 seq1
  simp only[Qa,Sy];go_wp2_with fail;exact ⟨⟨rfl,rfl,by
   intro p hp;simp only[Sm,or_false] at hp;rcases hp with rfl|rfl|rfl|rfl|rfl<;>rfl⟩,rfl,rfl,rfl⟩
 rintro a' v' w' ⟨hA,hv1,hv2,hv3⟩ hr' hn' -;have hsz:v'.heap.size=v.heap.size+2:=by rw[hv1];simp
 have hg:Grows v v':=⟨by omega,λb hb=>by rw[hv1,Qg,if_neg (by simp;omega),Qg,if_neg (by omega)],hv2,hv3⟩
 have hb0:v'.heap[v.heap.size]? = some (.cells #[I po,I ca,I cb,I cc] 35 (0,0)):=by rw[hv1,Qg,if_neg (by simp<;>omega),Qg,if_pos (by simp)]
 have hb1:v'.heap[v.heap.size+1]? = some (.cells #[I 0,I 0] 38 (0,0)):=by rw[hv1,Qg,if_pos (by simp)]
 have c0:v'.cell? ⟨v.heap.size,0,none⟩=some (I po):=by simp[World.cell?,hb0]
 have c1:v'.cell? ⟨v.heap.size,1,none⟩=some (I ca):=by simp[World.cell?,hb0]
 have c2:v'.cell? ⟨v.heap.size,2,none⟩=some (I cb):=by simp[World.cell?,hb0]
 clear hv1 hv2 hv3;have e1:seq2 (seq1 (seq2 pB))=.cond (.tmp 14) (condA (seq2 (seq1 (seq2 pB)))) .skip:=by kernel_rfl
 refine goesI_seq (dt_idle _ _) ?_;refine goesI_seq (dt_idle _ _) ?_;rw[e1];refine goesI_plain (z:=z) (wr:=true) (L:=LT) (I:=NoRow Ch) hE fineT noRow_keeps (λv v' w w' es hi hr ho he=>dt_of_z v v' w w' es hi hr ho he) hr' fine_p1 hA.2.1 (by simp[base]) hn'
  (Q:=λa w''=>Fl 31 [(14,.bool false),(0,Pt tb 0),(2,Pt xb 0),(3,Pt mb 0),(5,Pt v.heap.size 0),(6,Pt (v.heap.size+1) 0)] a∧w''.heap=v'.heap∧w''.os=v'.os∧w''.output=v'.output) (λτ=>p1y_wp (v:=onTape v' τ 0) hA c0 h1 h4) ?_
 rintro a2 v2 w2 ⟨hA2,k1,k2,k3⟩ r2 n2 -;have g1:Grows v' v2:=⟨by rw[k1];exact Qi _,λb _=>by rw[k1],k2,k3⟩
 have g2:Grows v v2:=Am hg g1;refine goesI_cond (dt_idle _ _) (t:=false) (hA2.at 14 _ (by simp)) ?_;simp only[if_true,if_false,Qh];refine goesI_skip (dt_idle _ _) ?_;refine goesI_seq (dt_idle _ _) ?_;refine p3_pre (main:=main) (rb:=v.heap.size+1) tb xb mb v.heap.size sb m ob po ca cb (hA2.sub (by simp)) _ cs hm0 hm1 (by rw[Pl.i64_wrap];exact Pl.wrap_id (by unfold Pl.Fits;omega)) (g2.cell hx) (g2.cell hmb) (g2.cell hob) (g1.cell c0) (g1.cell c1) (g1.cell c2) r2 n2 (λv3 w3 a3 o ho hw hA3 r3 n3 g3=>?_);refine goesI_into (f:=28) (fn:=Tryd.f28) (args:=#[Pt ob 0,Pt tb 0,.agg #[I (po - 1),I cb]]) (dt_idle _ _) ho (hw _) (by simp[base]) (op_at (p:=.call { callee:=.value (.func 28),args:=#[.tmp 22,.tmp 23,.tmp 29],argTypes:=#[46,48,52] }) (by kernel_rfl) ho) (by simp only[List.map_toArray,List.map_cons,List.map_nil];rw[hA3.at 22 (Pt ob 0) (by simp),hA3.at 23 (Pt tb 0) (by simp),hA3.at 29 (.agg #[I (po - 1),I cb]) (by simp)]) Tryd.func28 (by kernel_rfl) rfl ?_;exact hk a3 v3 w3 o (hA3.sub (by simp)) r3 n3 (Am g2 g3) (by rw[g3.old _ (by rw[k1];omega),k1];exact hb1) ho (dst_at (by kernel_rfl) ho) _ rfl
theorem call_back (hA:Fl 31 [(6,Pt rb 0)] a) (cs:List Frame) {rest:List Nat}(hoc:ops[q]? = some oc) (hpb:v.heap[rb]? = some (.cells #[I 0,I 0] 38 (0,0))) (hvw:Rel z v w) (hn:NoRow Ch v)
 (hk:∀ w',Rel z (ansW v rb e x) w'->NoRow Ch (ansW v rb e x)->GoesI Tryd.prog main (DT (ScZ z) Ch) Stop (G (bc.at (ac.put oc.dst (.agg #[I e,I x])) (.inRegion ops rest :: k0)) cs) w'):
 GoesI Tryd.prog main (DT (ScZ z) Ch) Stop (G (pFr a (.agg #[I e,I x])) (bc.at ac (.inRegion ops (q :: rest) :: k0) :: cs)) w:=by
 obtain ⟨hsz,hd,hpp⟩:=hA;obtain ⟨u,rfl,hg⟩:=litN hsz hd;have u6:=(hg 6).symm.trans (hpp (6,Pt rb 0) (by simp));clear hg hpp hsz hd;unfold pFr pO3 pB Tryd.f61 seq1 seq2 opsOf;simp only[Qa,lits,Nat.reduceAdd,u6];clear u6;walk_nrm
 have q0:v.cell? ⟨rb,0,none⟩=some (I 0):=by simp[World.cell?,hpb]
 have q1:v.cell? ⟨rb,1,none⟩=some (I 0):=by simp[World.cell?,hpb]
 have p0:v.frozen? ⟨rb,0,none⟩=false:=by simp[World.frozen?,hpb]
 have p1:v.frozen? ⟨rb,1,none⟩=false:=by simp[World.frozen?,hpb]
 have hrow:=Ap hpb (e) (x);refine goesI_doZ (L:=LT) rfl rfl (by decide) (fineOp_ask callT extT (by kernel_rfl)) hvw hn (v':=ansW v rb (e) (x)) (by unfold ansW;go_simp) rfl (λw9 r9 n9=>?_);refine goesI_regionEnd (dt_idle _ _) ?_;refine GoesI.ctl rfl (λ_=>stepG_ret') (dt_idle _ _) ?_;refine goesI_leaveZ (f:=61) (fn:=Tryd.f61) (x:=.agg #[I (e),I (x)]) r9 n9 Tryd.func61 rfl hoc ?_ (λw' r'=>hk w' r' n9);generalize ansW v rb (e) (x)=V at hrow;have k0:V.cell? ⟨rb,0,none⟩=some (I (e)):=by simp[World.cell?,hrow]
 have k1:V.cell? ⟨rb,1,none⟩=some (I (x)):=by simp[World.cell?,hrow]
 simp[results,go_sem,Tryd.f61, *]
def cmO (k b:Int):Int×Int:=if k=0 then (0,b) else if k=1 then (70,b) else (71,b)
def lO (o:Nat) (k b:Int) (d i:Nat):List Int:=[(o:Int),k,b,(d:Int),(i:Int)]
def nxO (o:Nat) (k b:Int) (d i:Nat) (a:Int×Int):Nx :=
 match d with
 |0=>.ans a.1 a.2
 |d+1=>.turn 2 (2*o+1) (5,lO o k b d i++[70,a.1])
def Au (o:Nat) (k b:Int) (d i:Nat):Nx:=if k=3 then .turn 1 (2*o) (1,lO o k b (d+1) i) else .turn 2 (2*o+1) (5,lO o k b d i++[(cmO k b).1,(cmO k b).2])
def Az (o:Nat) (k b:Int) (d i:Nat) (x:Int):Nx :=
 if R1.stI x=2 then .turn 1 (2*o+1) (2,lO o k b d i++[R1.codI x]) else if R1.stI x=0 then .turn 4 (2*o) (3,lO o k b d i++[x]) else if R1.whoI x=(i:Int) then nxO o k b d i (72,0) else .wait (2*o) (4,lO o k b d i)
def oA (q:Q):Nat:=(q.2.getD 0 0).toNat
def kA (q:Q):Int:=q.2.getD 1 0
def bA (q:Q):Int:=q.2.getD 2 0
def dA (q:Q):Nat:=(q.2.getD 3 0).toNat
def iA (q:Q):Nat:=(q.2.getD 4 0).toNat
def eA (q:Q):Int:=q.2.getD 5 0
def xA (q:Q):Int:=q.2.getD 6 0
def mcO (m:Nat):Mc where
 start i c:=if 1<=c.po∧c.po<=4 then .turn 1 (2*which c.ca m) (1,lO (which c.ca m) (c.po - 1) c.cb 0 i) else .ans 1 0
 turn q x :=
  if q.1=1 then ((x,x),x,Az (oA q) (kA q) (bA q) (dA q) (iA q) x)
  else if q.1=2 then ((x,x),x,nxO (oA q) (kA q) (bA q) (dA q) (iA q) (eA q,x))
  else if q.1=3 then (if x=eA q then ((eA q,R1.Ae 1 (iA q) 0),R1.Ae 1 (iA q) 0,Au (oA q) (kA q) (bA q) (dA q) (iA q)) else ((x,x),x,.turn 1 (2*oA q) (1,lO (oA q) (kA q) (bA q) (dA q) (iA q))))
  else if q.1=5 then ((x,xA q),xA q,.turn 2 (2*oA q) (6,lO (oA q) (kA q) (bA q) (dA q) (iA q)++[eA q,xA q]))
  else ((x,R1.Ae 2 0 (eA q)),R1.Ae 2 0 (eA q),nxO (oA q) (kA q) (bA q) (dA q) (iA q) (eA q,xA q))
 woke q:=.turn 1 (2*oA q) (1,lO (oA q) (kA q) (bA q) (dA q) (iA q))
 stuck q:=nxO (oA q) (kA q) (bA q) (dA q) (iA q) (4,0)
 stkN q j q' h:=by unfold nxO at h;split at h<;>cases h
section
variable {m o:Nat}{k b:Int}{d i:Nat}{x:Int}
theorem set_nx (s:Bool) (a:Int×Int):(mcO m).set s (nxO o k b d i a)=nxO o k b d i a:=by
 cases d<;>rfl
theorem set_come (s:Bool):(mcO m).set s (Au o k b d i)=Au o k b d i:=by unfold Au;split<;>rfl
theorem turn1:(mcO m).turn (1,lO o k b d i) x=((x,x),x,Az o k b d i x):=by simp[mcO,lO,oA,kA,bA,dA,iA]
theorem turn2 (c:Int):(mcO m).turn (2,lO o k b d i++[c]) x=((x,x),x,nxO o k b d i (c,x)):=by simp[mcO,lO,oA,kA,bA,dA,iA,eA]
theorem turn3 (c:Int):(mcO m).turn (3,lO o k b d i++[c]) x=if x=c then ((c,R1.Ae 1 i 0),R1.Ae 1 i 0,Au o k b d i) else ((x,x),x,.turn 1 (2*o) (1,lO o k b d i)):=by simp[mcO,lO,oA,kA,bA,dA,iA,eA]
theorem turn5 (e y:Int):(mcO m).turn (5,lO o k b d i++[e,y]) x=((x,y),y,.turn 2 (2*o) (6,lO o k b d i++[e,y])):=by simp[mcO,lO,oA,kA,bA,dA,iA,eA,xA]
theorem turn6 (e y:Int):(mcO m).turn (6,lO o k b d i++[e,y]) x=((x,R1.Ae 2 0 e),R1.Ae 2 0 e,nxO o k b d i (e,y)):=by simp[mcO,lO,oA,kA,bA,dA,iA,eA,xA]
theorem woke4:(mcO m).woke (4,lO o k b d i)=.turn 1 (2*o) (1,lO o k b d i):=by simp[mcO,lO,oA,kA,bA,dA,iA]
theorem stuck4:(mcO m).stuck (4,lO o k b d i)=nxO o k b d i (4,0):=by simp[mcO,lO,oA,kA,bA,dA,iA]
end
section
variable (n o:Nat) (k b:Int) (d i:Nat) (r:List Int)
theorem oA_l:oA (n,lO o k b d i++r)=o:=by simp[oA,lO]
theorem dA_l:dA (n,lO o k b d i++r)=d:=by simp[dA,lO]
theorem iA_l:iA (n,lO o k b d i++r)=i:=by simp[iA,lO]
theorem eA_l (e:Int):eA (n,lO o k b d i++e :: r)=e:=by simp[eA,lO]
end
def lvO (pc d:Nat):Nat:=if d=0 then (if pc=1∨pc=3∨pc=4 then 5 else if pc=5 then 2 else if pc=6∨pc=2 then 1 else 0) else if d=1∧pc=1 then 4 else 0
def levO (q:Q):Nat:=lvO q.1 (dA q)
def clO (q:Q):Nat:=if q.1=2∨q.1=5 then 2*oA q+1 else 2*oA q
def wsO (q:Q) (x:Int):Nat:=if q.1=1 then 1 else if q.1=3 then (if x=eA q then 0 else 2) else 0
def wqO (q:Q):Prop:=q.1=4∧dA q=0
def gqO (i:Nat) (q:Q) (x:Int):Prop:=q.1=1->1<=dA q->R1.stI x=1∧R1.whoI x=(iA q:Int)
section
variable {o:Nat}{k b:Int}{d i:Nat}
theorem Bd (n:Nat) (r:List Int):levO (n,lO o k b d i++r)=lvO n d:=by unfold levO;rw[dA_l]
theorem Be (n:Nat):levO (n,lO o k b d i)=lvO n d:=by have:=Bd (o:=o) (k:=k) (b:=b) (d:=d) (i:=i) n [];rwa [List.append_nil] at this
theorem cl_l (n:Nat) (r:List Int):clO (n,lO o k b d i++r)=if n=2∨n=5 then 2*o+1 else 2*o:=by unfold clO;rw[oA_l]
theorem cl_0 (n:Nat):clO (n,lO o k b d i)=if n=2∨n=5 then 2*o+1 else 2*o:=by have:=cl_l (o:=o) (k:=k) (b:=b) (d:=d) (i:=i) n [];rwa [List.append_nil] at this
theorem seat_nx (a:Int×Int) (hd:d<=1):seatOk 5 levO clO wqO (nxO o k b d i a)∧nlev levO (nxO o k b d i a)<=2*d:=by
 match d,hd with
 |0,_=>exact ⟨trivial,Qi _⟩
 |1,_ =>
  have h:levO (5,lO o k b 0 i++[70,a.1])=2:=Bd 5 [70,a.1];refine ⟨⟨?_,?_,?_⟩,?_⟩;rw[h];decide;rw[h];decide;rw[cl_l];rfl
  .show levO (5,lO o k b 0 i++[70,a.1])<=2*1
   rw[h];decide
end
theorem lv_cases {pc d:Nat}(h:1<=lvO pc d):(d=0∧(pc=1∨pc=3∨pc=4∨pc=5∨pc=6∨pc=2))∨(d=1∧pc=1):=by
 unfold lvO at h;split at h
 .left
  refine ⟨by assumption,?_⟩;split at h;omega
  .split at h
   omega
   .split at h
    omega;omega
 .split at h
  right;assumption;omega
def metO (m:Nat):Met (mcO m) where
 L:=5
 hL:=by omega
 lev:=levO
 ws:=wsO
 cl:=clO
 wq:=wqO
 gq:=gqO
 ws_le q x:=by
  unfold wsO;split;omega
  .split
   .split<;>omega
   omega
 start i c:=by
  unfold mcO;simp only;split
  .refine ⟨?_,?_,?_⟩
   rw[Be];decide;rw[Be];decide;rw[cl_0];rfl
  trivial
 stuck q h1 h2 hw:=by have hd:dA q=0:=hw.2;have hs:(mcO m).stuck q=nxO (oA q) (kA q) (bA q) (dA q) (iA q) (4,0):=rfl;rw[hs,hd];exact ⟨trivial,by show 0<levO q;omega⟩
 woke q h1 h2 hw:=by
  have hd:dA q=0:=hw.2;have hs:(mcO m).woke q=.turn 1 (2*oA q) (1,lO (oA q) (kA q) (bA q) (dA q) (iA q)):=rfl;have hl:levO q=5:=by unfold levO;rw[hw.1,hd];rfl
  rw[hs,hd,hl];refine ⟨⟨?_,?_,?_⟩,.inr ⟨?_,?_⟩⟩;rw[Be];decide;rw[Be];decide;rw[cl_0];rfl
  .show levO (1,_)=5
   rw[Be];rfl
  .intro y
   unfold wsO;simp
 turn i q x hg h1 h2:=by
  rcases lv_cases h1 with ⟨hd,hp⟩|⟨hd,hp⟩
  .rcases hp with hp|hp|hp|hp|hp|hp
   . -- it looks at the word
    have ht:(mcO m).turn q x=((x,x),x,Az (oA q) (kA q) (bA q) (dA q) (iA q) x):=by show (if q.1=1 then _ else _:(Int×Int)×Int×Nx)=_;rw[if_pos hp]
    have hl:levO q=5:=by unfold levO;rw[hp,hd];rfl
    rw[ht,hd,hl];unfold Az;split
    .refine ⟨⟨?_,?_,?_⟩,.inl ?_⟩
     rw[Bd];decide;rw[Bd];decide;rw[cl_l];rfl
     .show levO (2,_)<5
      rw[Bd];decide
    .split
     .refine ⟨⟨?_,?_,?_⟩,.inr ⟨rfl,rfl,?_,?_,?_⟩⟩
      rw[Bd];decide;rw[Bd];decide;rw[cl_l];rfl
      .show levO (3,_)=5
       rw[Bd];rfl
      .rw[cl_l]
       unfold clO;rw[hp];rfl
      .unfold wsO
       simp[eA_l,hp]
     .split
      exact ⟨(seat_nx (o:=oA q) (k:=kA q) (b:=bA q) (i:=iA q) (d:=0) (72,0) (by decide)).1,.inl (by have:=(seat_nx (o:=oA q) (k:=kA q) (b:=bA q) (i:=iA q) (d:=0) (72,0) (by decide)).2;show nlev levO (nxO (oA q) (kA q) (bA q) 0 (iA q) (72,0))<5;omega)⟩
      .refine ⟨⟨?_,?_,?_⟩,.inr ⟨rfl,rfl,?_,?_⟩⟩
       rw[Be];decide;rw[Be];decide;exact ⟨rfl,by have:=dA_l 4 (oA q) (kA q) (bA q) 0 (iA q) [];rwa [List.append_nil] at this⟩
       .show levO (4,_)=5
        rw[Be];rfl
       .unfold wsO
        simp[hp]
   . -- it tries to be the one
    have ht:(mcO m).turn q x=(if x=eA q then ((eA q,R1.Ae 1 (iA q) 0),R1.Ae 1 (iA q) 0,Au (oA q) (kA q) (bA q) (dA q) (iA q)) else ((x,x),x,.turn 1 (2*oA q) (1,lO (oA q) (kA q) (bA q) (dA q) (iA q)))):=by show (if q.1=1 then _ else if q.1=2 then _ else if q.1=3 then _ else _:(Int×Int)×Int×Nx)=_;rw[if_neg (by omega),if_neg (by omega),if_pos hp]
    have hl:levO q=5:=by unfold levO;rw[hp,hd];rfl
    rw[ht,hd,hl];by_cases hx:x=eA q
    .rw[if_pos hx]
     show seatOk 5 levO clO wqO (Au (oA q) (kA q) (bA q) 0 (iA q))∧_;unfold Au;split
     .refine ⟨⟨?_,?_,?_⟩,.inl ?_⟩
      rw[Be];decide;rw[Be];decide;rw[cl_0];rfl
      .show levO (1,_)<5
       rw[Be];decide
     .refine ⟨⟨?_,?_,?_⟩,.inl ?_⟩
      rw[Bd];decide;rw[Bd];decide;rw[cl_l];rfl
      .show levO (5,_)<5
       rw[Bd];decide
    .rw[if_neg hx]
     refine ⟨⟨?_,?_,?_⟩,.inr ⟨rfl,rfl,?_,?_,?_⟩⟩;rw[Be];decide;rw[Be];decide;rw[cl_0];rfl
     .show levO (1,_)=5
      rw[Be];rfl
     .rw[cl_0]
      unfold clO;rw[hp];rfl
     .unfold wsO
      simp[hp,hx]
   . -- nobody sits so at a turn
    have ht:(mcO m).turn q x=((x,R1.Ae 2 0 (eA q)),R1.Ae 2 0 (eA q),nxO (oA q) (kA q) (bA q) (dA q) (iA q) (eA q,xA q)):=by show (if q.1=1 then _ else if q.1=2 then _ else if q.1=3 then _ else if q.1=5 then _ else _:(Int×Int)×Int×Nx)=_;rw[if_neg (by omega),if_neg (by omega),if_neg (by omega),if_neg (by omega)]
    rw[ht,hd];exact ⟨trivial,.inl (by show 0<levO q;omega)⟩
   .have ht:(mcO m).turn q x=((x,xA q),xA q,.turn 2 (2*oA q) (6,lO (oA q) (kA q) (bA q) (dA q) (iA q)++[eA q,xA q])):=by show (if q.1=1 then _ else if q.1=2 then _ else if q.1=3 then _ else if q.1=5 then _ else _:(Int×Int)×Int×Nx)=_;rw[if_neg (by omega),if_neg (by omega),if_neg (by omega),if_pos hp]
    have hl:levO q=2:=by unfold levO;rw[hp,hd];rfl
    rw[ht,hd,hl];refine ⟨⟨?_,?_,?_⟩,.inl ?_⟩;rw[Bd];decide;rw[Bd];decide;rw[cl_l];rfl
    .show levO (6,_)<2
     rw[Bd];decide
   .have ht:(mcO m).turn q x=((x,R1.Ae 2 0 (eA q)),R1.Ae 2 0 (eA q),nxO (oA q) (kA q) (bA q) (dA q) (iA q) (eA q,xA q)):=by show (if q.1=1 then _ else if q.1=2 then _ else if q.1=3 then _ else if q.1=5 then _ else _:(Int×Int)×Int×Nx)=_;rw[if_neg (by omega),if_neg (by omega),if_neg (by omega),if_neg (by omega)]
    rw[ht,hd];exact ⟨trivial,.inl (by show 0<levO q;omega)⟩
   .have ht:(mcO m).turn q x=((x,x),x,nxO (oA q) (kA q) (bA q) (dA q) (iA q) (eA q,x)):=by show (if q.1=1 then _ else if q.1=2 then _ else _:(Int×Int)×Int×Nx)=_;rw[if_neg (by omega),if_pos hp]
    rw[ht,hd];exact ⟨trivial,.inl (by show 0<levO q;omega)⟩
  .obtain ⟨g1,g2⟩:=hg hp (by omega)
   have ht:(mcO m).turn q x=((x,x),x,Az (oA q) (kA q) (bA q) (dA q) (iA q) x):=by show (if q.1=1 then _ else _:(Int×Int)×Int×Nx)=_;rw[if_pos hp]
   have hl:levO q=4:=by unfold levO;rw[hp,hd];rfl
   have e:Az (oA q) (kA q) (bA q) (dA q) (iA q) x=nxO (oA q) (kA q) (bA q) 1 (iA q) (72,0):=by unfold Az;rw[if_neg (by omega),if_neg (by omega),if_pos g2,hd]
   rw[ht,e,hl];have:=seat_nx (o:=oA q) (k:=kA q) (b:=bA q) (i:=iA q) (d:=1) (72,0) (by decide);exact ⟨this.1,.inl (by have h2:=this.2;show nlev levO (nxO (oA q) (kA q) (bA q) 1 (iA q) (72,0))<4;omega)⟩
end Go.Proofs.YtfjjoohflcchnaaDoor.Gen
namespace Go.Proofs.YtfjjoohflcchnaaDoor.Gen
open Go Go.Lift Go.Conc Go.RowKit
open Go.ConcN (upd upd_same upd_ne)
variable {N i j k o t:Nat} {K K':List Int} {x:Int} {cs:List Cl} {l:Ph}
def isO (c:Cl):Prop:=1<=c.po∧c.po<=4
def actR (c:Cl):Int×Int:=if c.po=4 then (70,72) else cmO (c.po - 1) c.cb
theorem actR_code (c:Cl):(0<=(actR c).1∧(actR c).1<1048576)∧(actR c).1≠4:=by
 unfold actR cmO;split;simp
 .split
  simp
  .split<;>simp
abbrev wdO (K:List Int) (o:Nat):Int:=K.getD (2*o) 0
abbrev vlO (K:List Int) (o:Nat):Int:=K.getD (2*o+1) 0
abbrev lOc (m:Nat) (c:Cl) (d i:Nat):List Int:=lO (which c.ca m) (c.po - 1) c.cb d i
def CSeat (m:Nat) (c:Cl) (K:List Int) (i:Nat) (op:Int) (j:Nat) (q:Q):Prop :=
 (op=1∧j=2*which c.ca m∧q=(1,lOc m c 0 i)) ∨
 (op=4∧j=2*which c.ca m∧q=(3,lOc m c 0 i++[0])) ∨
 (op=1∧j=2*which c.ca m+1∧q=(2,lOc m c 0 i++[R1.codI (wdO K (which c.ca m))])∧R1.stI (wdO K (which c.ca m))=2) ∨
 (op=1∧j=2*which c.ca m∧q=(1,lOc m c 1 i)∧c.po=4∧wdO K (which c.ca m)=R1.Ae 1 i 0) ∨
 (op=2∧j=2*which c.ca m+1∧q=(5,lOc m c 0 i++[(actR c).1,(actR c).2])∧wdO K (which c.ca m)=R1.Ae 1 i 0) ∨
 (op=2∧j=2*which c.ca m∧q=(6,lOc m c 0 i++[(actR c).1,(actR c).2])∧wdO K (which c.ca m)=R1.Ae 1 i 0∧vlO K (which c.ca m)=(actR c).2)
def SeatO (m:Nat) (cl:List Cl) (K:List Int) (se:Int) (i:Nat):Ph->Prop
 |.done ans=>ans.length=cl.length
 |.turn op j q rest ii ans=>ans.length=cl.length∧rest=cl.drop (ii+1)∧∃ c,cl[ii]? = some c∧isO c∧CSeat m c K i op j q
 |.wait j q rest ii ans=>ans.length=cl.length∧rest=cl.drop (ii+1)∧∃ c,cl[ii]? = some c∧isO c∧j=2*which c.ca m∧q=(4,lOc m c 0 i)∧se=1
def upO (cl:List Cl):Ph->Nat
 |.turn _ _ _ _ ii _=>ii
 |.wait _ _ _ ii _=>ii
 |.done _=>cl.length
def EndO (m:Nat) (cl:List Cl) (K:List Int) (l:Ph):Prop:=∀ k c,k<upO cl l->cl[k]? = some c->isO c->R1.stI (wdO K (which c.ca m))=2∧l.ans[k]? = some (R1.codI (wdO K (which c.ca m)),vlO K (which c.ca m))
def BldP (o:Nat) (l:Ph):Prop:=∃ op j q r k a,l=.turn op j q r k a∧oA q=o∧(q.1=5∨q.1=6∨(q.1=1∧dA q=1))
def ActO (N m:Nat) (cl:Nat->List Cl) (o:Nat) (a:Int×Int):Prop:=∃ i,i<N∧∃ (k:Nat) (c:Cl),(cl i)[k]? = some c∧isO c∧which c.ca m=o∧actR c=a
def WordO (N m:Nat) (cl:Nat->List Cl) (v:Vw) (o:Nat):Prop :=
 (wdO v.K o=0∧v.chg.getD (2*o) 0=0) ∨
 (∃ t,t<N∧wdO v.K o=R1.Ae 1 t 0∧v.chg.getD (2*o) 0=1∧BldP o (v.l t)) ∨
 (∃ e,wdO v.K o=R1.Ae 2 0 e∧v.chg.getD (2*o) 0=2∧(0<=e∧e<1048576)∧e≠4∧ActO N m cl o (e,vlO v.K o))
structure OV (N m:Nat) (cl:Nat->List Cl) (v:Vw):Prop where
 kl:v.K.length=2*m
 cgl:v.chg.length=2*m
 stk:v.stk=false
 seat:∀ i,i<N->SeatO m (cl i) v.K (v.se i) i (v.l i)
 word:∀ o,o<m->WordO N m cl v o
 ends:∀ i,i<N->EndO m (cl i) v.K (v.l i)
section
variable {m N:Nat}{cl:Nat->List Cl}
theorem st0:R1.stI 0=0:=by kernel_rfl
theorem st1 (i:Nat):R1.stI (R1.Ae 1 i 0)=1:=R1.st_word (by decide) (by decide)
theorem st2 (e:Int):R1.stI (R1.Ae 2 0 e)=2:=R1.st_word (by decide) (by decide)
theorem who1 (h:i<256):R1.whoI (R1.Ae 1 i 0)=i:=R1.who_word (by decide) (by decide) (by omega) (by omega) (by decide) (by decide)
theorem cod2 {e:Int}(h:0<=e∧e<1048576):R1.codI (R1.Ae 2 0 e)=e:=R1.cod_word (by decide) (by decide) (by decide) (by decide) h.1 h.2
theorem word1_inj (hi:i<256) (ht:t<256) (h:R1.Ae 1 i 0=R1.Ae 1 t 0):i=t:=by have:=congrArg R1.whoI h;rw[who1 hi,who1 ht] at this;omega
theorem getD_set {a b:Nat}(ha:a<K.length):(K.set a x).getD b 0=if a=b then x else K.getD b 0:=by rw[Ql,Qq,Ql];by_cases e:a=b;subst e;rw[if_pos rfl,if_pos rfl,if_pos ha];rfl;rw[if_neg e,if_neg e]
theorem Aq :K.set j (K.getD j 0)=K:=by
 apply List.ext_getElem?;intro k;rw[Qq];split
 .rename_i e
  subst e;split
  .rename_i h
   rw[Ql,Qf h];rfl
  .rename_i h
   rw[List.getElem?_eq_none (by omega)]
 rfl
theorem bump_same (g:List Int) (j:Nat) (x:Int):bump g j x x=g:=by unfold bump;rw[if_neg (by simp)]
theorem bump_get {g:List Int}{y:Int}(hj:j<g.length) (hxy:x≠y):(bump g j x y).getD k 0=if j=k then wrap64 (g.getD k 0+1) else g.getD k 0:=by
 unfold bump;rw[if_pos ⟨hxy,hj⟩,Ql,List.getElem?_modify,Ql];by_cases e:j=k
 .subst e
  rw[if_pos rfl,Qf hj];simp
 .simp only[if_neg e]
  cases g[k]?<;>rfl
theorem bump_far {g:List Int}{y:Int}(hjk:j≠k):(bump g j x y).getD k 0=g.getD k 0:=by
 unfold bump;split
 .rw[Ql,List.getElem?_modify,Ql]
  simp only[if_neg hjk];cases g[k]?<;>rfl
 rfl
theorem bump_len (g:List Int) (j:Nat) (x y:Int):(bump g j x y).length=g.length:=by unfold bump;split;rw[List.length_modify];rfl
structure Sty (o i:Nat) (K K':List Int):Prop where
 oth:∀ o',o'≠o->wdO K' o'=wdO K o'∧vlO K' o'=vlO K o'
 mine:wdO K o=0∨wdO K o=R1.Ae 1 i 0
theorem Sty.not2 (h:Sty o i K K'):R1.stI (wdO K o)≠2:=by rcases h.mine with e|e;rw[e,st0];decide;rw[e,st1];decide
theorem Sty.notT (h:Sty o i K K') (hi:i<256) (ht:t<256) (hti:t≠i):wdO K o≠R1.Ae 1 t 0:=λe=>by
 rcases h.mine with e'|e'
 .rw[e'] at e
  have:=congrArg R1.stI e;rw[st0,st1] at this;cases this
 .rw[e'] at e
  exact hti (word1_inj hi ht e).symm
theorem CSeat.sta {c:Cl}{op:Int}{q:Q}(h:Sty o i K K') (hi:i<256) (ht:t<256) (hti:t≠i) (hs:CSeat m c K t op j q):CSeat m c K' t op j q:=by
 by_cases e:which c.ca m=o
 .unfold CSeat at hs ⊢
  rw[e] at hs ⊢;rcases hs with hs|hs|⟨_,_,_,h4⟩|⟨_,_,_,_,h4⟩|⟨_,_,_,h4⟩|⟨_,_,_,h4,_⟩
  exact .inl hs;exact .inr (.inl hs);exact absurd h4 h.not2;exact absurd h4 (h.notT hi ht hti);exact absurd h4 (h.notT hi ht hti);exact absurd h4 (h.notT hi ht hti)
 .obtain ⟨e1,e2⟩:=h.oth _ e
  unfold CSeat at hs ⊢;rw[e1,e2];exact hs
theorem SeatO.sta {se se':Int}(h:Sty o i K K') (hi:i<256) (ht:t<256) (hti:t≠i) (hse:se'=se) (hs:SeatO m cs K se t l):SeatO m cs K' se' t l:=by
 subst hse;cases l with
 |done a=>exact hs
 |turn op j q r ii a =>obtain ⟨h1,h2,c,h3,h4,h5⟩:=hs;exact ⟨h1,h2,c,h3,h4,h5.sta h hi ht hti⟩
 |wait j q r ii a=>exact hs
theorem EndO.sta (h:Sty o i K K') (hs:EndO m cs K l):EndO m cs K' l:=λk c h1 h2 h3=>by
 obtain ⟨q1,q2⟩:=hs k c h1 h2 h3;by_cases e:which c.ca m=o
 .rw[e] at q1
  exact absurd q1 h.not2
 .obtain ⟨e1,e2⟩:=h.oth _ e
  rw[e1,e2];exact ⟨q1,q2⟩
theorem fw_O {rest:List Cl}{ii:Nat}{sk:Bool}{ans:List (Int×Int)}{X:List Stp}(h:Fw (mcO m) i false rest ii sk ans X l):
 sk=false->rest=cs.drop ii->ii<=cs.length->ans.length=cs.length->∀ K se,SeatO m cs K se i l∧ii<=upO cs l∧(∀ k c,ii<=k->k<upO cs l->cs[k]? = some c->¬ isO c)∧(∀ k,k<ii->l.ans[k]? = ans[k]?)∧∀ o,¬ BldP o l:=by
 induction h with
 |@nil ii sk ans =>
  intro _ hr hi ha K se;have hge:cs.length<=ii:=by have:=congrArg List.length hr;simp at this;omega
  exact ⟨ha,hi,λk c h1 h2=>by have h2:k<cs.length:=h2;omega,λk hk=>rfl,λo hb=>by obtain ⟨op,j,q,r,k,a,e,_⟩:=hb;cases e⟩
 |skip=>intro hsk;cases hsk
 |@ans c rest ii ans X l e x hst _ ih =>
  intro _ hr hi ha K se;rw[Mc.set_false] at hst;have hcs:cs[ii]? = some c:=by have:=congrArg (·[0]?) hr;simpa using this.symm
  have hlt:=(Qc hcs).1;have hno:¬ isO c:=λhc=>by have hst':(if 1<=c.po∧c.po<=4 then Nx.turn 1 (2*which c.ca m) (1,lO (which c.ca m) (c.po - 1) c.cb 0 i) else .ans 1 0)=.ans e x:=hst;rw[if_pos (show 1<=c.po∧c.po<=4 from hc)] at hst';cases hst'
  have hex:e=1∧x=0:=by have hst':(if 1<=c.po∧c.po<=4 then Nx.turn 1 (2*which c.ca m) (1,lO (which c.ca m) (c.po - 1) c.cb 0 i) else .ans 1 0)=.ans e x:=hst;rw[if_neg (show ¬ (1<=c.po∧c.po<=4) from hno)] at hst';cases hst';exact ⟨rfl,rfl⟩
  obtain ⟨rfl,rfl⟩:=hex;obtain ⟨q1,q2,q3,q4,q5⟩:=ih rfl (by rw[<-List.tail_drop,<-hr];rfl) hlt (by rw[List.length_set];exact ha) K se;refine ⟨q1,by omega,λk c' h1 h2 h3=>?_,λk hk=>?_,q5⟩
  .by_cases hk:k=ii
   .subst hk
    rw[hcs] at h3;cases h3;exact hno
   exact q3 k c' (by omega) h2 h3
  rw[q4 k (by omega),Qq,if_neg (by omega)]
 |@turn c rest ii ans op j q hst =>
  intro _ hr hi ha K se;rw[Mc.set_false] at hst;have hcs:cs[ii]? = some c:=by have:=congrArg (·[0]?) hr;simpa using this.symm
  have hst':(if 1<=c.po∧c.po<=4 then Nx.turn 1 (2*which c.ca m) (1,lO (which c.ca m) (c.po - 1) c.cb 0 i) else .ans 1 0)=.turn op j q:=hst;by_cases hc:1<=c.po∧c.po<=4
  .rw[if_pos hc] at hst'
   cases hst';refine ⟨⟨ha,by rw[<-List.tail_drop,<-hr];rfl,c,hcs,hc,.inl ⟨rfl,rfl,rfl⟩⟩,Qi _,λk c' h1 h2=>by have h2:k<ii:=h2;omega,λk _=>rfl,λo hb=>?_⟩;obtain ⟨op,j,q,r,k,a,e,_,e2⟩:=hb;cases e;rcases e2 with e2|e2|⟨_,e2⟩
   cases e2;cases e2
   .have:=dA_l 1 (which c.ca m) (c.po - 1) c.cb 0 i []
    rw[List.append_nil] at this;rw[this] at e2;cases e2
  .rw[if_neg hc] at hst'
   cases hst'
 |@wait c rest ii ans j q hst =>intro _ hr hi ha K se;rw[Mc.set_false] at hst;have hst':(if 1<=c.po∧c.po<=4 then Nx.turn 1 (2*which c.ca m) (1,lO (which c.ca m) (c.po - 1) c.cb 0 i) else .ans 1 0)=.wait j q:=hst;split at hst'<;>cases hst'
end
section
variable {m N:Nat}{cl:Nat->List Cl}{v v1:Vw}{i:Nat}{l':Ph}
theorem OV.go (h:OV N m cl v) (e:Els i l' v v1) (hst:v1.stk=v.stk) (kl:v1.K.length=2*m) (cg:v1.chg.length=2*m) (hseat:SeatO m (cl i) v1.K (v1.se i) i l') (hend:EndO m (cl i) v1.K l')
 (hoth:∀ t,t≠i->t<N->SeatO m (cl t) v1.K (v.se t) t (v.l t)∧EndO m (cl t) v1.K (v.l t)) (hw:∀ o,o<m->WordO N m cl v1 o):OV N m cl v1:=by
 refine ⟨kl,cg,hst.trans h.stk,λt ht=>?_,hw,λt ht=>?_⟩
 .by_cases ht':t=i
  .subst ht';rw[e.l,upd_same];exact hseat
  rw[e.l,upd_ne _ _ ht',e.oth t ht'];exact (hoth t ht' ht).1
 .by_cases ht':t=i
  subst ht';rw[e.l,upd_same];exact hend;rw[e.l,upd_ne _ _ ht'];exact (hoth t ht' ht).2
theorem OV.same (h:OV N m cl v) (hi:i<N) (e:Els i l' v v1) (hst:v1.stk=v.stk) (hK:v1.K=v.K) (hg:v1.chg=v.chg) (hseat:SeatO m (cl i) v.K (v1.se i) i l') (hend:EndO m (cl i) v.K l') (hb:∀ o,BldP o (v.l i)->BldP o l'):OV N m cl v1:=by
 refine h.go e hst (by rw[hK];exact h.kl) (by rw[hg];exact h.cgl) (by rw[hK];exact hseat) (by rw[hK];exact hend) (λt _ ht=>by rw[hK];exact ⟨h.seat t ht,h.ends t ht⟩) (λo ho=>?_);unfold WordO;rw[hK,hg];rcases h.word o ho with w|⟨t,w1,w2,w3,w4⟩|w;exact .inl w
 .refine .inr (.inl ⟨t,w1,w2,w3,?_⟩)
  rw[e.l];by_cases ht:t=i;subst ht;rw[upd_same];exact hb o w4;rw[upd_ne _ _ ht];exact w4
 exact .inr (.inr w)
theorem bld_not {op:Int}{q:Q}{r:List Cl}{a:List (Int×Int)}(h5:q.1≠5) (h6:q.1≠6) (h1:q.1=1->dA q=0):¬ BldP o (.turn op j q r k a):=λhb=>by
 obtain ⟨op',j',q',r',k',a',e,_,e2⟩:=hb;cases e;rcases e2 with e2|e2|⟨e2,e3⟩
 exact h5 e2;exact h6 e2;have:=h1 e2;omega
theorem chg_nat (g:List Int) (j:Nat):chgOf g (j:Int)=g.getD j 0:=by unfold chgOf;rw[if_neg (by omega)];rfl
theorem dA_0 (n o:Nat) (k b:Int) (d i:Nat):dA (n,lO o k b d i)=d:=by have:=dA_l n o k b d i [];rwa [List.append_nil] at this
theorem oA_0 (n o:Nat) (k b:Int) (d i:Nat):oA (n,lO o k b d i)=o:=by have:=oA_l n o k b d i [];rwa [List.append_nil] at this
theorem ans_go {c:Cl}{ii:Nat}{rest:List Cl}{ans:List (Int×Int)}{a:Int×Int}{X:List Stp}{se:Int}(hfw:Fw (mcO m) i false rest (ii+1) (a.1==4) (ans.set ii a) X l') (h4:a.1≠4) (hal:ans.length=cs.length) (hr:rest=cs.drop (ii+1)) (hc:cs[ii]? = some c)
 (hst:R1.stI (wdO K (which c.ca m))=2) (ha:a=(R1.codI (wdO K (which c.ca m)),vlO K (which c.ca m)))
 (hold:∀ k c,k<ii->cs[k]? = some c->isO c->R1.stI (wdO K (which c.ca m))=2∧ans[k]? = some (R1.codI (wdO K (which c.ca m)),vlO K (which c.ca m))):
 SeatO m cs K se i l'∧EndO m cs K l'∧∀ o,¬ BldP o l':=by
 have hlt:=(Qc hc).1;obtain ⟨q1,q2,q3,q4,q5⟩:=fw_O hfw (by simpa using h4) hr hlt (by rw[List.length_set];exact hal) K se;refine ⟨q1,λk c' h1 h2 h3=>?_,q5⟩;by_cases hk:k<ii
 .obtain ⟨p1,p2⟩:=hold k c' hk h2 h3
  exact ⟨p1,by rw[q4 k (by omega),Qq,if_neg (by omega)];exact p2⟩
 .by_cases hk2:k=ii
  .subst hk2
   rw[hc] at h2;cases h2;refine ⟨hst,?_⟩;rw[q4 k (by omega),Qq,if_pos rfl,if_pos (by omega),ha]
  exact absurd h3 (q3 k c' (by omega) h1 h2)
theorem oi_mv (h0:0<m) (hN:N<=256) (h:OV N m cl v) (hm:Mv (mcO m) N v v1):OV N m cl v1:=by
 cases hm with
 |stuck hs hall hex _ =>
  obtain ⟨t,ht,j,q,r,k,a,hl⟩:=hex;exfalso;have hse:=h.seat t ht;rw[hl] at hse;obtain ⟨_,_,c,_,_,hj,_,hs1⟩:=hse;have hch:chgOf v.chg j=v.se t:=by
   rcases hall t ht with ⟨a',e⟩|⟨j',q',r',k',a',e,e2⟩
   rw[hl] at e;cases e;rw[hl] at e;cases e;exact e2
  have ho:=which_lt c.ca h0;have hg:v.chg.getD (2*which c.ca m) 0=1:=by rw[hs1,hj,chg_nat] at hch;exact hch
  rcases h.word _ ho with ⟨_,w⟩|⟨b,w1,_,_,op,j',q',r',k',a',e,_⟩|⟨e,_,w,_⟩
  rw[w] at hg;cases hg
  .rcases hall b w1 with ⟨a'',e2⟩|⟨j'',q'',r'',k'',a'',e2,_⟩
   rw[e] at e2;cases e2;rw[e] at e2;cases e2
  rw[w] at hg;cases hg
 |turn i op j q rest ii ans X l' hi hl ho e hK hst hg hL =>
  rw[h.stk,Mc.set_false] at ho;have hs:=h.seat i hi;have hen:=h.ends i hi;rw[hl] at hs hen;obtain ⟨hal,hr,c,hc,hco,hse⟩:=hs;have hold:∀ k c,k<ii->(cl i)[k]? = some c->isO c->R1.stI (wdO v.K (which c.ca m))=2∧ans[k]? = some (R1.codI (wdO v.K (which c.ca m)),vlO v.K (which c.ca m)):=hen;have hom:=which_lt c.ca h0;have hw:=h.word _ hom;have hlw:2*which c.ca m<v.K.length:=by rw[h.kl];omega
  have hlv:2*which c.ca m+1<v.K.length:=by rw[h.kl];omega
  have hgw:2*which c.ca m<v.chg.length:=by rw[h.cgl];omega
  rcases hse with ⟨rfl,rfl,rfl⟩|⟨rfl,rfl,rfl⟩|⟨rfl,rfl,rfl,h2⟩|⟨rfl,rfl,rfl,hp4,hwi⟩|⟨rfl,rfl,rfl,hwi⟩|⟨rfl,rfl,rfl,hwi,hvi⟩
  . -- it looks
   rw[turn1] at ho hK hg;have hK:v1.K=v.K:=hK.trans Aq;have hg:v1.chg=v.chg:=hg.trans (bump_same _ _ _);have hnb:∀ o,BldP o (v.l i)->BldP o l':=λo hb=>by rw[hl] at hb;exact absurd hb (bld_not (by simp) (by simp) (λ_=>dA_0 _ _ _ _ _ _))
   have ho:On (mcO m) i false rest ii ans (Az (which c.ca m) (c.po - 1) c.cb 0 i (wdO v.K (which c.ca m))) X l':=ho;unfold Az at ho;rcases hw with ⟨w,_⟩|⟨t,w1,w2,w3,w4⟩|⟨e2,w1,w2,w3,w4,w5⟩
   .rw[w,if_neg (by rw[st0];decide),if_pos st0] at ho
    cases ho;exact h.same hi e hst hK hg ⟨hal,hr,c,hc,hco,.inr (.inl ⟨rfl,rfl,rfl⟩)⟩ hen hnb
   .have hti:t≠i:=λq=>by subst q;rw[hl] at w4;exact absurd w4 (bld_not (by simp) (by simp) (λ_=>dA_0 _ _ _ _ _ _))
    rw[w2,if_neg (by rw[st1];decide),if_neg (by rw[st1];decide),if_neg (by rw[who1 (by omega)];omega)] at ho;cases ho;refine h.same hi e hst hK hg ⟨hal,hr,c,hc,hco,rfl,rfl,?_⟩ hen hnb;rw[e.own _ _ _ _ _ rfl,hg,chg_nat];exact w3
   .rw[if_pos (by rw[w1];exact st2 e2)] at ho
    cases ho;exact h.same hi e hst hK hg ⟨hal,hr,c,hc,hco,.inr (.inr (.inl ⟨rfl,rfl,rfl,by rw[w1];exact st2 e2⟩))⟩ hen hnb
  . -- it tries
   rw[turn3] at ho hK hg;have hnb:∀ o,BldP o (v.l i)->BldP o l':=λo hb=>by rw[hl] at hb;exact absurd hb (bld_not (by simp) (by simp) (λq=>by simp at q))
   by_cases hx:wdO v.K (which c.ca m)=0
   .rw[if_pos hx] at ho hK hg
    have hK:v1.K=v.K.set (2*which c.ca m) (R1.Ae 1 i 0):=hK;have hg:v1.chg=bump v.chg (2*which c.ca m) 0 (R1.Ae 1 i 0):=hg;have ho:On (mcO m) i false rest ii ans (Au (which c.ca m) (c.po - 1) c.cb 0 i) X l':=ho;have hne:(0:Int)≠R1.Ae 1 i 0:=λq=>by have:=congrArg R1.stI q;rw[st0,st1] at this;cases this
    have sty:Sty (which c.ca m) i v.K v1.K:=⟨λo' q=>by rw[hK];unfold wdO vlO;rw[getD_set hlw,getD_set hlw,if_neg (by omega),if_neg (by omega)];exact ⟨rfl,rfl⟩,.inl hx⟩
    have hw1:wdO v1.K (which c.ca m)=R1.Ae 1 i 0:=by rw[hK];unfold wdO;rw[getD_set hlw,if_pos rfl]
    have key:SeatO m (cl i) v1.K (v1.se i) i l'∧EndO m (cl i) v1.K l'∧BldP (which c.ca m) l':=by
     unfold Au at ho;split at ho
     .rename_i h3
      cases ho;refine ⟨⟨hal,hr,c,hc,hco,.inr (.inr (.inr (.inl ⟨rfl,rfl,rfl,by omega,hw1⟩)))⟩,hen.sta sty,_,_,_,_,_,_,rfl,oA_0 _ _ _ _ _ _,.inr (.inr ⟨rfl,dA_0 _ _ _ _ _ _⟩)⟩
     .rename_i h3
      cases ho;have ea:actR c=cmO (c.po - 1) c.cb:=by unfold actR;rw[if_neg (by omega)]
      refine ⟨⟨hal,hr,c,hc,hco,.inr (.inr (.inr (.inr (.inl ⟨rfl,rfl,by rw[ea],hw1⟩))))⟩,hen.sta sty,_,_,_,_,_,_,rfl,oA_l _ _ _ _ _ _ _,.inl rfl⟩
    refine h.go e hst (by rw[hK,List.length_set];exact h.kl) (by rw[hg,bump_len];exact h.cgl) key.1 key.2.1 (λt q ht=>⟨(h.seat t ht).sta sty (by omega) (by omega) q rfl,(h.ends t ht).sta sty⟩) (λo ho'=>?_);by_cases q:o=which c.ca m
    .subst q
     refine .inr (.inl ⟨i,hi,hw1,?_,by rw[e.l,upd_same];exact key.2.2⟩);rw[hg,bump_get hgw hne,if_pos rfl];rcases hw with ⟨_,w⟩|⟨t,w1,w2,_⟩|⟨e2,w1,_⟩
     rw[w];simp[wrap64]
     .rw[hx] at w2
      have:=congrArg R1.stI w2;rw[st0,st1] at this;cases this
     .rw[hx] at w1
      have:=congrArg R1.stI w1;rw[st0,st2] at this;cases this
    .unfold WordO
     rw[(sty.oth o q).1,(sty.oth o q).2,hg,bump_far (by omega)];rcases h.word o ho' with w|⟨t,w1,w2,w3,w4⟩|w;exact .inl w
     .refine .inr (.inl ⟨t,w1,w2,w3,?_⟩)
      rw[e.l];by_cases ht:t=i;subst ht;rw[upd_same];exact hnb o w4;rw[upd_ne _ _ ht];exact w4
     exact .inr (.inr w)
   .rw[if_neg hx] at ho hK hg
    have hK:v1.K=v.K:=hK.trans Aq;have hg:v1.chg=v.chg:=hg.trans (bump_same _ _ _);have ho:On (mcO m) i false rest ii ans (.turn 1 (2*which c.ca m) (1,lO (which c.ca m) (c.po - 1) c.cb 0 i)) X l':=ho;cases ho;exact h.same hi e hst hK hg ⟨hal,hr,c,hc,hco,.inl ⟨rfl,rfl,rfl⟩⟩ hen hnb
  . -- it reads the value
   rw[turn2] at ho hK hg;have hK:v1.K=v.K:=hK.trans Aq;have hg:v1.chg=v.chg:=hg.trans (bump_same _ _ _);have ho:On (mcO m) i false rest ii ans (.ans (R1.codI (wdO v.K (which c.ca m))) (vlO v.K (which c.ca m))) X l':=ho;have h4:R1.codI (wdO v.K (which c.ca m))≠4:=by
    rcases hw with ⟨w,_⟩|⟨t,_,w,_⟩|⟨e2,w1,_,w3,w4,_⟩
    rw[w,st0] at h2;cases h2;rw[w,st1] at h2;cases h2;rw[w1,cod2 w3];exact w4
   cases ho with
   |ans hfw =>obtain ⟨k1,k2,k3⟩:=ans_go (a:=(R1.codI (wdO v.K (which c.ca m)),vlO v.K (which c.ca m))) (se:=v1.se i) hfw h4 hal hr hc h2 rfl hold;refine h.same hi e hst hK hg k1 k2 (λo hb=>?_);rw[hl] at hb;exact absurd hb (bld_not (by simp) (by simp) (λq=>by simp at q))
  . -- the act asks again
   rw[turn1] at ho hK hg;have hK:v1.K=v.K:=hK.trans Aq;have hg:v1.chg=v.chg:=hg.trans (bump_same _ _ _);have ho:On (mcO m) i false rest ii ans (Az (which c.ca m) (c.po - 1) c.cb 1 i (wdO v.K (which c.ca m))) X l':=ho;unfold Az at ho;rw[hwi,if_neg (by rw[st1];decide),if_neg (by rw[st1];decide),if_pos (who1 (by omega))] at ho;have ho:On (mcO m) i false rest ii ans (.turn 2 (2*which c.ca m+1) (5,lO (which c.ca m) (c.po - 1) c.cb 0 i++[70,72])) X l':=ho;cases ho;have ea:actR c=(70,72):=by unfold actR;rw[if_pos hp4]
   refine h.same hi e hst hK hg ⟨hal,hr,c,hc,hco,.inr (.inr (.inr (.inr (.inl ⟨rfl,rfl,by rw[ea],hwi⟩))))⟩ hen (λo hb=>?_);rw[hl] at hb;obtain ⟨op',j',q',r',k',a',e',e2,_⟩:=hb;cases e';rw[oA_0] at e2;exact ⟨_,_,_,_,_,_,rfl,(oA_l _ _ _ _ _ _ _).trans e2,.inl rfl⟩
  . -- the value is stored
   rw[turn5] at ho hK hg;have hK:v1.K=v.K.set (2*which c.ca m+1) (actR c).2:=hK;have ho:On (mcO m) i false rest ii ans (.turn 2 (2*which c.ca m) (6,lO (which c.ca m) (c.po - 1) c.cb 0 i++[(actR c).1,(actR c).2])) X l':=ho;cases ho;have sty:Sty (which c.ca m) i v.K v1.K:=⟨λo' q=>by rw[hK];unfold wdO vlO;rw[getD_set hlv,getD_set hlv,if_neg (by omega),if_neg (by omega)];exact ⟨rfl,rfl⟩,.inr hwi⟩
   have hw1:wdO v1.K (which c.ca m)=R1.Ae 1 i 0:=by rw[hK];unfold wdO;rw[getD_set hlv,if_neg (by omega)];exact hwi
   have hv1:vlO v1.K (which c.ca m)=(actR c).2:=by rw[hK];unfold vlO;rw[getD_set hlv,if_pos rfl]
   refine h.go e hst (by rw[hK,List.length_set];exact h.kl) (by rw[hg,bump_len];exact h.cgl) ⟨hal,hr,c,hc,hco,.inr (.inr (.inr (.inr (.inr ⟨rfl,rfl,rfl,hw1,hv1⟩))))⟩ (hen.sta sty) (λt q ht=>⟨(h.seat t ht).sta sty (by omega) (by omega) q rfl,(h.ends t ht).sta sty⟩) (λo ho'=>?_);have hbl:∀ o,BldP o (v.l i)->BldP o (v1.l i):=λo hb=>by rw[hl] at hb;obtain ⟨op',j',q',r',k',a',e',e2,_⟩:=hb;cases e';rw[oA_l] at e2;rw[e.l,upd_same];exact ⟨_,_,_,_,_,_,rfl,(oA_l _ _ _ _ _ _ _).trans e2,.inr (.inl rfl)⟩
   have hbt:∀ t o,BldP o (v.l t)->BldP o (v1.l t):=λt o hb=>by by_cases ht:t=i;subst ht;exact hbl o hb;rw[e.l,upd_ne _ _ ht];exact hb
   by_cases q:o=which c.ca m
   .subst q
    rcases hw with ⟨w,_⟩|⟨t,w1,w2,w3,w4⟩|⟨e2,w1,_⟩
    .rw[w] at hwi
     have:=congrArg R1.stI hwi;rw[st0,st1] at this;cases this
    .rw[hwi] at w2
     obtain rfl:=word1_inj (by omega) (by omega) w2;exact .inr (.inl ⟨i,hi,hw1,by rw[hg,bump_far (by omega)];exact w3,hbt i _ w4⟩)
    .rw[w1] at hwi
     have:=congrArg R1.stI hwi;rw[st1,st2] at this;cases this
   .unfold WordO
    rw[(sty.oth o q).1,(sty.oth o q).2,hg,bump_far (by omega)];rcases h.word o ho' with w|⟨t,w1,w2,w3,w4⟩|w;exact .inl w;exact .inr (.inl ⟨t,w1,w2,w3,hbt t o w4⟩);exact .inr (.inr w)
  . -- the word is stored
   rw[turn6] at ho hK hg;have hK:v1.K=v.K.set (2*which c.ca m) (R1.Ae 2 0 (actR c).1):=hK;have hg:v1.chg=bump v.chg (2*which c.ca m) (wdO v.K (which c.ca m)) (R1.Ae 2 0 (actR c).1):=hg;have ho:On (mcO m) i false rest ii ans (.ans (actR c).1 (actR c).2) X l':=ho;obtain ⟨hcd,hc4⟩:=actR_code c;have sty:Sty (which c.ca m) i v.K v1.K:=⟨λo' q=>by rw[hK];unfold wdO vlO;rw[getD_set hlw,getD_set hlw,if_neg (by omega),if_neg (by omega)];exact ⟨rfl,rfl⟩,.inr hwi⟩
   have hw1:wdO v1.K (which c.ca m)=R1.Ae 2 0 (actR c).1:=by rw[hK];unfold wdO;rw[getD_set hlw,if_pos rfl]
   have hv1:vlO v1.K (which c.ca m)=(actR c).2:=by rw[hK];unfold vlO;rw[getD_set hlw,if_neg (by omega)];exact hvi
   have hen1:EndO m (cl i) v1.K (.turn 2 (2*which c.ca m) (6,lOc m c 0 i++[(actR c).1,(actR c).2]) rest ii ans):=hen.sta sty;cases ho with
   |ans hfw =>
    obtain ⟨k1,k2,k3⟩:=ans_go (a:=actR c) (K:=v1.K) (se:=v1.se i) hfw hc4 hal hr hc (by rw[hw1];exact st2 _) (by rw[hw1,hv1,cod2 hcd]) hen1;refine h.go e hst (by rw[hK,List.length_set];exact h.kl) (by rw[hg,bump_len];exact h.cgl) k1 k2 (λt q ht=>⟨(h.seat t ht).sta sty (by omega) (by omega) q rfl,(h.ends t ht).sta sty⟩) (λo ho'=>?_);by_cases q:o=which c.ca m
    .subst q
     have hne:wdO v.K (which c.ca m)≠R1.Ae 2 0 (actR c).1:=λq=>by rw[hwi] at q;have:=congrArg R1.stI q;rw[st1,st2] at this;cases this
     refine .inr (.inr ⟨_,hw1,?_,hcd,hc4,i,hi,ii,c,hc,hco,rfl,by rw[hv1]⟩);rw[hg,bump_get hgw hne,if_pos rfl];rcases hw with ⟨w,_⟩|⟨t,_,_,w3,_⟩|⟨e2,w1,_⟩
     .rw[w] at hwi
      have:=congrArg R1.stI hwi;rw[st0,st1] at this;cases this
     rw[w3];simp[wrap64]
     .rw[w1] at hwi
      have:=congrArg R1.stI hwi;rw[st1,st2] at this;cases this
    .unfold WordO
     rw[(sty.oth o q).1,(sty.oth o q).2,hg,bump_far (by omega)];rcases h.word o ho' with w|⟨t,w1,w2,w3,w4⟩|w;exact .inl w
     .refine .inr (.inl ⟨t,w1,w2,w3,?_⟩)
      rw[e.l];by_cases ht:t=i
      .subst ht
       rw[hl] at w4;obtain ⟨op',j',q',r',k',a',e',e2,_⟩:=w4;cases e';rw[oA_l] at e2;exact absurd e2.symm q
      rw[upd_ne _ _ ht];exact w4
     exact .inr (.inr w)
 |wake i j q rest ii ans X l' hi hl hs hch ho e hK hst hg hL =>have hse:=h.seat i hi;have hen:=h.ends i hi;rw[hl] at hse hen;obtain ⟨hal,hr,c,hc,hco,rfl,rfl,hs1⟩:=hse;rw[woke4] at ho;cases ho;refine h.same hi e (hst.trans h.stk.symm) hK hg ⟨hal,hr,c,hc,hco,.inl ⟨rfl,rfl,rfl⟩⟩ hen (λo hb=>?_);rw[hl] at hb;obtain ⟨op',j',q',r',k',a',e',_⟩:=hb;cases e'
 |free i j q rest ii ans X l' hi hl hs=>rw[h.stk] at hs;cases hs
end
section
variable {m:Nat}{cl:Nat->List Cl}
theorem hi_on {cs:List (List Cl)}{v v':Vw}(h:Hi (mcO m) k cs v v'):cs=(List.range' k cs.length).map cl->OV k m cl v->OV (k+cs.length) m cl v':=by
 induction h with
 |nil=>exact λ_ hv=>hv
 |@cons k c cs v v1 v2 X l' hF e1 e2 e3 e4 e5 _ ih =>
  intro hc hv;rw[List.length_cons,List.range'_succ,List.map_cons] at hc;obtain ⟨hc1,hc2⟩:=List.cons.inj hc;rw[hv.stk] at hF;obtain ⟨q1,q2,q3,q4,q5⟩:=fw_O (cs:=cl k) hF rfl (by rw[hc1];rfl) (Nat.zero_le _) (by rw[List.length_replicate,hc1]) v.K (v1.se k);have hl:v1.l=upd v.l k l':=e5.l;have:=ih hc2 ⟨by rw[e1];exact hv.kl,by rw[e3];exact hv.cgl,by rw[e2];exact hv.stk,λi hi=>?_,λo ho=>?_,λi hi=>?_⟩
  .rw[show k+(c :: cs).length=k+1+cs.length by simp only[List.length_cons];omega]
   exact this
  .rw[hl,e1]
   by_cases hne:i=k;subst hne;rw[upd_same];exact q1;rw[upd_ne _ _ hne,e5.oth i hne];exact hv.seat i (by omega)
  .unfold WordO
   rw[e1,e3];rcases hv.word o ho with w|⟨t,w1,w2,w3,w4⟩|⟨e,w1,w2,w3,w4,i,w5,w6⟩
   exact .inl w;exact .inr (.inl ⟨t,by omega,w2,w3,by rw[hl,upd_ne _ _ (by omega)];exact w4⟩);exact .inr (.inr ⟨e,w1,w2,w3,w4,i,by omega,w6⟩)
  .rw[hl,e1]
   by_cases hne:i=k
   .subst hne
    rw[upd_same];exact λj c' h1 h2 h3=>absurd h3 (q3 j c' (Nat.zero_le _) h1 h2)
   rw[upd_ne _ _ hne];exact hv.ends i (by omega)
theorem on_meets {p:PSt}{v:Vw}(hN:N<=256) (hlen:p.S.thr.length=N) (s:Seen p v) (h:OV N m cl v):Meets (metO m) p:=by
 intro i t ht op j q r k a hl h1 hd;have hi:i<N:=by rw[<-hlen];exact (Qc ht).1
 have hs:=h.seat i hi;rw[s.l,hl] at hs;obtain ⟨_,_,c,_,_,hse⟩:=hs;have hx:(cellAt p.K j).2=v.K.getD j 0:=by rw[s.K,getD_cell]
 rw[hx];rcases hse with ⟨rfl,rfl,rfl⟩|⟨rfl,rfl,rfl⟩|⟨rfl,rfl,rfl,_⟩|⟨rfl,rfl,rfl,_,hwi⟩|⟨rfl,rfl,rfl,_⟩|⟨rfl,rfl,rfl,_⟩
 rw[dA_0] at hd;omega;cases h1;cases h1
 .have hwi:v.K.getD (2*which c.ca m) 0=R1.Ae 1 i 0:=hwi
  rw[hwi];have hia:iA (1,lOc m c 1 i)=i:=by have:=iA_l 1 (which c.ca m) (c.po - 1) c.cb 1 i [];rwa [List.append_nil] at this
  rw[hia];exact ⟨st1 i,who1 (by omega)⟩
 cases h1;cases h1
theorem pturn_len {mc:Mc}{p p1:PSt}(e:pturn mc p=some p1):p1.S.thr.length=p.S.thr.length:=by
 unfold pturn at e;split at e
 .split at e
  cases e;rfl;cases e
 .cases e
  show (resume _ _ _ _ _).1.thr.length=_;rw[(resume_sta _ _ _ _ _).len,going_len]
def OIP (N m:Nat) (cl:Nat->List Cl) (p:PSt):Prop:=p.S.thr.length=N∧∃ v,Seen p v∧OV N m cl v
theorem oip_turn (h0:0<m) (hN:N<=256) (p p1:PSt) (g:Gd (metO m) p) (h:OIP N m cl p) (e:pturn (mcO m) p=some p1):OIP N m cl p1:=by obtain ⟨hl,v,s,hv⟩:=h;obtain ⟨v1,m1,s1⟩:=pturn_mv (metO m) g s e;rw[hl] at m1;exact ⟨(pturn_len e).trans hl,v1,s1,oi_mv h0 hN hv m1⟩
theorem oip_meets (hN:N<=256) (p:PSt) (h:OIP N m cl p):Meets (metO m) p:=by obtain ⟨hl,v,s,hv⟩:=h;exact on_meets hN hl s hv
theorem once_start {ss:List (Scr (mcO m))}{S S1:TS}{l0 l1:Nat->Ph}{K:List (Nat×Int)}
 (hn:ss.length=N) (hss:ss.map (·.calls)=(List.range' 0 N).map cl) (ha:∀ x∈ss,x.ans=List.replicate x.calls.length (0,0))
 (ht:S.thr=[]) (htr:S.tr=[]) (hSn:S.n=0) (hsk:S.stk=false) (hchg:S.chg=List.replicate (2*m) 0) (hK:K.map (·.2)=List.replicate (2*m) 0) (hH:Hires (mcO m) 0 ss S l0 S1 l1):
 ∃ v,Seen ⟨S1,K,l1⟩ v∧OV N m cl v:=by
 let v0:Vw:=⟨List.replicate (2*m) 0,false,S.chg,λi=>(thrI S i).se,l0,[]⟩
 have hs0:Seen ⟨S,K,l0⟩ v0:=⟨hK.symm,hsk.symm,rfl,λi=>rfl,rfl,htr,hSn,λi t h=>by rw[ht] at h;cases h⟩
 obtain ⟨v1,hi1,hs1⟩:=hires_hi (K:=K) hH v0 (by rw[ht];rfl) ha hs0;rw[hss] at hi1;have z:∀ j,(List.replicate (2*m) (0:Int)).getD j 0=0:=λj=>by rw[Ql,List.getElem?_replicate];split<;>rfl
 have hc0:OV 0 m cl v0:=⟨by simp[v0],by show S.chg.length=_;rw[hchg,List.length_replicate],rfl,λi hi=>by omega,λo ho=>.inl ⟨z _,by show S.chg.getD _ 0=0;rw[hchg];exact z _⟩,λi hi=>by omega⟩
 have hci:=hi_on hi1 (by simp) hc0;rw[List.length_map,List.length_range',Nat.zero_add] at hci;exact ⟨v1,hs1,hci⟩
theorem once_ends {ss:List (Scr (mcO m))}{S S1:TS}{l0 l1:Nat->Ph}{K:List (Nat×Int)}(h0:0<m)
 (hn:ss.length=N) (hn8:N<=8) (hl:lens ss<=512) (hss:ss.map (·.calls)=(List.range' 0 N).map cl) (ha:∀ x∈ss,x.ans=List.replicate x.calls.length (0,0))
 (ht:S.thr=[]) (htr:S.tr=[]) (hSn:S.n=0) (hsk:S.stk=false) (hchg:S.chg=List.replicate (2*m) 0) (hK:K.map (·.2)=List.replicate (2*m) 0) (hH:Hires (mcO m) 0 ss S l0 S1 l1):
 (∃ n p',n<=300000∧Turns (mcO m) n ⟨S1,K,l1⟩ p'∧p'.S.n*40<=140737488355328)∧∀ n p',Turns (mcO m) n ⟨S1,K,l1⟩ p'->p'.S.n<=400000∧∃ v,Seen p' v∧OV N m cl v:=by
 obtain ⟨v,hs,hv⟩:=once_start hn hss ha ht htr hSn hsk hchg hK hH;obtain ⟨a1,a2,a3,a4⟩:=hires_gd (metO m) hH (by rw[ht];rfl) (by omega) (λi t h=>by rw[ht] at h;cases h);have g:Gd (metO m) ⟨S1,K,l1⟩:=⟨by show S1.thr.length<=8;omega,a2⟩
 have hip:OIP N m cl ⟨S1,K,l1⟩:=⟨by show S1.thr.length=N;omega,v,hs,hv⟩
 have hm:=mu_le (metO m) ⟨S1,K,l1⟩ g.len;rw[ht] at a4;simp only[List.length_nil,List.range_zero,List.map_nil,List.sum_nil] at a4;have h5:(metO m).L*lens ss<=5*512:=Nat.mul_le_mul (Qi 5) hl;have hm2:mu (metO m) ⟨S1,K,l1⟩<=300000:=by refine Qk hm ?_;show 25+32*((List.range S1.thr.length).map λi=>tot (metO m) (l1 i)).sum<=300000;omega
 refine ⟨?_,λn p' hT=>?_⟩
 .obtain ⟨n,p',k1,k2,k3⟩:=turns_endI (metO m) (I:=OIP N m cl) (λp p1 g h e=>oip_turn h0 (by omega) p p1 g h e) (λp h=>oip_meets (by omega) p h) 300000 ⟨S1,K,l1⟩ hm2 g hip
  refine ⟨n,p',k1,k2,?_⟩;have k3:p'.S.n<=S1.n+mu (metO m) ⟨S1,K,l1⟩:=k3;omega
 .obtain ⟨_,hI,k3⟩:=turns_gdI (metO m) (I:=OIP N m cl) (λp p1 g h e=>oip_turn h0 (by omega) p p1 g h e) (λp h=>oip_meets (by omega) p h) hT g hip
  have k3:p'.S.n+mu (metO m) p'<=S1.n+mu (metO m) ⟨S1,K,l1⟩:=k3;obtain ⟨_,v',s',hv'⟩:=hI;exact ⟨by omega,v',s',hv'⟩
end
end Go.Proofs.YtfjjoohflcchnaaDoor.Gen
