/- Of the proof of OnceAlone. Part 21 of 30. (Joined, by program, and written short, of: OnD, OnT.) -/
import Derived.Test.YtfjjoohflcchnaaDoorOnceAlone20
set_option linter.unusedSimpArgs false
set_option linter.unusedVariables false
set_option maxHeartbeats 4000000
set_option maxRecDepth 100000
namespace Go.Proofs.YtfjjoohflcchnaaDoor.Gen
open Go Go.Lift Go.Conc Go.RowKit
noncomputable def dB:Code:=Tryd.f28.body.getD .skip
noncomputable def dO1:Array Oper:=opsOf (seq1 (seq2 dB))
noncomputable def dFr (a:Act) (r:Value):Frame:=(base 28).at (a.put (some 13) r) [.inRegion dO1 [7],.code .ret]
theorem eDB:dB=.seq (seq1 dB) (.seq (.region 1 dO1 true) .ret):=by kernel_rfl
theorem fine_d0:fineCode Tryd.prog true LT (seq1 dB):=fineCode_ask callT extT (by kernel_rfl)
def val_d1 (ob tb kp b3 b4 b5:Nat):Nat→Value
 |0=>Pt ob 0
 |1=>Pt ob 0
 |2=>Pt ob 0
 |3=>Pt kp 0
 |4=>Pt tb 0
 |5=>.func (.func 65) #[] #[Pt b3 0,Pt b4 0,Pt b5 0]
 |_=>undef
theorem reg_d1:regOk dO1 6 7=true:=by kernel_rfl
theorem fin_d1:((dO1.extract 0 6).all fun o=>plainOp Tryd.prog true o.op||askCall plainFs plainXs o.op)=true:=by kernel_rfl
theorem d1_pre {z:Nat→Option Nat} {Ch:Nat→Prop} {Stop:Goroutine→World→Prop} {main:Bool} {v w:World} (ob tb kp b3 b4 b5:Nat) {rb:Nat} {a:Act} (hA:Fl 14 [(3,Pt b3 0),(4,Pt b4 0),(5,Pt b5 0),(6,Pt rb 0)] a) (k:List Item) (cs:List Frame) (h3:v.cell? ⟨b3,0,none⟩=some (Pt ob 0)) (h4:v.cell? ⟨b4,0,none⟩=some (Pt tb 0)) (h1:v.cell? ⟨ob,0,none⟩=some (Pt kp 0)) (hvw:Rel z v w) (hn:NoRow Ch v)
 (hN:∀ v1 w1 a' o,dO1[6]? = some o→(∀ y,Region.wanted o y=true)→Fl 14 [(3,Pt b3 0),(4,Pt b4 0),(5,Pt b5 0),(6,Pt rb 0),(10,Pt kp 0),(11,Pt tb 0),(12,.func (.func 65) #[] #[Pt b3 0,Pt b4 0,Pt b5 0])] a'→Rel z v1 w1→NoRow Ch v1→Grows v v1→GoesI Tryd.prog main (DT (ScZ z) Ch) Stop (G ((base 28).at a' (.inRegion dO1 [6,7] :: k)) cs) w1) :
 GoesI Tryd.prog main (DT (ScZ z) Ch) Stop (G ((base 28).at a (.code (.region 1 dO1 true) :: k)) cs) w:=by
 refine region_in (val:=val_d1 ob tb kp b3 b4 b5) reg_d1 (by rw [hA.1];decide) hvw hn ?_ ?_
 ·intro i0 o rest a' v1 w1 hi ho hw ev ev0 r1 n1 g1 hk
  match i0,hi,ho,ev,hk with
  |0,_,ho,ev,hk=>have l0:a'.eval (.tmp 3)=Pt b3 0:=(ev0 3 (by decide)).trans (hA.at 3 _ (by simp));have c0:=g1.cell h3;exact op_reads ho hw (by simp [base]) (p:=Op.load 46 (Operand.tmp 3)) (by kernel_rfl) (fine_ops fin_d1 (by decide) ho) r1 n1 (x:=Pt ob 0) rfl (fun o' h'=>by unfold execOp;rw [h'];simp only [l0];simp [go_sem,c0]) hk
  |1,_,ho,ev,hk=>have l0:a'.eval (.tmp 7)=Pt ob 0:=ev 0 (by decide) (by kernel_rfl);exact op_reads ho hw (by simp [base]) (p:=Op.nilCheck (Operand.tmp 7)) (by kernel_rfl) (fine_ops fin_d1 (by decide) ho) r1 n1 (x:=Pt ob 0) rfl (fun o' h'=>by unfold execOp;rw [h'];simp only [l0];simp [go_sem]) hk
  |2,_,ho,ev,hk=>have l0:a'.eval (.tmp 8)=Pt ob 0:=ev 1 (by decide) (by kernel_rfl);exact op_reads ho hw (by simp [base]) (p:=Op.fieldAddr 105 (Operand.tmp 8) 0) (by kernel_rfl) (fine_ops fin_d1 (by decide) ho) r1 n1 (x:=Pt ob 0) rfl (fun o' h'=>by unfold execOp;rw [h'];simp only [l0];simp [go_sem]) hk
  |3,_,ho,ev,hk=>have l0:a'.eval (.tmp 9)=Pt ob 0:=ev 2 (by decide) (by kernel_rfl);have c0:=g1.cell h1;exact op_reads ho hw (by simp [base]) (p:=Op.load 102 (Operand.tmp 9)) (by kernel_rfl) (fine_ops fin_d1 (by decide) ho) r1 n1 (x:=Pt kp 0) rfl (fun o' h'=>by unfold execOp;rw [h'];simp only [l0];simp [go_sem,c0]) hk
  |4,_,ho,ev,hk=>have l0:a'.eval (.tmp 4)=Pt b4 0:=(ev0 4 (by decide)).trans (hA.at 4 _ (by simp));have c0:=g1.cell h4;exact op_reads ho hw (by simp [base]) (p:=Op.load 48 (Operand.tmp 4)) (by kernel_rfl) (fine_ops fin_d1 (by decide) ho) r1 n1 (x:=Pt tb 0) rfl (fun o' h'=>by unfold execOp;rw [h'];simp only [l0];simp [go_sem,c0]) hk
  |5,_,ho,ev,hk=>have l0:a'.eval (.tmp 3)=Pt b3 0:=(ev0 3 (by decide)).trans (hA.at 3 _ (by simp));have l1:a'.eval (.tmp 4)=Pt b4 0:=(ev0 4 (by decide)).trans (hA.at 4 _ (by simp));have l2:a'.eval (.tmp 5)=Pt b5 0:=(ev0 5 (by decide)).trans (hA.at 5 _ (by simp));exact op_reads ho hw (by simp [base]) (p:=Op.makeFunc (Fn.func 65) #[] #[Operand.tmp 3,Operand.tmp 4,Operand.tmp 5]) (by kernel_rfl) (fine_ops fin_d1 (by decide) ho) r1 n1 (x:=.func (.func 65) #[] #[Pt b3 0,Pt b4 0,Pt b5 0]) rfl (fun o' h'=>by unfold execOp;rw [h'];simp only [l0,l1,l2];simp [go_sem];exact ⟨by simpa [Act.eval] using l0,by simpa [Act.eval] using l1,by simpa [Act.eval] using l2⟩) hk
 ·intro v1 w1 o ho hw r1 n1 g1
  refine hN v1 w1 _ o ho hw ⟨(putN_size _ _ _ _).trans hA.1,(putN_defers _ _ _ _).trans hA.2.1,?_⟩ r1 n1 g1
  have hsz:7+6≤a.tmps.size:=by rw [hA.1];decide
  intro p hp
  simp only [List.mem_cons,List.not_mem_nil,or_false] at hp
  rcases hp with rfl|rfl|rfl|rfl|rfl|rfl|rfl
  ·rw [Array.getD_eq_getD_getElem?,putN_get _ _ _ _ _ hsz,if_neg (by simp),←Array.getD_eq_getD_getElem?];exact hA.2.2 (3,Pt b3 0) (by simp)
  ·rw [Array.getD_eq_getD_getElem?,putN_get _ _ _ _ _ hsz,if_neg (by simp),←Array.getD_eq_getD_getElem?];exact hA.2.2 (4,Pt b4 0) (by simp)
  ·rw [Array.getD_eq_getD_getElem?,putN_get _ _ _ _ _ hsz,if_neg (by simp),←Array.getD_eq_getD_getElem?];exact hA.2.2 (5,Pt b5 0) (by simp)
  ·rw [Array.getD_eq_getD_getElem?,putN_get _ _ _ _ _ hsz,if_neg (by simp),←Array.getD_eq_getD_getElem?];exact hA.2.2 (6,Pt rb 0) (by simp)
  ·rw [Array.getD_eq_getD_getElem?,putN_get _ _ _ _ _ hsz,if_pos (by simp)];rfl
  ·rw [Array.getD_eq_getD_getElem?,putN_get _ _ _ _ _ hsz,if_pos (by simp)];rfl
  ·rw [Array.getD_eq_getD_getElem?,putN_get _ _ _ _ _ hsz,if_pos (by simp)];rfl
theorem do_in {z:Nat→Option Nat} {Ch:Nat→Prop} {Stop:Goroutine→World→Prop} {main:Bool} {v w:World} {ob tb kp:Nat} {kd b:Int} (h1:v.cell? ⟨ob,0,none⟩=some (Pt kp 0)) (cs:List Frame) (hvw:Rel z v w) (hn:NoRow Ch v)
 (hk:∀ a v' w' o,Fl 14 [(6,Pt (v.heap.size+3) 0)] a→Rel z v' w'→NoRow Ch v'→Grows v v'→v'.heap[v.heap.size]? = some (.cells #[Pt ob 0] 46 (0,0))→v'.heap[v.heap.size+1]? = some (.cells #[Pt tb 0] 48 (0,0))→v'.heap[v.heap.size+2]? = some (.cells #[I kd,I b] 52 (0,0))→v'.heap[v.heap.size+3]? = some (.cells #[I 0,I 0] 38 (0,0))→dO1[6]? = some o→o.dst=some 13→∀ code,Tryd.f64.body=some code →
   GoesI Tryd.prog main (DT (ScZ z) Ch) Stop (G ((base 64).at { tmps:=#[Pt kp 0,Pt tb 0,.func (.func 65) #[] #[Pt v.heap.size 0,Pt (v.heap.size+1) 0,Pt (v.heap.size+2) 0]]++Array.replicate 59 undef,defers:=[] } [.code code]) ((base 28).at a (.inRegion dO1 [6,7] :: [.code .ret]) :: cs)) w') (code:Code) (hc:Tryd.f28.body=some code) :
 GoesI Tryd.prog main (DT (ScZ z) Ch) Stop (G ((base 28).at { tmps:=#[Pt ob 0,Pt tb 0,.agg #[I kd,I b]]++Array.replicate 11 undef,defers:=[] } [.code code]) cs) w:=by
 have hw0:code=.seq (seq1 dB) (.seq (.region 1 dO1 true) .ret):=by
  rw [show code=dB by unfold dB;rw [hc];rfl];exact eDB
 subst hw0
 clear hc
 refine goesI_seq (dt_idle _ _) ?_
 refine goesI_plain (z:=z) (wr:=true) (L:=LT) (I:=NoRow Ch) hE fineT noRow_keeps (fun v v' w w' es hi hr ho he=>dt_of_z v v' w w' es hi hr ho he) hvw fine_d0 rfl (by simp [base]) hn
  (Q:=fun a w'=>Fl 14 [(3,Pt v.heap.size 0),(4,Pt (v.heap.size+1) 0),(5,Pt (v.heap.size+2) 0),(6,Pt (v.heap.size+3) 0)] a∧w'.heap=((((v.heap.push (.cells #[Pt ob 0] 46)).push (.cells #[Pt tb 0] 48)).push (.cells #[I kd,I b] 52)).push (.cells #[I 0,I 0] 38))∧w'.os=v.os∧w'.output=v.output) (fun τ=>?_) ?_
 ·unfold dB Tryd.f28 seq1
  simp only [Option.getD_some,Array.replicate_succ,Array.replicate_zero,List.push_toArray,List.append_toArray,List.nil_append,List.cons_append]
  go_wp2_with fail
  exact ⟨⟨rfl,rfl,by
   intro p hp
   simp only [List.mem_cons,List.not_mem_nil,or_false] at hp
   rcases hp with rfl|rfl|rfl|rfl<;>rfl⟩,rfl,rfl,rfl⟩
 rintro a' v' w' ⟨hA,hv1,hv2,hv3⟩ hr' hn' -
 have hsz:v'.heap.size=v.heap.size+4:=by rw [hv1];simp
 have hg:Grows v v':=⟨by omega,fun b hb=>by rw [hv1,Array.getElem?_push,if_neg (by simp;omega),Array.getElem?_push,if_neg (by simp;omega),Array.getElem?_push,if_neg (by simp;omega),Array.getElem?_push,if_neg (by omega)],hv2,hv3⟩
 have hb0:v'.heap[v.heap.size]? = some (.cells #[Pt ob 0] 46 (0,0)):=by rw [hv1,Array.getElem?_push,if_neg (by simp<;>omega),Array.getElem?_push,if_neg (by simp<;>omega),Array.getElem?_push,if_neg (by simp<;>omega),Array.getElem?_push,if_pos (by simp)]
 have hb1:v'.heap[v.heap.size+1]? = some (.cells #[Pt tb 0] 48 (0,0)):=by rw [hv1,Array.getElem?_push,if_neg (by simp<;>omega),Array.getElem?_push,if_neg (by simp<;>omega),Array.getElem?_push,if_pos (by simp)]
 have hb2:v'.heap[v.heap.size+2]? = some (.cells #[I kd,I b] 52 (0,0)):=by rw [hv1,Array.getElem?_push,if_neg (by simp<;>omega),Array.getElem?_push,if_pos (by simp)]
 have hb3:v'.heap[v.heap.size+3]? = some (.cells #[I 0,I 0] 38 (0,0)):=by rw [hv1,Array.getElem?_push,if_pos (by simp)]
 refine goesI_seq (dt_idle _ _) ?_
 refine d1_pre (main:=main) (rb:=v.heap.size+3) ob tb kp v.heap.size (v.heap.size+1) (v.heap.size+2) hA _ cs (by simp [World.cell?,hb0]) (by simp [World.cell?,hb1]) (hg.cell h1) hr' hn' (fun v2 w2 a2 o ho hw hA2 r2 n2 g2=>?_)
 have st:∀ k,k<v'.heap.size→v2.heap[k]? = v'.heap[k]?:=fun k hk=>g2.old k hk
 refine goesI_into (f:=64) (fn:=Tryd.f64) (args:=#[Pt kp 0,Pt tb 0,.func (.func 65) #[] #[Pt v.heap.size 0,Pt (v.heap.size+1) 0,Pt (v.heap.size+2) 0]]) (dt_idle _ _) ho (hw _) (by simp [base]) (op_at (p:=.call { callee:=.value (.func 64),args:=#[.tmp 10,.tmp 11,.tmp 12],argTypes:=#[102,48,109] }) (by kernel_rfl) ho) (by simp only [List.map_toArray,List.map_cons,List.map_nil];rw [hA2.at 10 (Pt kp 0) (by simp),hA2.at 11 (Pt tb 0) (by simp),hA2.at 12 (.func (.func 65) #[] #[Pt v.heap.size 0,Pt (v.heap.size+1) 0,Pt (v.heap.size+2) 0]) (by simp)]) Tryd.func64 (by kernel_rfl) rfl ?_
 exact hk a2 v2 w2 o (hA2.sub (by simp)) r2 n2 (gtrans hg g2) (by rw [st _ (by omega)];exact hb0) (by rw [st _ (by omega)];exact hb1) (by rw [st _ (by omega)];exact hb2) (by rw [st _ (by omega)];exact hb3) ho (dst_at (by kernel_rfl) ho) _ rfl
theorem do_back {z:Nat→Option Nat} {Ch:Nat→Prop} {Stop:Goroutine→World→Prop} {main:Bool} {v w:World} {rb:Nat} {e x:Int} {a:Act} (hA:Fl 14 [(6,Pt rb 0)] a) (cs:List Frame) {bc:Frame} {ac:Act} {ops:Array Oper} {q:Nat} {rest:List Nat} {oc:Oper} {k0:List Item} (hoc:ops[q]? = some oc) (hpb:v.heap[rb]? = some (.cells #[I 0,I 0] 38 (0,0))) (hvw:Rel z v w) (hn:NoRow Ch v)
 (hk:∀ w',Rel z (ansW v rb e x) w'→NoRow Ch (ansW v rb e x)→GoesI Tryd.prog main (DT (ScZ z) Ch) Stop (G (bc.at (ac.put oc.dst (.agg #[I e,I x])) (.inRegion ops rest :: k0)) cs) w') :
 GoesI Tryd.prog main (DT (ScZ z) Ch) Stop (G (dFr a (.agg #[I e,I x])) (bc.at ac (.inRegion ops (q :: rest) :: k0) :: cs)) w:=by
 obtain ⟨hsz,hd,hpp⟩:=hA
 obtain ⟨u,rfl,hg⟩:=litN hsz hd
 have u6:=(hg 6).symm.trans (hpp (6,Pt rb 0) (by simp))
 clear hg hpp hsz hd
 unfold dFr dO1 dB Tryd.f28 seq1 seq2 opsOf
 simp only [Option.getD_some,lits,Nat.reduceAdd,u6]
 clear u6
 walk_nrm
 have q0:v.cell? ⟨rb,0,none⟩=some (I 0):=by simp [World.cell?,hpb]
 have q1:v.cell? ⟨rb,1,none⟩=some (I 0):=by simp [World.cell?,hpb]
 have p0:v.frozen? ⟨rb,0,none⟩=false:=by simp [World.frozen?,hpb]
 have p1:v.frozen? ⟨rb,1,none⟩=false:=by simp [World.frozen?,hpb]
 have hrow:=ans_row hpb (e) (x)
 refine goesI_doZ (L:=LT) rfl rfl (by decide) (fineOp_ask callT extT (by kernel_rfl)) hvw hn (v':=ansW v rb (e) (x)) (by unfold ansW;go_simp) rfl (fun w9 r9 n9=>?_)
 refine goesI_regionEnd (dt_idle _ _) ?_
 refine GoesI.ctl rfl (fun _=>stepG_ret') (dt_idle _ _) ?_
 refine goesI_leaveZ (f:=28) (fn:=Tryd.f28) (x:=.agg #[I (e),I (x)]) r9 n9 Tryd.func28 rfl hoc ?_ (fun w' r'=>hk w' r' n9)
 generalize ansW v rb (e) (x)=V at hrow
 have k0:V.cell? ⟨rb,0,none⟩=some (I (e)):=by simp [World.cell?,hrow]
 have k1:V.cell? ⟨rb,1,none⟩=some (I (x)):=by simp [World.cell?,hrow]
 simp [results,go_sem,Tryd.f28, *]
noncomputable def cB:Code:=Tryd.f65.body.getD .skip
noncomputable def cO1:Array Oper:=opsOf (seq1 (seq2 cB))
noncomputable def cFr1 (a:Act) (r:Value):Frame:=(base 65).at (a.put (some 7) r) [.inRegion cO1 [4],.code .ret]
theorem eCB:cB=.seq (seq1 cB) (.seq (.region 1 cO1 false) .ret):=by kernel_rfl
theorem fine_c0:fineCode Tryd.prog true LT (seq1 cB):=fineCode_ask callT extT (by kernel_rfl)
theorem clo_in {z:Nat→Option Nat} {Ch:Nat→Prop} {Stop:Goroutine→World→Prop} {main:Bool} {v w:World} {ob tb b3 b4 b5:Nat} {kd b:Int} (h3:v.heap[b3]? = some (.cells #[Pt ob 0] 46 (0,0))) (h4:v.heap[b4]? = some (.cells #[Pt tb 0] 48 (0,0))) (h5:v.heap[b5]? = some (.cells #[I kd,I b] 52 (0,0))) (cs:List Frame) (hvw:Rel z v w) (hn:NoRow Ch v)
 (hk:∀ a v' w' o,Fl 8 [(3,Pt v.heap.size 0)] a→Rel z v' w'→NoRow Ch v'→Grows v v'→v'.heap[v.heap.size]? = some (.cells #[I 0,I 0] 38 (0,0))→cO1[3]? = some o→o.dst=some 7→∀ code,Tryd.f66.body=some code →
   GoesI Tryd.prog main (DT (ScZ z) Ch) Stop (G ((base 66).at { tmps:=#[Pt ob 0,Pt tb 0,.agg #[I kd,I b]]++Array.replicate 31 undef,defers:=[] } [.code code]) ((base 65).at a (.inRegion cO1 [3,4] :: [.code .ret]) :: cs)) w') (code:Code) (hc:Tryd.f65.body=some code) :
 GoesI Tryd.prog main (DT (ScZ z) Ch) Stop (G ((base 65).at { tmps:=#[Pt b3 0,Pt b4 0,Pt b5 0]++Array.replicate 5 undef,defers:=[] } [.code code]) cs) w:=by
 have hw0:code=.seq (seq1 cB) (.seq (.region 1 cO1 false) .ret):=by
  rw [show code=cB by unfold cB;rw [hc];rfl];exact eCB
 subst hw0
 clear hc
 refine goesI_seq (dt_idle _ _) ?_
 refine goesI_plain (z:=z) (wr:=true) (L:=LT) (I:=NoRow Ch) hE fineT noRow_keeps (fun v v' w w' es hi hr ho he=>dt_of_z v v' w w' es hi hr ho he) hvw fine_c0 rfl (by simp [base]) hn
  (Q:=fun a w'=>Fl 8 [(0,Pt b3 0),(1,Pt b4 0),(2,Pt b5 0),(3,Pt v.heap.size 0)] a∧w'.heap=(v.heap.push (.cells #[I 0,I 0] 38))∧w'.os=v.os∧w'.output=v.output) (fun τ=>?_) ?_
 ·unfold cB Tryd.f65 seq1
  simp only [Option.getD_some,Array.replicate_succ,Array.replicate_zero,List.push_toArray,List.append_toArray,List.nil_append,List.cons_append]
  go_wp2_with fail
  exact ⟨⟨rfl,rfl,by
   intro p hp
   simp only [List.mem_cons,List.not_mem_nil,or_false] at hp
   rcases hp with rfl|rfl|rfl|rfl<;>rfl⟩,rfl,rfl,rfl⟩
 rintro a' v' w' ⟨hA,hv1,hv2,hv3⟩ hr' hn' -
 have hsz:v'.heap.size=v.heap.size+1:=by rw [hv1];simp
 have hg:Grows v v':=⟨by omega,fun b hb=>by rw [hv1,Array.getElem?_push,if_neg (by omega)],hv2,hv3⟩
 have hb0:v'.heap[v.heap.size]? = some (.cells #[I 0,I 0] 38 (0,0)):=by rw [hv1,Array.getElem?_push,if_pos (by simp)]
 have st:∀ k o,v.heap[k]? = some o→v'.heap[k]? = some o:=fun k o hk=>by rw [hg.old k (Array.getElem?_eq_some_iff.1 hk).1];exact hk
 have d3:w'.cell? ⟨b3,0,none⟩=some (Pt ob 0):=by rw [hr'.cell?];simp [World.cell?,st _ _ h3]
 have d4:w'.cell? ⟨b4,0,none⟩=some (Pt tb 0):=by rw [hr'.cell?];simp [World.cell?,st _ _ h4]
 have d5:w'.cell? ⟨b5,0,none⟩=some (I kd):=by rw [hr'.cell?];simp [World.cell?,st _ _ h5]
 have d6:w'.cell? ⟨b5,1,none⟩=some (I b):=by rw [hr'.cell?];simp [World.cell?,st _ _ h5]
 have HV:Hid (Grows v v'∧v'.heap[v.heap.size]? = some (.cells #[I 0,I 0] 38 (0,0))∧Rel z v' w'∧NoRow Ch v'):=⟨⟨hg,hb0,hr',hn'⟩⟩
 clear hv1 hv2 hv3 hsz hg hb0 hr' hn' st h3 h4 h5 hvw hn
 have hk:=fun a o hA ho hd=>hk a v' w' o hA HV.out.2.2.1 HV.out.2.2.2 HV.out.1 HV.out.2.1 ho hd
 clear HV
 generalize v.heap.size=N at hA hk
 unfold cO1 cB Tryd.f65 seq1 seq2 opsOf at hk
 simp only [Option.getD_some] at hk
 obtain ⟨hsz,hd,hpp⟩:=hA
 obtain ⟨u,rfl,hg⟩:=litN hsz hd
 have u0:=(hg 0).symm.trans (hpp (0,Pt b3 0) (by simp))
 have u1:=(hg 1).symm.trans (hpp (1,Pt b4 0) (by simp))
 have u2:=(hg 2).symm.trans (hpp (2,Pt b5 0) (by simp))
 have u3:=(hg 3).symm.trans (hpp (3,Pt N 0) (by simp))
 clear hg hpp hsz hd
 unfold cO1 cB Tryd.f65 seq1 seq2 opsOf
 simp only [Option.getD_some,lits,Nat.reduceAdd,u0,u1,u2,u3]
 clear u0 u1 u2 u3
 refine goesI_seq (dt_idle _ _) ?_
 refine goesI_region (dt_idle _ _) ?_
 simp only [List.size_toArray,List.length_cons,List.length_nil,Nat.reduceAdd,Nat.zero_add,List.range,List.range.loop]
 iterate 3
  (refine goesI_oper rfl rfl (by decide) (fun d K hK=>?_)
   go_simp
   refine hK _ _ ⟨dt_reads (fun e he=>?_),GoesI.at ?_ d⟩
   ·have hm:=mem_listed he
    simp [go_sem, *] at hm
    try exact ⟨_,_,hm⟩
    try (rcases hm with rfl|rfl<;>exact ⟨_,_,rfl⟩)
   clear hK K)
 refine goesI_into (f:=66) (fn:=Tryd.f66) (args:=#[Pt ob 0,Pt tb 0,.agg #[I kd,I b]]) (dt_idle _ _) rfl rfl (by decide) rfl (by simp [Act.eval]) Tryd.func66 (by decide) rfl ?_
 exact hk _ _ ⟨rfl,rfl,by
  intro p hp
  simp only [List.mem_cons,List.not_mem_nil,or_false] at hp
  rcases hp with rfl<;>rfl⟩ rfl rfl _ rfl
theorem clo_back {z:Nat→Option Nat} {Ch:Nat→Prop} {Stop:Goroutine→World→Prop} {main:Bool} {v w:World} {rb:Nat} {e x:Int} {a:Act} (hA:Fl 8 [(3,Pt rb 0)] a) (cs:List Frame) {bc:Frame} {ac:Act} {ops:Array Oper} {q:Nat} {rest:List Nat} {oc:Oper} {k0:List Item} (hoc:ops[q]? = some oc) (hpb:v.heap[rb]? = some (.cells #[I 0,I 0] 38 (0,0))) (hvw:Rel z v w) (hn:NoRow Ch v)
 (hk:∀ w',Rel z (ansW v rb e x) w'→NoRow Ch (ansW v rb e x)→GoesI Tryd.prog main (DT (ScZ z) Ch) Stop (G (bc.at (ac.put oc.dst (.agg #[I e,I x])) (.inRegion ops rest :: k0)) cs) w') :
 GoesI Tryd.prog main (DT (ScZ z) Ch) Stop (G (cFr1 a (.agg #[I e,I x])) (bc.at ac (.inRegion ops (q :: rest) :: k0) :: cs)) w:=by
 obtain ⟨hsz,hd,hpp⟩:=hA
 obtain ⟨u,rfl,hg⟩:=litN hsz hd
 have u3:=(hg 3).symm.trans (hpp (3,Pt rb 0) (by simp))
 clear hg hpp hsz hd
 unfold cFr1 cO1 cB Tryd.f65 seq1 seq2 opsOf
 simp only [Option.getD_some,lits,Nat.reduceAdd,u3]
 clear u3
 walk_nrm
 have q0:v.cell? ⟨rb,0,none⟩=some (I 0):=by simp [World.cell?,hpb]
 have q1:v.cell? ⟨rb,1,none⟩=some (I 0):=by simp [World.cell?,hpb]
 have p0:v.frozen? ⟨rb,0,none⟩=false:=by simp [World.frozen?,hpb]
 have p1:v.frozen? ⟨rb,1,none⟩=false:=by simp [World.frozen?,hpb]
 have hrow:=ans_row hpb (e) (x)
 refine goesI_doZ (L:=LT) rfl rfl (by decide) (fineOp_ask callT extT (by kernel_rfl)) hvw hn (v':=ansW v rb (e) (x)) (by unfold ansW;go_simp) rfl (fun w9 r9 n9=>?_)
 refine goesI_regionEnd (dt_idle _ _) ?_
 refine GoesI.ctl rfl (fun _=>stepG_ret') (dt_idle _ _) ?_
 refine goesI_leaveZ (f:=65) (fn:=Tryd.f65) (x:=.agg #[I (e),I (x)]) r9 n9 Tryd.func65 rfl hoc ?_ (fun w' r'=>hk w' r' n9)
 generalize ansW v rb (e) (x)=V at hrow
 have k0:V.cell? ⟨rb,0,none⟩=some (I (e)):=by simp [World.cell?,hrow]
 have k1:V.cell? ⟨rb,1,none⟩=some (I (x)):=by simp [World.cell?,hrow]
 simp [results,go_sem,Tryd.f65, *]
noncomputable def tB:Code:=Tryd.f66.body.getD .skip
theorem fine_t0:fineCode Tryd.prog true LT (seq1 tB):=fineCode_ask callT extT (by kernel_rfl)
theorem eTB:tB=.seq (seq1 tB) (seq2 tB):=by kernel_rfl
theorem come0 {z:Nat→Option Nat} {Ch:Nat→Prop} {Stop:Goroutine→World→Prop} {main:Bool} {v w:World} {ob tb:Nat} {kd b:Int} (hkd:kd=0) (cs:List Frame) {bc:Frame} {ac:Act} {ops:Array Oper} {q:Nat} {rest:List Nat} {oc:Oper} {k0:List Item} (hoc:ops[q]? = some oc) (hvw:Rel z v w) (hn:NoRow Ch v)
 (hk:∀ v' w',Rel z v' w'→NoRow Ch v'→Grows v v'→GoesI Tryd.prog main (DT (ScZ z) Ch) Stop (G (bc.at (ac.put oc.dst (.agg #[I (0),I (b)])) (.inRegion ops rest :: k0)) cs) w') (code:Code) (hc:Tryd.f66.body=some code) :
 GoesI Tryd.prog main (DT (ScZ z) Ch) Stop (G ((base 66).at { tmps:=#[Pt ob 0,Pt tb 0,.agg #[I kd,I b]]++Array.replicate 31 undef,defers:=[] } [.code code]) (bc.at ac (.inRegion ops (q :: rest) :: k0) :: cs)) w:=by
 have hw0:code=.seq (seq1 tB) (seq2 tB):=by
  rw [show code=tB by unfold tB;rw [hc];rfl];exact eTB
 subst hw0
 clear hc
 refine goesI_seq (dt_idle _ _) ?_
 refine goesI_plain (z:=z) (wr:=true) (L:=LT) (I:=NoRow Ch) hE fineT noRow_keeps (fun v v' w w' es hi hr ho he=>dt_of_z v v' w w' es hi hr ho he) hvw fine_t0 rfl (by simp [base]) hn
  (Q:=fun a w'=>a={ tmps:=#[Pt ob 0,Pt tb 0,.agg #[I kd,I b],undef,undef,Pt v.heap.size 0,Pt (v.heap.size+1) 0]++Array.replicate 27 undef,defers:=[] }∧w'.heap=((v.heap.push (.cells #[I kd,I b] 52)).push (.cells #[I 0,I 0] 38))∧w'.os=v.os∧w'.output=v.output) (fun τ=>?_) ?_
 ·unfold tB Tryd.f66 seq1
  simp only [Option.getD_some,Array.replicate_succ,Array.replicate_zero,List.push_toArray,List.append_toArray,List.nil_append,List.cons_append]
  go_wp2_with fail
  exact ⟨rfl,rfl,rfl,rfl⟩
 rintro a' v' w' ⟨rfl,hv1,hv2,hv3⟩ hr' hn' -
 have hsz:v'.heap.size=v.heap.size+2:=by rw [hv1];simp
 have hg:Grows v v':=⟨by omega,fun b hb=>by rw [hv1,Array.getElem?_push,if_neg (by simp;omega),Array.getElem?_push,if_neg (by omega)],hv2,hv3⟩
 have hb0:v'.heap[v.heap.size]? = some (.cells #[I kd,I b] 52 (0,0)):=by rw [hv1,Array.getElem?_push,if_neg (by simp<;>omega),Array.getElem?_push,if_pos (by simp)]
 have hb1:v'.heap[v.heap.size+1]? = some (.cells #[I 0,I 0] 38 (0,0)):=by rw [hv1,Array.getElem?_push,if_pos (by simp)]
 have d0:w'.cell? ⟨v.heap.size,0,none⟩=some (I kd):=by rw [hr'.cell?];simp [World.cell?,hb0]
 have d1:w'.cell? ⟨v.heap.size,1,none⟩=some (I b):=by rw [hr'.cell?];simp [World.cell?,hb0]
 clear hv1 hv2 hv3 hvw hn
 subst hkd
 have hgr:∀ e x,Grows v (ansW v' (v.heap.size+1) e x):=fun e x=>⟨by rw [ans_size];omega,fun b hb=>by rw [ans_far _ _ _ _ _ (by omega)];exact hg.old b hb,hg.os,hg.output⟩
 have hk:=fun e x w' r' n'=>hk (ansW v' (v.heap.size+1) e x) w' r' n' (hgr e x)
 clear hgr hg hsz hb0
 have hpb:=hb1
 clear hb1
 generalize v.heap.size=N at hpb d0 d1 hk ⊢
 unfold tB Tryd.f66 seq2
 simp only [Option.getD_some,Array.replicate_succ,Array.replicate_zero,List.push_toArray,List.append_toArray,List.nil_append,List.cons_append]
 refine goesI_seq (dt_idle _ _) ?_
 refine goesI_region (dt_idle _ _) ?_
 simp only [List.size_toArray,List.length_cons,List.length_nil,Nat.reduceAdd,Nat.zero_add,List.range,List.range.loop]
 iterate 1
  (refine goesI_oper rfl rfl (by decide) (fun d K hK=>?_)
   go_simp
   refine hK _ _ ⟨dt_reads (fun e he=>?_),GoesI.at ?_ d⟩
   ·have hm:=mem_listed he
    simp [go_sem, *] at hm
    try exact ⟨_,_,hm⟩
    try (rcases hm with rfl|rfl<;>exact ⟨_,_,rfl⟩)
   clear hK K)
 refine goesI_deferV (d:=dclo 100 #[Pt N 0,Pt (N+1) 0]) (dt_idle _ _) rfl rfl (by decide) (fun w=>?_) (fun w=>?_) ?_
 ·simp [execOp,resolve,Deferred.ofValue,Act.eval,dclo,go_sem]
 ·simp [go_sem,execOp,resolve,Deferred.ofValue,Act.eval]
 refine goesI_regionEnd (dt_idle _ _) ?_
 refine goesI_seq (dt_idle _ _) ?_
 refine goesI_seq (dt_idle _ _) ?_
 refine goesI_region (dt_idle _ _) ?_
 simp only [List.size_toArray,List.length_cons,List.length_nil,Nat.reduceAdd,Nat.zero_add,List.range,List.range.loop]
 iterate 2
  (refine goesI_oper rfl rfl (by decide) (fun d K hK=>?_)
   go_simp
   refine hK _ _ ⟨dt_reads (fun e he=>?_),GoesI.at ?_ d⟩
   ·have hm:=mem_listed he
    simp [go_sem, *] at hm
    try exact ⟨_,_,hm⟩
    try (rcases hm with rfl|rfl<;>exact ⟨_,_,rfl⟩)
   clear hK K)
 refine goesI_regionEnd (dt_idle _ _) ?_
 refine goesI_block (dt_idle _ _) ?_
 refine goesI_seq (dt_idle _ _) ?_
 refine goesI_region (dt_idle _ _) ?_
 simp only [List.size_toArray,List.length_cons,List.length_nil,Nat.reduceAdd,Nat.zero_add,List.range,List.range.loop]
 iterate 2
  (refine goesI_oper rfl rfl (by decide) (fun d K hK=>?_)
   go_simp
   refine hK _ _ ⟨dt_reads (fun e he=>?_),GoesI.at ?_ d⟩
   ·have hm:=mem_listed he
    simp [go_sem, *] at hm
    try exact ⟨_,_,hm⟩
    try (rcases hm with rfl|rfl<;>exact ⟨_,_,rfl⟩)
   clear hK K)
 refine goesI_regionEnd (dt_idle _ _) ?_
 refine goesI_cond (dt_idle _ _) (t:=true) (by simp [Act.eval]) ?_
 simp only [if_true,if_false,Bool.false_eq_true]
 refine goesI_seq (dt_idle _ _) ?_
 refine goesI_region (dt_idle _ _) ?_
 simp only [List.size_toArray,List.length_cons,List.length_nil,Nat.reduceAdd,Nat.zero_add,List.range,List.range.loop]
 iterate 3
  (refine goesI_oper rfl rfl (by decide) (fun d K hK=>?_)
   go_simp
   refine hK _ _ ⟨dt_reads (fun e he=>?_),GoesI.at ?_ d⟩
   ·have hm:=mem_listed he
    simp [go_sem, *] at hm
    try exact ⟨_,_,hm⟩
    try (rcases hm with rfl|rfl<;>exact ⟨_,_,rfl⟩)
   clear hK K)
 have q0:v'.cell? ⟨N+1,0,none⟩=some (I 0):=by simp [World.cell?,hpb]
 have q1:v'.cell? ⟨N+1,1,none⟩=some (I 0):=by simp [World.cell?,hpb]
 have p0:v'.frozen? ⟨N+1,0,none⟩=false:=by simp [World.frozen?,hpb]
 have p1:v'.frozen? ⟨N+1,1,none⟩=false:=by simp [World.frozen?,hpb]
 have hrow:=ans_row hpb (0) (b)
 refine goesI_doZ (L:=LT) rfl rfl (by decide) (fineOp_ask callT extT (by kernel_rfl)) hr' hn' (v':=ansW v' (N+1) (0) (b)) (by unfold ansW;go_simp) rfl (fun w9 r9 n9=>?_)
 refine goesI_regionEnd (dt_idle _ _) ?_
 refine GoesI.ctl rfl (fun _=>stepG_ret') (dt_idle _ _) ?_
 refine goesI_unwind_clo (dt_idle _ _) rfl Tryd.func100 (by kernel_rfl) rfl ?_
 simp only [Tryd.ntmps100,List.size_toArray,List.length_cons,List.length_nil,Nat.reduceAdd,Nat.reduceSub,Array.replicate_succ,Array.replicate_zero,List.push_toArray,List.append_toArray,List.nil_append,List.cons_append]
 refine goesI_seq (dt_idle _ _) ?_
 refine goesI_region (dt_idle _ _) ?_
 simp only [List.size_toArray,List.length_cons,List.length_nil,Nat.reduceAdd,Nat.zero_add,List.range,List.range.loop]
 refine goesI_recover_none (dt_idle _ _) rfl rfl rfl rfl (fun w=>by go_simp) (fun w=>by simp [go_sem,execOp,resolve,invoke,builtin]) ?_
 (refine goesI_oper rfl rfl (by decide) (fun d K hK=>?_)
  go_simp
  refine hK _ _ ⟨dt_reads (fun e he=>?_),GoesI.at ?_ d⟩
  ·have hm:=mem_listed he
   simp [go_sem,ev_nil, *] at hm
  clear hK K)
 refine goesI_regionEnd (dt_idle _ _) ?_
 refine goesI_cond (dt_idle _ _) (t:=false) rfl ?_
 simp only [if_true,if_false,Bool.false_eq_true]
 refine goesI_skip (dt_idle _ _) ?_
 refine goesI_end (dt_idle _ _) ?_
 refine GoesI.ctl rfl (fun w=>stepG_backR Tryd.func100 rfl rfl) (dt_idle _ _) ?_
 refine goesI_leaveZ (f:=66) (fn:=Tryd.f66) (x:=.agg #[I (0),I (b)]) r9 n9 Tryd.func66 rfl hoc ?_ (fun w' r'=>hk (0) (b) w' r' n9)
 generalize ansW v' (N+1) (0) (b)=V at hrow
 have k0:V.cell? ⟨N+1,0,none⟩=some (I (0)):=by simp [World.cell?,hrow]
 have k1:V.cell? ⟨N+1,1,none⟩=some (I (b)):=by simp [World.cell?,hrow]
 simp [results,go_sem,Tryd.f66, *]
theorem come1 {z:Nat→Option Nat} {Ch:Nat→Prop} {Stop:Goroutine→World→Prop} {main:Bool} {v w:World} {ob tb:Nat} {kd b:Int} (hkd:kd=1) (cs:List Frame) {bc:Frame} {ac:Act} {ops:Array Oper} {q:Nat} {rest:List Nat} {oc:Oper} {k0:List Item} (hoc:ops[q]? = some oc) (hvw:Rel z v w) (hn:NoRow Ch v)
 (hk:∀ v' w',Rel z v' w'→NoRow Ch v'→Grows v v'→GoesI Tryd.prog main (DT (ScZ z) Ch) Stop (G (bc.at (ac.put oc.dst (.agg #[I (70),I (b)])) (.inRegion ops rest :: k0)) cs) w') (code:Code) (hc:Tryd.f66.body=some code) :
 GoesI Tryd.prog main (DT (ScZ z) Ch) Stop (G ((base 66).at { tmps:=#[Pt ob 0,Pt tb 0,.agg #[I kd,I b]]++Array.replicate 31 undef,defers:=[] } [.code code]) (bc.at ac (.inRegion ops (q :: rest) :: k0) :: cs)) w:=by
 have hw0:code=.seq (seq1 tB) (seq2 tB):=by
  rw [show code=tB by unfold tB;rw [hc];rfl];exact eTB
 subst hw0
 clear hc
 refine goesI_seq (dt_idle _ _) ?_
 refine goesI_plain (z:=z) (wr:=true) (L:=LT) (I:=NoRow Ch) hE fineT noRow_keeps (fun v v' w w' es hi hr ho he=>dt_of_z v v' w w' es hi hr ho he) hvw fine_t0 rfl (by simp [base]) hn
  (Q:=fun a w'=>a={ tmps:=#[Pt ob 0,Pt tb 0,.agg #[I kd,I b],undef,undef,Pt v.heap.size 0,Pt (v.heap.size+1) 0]++Array.replicate 27 undef,defers:=[] }∧w'.heap=((v.heap.push (.cells #[I kd,I b] 52)).push (.cells #[I 0,I 0] 38))∧w'.os=v.os∧w'.output=v.output) (fun τ=>?_) ?_
 ·unfold tB Tryd.f66 seq1
  simp only [Option.getD_some,Array.replicate_succ,Array.replicate_zero,List.push_toArray,List.append_toArray,List.nil_append,List.cons_append]
  go_wp2_with fail
  exact ⟨rfl,rfl,rfl,rfl⟩
 rintro a' v' w' ⟨rfl,hv1,hv2,hv3⟩ hr' hn' -
 have hsz:v'.heap.size=v.heap.size+2:=by rw [hv1];simp
 have hg:Grows v v':=⟨by omega,fun b hb=>by rw [hv1,Array.getElem?_push,if_neg (by simp;omega),Array.getElem?_push,if_neg (by omega)],hv2,hv3⟩
 have hb0:v'.heap[v.heap.size]? = some (.cells #[I kd,I b] 52 (0,0)):=by rw [hv1,Array.getElem?_push,if_neg (by simp<;>omega),Array.getElem?_push,if_pos (by simp)]
 have hb1:v'.heap[v.heap.size+1]? = some (.cells #[I 0,I 0] 38 (0,0)):=by rw [hv1,Array.getElem?_push,if_pos (by simp)]
 have d0:w'.cell? ⟨v.heap.size,0,none⟩=some (I kd):=by rw [hr'.cell?];simp [World.cell?,hb0]
 have d1:w'.cell? ⟨v.heap.size,1,none⟩=some (I b):=by rw [hr'.cell?];simp [World.cell?,hb0]
 clear hv1 hv2 hv3 hvw hn
 subst hkd
 have hgr:∀ e x,Grows v (ansW v' (v.heap.size+1) e x):=fun e x=>⟨by rw [ans_size];omega,fun b hb=>by rw [ans_far _ _ _ _ _ (by omega)];exact hg.old b hb,hg.os,hg.output⟩
 have hk:=fun e x w' r' n'=>hk (ansW v' (v.heap.size+1) e x) w' r' n' (hgr e x)
 clear hgr hg hsz hb0
 have hpb:=hb1
 clear hb1
 generalize v.heap.size=N at hpb d0 d1 hk ⊢
 unfold tB Tryd.f66 seq2
 simp only [Option.getD_some,Array.replicate_succ,Array.replicate_zero,List.push_toArray,List.append_toArray,List.nil_append,List.cons_append]
 refine goesI_seq (dt_idle _ _) ?_
 refine goesI_region (dt_idle _ _) ?_
 simp only [List.size_toArray,List.length_cons,List.length_nil,Nat.reduceAdd,Nat.zero_add,List.range,List.range.loop]
 iterate 1
  (refine goesI_oper rfl rfl (by decide) (fun d K hK=>?_)
   go_simp
   refine hK _ _ ⟨dt_reads (fun e he=>?_),GoesI.at ?_ d⟩
   ·have hm:=mem_listed he
    simp [go_sem, *] at hm
    try exact ⟨_,_,hm⟩
    try (rcases hm with rfl|rfl<;>exact ⟨_,_,rfl⟩)
   clear hK K)
 refine goesI_deferV (d:=dclo 100 #[Pt N 0,Pt (N+1) 0]) (dt_idle _ _) rfl rfl (by decide) (fun w=>?_) (fun w=>?_) ?_
 ·simp [execOp,resolve,Deferred.ofValue,Act.eval,dclo,go_sem]
 ·simp [go_sem,execOp,resolve,Deferred.ofValue,Act.eval]
 refine goesI_regionEnd (dt_idle _ _) ?_
 refine goesI_seq (dt_idle _ _) ?_
 refine goesI_seq (dt_idle _ _) ?_
 refine goesI_region (dt_idle _ _) ?_
 simp only [List.size_toArray,List.length_cons,List.length_nil,Nat.reduceAdd,Nat.zero_add,List.range,List.range.loop]
 iterate 2
  (refine goesI_oper rfl rfl (by decide) (fun d K hK=>?_)
   go_simp
   refine hK _ _ ⟨dt_reads (fun e he=>?_),GoesI.at ?_ d⟩
   ·have hm:=mem_listed he
    simp [go_sem, *] at hm
    try exact ⟨_,_,hm⟩
    try (rcases hm with rfl|rfl<;>exact ⟨_,_,rfl⟩)
   clear hK K)
 refine goesI_regionEnd (dt_idle _ _) ?_
 refine goesI_block (dt_idle _ _) ?_
 refine goesI_seq (dt_idle _ _) ?_
 refine goesI_region (dt_idle _ _) ?_
 simp only [List.size_toArray,List.length_cons,List.length_nil,Nat.reduceAdd,Nat.zero_add,List.range,List.range.loop]
 iterate 2
  (refine goesI_oper rfl rfl (by decide) (fun d K hK=>?_)
   go_simp
   refine hK _ _ ⟨dt_reads (fun e he=>?_),GoesI.at ?_ d⟩
   ·have hm:=mem_listed he
    simp [go_sem, *] at hm
    try exact ⟨_,_,hm⟩
    try (rcases hm with rfl|rfl<;>exact ⟨_,_,rfl⟩)
   clear hK K)
 refine goesI_regionEnd (dt_idle _ _) ?_
 refine goesI_cond (dt_idle _ _) (t:=false) (by simp [Act.eval]) ?_
 simp only [if_true,if_false,Bool.false_eq_true]
 refine goesI_seq (dt_idle _ _) ?_
 refine goesI_region (dt_idle _ _) ?_
 simp only [List.size_toArray,List.length_cons,List.length_nil,Nat.reduceAdd,Nat.zero_add,List.range,List.range.loop]
 iterate 2
  (refine goesI_oper rfl rfl (by decide) (fun d K hK=>?_)
   go_simp
   refine hK _ _ ⟨dt_reads (fun e he=>?_),GoesI.at ?_ d⟩
   ·have hm:=mem_listed he
    simp [go_sem, *] at hm
    try exact ⟨_,_,hm⟩
    try (rcases hm with rfl|rfl<;>exact ⟨_,_,rfl⟩)
   clear hK K)
 refine goesI_regionEnd (dt_idle _ _) ?_
 refine goesI_cond (dt_idle _ _) (t:=true) (by simp [Act.eval]) ?_
 simp only [if_true,if_false,Bool.false_eq_true]
 refine goesI_seq (dt_idle _ _) ?_
 refine goesI_region (dt_idle _ _) ?_
 simp only [List.size_toArray,List.length_cons,List.length_nil,Nat.reduceAdd,Nat.zero_add,List.range,List.range.loop]
 iterate 3
  (refine goesI_oper rfl rfl (by decide) (fun d K hK=>?_)
   go_simp
   refine hK _ _ ⟨dt_reads (fun e he=>?_),GoesI.at ?_ d⟩
   ·have hm:=mem_listed he
    simp [go_sem, *] at hm
    try exact ⟨_,_,hm⟩
    try (rcases hm with rfl|rfl<;>exact ⟨_,_,rfl⟩)
   clear hK K)
 have q0:v'.cell? ⟨N+1,0,none⟩=some (I 0):=by simp [World.cell?,hpb]
 have q1:v'.cell? ⟨N+1,1,none⟩=some (I 0):=by simp [World.cell?,hpb]
 have p0:v'.frozen? ⟨N+1,0,none⟩=false:=by simp [World.frozen?,hpb]
 have p1:v'.frozen? ⟨N+1,1,none⟩=false:=by simp [World.frozen?,hpb]
 have hrow:=ans_row hpb (70) (b)
 refine goesI_doZ (L:=LT) rfl rfl (by decide) (fineOp_ask callT extT (by kernel_rfl)) hr' hn' (v':=ansW v' (N+1) (70) (b)) (by unfold ansW;go_simp) rfl (fun w9 r9 n9=>?_)
 refine goesI_regionEnd (dt_idle _ _) ?_
 refine GoesI.ctl rfl (fun _=>stepG_ret') (dt_idle _ _) ?_
 refine goesI_unwind_clo (dt_idle _ _) rfl Tryd.func100 (by kernel_rfl) rfl ?_
 simp only [Tryd.ntmps100,List.size_toArray,List.length_cons,List.length_nil,Nat.reduceAdd,Nat.reduceSub,Array.replicate_succ,Array.replicate_zero,List.push_toArray,List.append_toArray,List.nil_append,List.cons_append]
 refine goesI_seq (dt_idle _ _) ?_
 refine goesI_region (dt_idle _ _) ?_
 simp only [List.size_toArray,List.length_cons,List.length_nil,Nat.reduceAdd,Nat.zero_add,List.range,List.range.loop]
 refine goesI_recover_none (dt_idle _ _) rfl rfl rfl rfl (fun w=>by go_simp) (fun w=>by simp [go_sem,execOp,resolve,invoke,builtin]) ?_
 (refine goesI_oper rfl rfl (by decide) (fun d K hK=>?_)
  go_simp
  refine hK _ _ ⟨dt_reads (fun e he=>?_),GoesI.at ?_ d⟩
  ·have hm:=mem_listed he
   simp [go_sem,ev_nil, *] at hm
  clear hK K)
 refine goesI_regionEnd (dt_idle _ _) ?_
 refine goesI_cond (dt_idle _ _) (t:=false) rfl ?_
 simp only [if_true,if_false,Bool.false_eq_true]
 refine goesI_skip (dt_idle _ _) ?_
 refine goesI_end (dt_idle _ _) ?_
 refine GoesI.ctl rfl (fun w=>stepG_backR Tryd.func100 rfl rfl) (dt_idle _ _) ?_
 refine goesI_leaveZ (f:=66) (fn:=Tryd.f66) (x:=.agg #[I (70),I (b)]) r9 n9 Tryd.func66 rfl hoc ?_ (fun w' r'=>hk (70) (b) w' r' n9)
 generalize ansW v' (N+1) (70) (b)=V at hrow
 have k0:V.cell? ⟨N+1,0,none⟩=some (I (70)):=by simp [World.cell?,hrow]
 have k1:V.cell? ⟨N+1,1,none⟩=some (I (b)):=by simp [World.cell?,hrow]
 simp [results,go_sem,Tryd.f66, *]
end Go.Proofs.YtfjjoohflcchnaaDoor.Gen
