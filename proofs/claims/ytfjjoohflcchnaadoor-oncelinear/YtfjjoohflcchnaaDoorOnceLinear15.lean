/- OnceLinear, part 15 of 26: OnP, OnM, OnK, OnG2. -/
import Derived.Test.YtfjjoohflcchnaaDoorOnceLinear01
import Derived.Test.YtfjjoohflcchnaaDoorOnceLinear11
import Derived.Test.YtfjjoohflcchnaaDoorOnceLinear14
set_option linter.unusedSimpArgs false
set_option linter.unusedVariables false
set_option maxHeartbeats 4000000
set_option maxRecDepth 100000
noncomputable section
namespace Go.Proofs.YtfjjoohflcchnaaDoor.Gen
open Go Go.Lift Go.Conc Go.RowKit
variable {z:Nat->Option Nat} {Ch:Nat->Prop} {Stop:Goroutine->World->Prop} {v w:World} {bx cb i j kp mb q rb tb xb:Nat} {a ac:Act} {e po x:Int} {bc:Frame} {ops:Array Oper} {oc:Oper} {k0:List Item} {F:Value}
theorem which_body (a:Int) (n:Nat) (h0:0<n) (hb:(n:Int)<9223372036854775808) (w:World):Body Tryd.f62 #[I a,I n] w (λv w'=>v=I (which a n)∧w'=w):=by
 intro code hb';obtain rfl:=Qd hb';clear hb';simp only[Tryd.ntmps62,Sz,Nat.reduceAdd,Nat.reduceSub,Sy];have hne:¬ ((n:Int)=0):=by omega
 have HB:Hid ((n:Int)<9223372036854775808∧0<n):=⟨⟨hb,h0⟩⟩
 clear hb h0;go_wp2_with fail;all_goals
  go_ret;rename_i h;first
   |exact ⟨_,rfl,congrArg I (which_pos h),rfl⟩
   |exact ⟨_,rfl,congrArg I (which_neg h HB.out.2 HB.out.1),rfl⟩
def pB:Code:=Tryd.f61.body.getD .skip
def pO3:Array Oper:=opsOf (seq1 (seq2 (seq2 pB)))
def pFr (a:Act) (r:Value):Frame:=(base 61).at (a.put (some 30) r) [.inRegion pO3 [15],.code .ret]
theorem ePB:pB=.seq (seq1 pB) (.seq (.seq (seq1 (seq1 (seq2 pB))) (seq2 (seq1 (seq2 pB)))) (.seq (.region 3 pO3 true) .ret)):=by kernel_rfl
theorem fine_p0:fineCode Tryd.prog true LT (seq1 pB):=fineCode_ask callT extT (by kernel_rfl)
theorem fine_p1:fineCode Tryd.prog true LT (seq1 (seq1 (seq2 pB))):=fineCode_ask callT extT (by kernel_rfl)
def val_p3 (tb xb mb bx sb m ob:Nat) (po ca cb:Int):Nat->Value
 |0=>.slice (some ⟨sb,0,none⟩) m m
 |1=>Pt bx 1
 |2=>I ca
 |3=>I m
 |4=>I (which ca m)
 |5=>Pt sb (which ca m)
 |6=>Pt ob 0
 |7=>Pt tb 0
 |8=>Pt bx 0
 |9=>I po
 |10=>I (po - 1)
 |11=>Pt bx 2
 |12=>I cb
 |13=>.agg #[I (po - 1),I cb]
 |_=>undef
theorem reg_p3:regOk pO3 14 16=true:=by kernel_rfl
theorem Ay:((pO3.extract 0 14).all λo=>plainOp Tryd.prog true o.op||askCall plainFs plainXs o.op)=true:=by kernel_rfl
theorem p3_pre {main:Bool}(tb xb mb bx sb m ob:Nat) (po ca cb:Int) (hA:Fl 31 [(0,Pt tb 0),(2,Pt xb 0),(3,Pt mb 0),(5,Pt bx 0),(6,Pt rb 0)] a) (k:List Item) (cs:List Frame) (hm0:0<m) (hm1:m<=1000) (hpo:IntKind.i64.wrap (po - 1)=po - 1) (hx:v.cell? ⟨xb,0,none⟩=some (.slice (some ⟨sb,0,none⟩) m m)) (hmb:v.cell? ⟨mb,0,none⟩=some (I m)) (hob:v.cell? ⟨sb,which ca m,none⟩=some (Pt ob 0)) (b0:v.cell? ⟨bx,0,none⟩=some (I po)) (b1:v.cell? ⟨bx,1,none⟩=some (I ca)) (b2:v.cell? ⟨bx,2,none⟩=some (I cb)) (hvw:Rel z v w) (hn:NoRow Ch v)
 (hN:∀ v1 w1 a' o,pO3[14]? = some o->(∀ y,Region.wanted o y=true)->Fl 31 [(0,Pt tb 0),(2,Pt xb 0),(3,Pt mb 0),(5,Pt bx 0),(6,Pt rb 0),(22,Pt ob 0),(23,Pt tb 0),(29,.agg #[I (po - 1),I cb])] a'->Rel z v1 w1->NoRow Ch v1->Grows v v1->GoesI Tryd.prog main (DT (ScZ z) Ch) Stop (G ((base 61).at a' (.inRegion pO3 [14,15] :: k)) cs) w1):
 GoesI Tryd.prog main (DT (ScZ z) Ch) Stop (G ((base 61).at a (.code (.region 3 pO3 true) :: k)) cs) w:=by
 refine A7 (val:=val_p3 tb xb mb bx sb m ob po ca cb) reg_p3 (by rw[hA.1];decide) hvw hn ?_ ?_
 .intro i0 o rest a' v1 w1 hi ho hw ev ev0 r1 n1 g1 hk
  match i0,hi,ho,ev,hk with
  |0,_,ho,ev,hk=>have l0:a'.eval (.tmp 2)=Pt xb 0:=(ev0 2 (by decide)).trans (hA.at 2 _ (by simp));have c0:=g1.cell hx;exact Ab ho hw (by simp[base]) (p:=Op.load 99 (Operand.tmp 2)) (by kernel_rfl) (Ad Ay (by decide) ho) r1 n1 (x:=.slice (some ⟨sb,0,none⟩) m m) rfl (λo' h'=>by unfold execOp;rw[h'];simp only[l0];simp[go_sem,c0]) hk
  |1,_,ho,ev,hk=>have l0:a'.eval (.tmp 5)=Pt bx 0:=(ev0 5 (by decide)).trans (hA.at 5 _ (by simp));exact Ab ho hw (by simp[base]) (p:=Op.fieldAddr 35 (Operand.tmp 5) 1) (by kernel_rfl) (Ad Ay (by decide) ho) r1 n1 (x:=Pt bx 1) rfl (λo' h'=>by unfold execOp;rw[h'];simp only[l0];simp[go_sem]) hk
  |2,_,ho,ev,hk=>have l0:a'.eval (.tmp 17)=Pt bx 1:=ev 1 (by decide) (by kernel_rfl);have c0:=g1.cell b1;exact Ab ho hw (by simp[base]) (p:=Op.load 3 (Operand.tmp 17)) (by kernel_rfl) (Ad Ay (by decide) ho) r1 n1 (x:=I ca) rfl (λo' h'=>by unfold execOp;rw[h'];simp only[l0];simp[go_sem,c0]) hk
  |3,_,ho,ev,hk=>have l0:a'.eval (.tmp 3)=Pt mb 0:=(ev0 3 (by decide)).trans (hA.at 3 _ (by simp));have c0:=g1.cell hmb;exact Ab ho hw (by simp[base]) (p:=Op.load 3 (Operand.tmp 3)) (by kernel_rfl) (Ad Ay (by decide) ho) r1 n1 (x:=I m) rfl (λo' h'=>by unfold execOp;rw[h'];simp only[l0];simp[go_sem,c0]) hk
  |4,_,ho,ev,hk =>have l0:a'.eval (.tmp 18)=I ca:=ev 2 (by decide) (by kernel_rfl);have l1:a'.eval (.tmp 19)=I m:=ev 3 (by decide) (by kernel_rfl);exact op_calls (f:=62) (fn:=Tryd.f62) (xs:=#[.tmp 18,.tmp 19]) (ats:=#[3,3]) (args:=#[I ca,I m]) ho hw (by simp[base]) (by kernel_rfl) (by simp only[List.map_toArray,List.map_cons,List.map_nil,l0,l1]) Tryd.func62 (by kernel_rfl) rfl (fineFn_body fineT (by simp[LT,plainFs]) Tryd.func62 rfl) (λtmps=>⟨_,λw=>results_tmp rfl _ _ _,λw=>by simp[results,go_sem]⟩) r1 n1 (x:=I (which ca m)) rfl (λτ=>wp_mono (which_body ca m hm0 (by omega) (onTape v1 τ 0) _ rfl) (bp_mono λr u hq=>⟨hq.1,by rw[hq.2];exact gtape (grefl _)⟩)) hk
  |5,_,ho,ev,hk=>have l0:a'.eval (.tmp 16)=.slice (some ⟨sb,0,none⟩) m m:=ev 0 (by decide) (by kernel_rfl);have l1:a'.eval (.tmp 20)=I (which ca m):=ev 4 (by decide) (by kernel_rfl);have hw1:=which_lt ca hm0;have hw2:((which ca m:Nat):Int)<(m:Int):=(by omega);have hw3:¬ ((which ca m:Nat):Int)<0:=(by omega);exact Ab ho hw (by simp[base]) (p:=Op.indexAddr 99 (Operand.tmp 16) (Operand.tmp 20)) (by kernel_rfl) (Ad Ay (by decide) ho) r1 n1 (x:=Pt sb (which ca m)) rfl (λo' h'=>by unfold execOp;rw[h'];simp only[l0,l1];simp[go_sem,hw1,hw2,hw3]) hk
  |6,_,ho,ev,hk=>have l0:a'.eval (.tmp 21)=Pt sb (which ca m):=ev 5 (by decide) (by kernel_rfl);have c0:=g1.cell hob;exact Ab ho hw (by simp[base]) (p:=Op.load 46 (Operand.tmp 21)) (by kernel_rfl) (Ad Ay (by decide) ho) r1 n1 (x:=Pt ob 0) rfl (λo' h'=>by unfold execOp;rw[h'];simp only[l0];simp[go_sem,c0]) hk
  |7,_,ho,ev,hk=>have l0:a'.eval (.tmp 0)=Pt tb 0:=(ev0 0 (by decide)).trans (hA.at 0 _ (by simp));exact Ab ho hw (by simp[base]) (p:=Op.move (Operand.tmp 0)) (by kernel_rfl) (Ad Ay (by decide) ho) r1 n1 (x:=Pt tb 0) rfl (λo' h'=>by unfold execOp;rw[h'];simp only[l0];simp[go_sem]) hk
  |8,_,ho,ev,hk=>have l0:a'.eval (.tmp 5)=Pt bx 0:=(ev0 5 (by decide)).trans (hA.at 5 _ (by simp));exact Ab ho hw (by simp[base]) (p:=Op.fieldAddr 35 (Operand.tmp 5) 0) (by kernel_rfl) (Ad Ay (by decide) ho) r1 n1 (x:=Pt bx 0) rfl (λo' h'=>by unfold execOp;rw[h'];simp only[l0];simp[go_sem]) hk
  |9,_,ho,ev,hk=>have l0:a'.eval (.tmp 24)=Pt bx 0:=ev 8 (by decide) (by kernel_rfl);have c0:=g1.cell b0;exact Ab ho hw (by simp[base]) (p:=Op.load 3 (Operand.tmp 24)) (by kernel_rfl) (Ad Ay (by decide) ho) r1 n1 (x:=I po) rfl (λo' h'=>by unfold execOp;rw[h'];simp only[l0];simp[go_sem,c0]) hk
  |10,_,ho,ev,hk=>have l0:a'.eval (.tmp 25)=I po:=ev 9 (by decide) (by kernel_rfl);exact Ab ho hw (by simp[base]) (p:=Op.binOp BinOp.sub 3 (Operand.tmp 25) (Operand.const (Value.int IntKind.i64 1)) 3) (by kernel_rfl) (Ad Ay (by decide) ho) r1 n1 (x:=I (po - 1)) rfl (λo' h'=>by unfold execOp;rw[h'];simp only[l0];simp[go_sem,hpo]) hk
  |11,_,ho,ev,hk=>have l0:a'.eval (.tmp 5)=Pt bx 0:=(ev0 5 (by decide)).trans (hA.at 5 _ (by simp));exact Ab ho hw (by simp[base]) (p:=Op.fieldAddr 35 (Operand.tmp 5) 2) (by kernel_rfl) (Ad Ay (by decide) ho) r1 n1 (x:=Pt bx 2) rfl (λo' h'=>by unfold execOp;rw[h'];simp only[l0];simp[go_sem]) hk
  |12,_,ho,ev,hk=>have l0:a'.eval (.tmp 27)=Pt bx 2:=ev 11 (by decide) (by kernel_rfl);have c0:=g1.cell b2;exact Ab ho hw (by simp[base]) (p:=Op.load 3 (Operand.tmp 27)) (by kernel_rfl) (Ad Ay (by decide) ho) r1 n1 (x:=I cb) rfl (λo' h'=>by unfold execOp;rw[h'];simp only[l0];simp[go_sem,c0]) hk
  |13,_,ho,ev,hk=>have l0:a'.eval (.tmp 26)=I (po - 1):=ev 10 (by decide) (by kernel_rfl);have l1:a'.eval (.tmp 28)=I cb:=ev 12 (by decide) (by kernel_rfl);have l2:a'.tmps[26]?.getD undef=I (po - 1):=(by simpa [Act.eval] using l0);have l3:a'.tmps[28]?.getD undef=I cb:=(by simpa [Act.eval] using l1);exact Ab ho hw (by simp[base]) (p:=Op.build 52 #[(0,Operand.tmp 26),(1,Operand.tmp 28)]) (by kernel_rfl) (Ad Ay (by decide) ho) r1 n1 (x:=.agg #[I (po - 1),I cb]) rfl (λo' h'=>by unfold execOp;rw[h'];simp only[l0,l1];simp[go_sem,l2,l3]) hk
 .intro v1 w1 o ho hw r1 n1 g1
  refine hN v1 w1 _ o ho hw ⟨(Ao _ _ _ _).trans hA.1,(Am _ _ _ _).trans hA.2.1,?_⟩ r1 n1 g1;have hsz:16+14<=a.tmps.size:=by rw[hA.1];decide
  intro p hp;simp only[Sm,or_false] at hp;rcases hp with rfl|rfl|rfl|rfl|rfl|rfl|rfl|rfl;rw[Qe,Aa _ _ _ _ _ hsz,if_neg (by simp),<-Qe];exact hA.2.2 (0,Pt tb 0) (by simp);rw[Qe,Aa _ _ _ _ _ hsz,if_neg (by simp),<-Qe];exact hA.2.2 (2,Pt xb 0) (by simp);rw[Qe,Aa _ _ _ _ _ hsz,if_neg (by simp),<-Qe];exact hA.2.2 (3,Pt mb 0) (by simp);rw[Qe,Aa _ _ _ _ _ hsz,if_neg (by simp),<-Qe];exact hA.2.2 (5,Pt bx 0) (by simp);rw[Qe,Aa _ _ _ _ _ hsz,if_neg (by simp),<-Qe];exact hA.2.2 (6,Pt rb 0) (by simp);rw[Qe,Aa _ _ _ _ _ hsz,if_pos (by simp)];rfl;rw[Qe,Aa _ _ _ _ _ hsz,if_pos (by simp)];rfl;rw[Qe,Aa _ _ _ _ _ hsz,if_pos (by simp)];rfl
theorem p1y_wp (hA:Fl 31 [(0,Pt tb 0),(2,Pt xb 0),(3,Pt mb 0),(5,Pt bx 0),(6,Pt rb 0)] a) (b0:v.cell? ⟨bx,0,none⟩=some (I po)) (h1:1<=po) (h4:po<=4):(seq1 (seq1 (seq2 pB))).wp Tryd.prog (λe a' w'=>e=.normal∧Fl 31 [(14,.bool false),(0,Pt tb 0),(2,Pt xb 0),(3,Pt mb 0),(5,Pt bx 0),(6,Pt rb 0)] a'∧w'.heap=v.heap∧w'.os=v.os∧w'.output=v.output) a v:=by
 have f1:decide (po<1)=false:=decide_eq_false (by omega);have f2:decide (po > 4)=false:=decide_eq_false (by omega);obtain ⟨hsz,hd,hpp⟩:=hA;obtain ⟨u,rfl,hg⟩:=litN hsz hd;have u0:=(hg 0).symm.trans (hpp (0,Pt tb 0) (by simp));have u2:=(hg 2).symm.trans (hpp (2,Pt xb 0) (by simp));have u3:=(hg 3).symm.trans (hpp (3,Pt mb 0) (by simp));have u5:=(hg 5).symm.trans (hpp (5,Pt bx 0) (by simp));have u6:=(hg 6).symm.trans (hpp (6,Pt rb 0) (by simp));clear hg hpp hsz hd;unfold pB Tryd.f61 seq1 seq2;simp only[Qa,lits,Nat.reduceAdd,u0,u2,u3,u5,u6];clear u0 u2 u3 u5 u6;go_wp2_with fail;all_goals first
  |exact ⟨rfl,rfl,by
  intro p hp;simp only[Sm,or_false] at hp;rcases hp with rfl|rfl|rfl|rfl|rfl|rfl<;>rfl⟩
  |omega
theorem p1l_wp (hA:Fl 31 [(0,Pt tb 0),(2,Pt xb 0),(3,Pt mb 0),(5,Pt bx 0),(6,Pt rb 0)] a) (b0:v.cell? ⟨bx,0,none⟩=some (I po)) (h1:po<1):(seq1 (seq1 (seq2 pB))).wp Tryd.prog (λe a' w'=>e=.normal∧Fl 31 [(14,.bool true),(0,Pt tb 0),(2,Pt xb 0),(3,Pt mb 0),(5,Pt bx 0),(6,Pt rb 0)] a'∧w'.heap=v.heap∧w'.os=v.os∧w'.output=v.output) a v:=by
 have f1:decide (po<1)=true:=decide_eq_true h1;obtain ⟨hsz,hd,hpp⟩:=hA;obtain ⟨u,rfl,hg⟩:=litN hsz hd;have u0:=(hg 0).symm.trans (hpp (0,Pt tb 0) (by simp));have u2:=(hg 2).symm.trans (hpp (2,Pt xb 0) (by simp));have u3:=(hg 3).symm.trans (hpp (3,Pt mb 0) (by simp));have u5:=(hg 5).symm.trans (hpp (5,Pt bx 0) (by simp));have u6:=(hg 6).symm.trans (hpp (6,Pt rb 0) (by simp));clear hg hpp hsz hd;unfold pB Tryd.f61 seq1 seq2;simp only[Qa,lits,Nat.reduceAdd,u0,u2,u3,u5,u6];clear u0 u2 u3 u5 u6;go_wp2_with fail;all_goals first
  |exact ⟨rfl,rfl,by
  intro p hp;simp only[Sm,or_false] at hp;rcases hp with rfl|rfl|rfl|rfl|rfl|rfl<;>rfl⟩
  |omega
theorem p1g_wp (hA:Fl 31 [(0,Pt tb 0),(2,Pt xb 0),(3,Pt mb 0),(5,Pt bx 0),(6,Pt rb 0)] a) (b0:v.cell? ⟨bx,0,none⟩=some (I po)) (h1:4<po):(seq1 (seq1 (seq2 pB))).wp Tryd.prog (λe a' w'=>e=.normal∧Fl 31 [(14,.bool true),(0,Pt tb 0),(2,Pt xb 0),(3,Pt mb 0),(5,Pt bx 0),(6,Pt rb 0)] a'∧w'.heap=v.heap∧w'.os=v.os∧w'.output=v.output) a v:=by
 have f1:decide (po<1)=false:=decide_eq_false (by omega);have f2:decide (po > 4)=true:=decide_eq_true h1;obtain ⟨hsz,hd,hpp⟩:=hA;obtain ⟨u,rfl,hg⟩:=litN hsz hd;have u0:=(hg 0).symm.trans (hpp (0,Pt tb 0) (by simp));have u2:=(hg 2).symm.trans (hpp (2,Pt xb 0) (by simp));have u3:=(hg 3).symm.trans (hpp (3,Pt mb 0) (by simp));have u5:=(hg 5).symm.trans (hpp (5,Pt bx 0) (by simp));have u6:=(hg 6).symm.trans (hpp (6,Pt rb 0) (by simp));clear hg hpp hsz hd;unfold pB Tryd.f61 seq1 seq2;simp only[Qa,lits,Nat.reduceAdd,u0,u2,u3,u5,u6];clear u0 u2 u3 u5 u6;go_wp2_with fail;all_goals first
  |exact ⟨rfl,rfl,by
  intro p hp;simp only[Sm,or_false] at hp;rcases hp with rfl|rfl|rfl|rfl|rfl|rfl<;>rfl⟩
  |omega
theorem call_no {main:Bool}{ca cb cc:Int}(hpo:po<1∨4<po) (cs:List Frame) {rest:List Nat}(hoc:ops[q]? = some oc) (hvw:Rel z v w) (hn:NoRow Ch v)
 (hk:∀ v' w',Rel z v' w'->NoRow Ch v'->Grows v v'->GoesI Tryd.prog main (DT (ScZ z) Ch) Stop (G (bc.at (ac.put oc.dst (.agg #[I 1,I 0])) (.inRegion ops rest :: k0)) cs) w') (code:Code) (hc:Tryd.f61.body=some code):
 GoesI Tryd.prog main (DT (ScZ z) Ch) Stop (G ((base 61).at { tmps:=#[Pt tb 0,.agg #[I po,I ca,I cb,I cc],Pt xb 0,Pt mb 0]++Array.replicate 27 undef,defers:=[] } [.code code]) (bc.at ac (.inRegion ops (q :: rest) :: k0) :: cs)) w:=by
 have hw0:code=.seq (seq1 pB) (.seq (.seq (seq1 (seq1 (seq2 pB))) (seq2 (seq1 (seq2 pB)))) (.seq (.region 3 pO3 true) .ret)):=by rw[show code=pB by unfold pB;rw[hc];rfl];exact ePB
 subst hw0;clear hc;refine goesI_seq (dt_idle _ _) ?_;refine goesI_plain (z:=z) (wr:=true) (L:=LT) (I:=NoRow Ch) hE fineT noRow_keeps (λv v' w w' es hi hr ho he=>dt_of_z v v' w w' es hi hr ho he) hvw fine_p0 rfl (by simp[base]) hn
  (Q:=λa w'=>Fl 31 [(0,Pt tb 0),(2,Pt xb 0),(3,Pt mb 0),(5,Pt v.heap.size 0),(6,Pt (v.heap.size+1) 0)] a∧w'.heap=((v.heap.push (.cells #[I po,I ca,I cb,I cc] 35)).push (.cells #[I 0,I 0] 38))∧w'.os=v.os∧w'.output=v.output) (λτ=>?_) ?_
 .unfold pB Tryd.f61 seq1
  simp only[Qa,Sy];go_wp2_with fail;exact ⟨⟨rfl,rfl,by
   intro p hp;simp only[Sm,or_false] at hp;rcases hp with rfl|rfl|rfl|rfl|rfl<;>rfl⟩,rfl,rfl,rfl⟩
 rintro a' v' w' ⟨hA,hv1,hv2,hv3⟩ hr' hn' -;have hsz:v'.heap.size=v.heap.size+2:=by rw[hv1];simp
 have hg:Grows v v':=⟨by omega,λb hb=>by rw[hv1,Qg,if_neg (by simp;omega),Qg,if_neg (by omega)],hv2,hv3⟩
 have hb0:v'.heap[v.heap.size]? = some (.cells #[I po,I ca,I cb,I cc] 35 (0,0)):=by rw[hv1,Qg,if_neg (by simp<;>omega),Qg,if_pos (by simp)]
 have hb1:v'.heap[v.heap.size+1]? = some (.cells #[I 0,I 0] 38 (0,0)):=by rw[hv1,Qg,if_pos (by simp)]
 have c0:v'.cell? ⟨v.heap.size,0,none⟩=some (I po):=by simp[World.cell?,hb0]
 have c1:v'.cell? ⟨v.heap.size,1,none⟩=some (I ca):=by simp[World.cell?,hb0]
 have c2:v'.cell? ⟨v.heap.size,2,none⟩=some (I cb):=by simp[World.cell?,hb0]
 clear hv1 hv2 hv3;have e1:seq2 (seq1 (seq2 pB))=.cond (.tmp 14) (condA (seq2 (seq1 (seq2 pB)))) .skip:=by kernel_rfl
 refine goesI_seq (dt_idle _ _) ?_;refine goesI_seq (dt_idle _ _) ?_;rw[e1];refine goesI_plain (z:=z) (wr:=true) (L:=LT) (I:=NoRow Ch) hE fineT noRow_keeps (λv v' w w' es hi hr ho he=>dt_of_z v v' w w' es hi hr ho he) hr' fine_p1 hA.2.1 (by simp[base]) hn'
  (Q:=λa w''=>Fl 31 [(14,.bool true),(0,Pt tb 0),(2,Pt xb 0),(3,Pt mb 0),(5,Pt v.heap.size 0),(6,Pt (v.heap.size+1) 0)] a∧w''.heap=v'.heap∧w''.os=v'.os∧w''.output=v'.output) (λτ=>?_) ?_
 .rcases hpo with h|h
  exact p1l_wp (v:=onTape v' τ 0) hA c0 h;exact p1g_wp (v:=onTape v' τ 0) hA c0 h
 rintro a2 v2 w2 ⟨hA2,k1,k2,k3⟩ r2 n2 -;have hpb:v2.heap[v.heap.size+1]? = some (.cells #[I 0,I 0] 38 (0,0)):=by rw[k1];exact hb1
 have g2:Grows v v2:=An hg ⟨by rw[k1];exact Qi _,λb _=>by rw[k1],k2,k3⟩;have hgr:Grows v (ansW v2 (v.heap.size+1) 1 0):=⟨by rw[ans_size];exact g2.size,λb hb=>by rw[ans_far _ _ _ _ _ (by omega)];exact g2.old b hb,g2.os,g2.output⟩
 have hk:=λw' r' n'=>hk (ansW v2 (v.heap.size+1) 1 0) w' r' n' hgr;clear hgr g2 hg hsz hb0 hb1 c0 c1 c2 k1 k2 k3 hr' hn' hvw hn hA;have hA:=hA2;clear hA2;generalize v.heap.size+1=rb at hpb hk hA;generalize v.heap.size=bx at hA;obtain ⟨hsz,hd,hpp⟩:=hA;obtain ⟨u,rfl,hg⟩:=litN hsz hd;have u14:=(hg 14).symm.trans (hpp (14,.bool true) (by simp));have u0:=(hg 0).symm.trans (hpp (0,Pt tb 0) (by simp));have u2:=(hg 2).symm.trans (hpp (2,Pt xb 0) (by simp));have u3:=(hg 3).symm.trans (hpp (3,Pt mb 0) (by simp));have u5:=(hg 5).symm.trans (hpp (5,Pt bx 0) (by simp));have u6:=(hg 6).symm.trans (hpp (6,Pt rb 0) (by simp));clear hg hpp hsz hd;unfold pB Tryd.f61 seq1 seq2 condA;simp only[Qa,lits,Nat.reduceAdd,u14,u0,u2,u3,u5,u6];clear u14 u0 u2 u3 u5 u6;refine goesI_cond (dt_idle _ _) (t:=true) (by simp[Act.eval]) ?_;simp only[if_true,if_false,Qh];refine goesI_seq (dt_idle _ _) ?_;refine goesI_region (dt_idle _ _) ?_;simp only[Sz,Sr,Nat.reduceAdd];iterate 1
  (refine goesI_oper rfl rfl (by decide) (λd K hK=>?_)
   go_simp;refine hK _ _ ⟨dt_reads (λe he=>?_),GoesI.at ?_ d⟩
   .have hm:=mem_listed he
    simp[go_sem, *] at hm
    try exact ⟨_,_,hm⟩
    try (rcases hm with rfl|rfl<;>exact ⟨_,_,rfl⟩)
   clear hK K)
 have q0:v2.cell? ⟨rb,0,none⟩=some (I 0):=by simp[World.cell?,hpb]
 have q1:v2.cell? ⟨rb,1,none⟩=some (I 0):=by simp[World.cell?,hpb]
 have p0:v2.frozen? ⟨rb,0,none⟩=false:=by simp[World.frozen?,hpb]
 have p1:v2.frozen? ⟨rb,1,none⟩=false:=by simp[World.frozen?,hpb]
 have hrow:=Aq hpb (1) (0);refine goesI_doZ (L:=LT) rfl rfl (by decide) (fineOp_ask callT extT (by kernel_rfl)) r2 n2 (v':=ansW v2 rb (1) (0)) (by unfold ansW;go_simp) rfl (λw9 r9 n9=>?_);refine goesI_regionEnd (dt_idle _ _) ?_;refine GoesI.ctl rfl (λ_=>stepG_ret') (dt_idle _ _) ?_;refine goesI_leaveZ (f:=61) (fn:=Tryd.f61) (x:=.agg #[I (1),I (0)]) r9 n9 Tryd.func61 rfl hoc ?_ (λw' r'=>hk w' r' n9);generalize ansW v2 rb (1) (0)=V at hrow;have k0:V.cell? ⟨rb,0,none⟩=some (I (1)):=by simp[World.cell?,hrow]
 have k1:V.cell? ⟨rb,1,none⟩=some (I (0)):=by simp[World.cell?,hrow]
 simp[results,go_sem,Tryd.f61, *]
theorem call_in {main:Bool}{ca cb cc:Int}{sb m ob:Nat}(h1:1<=po) (h4:po<=4) (hm0:0<m) (hm1:m<=1000) (hx:v.cell? ⟨xb,0,none⟩=some (.slice (some ⟨sb,0,none⟩) m m)) (hmb:v.cell? ⟨mb,0,none⟩=some (I m)) (hob:v.cell? ⟨sb,which ca m,none⟩=some (Pt ob 0)) (cs:List Frame) (hvw:Rel z v w) (hn:NoRow Ch v)
 (hk:∀ a v' w' o,Fl 31 [(6,Pt (v.heap.size+1) 0)] a->Rel z v' w'->NoRow Ch v'->Grows v v'->v'.heap[v.heap.size+1]? = some (.cells #[I 0,I 0] 38 (0,0))->pO3[14]? = some o->o.dst=some 30->∀ code,Tryd.f28.body=some code ->
   GoesI Tryd.prog main (DT (ScZ z) Ch) Stop (G ((base 28).at { tmps:=#[Pt ob 0,Pt tb 0,.agg #[I (po - 1),I cb]]++Array.replicate 11 undef,defers:=[] } [.code code]) ((base 61).at a (.inRegion pO3 [14,15] :: [.code .ret]):: cs)) w') (code:Code) (hc:Tryd.f61.body=some code):
 GoesI Tryd.prog main (DT (ScZ z) Ch) Stop (G ((base 61).at { tmps:=#[Pt tb 0,.agg #[I po,I ca,I cb,I cc],Pt xb 0,Pt mb 0]++Array.replicate 27 undef,defers:=[] } [.code code]) cs) w:=by
 have hw0:code=.seq (seq1 pB) (.seq (.seq (seq1 (seq1 (seq2 pB))) (seq2 (seq1 (seq2 pB)))) (.seq (.region 3 pO3 true) .ret)):=by rw[show code=pB by unfold pB;rw[hc];rfl];exact ePB
 subst hw0;clear hc;refine goesI_seq (dt_idle _ _) ?_;refine goesI_plain (z:=z) (wr:=true) (L:=LT) (I:=NoRow Ch) hE fineT noRow_keeps (λv v' w w' es hi hr ho he=>dt_of_z v v' w w' es hi hr ho he) hvw fine_p0 rfl (by simp[base]) hn
  (Q:=λa w'=>Fl 31 [(0,Pt tb 0),(2,Pt xb 0),(3,Pt mb 0),(5,Pt v.heap.size 0),(6,Pt (v.heap.size+1) 0)] a∧w'.heap=((v.heap.push (.cells #[I po,I ca,I cb,I cc] 35)).push (.cells #[I 0,I 0] 38))∧w'.os=v.os∧w'.output=v.output) (λτ=>?_) ?_
 .unfold pB Tryd.f61 seq1
  simp only[Qa,Sy];go_wp2_with fail;exact ⟨⟨rfl,rfl,by
   intro p hp;simp only[Sm,or_false] at hp;rcases hp with rfl|rfl|rfl|rfl|rfl<;>rfl⟩,rfl,rfl,rfl⟩
 rintro a' v' w' ⟨hA,hv1,hv2,hv3⟩ hr' hn' -;have hsz:v'.heap.size=v.heap.size+2:=by rw[hv1];simp
 have hg:Grows v v':=⟨by omega,λb hb=>by rw[hv1,Qg,if_neg (by simp;omega),Qg,if_neg (by omega)],hv2,hv3⟩
 have hb0:v'.heap[v.heap.size]? = some (.cells #[I po,I ca,I cb,I cc] 35 (0,0)):=by rw[hv1,Qg,if_neg (by simp<;>omega),Qg,if_pos (by simp)]
 have hb1:v'.heap[v.heap.size+1]? = some (.cells #[I 0,I 0] 38 (0,0)):=by rw[hv1,Qg,if_pos (by simp)]
 have c0:v'.cell? ⟨v.heap.size,0,none⟩=some (I po):=by simp[World.cell?,hb0]
 have c1:v'.cell? ⟨v.heap.size,1,none⟩=some (I ca):=by simp[World.cell?,hb0]
 have c2:v'.cell? ⟨v.heap.size,2,none⟩=some (I cb):=by simp[World.cell?,hb0]
 clear hv1 hv2 hv3;have e1:seq2 (seq1 (seq2 pB))=.cond (.tmp 14) (condA (seq2 (seq1 (seq2 pB)))) .skip:=by kernel_rfl
 refine goesI_seq (dt_idle _ _) ?_;refine goesI_seq (dt_idle _ _) ?_;rw[e1];refine goesI_plain (z:=z) (wr:=true) (L:=LT) (I:=NoRow Ch) hE fineT noRow_keeps (λv v' w w' es hi hr ho he=>dt_of_z v v' w w' es hi hr ho he) hr' fine_p1 hA.2.1 (by simp[base]) hn'
  (Q:=λa w''=>Fl 31 [(14,.bool false),(0,Pt tb 0),(2,Pt xb 0),(3,Pt mb 0),(5,Pt v.heap.size 0),(6,Pt (v.heap.size+1) 0)] a∧w''.heap=v'.heap∧w''.os=v'.os∧w''.output=v'.output) (λτ=>p1y_wp (v:=onTape v' τ 0) hA c0 h1 h4) ?_
 rintro a2 v2 w2 ⟨hA2,k1,k2,k3⟩ r2 n2 -;have g1:Grows v' v2:=⟨by rw[k1];exact Qi _,λb _=>by rw[k1],k2,k3⟩
 have g2:Grows v v2:=An hg g1;refine goesI_cond (dt_idle _ _) (t:=false) (hA2.at 14 _ (by simp)) ?_;simp only[if_true,if_false,Qh];refine goesI_skip (dt_idle _ _) ?_;refine goesI_seq (dt_idle _ _) ?_;refine p3_pre (main:=main) (rb:=v.heap.size+1) tb xb mb v.heap.size sb m ob po ca cb (hA2.sub (by simp)) _ cs hm0 hm1 (by rw[Pl.i64_wrap];exact Pl.wrap_id (by unfold Pl.Fits;omega)) (g2.cell hx) (g2.cell hmb) (g2.cell hob) (g1.cell c0) (g1.cell c1) (g1.cell c2) r2 n2 (λv3 w3 a3 o ho hw hA3 r3 n3 g3=>?_);refine goesI_into (f:=28) (fn:=Tryd.f28) (args:=#[Pt ob 0,Pt tb 0,.agg #[I (po - 1),I cb]]) (dt_idle _ _) ho (hw _) (by simp[base]) (op_at (p:=.call { callee:=.value (.func 28),args:=#[.tmp 22,.tmp 23,.tmp 29],argTypes:=#[46,48,52] }) (by kernel_rfl) ho) (by simp only[List.map_toArray,List.map_cons,List.map_nil];rw[hA3.at 22 (Pt ob 0) (by simp),hA3.at 23 (Pt tb 0) (by simp),hA3.at 29 (.agg #[I (po - 1),I cb]) (by simp)]) Tryd.func28 (by kernel_rfl) rfl ?_;exact hk a3 v3 w3 o (hA3.sub (by simp)) r3 n3 (An g2 g3) (by rw[g3.old _ (by rw[k1];omega),k1];exact hb1) ho (dst_at (by kernel_rfl) ho) _ rfl
theorem call_back {main:Bool}(hA:Fl 31 [(6,Pt rb 0)] a) (cs:List Frame) {rest:List Nat}(hoc:ops[q]? = some oc) (hpb:v.heap[rb]? = some (.cells #[I 0,I 0] 38 (0,0))) (hvw:Rel z v w) (hn:NoRow Ch v)
 (hk:∀ w',Rel z (ansW v rb e x) w'->NoRow Ch (ansW v rb e x)->GoesI Tryd.prog main (DT (ScZ z) Ch) Stop (G (bc.at (ac.put oc.dst (.agg #[I e,I x])) (.inRegion ops rest :: k0)) cs) w'):
 GoesI Tryd.prog main (DT (ScZ z) Ch) Stop (G (pFr a (.agg #[I e,I x])) (bc.at ac (.inRegion ops (q :: rest) :: k0) :: cs)) w:=by
 obtain ⟨hsz,hd,hpp⟩:=hA;obtain ⟨u,rfl,hg⟩:=litN hsz hd;have u6:=(hg 6).symm.trans (hpp (6,Pt rb 0) (by simp));clear hg hpp hsz hd;unfold pFr pO3 pB Tryd.f61 seq1 seq2 opsOf;simp only[Qa,lits,Nat.reduceAdd,u6];clear u6;walk_nrm
 have q0:v.cell? ⟨rb,0,none⟩=some (I 0):=by simp[World.cell?,hpb]
 have q1:v.cell? ⟨rb,1,none⟩=some (I 0):=by simp[World.cell?,hpb]
 have p0:v.frozen? ⟨rb,0,none⟩=false:=by simp[World.frozen?,hpb]
 have p1:v.frozen? ⟨rb,1,none⟩=false:=by simp[World.frozen?,hpb]
 have hrow:=Aq hpb (e) (x);refine goesI_doZ (L:=LT) rfl rfl (by decide) (fineOp_ask callT extT (by kernel_rfl)) hvw hn (v':=ansW v rb (e) (x)) (by unfold ansW;go_simp) rfl (λw9 r9 n9=>?_);refine goesI_regionEnd (dt_idle _ _) ?_;refine GoesI.ctl rfl (λ_=>stepG_ret') (dt_idle _ _) ?_;refine goesI_leaveZ (f:=61) (fn:=Tryd.f61) (x:=.agg #[I (e),I (x)]) r9 n9 Tryd.func61 rfl hoc ?_ (λw' r'=>hk w' r' n9);generalize ansW v rb (e) (x)=V at hrow;have k0:V.cell? ⟨rb,0,none⟩=some (I (e)):=by simp[World.cell?,hrow]
 have k1:V.cell? ⟨rb,1,none⟩=some (I (x)):=by simp[World.cell?,hrow]
 simp[results,go_sem,Tryd.f61, *]
def cmO (k b:Int):Int×Int:=if k=0 then (0,b) else if k=1 then (70,b) else (71,b)
def lO (o:Nat) (k b:Int) (d i:Nat):List Int:=[(o:Int),k,b,(d:Int),(i:Int)]
def nxO (o:Nat) (k b:Int) (d i:Nat) (a:Int×Int):Nx :=
 match d with
 |0=>.ans a.1 a.2
 |d+1=>.turn 2 (2*o+1) (5,lO o k b d i++[70,a.1])
def Au (o:Nat) (k b:Int) (d i:Nat):Nx:=if k=3 then .turn 1 (2*o) (1,lO o k b (d+1) i) else .turn 2 (2*o+1) (5,lO o k b d i++[(cmO k b).1,(cmO k b).2])
def Av (o:Nat) (k b:Int) (d i:Nat) (x:Int):Nx :=
 if R1.stI x=2 then .turn 1 (2*o+1) (2,lO o k b d i++[R1.codI x]) else if R1.stI x=0 then .turn 4 (2*o) (3,lO o k b d i++[x]) else if R1.whoI x=(i:Int) then nxO o k b d i (72,0) else .wait (2*o) (4,lO o k b d i)
def oA (q:Q):Nat:=(q.2.getD 0 0).toNat
def kA (q:Q):Int:=q.2.getD 1 0
def bA (q:Q):Int:=q.2.getD 2 0
def dA (q:Q):Nat:=(q.2.getD 3 0).toNat
def iA (q:Q):Nat:=(q.2.getD 4 0).toNat
def eA (q:Q):Int:=q.2.getD 5 0
def xA (q:Q):Int:=q.2.getD 6 0
def mcO (m:Nat):Mc where
 start i c:=if 1<=c.po∧c.po<=4 then .turn 1 (2*which c.ca m) (1,lO (which c.ca m) (c.po - 1) c.cb 0 i) else .ans 1 0
 turn q x :=
  if q.1=1 then ((x,x),x,Av (oA q) (kA q) (bA q) (dA q) (iA q) x)
  else if q.1=2 then ((x,x),x,nxO (oA q) (kA q) (bA q) (dA q) (iA q) (eA q,x))
  else if q.1=3 then (if x=eA q then ((eA q,R1.Ae 1 (iA q) 0),R1.Ae 1 (iA q) 0,Au (oA q) (kA q) (bA q) (dA q) (iA q)) else ((x,x),x,.turn 1 (2*oA q) (1,lO (oA q) (kA q) (bA q) (dA q) (iA q))))
  else if q.1=5 then ((x,xA q),xA q,.turn 2 (2*oA q) (6,lO (oA q) (kA q) (bA q) (dA q) (iA q)++[eA q,xA q]))
  else ((x,R1.Ae 2 0 (eA q)),R1.Ae 2 0 (eA q),nxO (oA q) (kA q) (bA q) (dA q) (iA q) (eA q,xA q))
 woke q:=.turn 1 (2*oA q) (1,lO (oA q) (kA q) (bA q) (dA q) (iA q))
 stuck q:=nxO (oA q) (kA q) (bA q) (dA q) (iA q) (4,0)
 stkN q j q' h:=by unfold nxO at h;split at h<;>cases h
section
variable {m o:Nat}{k b:Int}{d i:Nat}{x:Int}
theorem set_nx (s:Bool) (a:Int×Int):(mcO m).set s (nxO o k b d i a)=nxO o k b d i a:=by
 cases d<;>rfl
theorem set_come (s:Bool):(mcO m).set s (Au o k b d i)=Au o k b d i:=by unfold Au;split<;>rfl
theorem turn1:(mcO m).turn (1,lO o k b d i) x=((x,x),x,Av o k b d i x):=by simp[mcO,lO,oA,kA,bA,dA,iA]
theorem turn2 (c:Int):(mcO m).turn (2,lO o k b d i++[c]) x=((x,x),x,nxO o k b d i (c,x)):=by simp[mcO,lO,oA,kA,bA,dA,iA,eA]
theorem turn3 (c:Int):(mcO m).turn (3,lO o k b d i++[c]) x=if x=c then ((c,R1.Ae 1 i 0),R1.Ae 1 i 0,Au o k b d i) else ((x,x),x,.turn 1 (2*o) (1,lO o k b d i)):=by simp[mcO,lO,oA,kA,bA,dA,iA,eA]
theorem turn5 (e y:Int):(mcO m).turn (5,lO o k b d i++[e,y]) x=((x,y),y,.turn 2 (2*o) (6,lO o k b d i++[e,y])):=by simp[mcO,lO,oA,kA,bA,dA,iA,eA,xA]
theorem turn6 (e y:Int):(mcO m).turn (6,lO o k b d i++[e,y]) x=((x,R1.Ae 2 0 e),R1.Ae 2 0 e,nxO o k b d i (e,y)):=by simp[mcO,lO,oA,kA,bA,dA,iA,eA,xA]
theorem woke4:(mcO m).woke (4,lO o k b d i)=.turn 1 (2*o) (1,lO o k b d i):=by simp[mcO,lO,oA,kA,bA,dA,iA]
theorem stuck4:(mcO m).stuck (4,lO o k b d i)=nxO o k b d i (4,0):=by simp[mcO,lO,oA,kA,bA,dA,iA]
end
def kB:Code:=Tryd.f97.body.getD .skip
def k4:Code:=seq2 (seq2 (seq2 kB))
def kO3:Array Oper:=opsOf (seq1 (seq2 (seq2 kB)))
def kO4:Array Oper:=opsOf (seq1 k4)
def kVal (a:Act) (r:Value):Frame:=(base 97).at (a.put (some 18) r) [.inRegion kO3 [],.code k4]
def kWord (a:Act) (r:Value):Frame:=(base 97).at (a.put (some 27) r) [.inRegion kO4 [],.code (seq2 k4)]
theorem eKB:kB=.seq (seq1 kB) (.seq (.seq (seq1 (seq1 (seq2 kB))) (seq2 (seq1 (seq2 kB)))) (.seq (.region 3 kO3 true) k4)):=by kernel_rfl
theorem eK4:k4=.seq (.region 4 kO4 true) (seq2 k4):=by kernel_rfl
theorem fine_k0:fineCode Tryd.prog true LT (seq1 kB):=fineCode_ask callT extT (by kernel_rfl)
theorem fine_k1:fineCode Tryd.prog true LT (seq1 (seq1 (seq2 kB))):=fineCode_ask callT extT (by kernel_rfl)
def val_k3 (kp tb bx cv:Nat) (x:Int):Nat->Value
 |0=>Pt kp 0
 |1=>Pt kp 0
 |2=>Pt kp 1
 |3=>Pt cv 0
 |4=>Pt tb 0
 |5=>Pt bx 1
 |6=>I x
 |_=>undef
theorem reg_k3:regOk kO3 7 11=true:=by kernel_rfl
theorem fin_k3:((kO3.extract 0 7).all λo=>plainOp Tryd.prog true o.op||askCall plainFs plainXs o.op)=true:=by kernel_rfl
theorem k3_pre {main:Bool}(kp tb bx cv:Nat) (x:Int) (hA:Fl 29 [(0,Pt kp 0),(1,Pt tb 0),(5,Pt bx 0),(6,Pt rb 0)] a) (k:List Item) (cs:List Frame) (h1:v.cell? ⟨kp,1,none⟩=some (Pt cv 0)) (hb:v.cell? ⟨bx,1,none⟩=some (I x)) (hvw:Rel z v w) (hn:NoRow Ch v)
 (hN:∀ v1 w1 a' o,kO3[7]? = some o->(∀ y,Region.wanted o y=true)->Fl 29 [(0,Pt kp 0),(1,Pt tb 0),(5,Pt bx 0),(6,Pt rb 0),(14,Pt cv 0),(15,Pt tb 0),(17,I x)] a'->Rel z v1 w1->NoRow Ch v1->Grows v v1->GoesI Tryd.prog main (DT (ScZ z) Ch) Stop (G ((base 97).at a' (.inRegion kO3 [7] :: k)) cs) w1):
 GoesI Tryd.prog main (DT (ScZ z) Ch) Stop (G ((base 97).at a (.code (.region 3 kO3 true) :: k)) cs) w:=by
 refine A7 (val:=val_k3 kp tb bx cv x) reg_k3 (by rw[hA.1];decide) hvw hn ?_ ?_
 .intro i0 o rest a' v1 w1 hi ho hw ev ev0 r1 n1 g1 hk
  match i0,hi,ho,ev,hk with
  |0,_,ho,ev,hk=>have l0:a'.eval (.tmp 0)=Pt kp 0:=(ev0 0 (by decide)).trans (hA.at 0 _ (by simp));exact Ab ho hw (by simp[base]) (p:=Op.move (Operand.tmp 0)) (by kernel_rfl) (Ad fin_k3 (by decide) ho) r1 n1 (x:=Pt kp 0) rfl (λo' h'=>by unfold execOp;rw[h'];simp only[l0];simp[go_sem]) hk
  |1,_,ho,ev,hk=>have l0:a'.eval (.tmp 11)=Pt kp 0:=ev 0 (by decide) (by kernel_rfl);exact Ab ho hw (by simp[base]) (p:=Op.nilCheck (Operand.tmp 11)) (by kernel_rfl) (Ad fin_k3 (by decide) ho) r1 n1 (x:=Pt kp 0) rfl (λo' h'=>by unfold execOp;rw[h'];simp only[l0];simp[go_sem]) hk
  |2,_,ho,ev,hk=>have l0:a'.eval (.tmp 12)=Pt kp 0:=ev 1 (by decide) (by kernel_rfl);exact Ab ho hw (by simp[base]) (p:=Op.fieldAddr 146 (Operand.tmp 12) 1) (by kernel_rfl) (Ad fin_k3 (by decide) ho) r1 n1 (x:=Pt kp 1) rfl (λo' h'=>by unfold execOp;rw[h'];simp only[l0];simp[go_sem]) hk
  |3,_,ho,ev,hk=>have l0:a'.eval (.tmp 13)=Pt kp 1:=ev 2 (by decide) (by kernel_rfl);have c0:=g1.cell h1;exact Ab ho hw (by simp[base]) (p:=Op.load 116 (Operand.tmp 13)) (by kernel_rfl) (Ad fin_k3 (by decide) ho) r1 n1 (x:=Pt cv 0) rfl (λo' h'=>by unfold execOp;rw[h'];simp only[l0];simp[go_sem,c0]) hk
  |4,_,ho,ev,hk=>have l0:a'.eval (.tmp 1)=Pt tb 0:=(ev0 1 (by decide)).trans (hA.at 1 _ (by simp));exact Ab ho hw (by simp[base]) (p:=Op.move (Operand.tmp 1)) (by kernel_rfl) (Ad fin_k3 (by decide) ho) r1 n1 (x:=Pt tb 0) rfl (λo' h'=>by unfold execOp;rw[h'];simp only[l0];simp[go_sem]) hk
  |5,_,ho,ev,hk=>have l0:a'.eval (.tmp 5)=Pt bx 0:=(ev0 5 (by decide)).trans (hA.at 5 _ (by simp));exact Ab ho hw (by simp[base]) (p:=Op.fieldAddr 38 (Operand.tmp 5) 1) (by kernel_rfl) (Ad fin_k3 (by decide) ho) r1 n1 (x:=Pt bx 1) rfl (λo' h'=>by unfold execOp;rw[h'];simp only[l0];simp[go_sem]) hk
  |6,_,ho,ev,hk=>have l0:a'.eval (.tmp 16)=Pt bx 1:=ev 5 (by decide) (by kernel_rfl);have c0:=g1.cell hb;exact Ab ho hw (by simp[base]) (p:=Op.load 3 (Operand.tmp 16)) (by kernel_rfl) (Ad fin_k3 (by decide) ho) r1 n1 (x:=I x) rfl (λo' h'=>by unfold execOp;rw[h'];simp only[l0];simp[go_sem,c0]) hk
 .intro v1 w1 o ho hw r1 n1 g1
  refine hN v1 w1 _ o ho hw ⟨(Ao _ _ _ _).trans hA.1,(Am _ _ _ _).trans hA.2.1,?_⟩ r1 n1 g1;have hsz:11+7<=a.tmps.size:=by rw[hA.1];decide
  intro p hp;simp only[Sm,or_false] at hp;rcases hp with rfl|rfl|rfl|rfl|rfl|rfl|rfl;rw[Qe,Aa _ _ _ _ _ hsz,if_neg (by simp),<-Qe];exact hA.2.2 (0,Pt kp 0) (by simp);rw[Qe,Aa _ _ _ _ _ hsz,if_neg (by simp),<-Qe];exact hA.2.2 (1,Pt tb 0) (by simp);rw[Qe,Aa _ _ _ _ _ hsz,if_neg (by simp),<-Qe];exact hA.2.2 (5,Pt bx 0) (by simp);rw[Qe,Aa _ _ _ _ _ hsz,if_neg (by simp),<-Qe];exact hA.2.2 (6,Pt rb 0) (by simp);rw[Qe,Aa _ _ _ _ _ hsz,if_pos (by simp)];rfl;rw[Qe,Aa _ _ _ _ _ hsz,if_pos (by simp)];rfl;rw[Qe,Aa _ _ _ _ _ hsz,if_pos (by simp)];rfl
def val_k4 (kp tb bx cw:Nat) (e:Int):Nat->Value
 |0=>Pt kp 0
 |1=>Pt kp 0
 |2=>Pt kp 0
 |3=>Pt cw 0
 |4=>Pt tb 0
 |5=>Pt bx 0
 |6=>I e
 |7=>I (R1.Ae 2 0 e)
 |_=>undef
theorem reg_k4:regOk kO4 8 19=true:=by kernel_rfl
theorem fin_k4:((kO4.extract 0 8).all λo=>plainOp Tryd.prog true o.op||askCall plainFs plainXs o.op)=true:=by kernel_rfl
theorem k4_pre {main:Bool}(kp tb bx cw:Nat) (e:Int) (hA:Fl 29 [(0,Pt kp 0),(1,Pt tb 0),(5,Pt bx 0),(6,Pt rb 0)] a) (k:List Item) (cs:List Frame) (hF:R1.Flds v) (h1:v.cell? ⟨kp,0,none⟩=some (Pt cw 0)) (hb:v.cell? ⟨bx,0,none⟩=some (I e)) (hvw:Rel z v w) (hn:NoRow Ch v)
 (hN:∀ v1 w1 a' o,kO4[8]? = some o->(∀ y,Region.wanted o y=true)->Fl 29 [(0,Pt kp 0),(1,Pt tb 0),(5,Pt bx 0),(6,Pt rb 0),(22,Pt cw 0),(23,Pt tb 0),(26,I (R1.Ae 2 0 e))] a'->Rel z v1 w1->NoRow Ch v1->Grows v v1->GoesI Tryd.prog main (DT (ScZ z) Ch) Stop (G ((base 97).at a' (.inRegion kO4 [8] :: k)) cs) w1):
 GoesI Tryd.prog main (DT (ScZ z) Ch) Stop (G ((base 97).at a (.code (.region 4 kO4 true) :: k)) cs) w:=by
 refine A7 (val:=val_k4 kp tb bx cw e) reg_k4 (by rw[hA.1];decide) hvw hn ?_ ?_
 .intro i0 o rest a' v1 w1 hi ho hw ev ev0 r1 n1 g1 hk
  match i0,hi,ho,ev,hk with
  |0,_,ho,ev,hk=>have l0:a'.eval (.tmp 0)=Pt kp 0:=(ev0 0 (by decide)).trans (hA.at 0 _ (by simp));exact Ab ho hw (by simp[base]) (p:=Op.move (Operand.tmp 0)) (by kernel_rfl) (Ad fin_k4 (by decide) ho) r1 n1 (x:=Pt kp 0) rfl (λo' h'=>by unfold execOp;rw[h'];simp only[l0];simp[go_sem]) hk
  |1,_,ho,ev,hk=>have l0:a'.eval (.tmp 19)=Pt kp 0:=ev 0 (by decide) (by kernel_rfl);exact Ab ho hw (by simp[base]) (p:=Op.nilCheck (Operand.tmp 19)) (by kernel_rfl) (Ad fin_k4 (by decide) ho) r1 n1 (x:=Pt kp 0) rfl (λo' h'=>by unfold execOp;rw[h'];simp only[l0];simp[go_sem]) hk
  |2,_,ho,ev,hk=>have l0:a'.eval (.tmp 20)=Pt kp 0:=ev 1 (by decide) (by kernel_rfl);exact Ab ho hw (by simp[base]) (p:=Op.fieldAddr 146 (Operand.tmp 20) 0) (by kernel_rfl) (Ad fin_k4 (by decide) ho) r1 n1 (x:=Pt kp 0) rfl (λo' h'=>by unfold execOp;rw[h'];simp only[l0];simp[go_sem]) hk
  |3,_,ho,ev,hk=>have l0:a'.eval (.tmp 21)=Pt kp 0:=ev 2 (by decide) (by kernel_rfl);have c0:=g1.cell h1;exact Ab ho hw (by simp[base]) (p:=Op.load 116 (Operand.tmp 21)) (by kernel_rfl) (Ad fin_k4 (by decide) ho) r1 n1 (x:=Pt cw 0) rfl (λo' h'=>by unfold execOp;rw[h'];simp only[l0];simp[go_sem,c0]) hk
  |4,_,ho,ev,hk=>have l0:a'.eval (.tmp 1)=Pt tb 0:=(ev0 1 (by decide)).trans (hA.at 1 _ (by simp));exact Ab ho hw (by simp[base]) (p:=Op.move (Operand.tmp 1)) (by kernel_rfl) (Ad fin_k4 (by decide) ho) r1 n1 (x:=Pt tb 0) rfl (λo' h'=>by unfold execOp;rw[h'];simp only[l0];simp[go_sem]) hk
  |5,_,ho,ev,hk=>have l0:a'.eval (.tmp 5)=Pt bx 0:=(ev0 5 (by decide)).trans (hA.at 5 _ (by simp));exact Ab ho hw (by simp[base]) (p:=Op.fieldAddr 38 (Operand.tmp 5) 0) (by kernel_rfl) (Ad fin_k4 (by decide) ho) r1 n1 (x:=Pt bx 0) rfl (λo' h'=>by unfold execOp;rw[h'];simp only[l0];simp[go_sem]) hk
  |6,_,ho,ev,hk=>have l0:a'.eval (.tmp 24)=Pt bx 0:=ev 5 (by decide) (by kernel_rfl);have c0:=g1.cell hb;exact Ab ho hw (by simp[base]) (p:=Op.load 28 (Operand.tmp 24)) (by kernel_rfl) (Ad fin_k4 (by decide) ho) r1 n1 (x:=I e) rfl (λo' h'=>by unfold execOp;rw[h'];simp only[l0];simp[go_sem,c0]) hk
  |7,_,ho,ev,hk =>have l0:a'.eval (.tmp 25)=I e:=ev 6 (by decide) (by kernel_rfl);exact op_calls (f:=96) (fn:=Tryd.f96) (xs:=#[.const (.int .i64 2),.const (.int .i64 0),.tmp 25]) (ats:=#[3,3,28]) (args:=#[I 2,I 0,I e]) ho hw (by simp[base]) (by kernel_rfl) (by simp only[List.map_toArray,List.map_cons,List.map_nil,l0];rfl) Tryd.func96 (by kernel_rfl) rfl (fineFn_body fineT (by simp[LT,plainFs]) Tryd.func96 rfl) (λtmps=>⟨_,λw=>results_tmp rfl _ _ _,λw=>by simp[results,go_sem]⟩) r1 n1 (x:=I (R1.Ae 2 0 e)) rfl (λτ=>wp_mono (R1.wordOf_any 2 0 e (onTape v1 τ 0) ((Ax hF g1).of (λa x h=>h)) _ rfl) (bp_mono λr u hq=>⟨hq.1,gtape (Ba hq.2)⟩)) hk
 .intro v1 w1 o ho hw r1 n1 g1
  refine hN v1 w1 _ o ho hw ⟨(Ao _ _ _ _).trans hA.1,(Am _ _ _ _).trans hA.2.1,?_⟩ r1 n1 g1;have hsz:19+8<=a.tmps.size:=by rw[hA.1];decide
  intro p hp;simp only[Sm,or_false] at hp;rcases hp with rfl|rfl|rfl|rfl|rfl|rfl|rfl;rw[Qe,Aa _ _ _ _ _ hsz,if_neg (by simp),<-Qe];exact hA.2.2 (0,Pt kp 0) (by simp);rw[Qe,Aa _ _ _ _ _ hsz,if_neg (by simp),<-Qe];exact hA.2.2 (1,Pt tb 0) (by simp);rw[Qe,Aa _ _ _ _ _ hsz,if_neg (by simp),<-Qe];exact hA.2.2 (5,Pt bx 0) (by simp);rw[Qe,Aa _ _ _ _ _ hsz,if_neg (by simp),<-Qe];exact hA.2.2 (6,Pt rb 0) (by simp);rw[Qe,Aa _ _ _ _ _ hsz,if_pos (by simp)];rfl;rw[Qe,Aa _ _ _ _ _ hsz,if_pos (by simp)];rfl;rw[Qe,Aa _ _ _ _ _ hsz,if_pos (by simp)];rfl
theorem keep_in {main:Bool}(he:e≠4) (cs:List Frame) (hvw:Rel z v w) (hn:NoRow Ch v)
 (hk:∀ a v' w',Fl 29 [(0,Pt kp 0),(1,Pt tb 0),(5,Pt v.heap.size 0),(6,Pt (v.heap.size+1) 0)] a->Rel z v' w'->NoRow Ch v'->Grows v v'->v'.heap[v.heap.size]? = some (.cells #[I e,I x] 38 (0,0))->v'.heap[v.heap.size+1]? = some (.cells #[I 0,I 0] 38 (0,0))->GoesI Tryd.prog main (DT (ScZ z) Ch) Stop (G ((base 97).at a [.code (.seq (.region 3 kO3 true) k4)]) cs) w') (code:Code) (hc:Tryd.f97.body=some code):
 GoesI Tryd.prog main (DT (ScZ z) Ch) Stop (G ((base 97).at { tmps:=#[Pt kp 0,Pt tb 0,.agg #[I e,I x]]++Array.replicate 26 undef,defers:=[] } [.code code]) cs) w:=by
 have hw0:code=.seq (seq1 kB) (.seq (.seq (seq1 (seq1 (seq2 kB))) (seq2 (seq1 (seq2 kB)))) (.seq (.region 3 kO3 true) k4)):=by rw[show code=kB by unfold kB;rw[hc];rfl];exact eKB
 subst hw0;clear hc;refine goesI_seq (dt_idle _ _) ?_;refine goesI_plain (z:=z) (wr:=true) (L:=LT) (I:=NoRow Ch) hE fineT noRow_keeps (λv v' w w' es hi hr ho he=>dt_of_z v v' w w' es hi hr ho he) hvw fine_k0 rfl (by simp[base]) hn
  (Q:=λa w'=>Fl 29 [(0,Pt kp 0),(1,Pt tb 0),(5,Pt v.heap.size 0),(6,Pt (v.heap.size+1) 0)] a∧w'.heap=(v.heap.push (.cells #[I e,I x] 38)).push (.cells #[I 0,I 0] 38)∧w'.os=v.os∧w'.output=v.output) (λτ=>?_) ?_
 .unfold kB Tryd.f97 seq1
  simp only[Qa,Sy];go_wp2_with fail;exact ⟨⟨rfl,rfl,by
   intro p hp;simp only[Sm,or_false] at hp;rcases hp with rfl|rfl|rfl|rfl<;>rfl⟩,rfl,rfl,rfl⟩
 rintro a' v' w' ⟨hA,hv1,hv2,hv3⟩ hr' hn' -;have hsz:v'.heap.size=v.heap.size+2:=by rw[hv1];simp
 have hg:Grows v v':=⟨by omega,λb hb=>by rw[hv1,Qg,if_neg (by simp;omega),Qg,if_neg (by omega)],hv2,hv3⟩
 have hbox:v'.heap[v.heap.size]? = some (.cells #[I e,I x] 38 (0,0)):=by rw[hv1,Qg,if_neg (by simp)];exact Qo
 have hans:v'.heap[v.heap.size+1]? = some (.cells #[I 0,I 0] 38 (0,0)):=by rw[hv1,Qg,if_pos (by simp)]
 refine goesI_seq (dt_idle _ _) ?_;refine goesI_seq (dt_idle _ _) ?_;refine goesI_plain (z:=z) (wr:=true) (L:=LT) (I:=NoRow Ch) hE fineT noRow_keeps (λv v' w w' es hi hr ho he=>dt_of_z v v' w w' es hi hr ho he) hr' fine_k1 hA.2.1 (by simp[base]) hn'
  (Q:=λa w''=>Fl 29 [(9,.bool false),(0,Pt kp 0),(1,Pt tb 0),(5,Pt v.heap.size 0),(6,Pt (v.heap.size+1) 0)] a∧w''.heap=v'.heap∧w''.os=v'.os∧w''.output=v'.output) (λτ=>?_) ?_
 .have b0:(onTape v' τ 0).cell? ⟨v.heap.size,0,none⟩=some (I e):=by show v'.cell? _=_;simp[World.cell?,hbox]
  have he':(e==4)=false:=by simpa using he
  clear hv1 hv2 hv3 hbox hans hg hsz;generalize v.heap.size=N at hA b0 ⊢;obtain ⟨hsz,hd,hpp⟩:=hA;obtain ⟨u,rfl,hg⟩:=litN hsz hd;have u0:=(hg 0).symm.trans (hpp (0,Pt kp 0) (by simp));have u1:=(hg 1).symm.trans (hpp (1,Pt tb 0) (by simp));have u5:=(hg 5).symm.trans (hpp (5,Pt N 0) (by simp));have u6:=(hg 6).symm.trans (hpp (6,Pt (N+1) 0) (by simp));clear hg hpp hsz hd;unfold kB Tryd.f97 seq1 seq2;simp only[Qa,lits,Nat.reduceAdd,u0,u1,u5,u6];clear u0 u1 u5 u6;go_wp2_with fail;refine (show ∀ q,q->q∧(onTape v' τ 0).heap=v'.heap∧(onTape v' τ 0).os=v'.os∧(onTape v' τ 0).output=v'.output from λq h=>⟨h,rfl,rfl,rfl⟩) _ ?_;exact ⟨rfl,rfl,by
   intro p hp;simp only[Sm,or_false] at hp;rcases hp with rfl|rfl|rfl|rfl|rfl<;>rfl⟩
 rintro a2 v2 w2 ⟨hA2,k1,k2,k3⟩ r2 n2 -;have e1:seq2 (seq1 (seq2 kB))=.cond (.tmp 9) (condA (seq2 (seq1 (seq2 kB)))) .skip:=by kernel_rfl
 rw[e1];refine goesI_cond (dt_idle _ _) (t:=false) (hA2.at 9 _ (by simp)) ?_;simp only[if_true,if_false,Qh];refine goesI_skip (dt_idle _ _) ?_;exact hk a2 v2 w2 (hA2.sub (by simp)) r2 n2 (An hg ⟨by rw[k1];exact Qi _,λb _=>by rw[k1],k2,k3⟩) (by rw[k1];exact hbox) (by rw[k1];exact hans)
theorem keep_store {h:Nat}{cont:Addr->Value}{S:TS}{K:List (Nat×Int)}{t:Thr}(y:Int) (h1:v.cell? ⟨kp,1,none⟩=some (Pt cb 0)) (hb:v.cell? ⟨bx,1,none⟩=some (I x)) (hA:Fl 29 [(0,Pt kp 0),(1,Pt t.tb 0),(5,Pt bx 0),(6,Pt rb 0)] a) (cs:List Frame) (Hm:Goroutine->Prop)
 (hH:∀ g,(∃ a,Fl 29 [(0,Pt kp 0),(1,Pt t.tb 0),(5,Pt bx 0),(6,Pt rb 0)] a∧OpBack (h==0) i j cb t.tb 2 (effStore x) (λr=>G (kVal a r) cs) g)->Hm g)
 (hvw:Rel z v w) (hn:NoRow Ch v) (hm:Mem z S K v) (ht:S.thr[i]? = some t) (hK:K[j]? = some (cb,y)) (hz:z t.tb=some 2) (hcont:cont ⟨t.tb,2,none⟩=.chan (some t.gc))
 (hstop:∀ g w',GiveT z cont h S.bk t.gc Hm (Then z Ch S K v (waiting S i t 1 2 j) K) g w'->Stop g w'):
 GoesI Tryd.prog (h==0) (DT (ScZ z) Ch) Stop (G ((base 97).at a [.code (.seq (.region 3 kO3 true) k4)]) cs) w:=by
 refine goesI_seq (dt_idle _ _) ?_;refine k3_pre (main:=h==0) (rb:=rb) kp t.tb bx cb x hA _ cs h1 hb hvw hn (λv2 w2 a2 o ho hw hA2 r2 n2 g2=>?_);have e2:=hm.grows g2;refine goesI_into (f:=76) (fn:=Tryd.f76) (args:=#[Pt cb 0,Pt t.tb 0,I x]) (dt_idle _ _) ho (hw _) (by simp[base]) (op_at (p:=.call { callee:=.value (.func 76),args:=#[.tmp 14,.tmp 15,.tmp 17],argTypes:=#[116,48,3] }) (by kernel_rfl) ho) (by simp only[List.map_toArray,List.map_cons,List.map_nil];rw[hA2.at 14 (Pt cb 0) (by simp),hA2.at 15 (Pt t.tb 0) (by simp),hA2.at 17 (I x) (by simp)]) Tryd.func76 (by kernel_rfl) rfl ?_;refine store_goes x y _ Hm ho (λg hg=>hH g ⟨a2,hA2.sub (by simp),?_⟩) r2 n2 e2.mem ht hK hz hcont (λg w' hg=>hstop g w' (give_mono (λhF=>?_) hg)) _ rfl
 .rw[dst_at (p:=some 18) (by kernel_rfl) ho] at hg
  exact hg
 .obtain ⟨v',k1,k2,k3⟩:=hF
  exact ⟨v',k1,k2,e2.trans k3⟩
theorem keep_word {h:Nat}{cont:Addr->Value}{S:TS}{K:List (Nat×Int)}{t:Thr}(y:Int) (hF:R1.Flds v) (h0:v.cell? ⟨kp,0,none⟩=some (Pt cb 0)) (hb:v.cell? ⟨bx,0,none⟩=some (I e)) (hA:Fl 29 [(0,Pt kp 0),(1,Pt t.tb 0),(5,Pt bx 0),(6,Pt rb 0)] a) (r0:Value) (cs:List Frame) (Hm:Goroutine->Prop)
 (hH:∀ g,(∃ a,Fl 29 [(0,Pt kp 0),(1,Pt t.tb 0),(5,Pt bx 0),(6,Pt rb 0)] a∧OpBack (h==0) i j cb t.tb 2 (effStore (R1.Ae 2 0 e)) (λr=>G (kWord a r) cs) g)->Hm g)
 (hvw:Rel z v w) (hn:NoRow Ch v) (hm:Mem z S K v) (ht:S.thr[i]? = some t) (hK:K[j]? = some (cb,y)) (hz:z t.tb=some 2) (hcont:cont ⟨t.tb,2,none⟩=.chan (some t.gc))
 (hstop:∀ g w',GiveT z cont h S.bk t.gc Hm (Then z Ch S K v (waiting S i t 1 2 j) K) g w'->Stop g w'):
 GoesI Tryd.prog (h==0) (DT (ScZ z) Ch) Stop (G (kVal a r0) cs) w:=by
 have hA1:Fl 29 [(0,Pt kp 0),(1,Pt t.tb 0),(5,Pt bx 0),(6,Pt rb 0)] (a.put (some 18) r0):=(fl_put hA (by decide) (by simp)).sub (by simp);unfold kVal;generalize a.put (some 18) r0=a1 at hA1;refine goesI_regionEnd (dt_idle _ _) ?_;rw[eK4];refine goesI_seq (dt_idle _ _) ?_;refine k4_pre (main:=h==0) (rb:=rb) kp t.tb bx cb e hA1 _ cs hF h0 hb hvw hn (λv2 w2 a2 o ho hw hA2 r2 n2 g2=>?_);have e2:=hm.grows g2;refine goesI_into (f:=76) (fn:=Tryd.f76) (args:=#[Pt cb 0,Pt t.tb 0,I (R1.Ae 2 0 e)]) (dt_idle _ _) ho (hw _) (by simp[base]) (op_at (p:=.call { callee:=.value (.func 76),args:=#[.tmp 22,.tmp 23,.tmp 26],argTypes:=#[116,48,3] }) (by kernel_rfl) ho) (by simp only[List.map_toArray,List.map_cons,List.map_nil];rw[hA2.at 22 (Pt cb 0) (by simp),hA2.at 23 (Pt t.tb 0) (by simp),hA2.at 26 (I (R1.Ae 2 0 e)) (by simp)]) Tryd.func76 (by kernel_rfl) rfl ?_;refine store_goes (R1.Ae 2 0 e) y _ Hm ho (λg hg=>hH g ⟨a2,hA2.sub (by simp),?_⟩) r2 n2 e2.mem ht hK hz hcont (λg w' hg=>hstop g w' (give_mono (λhF=>?_) hg)) _ rfl
 .rw[dst_at (p:=some 27) (by kernel_rfl) ho] at hg
  exact hg
 .obtain ⟨v',k1,k2,k3⟩:=hF
  exact ⟨v',k1,k2,e2.trans k3⟩
theorem keep_out {main:Bool}(hA:Fl 29 [(0,Pt kp 0),(1,Pt tb 0),(5,Pt bx 0),(6,Pt rb 0)] a) (r0:Value) (cs:List Frame) {rest:List Nat}(hoc:ops[q]? = some oc) (hbx:v.heap[bx]? = some (.cells #[I e,I x] 38 (0,0))) (hpb:v.heap[rb]? = some (.cells #[I 0,I 0] 38 (0,0))) (hvw:Rel z v w) (hn:NoRow Ch v)
 (hk:∀ w',Rel z (ansW v rb e x) w'->NoRow Ch (ansW v rb e x)->GoesI Tryd.prog main (DT (ScZ z) Ch) Stop (G (bc.at (ac.put oc.dst (.agg #[I e,I x])) (.inRegion ops rest :: k0)) cs) w'):
 GoesI Tryd.prog main (DT (ScZ z) Ch) Stop (G (kWord a r0) (bc.at ac (.inRegion ops (q :: rest) :: k0) :: cs)) w:=by
 have d0:w.cell? ⟨bx,0,none⟩=some (I e):=by rw[hvw.cell?];simp[World.cell?,hbx]
 have d1:w.cell? ⟨bx,1,none⟩=some (I x):=by rw[hvw.cell?];simp[World.cell?,hbx]
 obtain ⟨hsz,hd,hpp⟩:=hA;obtain ⟨u,rfl,hg⟩:=litN hsz hd;have u0:=(hg 0).symm.trans (hpp (0,Pt kp 0) (by simp));have u1:=(hg 1).symm.trans (hpp (1,Pt tb 0) (by simp));have u5:=(hg 5).symm.trans (hpp (5,Pt bx 0) (by simp));have u6:=(hg 6).symm.trans (hpp (6,Pt rb 0) (by simp));clear hg hpp hsz hd;unfold kWord kO4 k4 kB Tryd.f97 seq1 seq2 opsOf;simp only[Qa,lits,Nat.reduceAdd,u0,u1,u5,u6];clear u0 u1 u5 u6;walk_nrm
 refine goesI_regionEnd (dt_idle _ _) ?_;refine goesI_seq (dt_idle _ _) ?_;refine goesI_region (dt_idle _ _) ?_;simp only[Sz,Sr,Nat.reduceAdd];iterate 1
  (refine goesI_oper rfl rfl (by decide) (λd K hK=>?_)
   go_simp;refine hK _ _ ⟨dt_reads (λe he=>?_),GoesI.at ?_ d⟩
   .have hm:=mem_listed he
    simp[go_sem, *] at hm
    try exact ⟨_,_,hm⟩
    try (rcases hm with rfl|rfl<;>exact ⟨_,_,rfl⟩)
   clear hK K)
 have q0:v.cell? ⟨rb,0,none⟩=some (I 0):=by simp[World.cell?,hpb]
 have q1:v.cell? ⟨rb,1,none⟩=some (I 0):=by simp[World.cell?,hpb]
 have p0:v.frozen? ⟨rb,0,none⟩=false:=by simp[World.frozen?,hpb]
 have p1:v.frozen? ⟨rb,1,none⟩=false:=by simp[World.frozen?,hpb]
 have hrow:=Aq hpb (e) (x);refine goesI_doZ (L:=LT) rfl rfl (by decide) (fineOp_ask callT extT (by kernel_rfl)) hvw hn (v':=ansW v rb (e) (x)) (by unfold ansW;go_simp) rfl (λw9 r9 n9=>?_);refine goesI_regionEnd (dt_idle _ _) ?_;refine GoesI.ctl rfl (λ_=>stepG_ret') (dt_idle _ _) ?_;refine goesI_leaveZ (f:=97) (fn:=Tryd.f97) (x:=.agg #[I (e),I (x)]) r9 n9 Tryd.func97 rfl hoc ?_ (λw' r'=>hk w' r' n9);generalize ansW v rb (e) (x)=V at hrow;have k0:V.cell? ⟨rb,0,none⟩=some (I (e)):=by simp[World.cell?,hrow]
 have k1:V.cell? ⟨rb,1,none⟩=some (I (x)):=by simp[World.cell?,hrow]
 simp[results,go_sem,Tryd.f97, *]
theorem get_val {main:Bool}{c y:Int}(hA:Fl 62 [(37,I c),(0,Pt kp 0),(1,Pt tb 0),(2,F),(6,Pt rb 0)] a) (cs:List Frame) {rest:List Nat}(hoc:ops[q]? = some oc) (hpb:v.heap[rb]? = some (.cells #[I 0,I 0] 38 (0,0))) (hvw:Rel z v w) (hn:NoRow Ch v)
 (hk:∀ w',Rel z (ansW v rb c y) w'->NoRow Ch (ansW v rb c y)->GoesI Tryd.prog main (DT (ScZ z) Ch) Stop (G (bc.at (ac.put oc.dst (.agg #[I c,I y])) (.inRegion ops rest :: k0)) cs) w'):
 GoesI Tryd.prog main (DT (ScZ z) Ch) Stop (G (gVal a (I y)) (bc.at ac (.inRegion ops (q :: rest) :: k0) :: cs)) w:=by
 obtain ⟨hsz,hd,hpp⟩:=hA;obtain ⟨u,rfl,hg⟩:=litN hsz hd;have u37:=(hg 37).symm.trans (hpp (37,I c) (by simp));have u0:=(hg 0).symm.trans (hpp (0,Pt kp 0) (by simp));have u1:=(hg 1).symm.trans (hpp (1,Pt tb 0) (by simp));have u2:=(hg 2).symm.trans (hpp (2,F) (by simp));have u6:=(hg 6).symm.trans (hpp (6,Pt rb 0) (by simp));clear hg hpp hsz hd;unfold gVal gO8 gS gI gL gB Tryd.f64 seq1 seq2 blockC loopC condA opsOf;simp only[Qa,lits,Nat.reduceAdd,u37,u0,u1,u2,u6];clear u37 u0 u1 u2 u6;walk_nrm
 iterate 1
  (refine goesI_oper rfl rfl (by decide) (λd K hK=>?_)
   go_simp;refine hK _ _ ⟨dt_reads (λe he=>?_),GoesI.at ?_ d⟩
   .have hm:=mem_listed he
    simp[go_sem, *] at hm
    try exact ⟨_,_,hm⟩
    try (rcases hm with rfl|rfl<;>exact ⟨_,_,rfl⟩)
   clear hK K)
 have q0:v.cell? ⟨rb,0,none⟩=some (I 0):=by simp[World.cell?,hpb]
 have q1:v.cell? ⟨rb,1,none⟩=some (I 0):=by simp[World.cell?,hpb]
 have p0:v.frozen? ⟨rb,0,none⟩=false:=by simp[World.frozen?,hpb]
 have p1:v.frozen? ⟨rb,1,none⟩=false:=by simp[World.frozen?,hpb]
 have hrow:=Aq hpb (c) (y);refine goesI_doZ (L:=LT) rfl rfl (by decide) (fineOp_ask callT extT (by kernel_rfl)) hvw hn (v':=ansW v rb (c) (y)) (by unfold ansW;go_simp) rfl (λw9 r9 n9=>?_);refine goesI_regionEnd (dt_idle _ _) ?_;refine GoesI.ctl rfl (λ_=>stepG_ret') (dt_idle _ _) ?_;refine goesI_leaveZ (f:=64) (fn:=Tryd.f64) (x:=.agg #[I (c),I (y)]) r9 n9 Tryd.func64 rfl hoc ?_ (λw' r'=>hk w' r' n9);generalize ansW v rb (c) (y)=V at hrow;have k0:V.cell? ⟨rb,0,none⟩=some (I (c)):=by simp[World.cell?,hrow]
 have k1:V.cell? ⟨rb,1,none⟩=some (I (y)):=by simp[World.cell?,hrow]
 simp[results,go_sem,Tryd.f64, *]
theorem get_lost {main:Bool}(hA:Fl 62 [(0,Pt kp 0),(1,Pt tb 0),(2,F),(6,Pt rb 0)] a) (cs:List Frame)
 (hk:∀ a,Fl 62 [(0,Pt kp 0),(1,Pt tb 0),(2,F),(6,Pt rb 0)] a->GoesI Tryd.prog main (DT (ScZ z) Ch) Stop (G (gFr a) cs) w):
 GoesI Tryd.prog main (DT (ScZ z) Ch) Stop (G (gTry a (.bool false)) cs) w:=by
 have hA1:Fl 62 [(56,.bool false),(0,Pt kp 0),(1,Pt tb 0),(2,F),(6,Pt rb 0)] (a.put (some 56) (.bool false)):=(fl_put hA (by decide) (by simp)).sub (by simp);unfold gTry;generalize a.put (some 56) (.bool false)=a1 at hA1;have e:seq2 gN=.cond (.tmp 56) (.seq (.region 11 gO11 false) .ret) .skip:=by kernel_rfl
 rw[e];refine goesI_regionEnd (dt_idle _ _) ?_;refine goesI_cond (dt_idle _ _) (t:=false) (hA1.at 56 _ (by simp)) ?_;simp only[if_true,if_false,Qh];refine goesI_skip (dt_idle _ _) ?_;refine goesI_inBlock (dt_idle _ _) ?_;refine goesI_inBlock (dt_idle _ _) ?_;refine goesI_inLoop (dt_idle _ _) ?_;exact hk a1 (hA1.sub (by simp))
theorem get_won {main:Bool}{b3 b4 b5:Nat}(hA:Fl 62 [(0,Pt kp 0),(1,Pt tb 0),(2,.func (.func 65) #[] #[Pt b3 0,Pt b4 0,Pt b5 0]),(6,Pt rb 0)] a) (cs:List Frame)
 (hk:∀ a o,Fl 62 [(0,Pt kp 0),(1,Pt tb 0),(2,.func (.func 65) #[] #[Pt b3 0,Pt b4 0,Pt b5 0]),(6,Pt rb 0),(57,Pt kp 0),(58,Pt tb 0)] a->gO11[3]? = some o->o.dst=some 60->∀ code,Tryd.f65.body=some code ->
   GoesI Tryd.prog main (DT (ScZ z) Ch) Stop (G ((base 65).at { tmps:=#[Pt b3 0,Pt b4 0,Pt b5 0]++Array.replicate 5 undef,defers:=[] } [.code code]) ((base 64).at a (.inRegion gO11 [3,4,5] :: [.code .ret,.inBlock 2,.inBlock 1,.inLoop gL,.inBlock 0]):: cs)) w):
 GoesI Tryd.prog main (DT (ScZ z) Ch) Stop (G (gTry a (.bool true)) cs) w:=by
 unfold gO11 gN gE gS gI gL gB Tryd.f64 seq1 seq2 blockC loopC condA condB opsOf at hk;simp only[Qa] at hk;obtain ⟨hsz,hd,hpp⟩:=hA;obtain ⟨u,rfl,hg⟩:=litN hsz hd;have u0:=(hg 0).symm.trans (hpp (0,Pt kp 0) (by simp));have u1:=(hg 1).symm.trans (hpp (1,Pt tb 0) (by simp));have u2:=(hg 2).symm.trans (hpp (2,.func (.func 65) #[] #[Pt b3 0,Pt b4 0,Pt b5 0]) (by simp));have u6:=(hg 6).symm.trans (hpp (6,Pt rb 0) (by simp));clear hg hpp hsz hd;unfold gTry gO10 gN gE gS gI gL gB Tryd.f64 seq1 seq2 blockC loopC condA condB opsOf;simp only[Qa,lits,Nat.reduceAdd,u0,u1,u2,u6];clear u0 u1 u2 u6;walk_nrm
 refine goesI_regionEnd (dt_idle _ _) ?_;refine goesI_cond (dt_idle _ _) (t:=true) (by simp[Act.eval]) ?_;simp only[if_true,if_false,Qh];refine goesI_seq (dt_idle _ _) ?_;refine goesI_region (dt_idle _ _) ?_;simp only[Sz,Sr,Nat.reduceAdd];iterate 3
  (refine goesI_oper rfl rfl (by decide) (λd K hK=>?_)
   go_simp;refine hK _ _ ⟨dt_reads (λe he=>?_),GoesI.at ?_ d⟩
   .have hm:=mem_listed he
    simp[go_sem, *] at hm
    try exact ⟨_,_,hm⟩
    try (rcases hm with rfl|rfl<;>exact ⟨_,_,rfl⟩)
   clear hK K)
 refine goesI_clo (f:=65) (fn:=Tryd.f65) (cap:=#[Pt b3 0,Pt b4 0,Pt b5 0]) (dt_idle _ _) rfl rfl (by decide) rfl (by simp[Act.eval]) Tryd.func65 (by decide) rfl ?_;exact hk _ _ ⟨rfl,rfl,by
  intro p hp;simp only[Sm,or_false] at hp;rcases hp with rfl|rfl|rfl|rfl|rfl|rfl<;>rfl⟩ rfl rfl _ rfl
theorem get_came {main:Bool}(hA:Fl 62 [(0,Pt kp 0),(1,Pt tb 0),(2,F),(6,Pt rb 0),(57,Pt kp 0),(58,Pt tb 0)] a) (cs:List Frame)
 (hk:∀ a o,Fl 62 [(0,Pt kp 0),(1,Pt tb 0),(2,F),(6,Pt rb 0)] a->gO11[4]? = some o->o.dst=some 61->∀ code,Tryd.f97.body=some code->GoesI Tryd.prog main (DT (ScZ z) Ch) Stop (G ((base 97).at { tmps:=#[Pt kp 0,Pt tb 0,.agg #[I e,I x]]++Array.replicate 26 undef,defers:=[] } [.code code]) ((base 64).at a (.inRegion gO11 [4,5] :: [.code .ret,.inBlock 2,.inBlock 1,.inLoop gL,.inBlock 0]):: cs)) w):
 GoesI Tryd.prog main (DT (ScZ z) Ch) Stop (G (gDone a (.agg #[I e,I x])) cs) w:=by
 unfold gO11 gN gE gS gI gL gB Tryd.f64 seq1 seq2 blockC loopC condA condB opsOf at hk;simp only[Qa] at hk;obtain ⟨hsz,hd,hpp⟩:=hA;obtain ⟨u,rfl,hg⟩:=litN hsz hd;have u0:=(hg 0).symm.trans (hpp (0,Pt kp 0) (by simp));have u1:=(hg 1).symm.trans (hpp (1,Pt tb 0) (by simp));have u2:=(hg 2).symm.trans (hpp (2,F) (by simp));have u6:=(hg 6).symm.trans (hpp (6,Pt rb 0) (by simp));have u57:=(hg 57).symm.trans (hpp (57,Pt kp 0) (by simp));have u58:=(hg 58).symm.trans (hpp (58,Pt tb 0) (by simp));clear hg hpp hsz hd;unfold gDone gO11 gN gE gS gI gL gB Tryd.f64 seq1 seq2 blockC loopC condA condB opsOf;simp only[Qa,lits,Nat.reduceAdd,u0,u1,u2,u6,u57,u58];clear u0 u1 u2 u6 u57 u58;walk_nrm
 refine goesI_into (f:=97) (fn:=Tryd.f97) (args:=#[Pt kp 0,Pt tb 0,.agg #[I e,I x]]) (dt_idle _ _) rfl rfl (by decide) rfl (by simp[Act.eval]) Tryd.func97 (by decide) rfl ?_;exact hk _ _ ⟨rfl,rfl,by
  intro p hp;simp only[Sm,or_false] at hp;rcases hp with rfl|rfl|rfl|rfl<;>rfl⟩ rfl rfl _ rfl
theorem get_kept {main:Bool}(hA:Fl 62 [(0,Pt kp 0),(1,Pt tb 0),(2,F),(6,Pt rb 0)] a) (cs:List Frame) {rest:List Nat}(hoc:ops[q]? = some oc) (hpb:v.heap[rb]? = some (.cells #[I 0,I 0] 38 (0,0))) (hvw:Rel z v w) (hn:NoRow Ch v)
 (hk:∀ w',Rel z (ansW v rb e x) w'->NoRow Ch (ansW v rb e x)->GoesI Tryd.prog main (DT (ScZ z) Ch) Stop (G (bc.at (ac.put oc.dst (.agg #[I e,I x])) (.inRegion ops rest :: k0)) cs) w'):
 GoesI Tryd.prog main (DT (ScZ z) Ch) Stop (G (gKept a (.agg #[I e,I x])) (bc.at ac (.inRegion ops (q :: rest) :: k0) :: cs)) w:=by
 obtain ⟨hsz,hd,hpp⟩:=hA;obtain ⟨u,rfl,hg⟩:=litN hsz hd;have u0:=(hg 0).symm.trans (hpp (0,Pt kp 0) (by simp));have u1:=(hg 1).symm.trans (hpp (1,Pt tb 0) (by simp));have u2:=(hg 2).symm.trans (hpp (2,F) (by simp));have u6:=(hg 6).symm.trans (hpp (6,Pt rb 0) (by simp));clear hg hpp hsz hd;unfold gKept gO11 gN gE gS gI gL gB Tryd.f64 seq1 seq2 blockC loopC condA condB opsOf;simp only[Qa,lits,Nat.reduceAdd,u0,u1,u2,u6];clear u0 u1 u2 u6;walk_nrm
 have q0:v.cell? ⟨rb,0,none⟩=some (I 0):=by simp[World.cell?,hpb]
 have q1:v.cell? ⟨rb,1,none⟩=some (I 0):=by simp[World.cell?,hpb]
 have p0:v.frozen? ⟨rb,0,none⟩=false:=by simp[World.frozen?,hpb]
 have p1:v.frozen? ⟨rb,1,none⟩=false:=by simp[World.frozen?,hpb]
 have hrow:=Aq hpb (e) (x);refine goesI_doZ (L:=LT) rfl rfl (by decide) (fineOp_ask callT extT (by kernel_rfl)) hvw hn (v':=ansW v rb (e) (x)) (by unfold ansW;go_simp) rfl (λw9 r9 n9=>?_);refine goesI_regionEnd (dt_idle _ _) ?_;refine GoesI.ctl rfl (λ_=>stepG_ret') (dt_idle _ _) ?_;refine goesI_leaveZ (f:=64) (fn:=Tryd.f64) (x:=.agg #[I (e),I (x)]) r9 n9 Tryd.func64 rfl hoc ?_ (λw' r'=>hk w' r' n9);generalize ansW v rb (e) (x)=V at hrow;have k0:V.cell? ⟨rb,0,none⟩=some (I (e)):=by simp[World.cell?,hrow]
 have k1:V.cell? ⟨rb,1,none⟩=some (I (x)):=by simp[World.cell?,hrow]
 simp[results,go_sem,Tryd.f64, *]
theorem g3_wp {b:Bool}(hA:Fl 62 [(0,Pt kp 0),(1,Pt tb 0),(2,F),(6,Pt rb 0),(7,I x),(16,I (R1.stI x))] a) (hF:R1.Flds v) (h1:v.cell? ⟨tb,1,none⟩=some (I i)) (hb:(R1.whoI x==(i:Int))=b):(seq1 (seq1 gW)).wp Tryd.prog (λe a' w'=>e=.normal∧Fl 62 [(22,.bool b),(0,Pt kp 0),(1,Pt tb 0),(2,F),(6,Pt rb 0)] a'∧Grows v w') a v:=by
 subst hb;have s0:=hF.w0;have s1:=hF.w1;have HK:Hid (v.cell? ⟨tb,1,none⟩=some (I i)):=⟨h1⟩
 clear hF h1;obtain ⟨hsz,hd,hpp⟩:=hA;obtain ⟨u,rfl,hg⟩:=litN hsz hd;have u0:=(hg 0).symm.trans (hpp (0,Pt kp 0) (by simp));have u1:=(hg 1).symm.trans (hpp (1,Pt tb 0) (by simp));have u2:=(hg 2).symm.trans (hpp (2,F) (by simp));have u6:=(hg 6).symm.trans (hpp (6,Pt rb 0) (by simp));have u7:=(hg 7).symm.trans (hpp (7,I x) (by simp));have u16:=(hg 16).symm.trans (hpp (16,I (R1.stI x)) (by simp));clear hg hpp hsz hd;unfold gW gE gS gI gL gB Tryd.f64 seq1 seq2 blockC loopC condB;simp only[Qa,lits,Nat.reduceAdd,u0,u1,u2,u6,u7,u16];clear u0 u1 u2 u6 u7 u16;go_wp2_with fail;refine (R1.get_yes x 2 8 _ (by decide) (by decide) (by decide)).mono ?_;rintro e w1 ⟨rfl,hb1⟩;have h1:w1.cell? ⟨tb,1,none⟩=some (I i):=(Ba hb1).cell HK.out;have HG:Hid (Grows v w1):=⟨Ba hb1⟩
 clear hb1 s0 s1
 go_wp2_with (go_at_call 68;refine (R1.id_any tb i _ h1).mono ?_;rintro e w2 ⟨rfl,rfl⟩)
 exact ⟨⟨rfl,rfl,by
  intro p hp;simp only[Sm,or_false] at hp;rcases hp with rfl|rfl|rfl|rfl|rfl<;>rfl⟩,HG.out⟩
theorem get_again {main:Bool}(hx2:R1.stI x≠2) (hx0:R1.stI x≠0) (hwho:R1.whoI x=i) (hF:R1.Flds v) (h1:v.cell? ⟨tb,1,none⟩=some (I i)) (hA:Fl 62 [(0,Pt kp 0),(1,Pt tb 0),(2,F),(6,Pt rb 0),(7,I x),(16,I (R1.stI x))] a) (cs:List Frame) {rest:List Nat}(hoc:ops[q]? = some oc) (hpb:v.heap[rb]? = some (.cells #[I 0,I 0] 38 (0,0))) (hvw:Rel z v w) (hn:NoRow Ch v)
 (hk:∀ v1 w1,Rel z v1 w1->NoRow Ch v1->Grows v v1->∀ w',Rel z (ansW v1 rb 72 0) w'->NoRow Ch (ansW v1 rb 72 0)->GoesI Tryd.prog main (DT (ScZ z) Ch) Stop (G (bc.at (ac.put oc.dst (.agg #[I 72,I 0])) (.inRegion ops rest :: k0)) cs) w'):
 GoesI Tryd.prog main (DT (ScZ z) Ch) Stop (G (gSw a) (bc.at ac (.inRegion ops (q :: rest) :: k0) :: cs)) w:=by
 rw[show gSw a=(base 64).at a [.code (.seq (seq1 gS) (.cond (.tmp 33) (.seq (.region 8 gO8 true) .ret) (.seq (seq1 gE) (.cond (.tmp 45) (.seq (.region 10 gO10 true) (seq2 gN)) gW)))),.inBlock 2,.inBlock 1,.inLoop gL,.inBlock 0] by unfold gSw;rw[<-eGS]];refine goesI_seq (dt_idle _ _) ?_;refine goesI_plain (z:=z) (wr:=true) (L:=LT) (I:=NoRow Ch) hE fineT noRow_keeps (λv v' w w' es hi hr ho he=>dt_of_z v v' w w' es hi hr ho he) hvw fine_g7 hA.2.1 (by simp[base]) hn (Q:=λa w'=>Fl 62 [(33,.bool false),(0,Pt kp 0),(1,Pt tb 0),(2,F),(6,Pt rb 0),(7,I x),(16,I (R1.stI x))] a∧w'.heap=v.heap∧w'.os=v.os∧w'.output=v.output) (λτ=>g7_wp (v:=onTape v τ 0) hA (by simpa using hx2)) ?_;rintro a v1 w1 ⟨hA,q1,q2,q3⟩ r1 n1 -;have g1:Grows v v1:=⟨by rw[q1];exact Qi _,λb _=>by rw[q1],q2,q3⟩
 refine goesI_cond (dt_idle _ _) (t:=false) (hA.at 33 _ (by simp)) ?_;simp only[if_true,if_false,Qh];have hA:Fl 62 [(0,Pt kp 0),(1,Pt tb 0),(2,F),(6,Pt rb 0),(7,I x),(16,I (R1.stI x))] a:=hA.sub (by simp);refine goesI_seq (dt_idle _ _) ?_;refine goesI_plain (z:=z) (wr:=true) (L:=LT) (I:=NoRow Ch) hE fineT noRow_keeps (λv v' w w' es hi hr ho he=>dt_of_z v v' w w' es hi hr ho he) r1 fine_g9 hA.2.1 (by simp[base]) n1 (Q:=λa w'=>Fl 62 [(45,.bool false),(0,Pt kp 0),(1,Pt tb 0),(2,F),(6,Pt rb 0),(7,I x),(16,I (R1.stI x))] a∧w'.heap=v1.heap∧w'.os=v1.os∧w'.output=v1.output) (λτ=>g9_wp (v:=onTape v1 τ 0) hA (by simpa using hx0)) ?_;rintro a v2 w2 ⟨hA,q4,q5,q6⟩ r2 n2 -;have g2:Grows v v2:=An g1 ⟨by rw[q4];exact Qi _,λb _=>by rw[q4],q5,q6⟩;refine goesI_cond (dt_idle _ _) (t:=false) (hA.at 45 _ (by simp)) ?_;simp only[if_true,if_false,Qh];have hA:Fl 62 [(0,Pt kp 0),(1,Pt tb 0),(2,F),(6,Pt rb 0),(7,I x),(16,I (R1.stI x))] a:=hA.sub (by simp);rw[eGW];refine goesI_seq (dt_idle _ _) ?_;refine goesI_seq (dt_idle _ _) ?_
 refine goesI_plain (z:=z) (wr:=true) (L:=LT) (I:=NoRow Ch) hE fineT noRow_keeps (λv v' w w' es hi hr ho he=>dt_of_z v v' w w' es hi hr ho he) r2 fine_g3 hA.2.1 (by simp[base]) n2 (Q:=λa w'=>Fl 62 [(22,.bool true),(0,Pt kp 0),(1,Pt tb 0),(2,F),(6,Pt rb 0)] a∧Grows v2 w') (λτ=>wp_mono (g3_wp (v:=onTape v2 τ 0) hA ((Ax hF g2).of (λa x h=>h)) (g2.cell h1) (by simpa using hwho)) (λe a w h=>⟨h.1,h.2.1,gtape h.2.2⟩)) ?_;rintro a v3 w3 ⟨hA,g3⟩ r3 n3 -;have g4:=An g2 g3;have hpb:v3.heap[rb]? = some (.cells #[I 0,I 0] 38 (0,0)):=by rw[g4.old rb (Qb hpb).1];exact hpb
 have hk:∀ w',Rel z (ansW v3 rb 72 0) w'->NoRow Ch (ansW v3 rb 72 0)->GoesI Tryd.prog main (DT (ScZ z) Ch) Stop (G (bc.at (ac.put oc.dst (.agg #[I 72,I 0])) (.inRegion ops rest :: k0)) cs) w':=λw' r' n'=>hk v3 w3 r3 n3 g4 w' r' n';clear g1 g2 g3 g4 q1 q2 q3 q4 q5 q6 r1 r2 n1 n2 hvw hn hF h1 hx2 hx0 hwho;clear w1 w2;obtain ⟨hsz,hd,hpp⟩:=hA;obtain ⟨u,rfl,hg⟩:=litN hsz hd;have u22:=(hg 22).symm.trans (hpp (22,.bool true) (by simp));have u0:=(hg 0).symm.trans (hpp (0,Pt kp 0) (by simp));have u1:=(hg 1).symm.trans (hpp (1,Pt tb 0) (by simp));have u2:=(hg 2).symm.trans (hpp (2,F) (by simp));have u6:=(hg 6).symm.trans (hpp (6,Pt rb 0) (by simp));clear hg hpp hsz hd;unfold gW gE gS gI gL gB Tryd.f64 seq1 seq2 blockC loopC condB;simp only[Qa,lits,Nat.reduceAdd,u22,u0,u1,u2,u6];clear u22 u0 u1 u2 u6;refine goesI_cond (dt_idle _ _) (t:=true) (by simp[Act.eval]) ?_;simp only[if_true,if_false,Qh];refine goesI_seq (dt_idle _ _) ?_;refine goesI_region (dt_idle _ _) ?_;simp only[Sz,Sr,Nat.reduceAdd];iterate 1
  (refine goesI_oper rfl rfl (by decide) (λd K hK=>?_)
   go_simp;refine hK _ _ ⟨dt_reads (λe he=>?_),GoesI.at ?_ d⟩
   .have hm:=mem_listed he
    simp[go_sem, *] at hm
    try exact ⟨_,_,hm⟩
    try (rcases hm with rfl|rfl<;>exact ⟨_,_,rfl⟩)
   clear hK K)
 have q0:v3.cell? ⟨rb,0,none⟩=some (I 0):=by simp[World.cell?,hpb]
 have q1:v3.cell? ⟨rb,1,none⟩=some (I 0):=by simp[World.cell?,hpb]
 have p0:v3.frozen? ⟨rb,0,none⟩=false:=by simp[World.frozen?,hpb]
 have p1:v3.frozen? ⟨rb,1,none⟩=false:=by simp[World.frozen?,hpb]
 have hrow:=Aq hpb (72) (0);refine goesI_doZ (L:=LT) rfl rfl (by decide) (fineOp_ask callT extT (by kernel_rfl)) r3 n3 (v':=ansW v3 rb (72) (0)) (by unfold ansW;go_simp) rfl (λw9 r9 n9=>?_);refine goesI_regionEnd (dt_idle _ _) ?_;refine GoesI.ctl rfl (λ_=>stepG_ret') (dt_idle _ _) ?_;refine goesI_leaveZ (f:=64) (fn:=Tryd.f64) (x:=.agg #[I (72),I (0)]) r9 n9 Tryd.func64 rfl hoc ?_ (λw' r'=>hk w' r' n9);generalize ansW v3 rb (72) (0)=V at hrow;have k0:V.cell? ⟨rb,0,none⟩=some (I (72)):=by simp[World.cell?,hrow]
 have k1:V.cell? ⟨rb,1,none⟩=some (I (0)):=by simp[World.cell?,hrow]
 simp[results,go_sem,Tryd.f64, *]
theorem get_wait {main:Bool}(hx2:R1.stI x≠2) (hx0:R1.stI x≠0) (hwho:R1.whoI x≠i) (hF:R1.Flds v) (h1:v.cell? ⟨tb,1,none⟩=some (I i)) (h0:v.cell? ⟨kp,0,none⟩=some (Pt cb 0)) (h2:v.cell? ⟨cb,0,none⟩=some (I j)) (hA:Fl 62 [(0,Pt kp 0),(1,Pt tb 0),(2,F),(6,Pt rb 0),(7,I x),(16,I (R1.stI x))] a) (cs:List Frame) (hvw:Rel z v w) (hn:NoRow Ch v)
 (hk:∀ v' w' a (bd:Frame) (ad:Act) (od:Array Oper) (qd:Nat) (rd:List Nat) (oe:Oper) (kd:List Item),Fl 62 [(0,Pt kp 0),(1,Pt tb 0),(2,F),(6,Pt rb 0)] a->Rel z v' w'->NoRow Ch v'->Grows v v'->od[qd]? = some oe->(∀ r,bd.at (ad.put oe.dst r) (.inRegion od rd :: kd)=gWoke a r)->∀ code,Tryd.f98.body=some code ->
   GoesI Tryd.prog main (DT (ScZ z) Ch) Stop (G ((base 98).at { tmps:=#[Pt tb 0,I j]++Array.replicate 33 undef,defers:=[] } [.code code]) (bd.at ad (.inRegion od (qd :: rd):: kd):: cs)) w'):
 GoesI Tryd.prog main (DT (ScZ z) Ch) Stop (G (gSw a) cs) w:=by
 rw[show gSw a=(base 64).at a [.code (.seq (seq1 gS) (.cond (.tmp 33) (.seq (.region 8 gO8 true) .ret) (.seq (seq1 gE) (.cond (.tmp 45) (.seq (.region 10 gO10 true) (seq2 gN)) gW)))),.inBlock 2,.inBlock 1,.inLoop gL,.inBlock 0] by unfold gSw;rw[<-eGS]];refine goesI_seq (dt_idle _ _) ?_;refine goesI_plain (z:=z) (wr:=true) (L:=LT) (I:=NoRow Ch) hE fineT noRow_keeps (λv v' w w' es hi hr ho he=>dt_of_z v v' w w' es hi hr ho he) hvw fine_g7 hA.2.1 (by simp[base]) hn (Q:=λa w'=>Fl 62 [(33,.bool false),(0,Pt kp 0),(1,Pt tb 0),(2,F),(6,Pt rb 0),(7,I x),(16,I (R1.stI x))] a∧w'.heap=v.heap∧w'.os=v.os∧w'.output=v.output) (λτ=>g7_wp (v:=onTape v τ 0) hA (by simpa using hx2)) ?_;rintro a v1 w1 ⟨hA,q1,q2,q3⟩ r1 n1 -;have g1:Grows v v1:=⟨by rw[q1];exact Qi _,λb _=>by rw[q1],q2,q3⟩
 refine goesI_cond (dt_idle _ _) (t:=false) (hA.at 33 _ (by simp)) ?_;simp only[if_true,if_false,Qh];have hA:Fl 62 [(0,Pt kp 0),(1,Pt tb 0),(2,F),(6,Pt rb 0),(7,I x),(16,I (R1.stI x))] a:=hA.sub (by simp);refine goesI_seq (dt_idle _ _) ?_;refine goesI_plain (z:=z) (wr:=true) (L:=LT) (I:=NoRow Ch) hE fineT noRow_keeps (λv v' w w' es hi hr ho he=>dt_of_z v v' w w' es hi hr ho he) r1 fine_g9 hA.2.1 (by simp[base]) n1 (Q:=λa w'=>Fl 62 [(45,.bool false),(0,Pt kp 0),(1,Pt tb 0),(2,F),(6,Pt rb 0),(7,I x),(16,I (R1.stI x))] a∧w'.heap=v1.heap∧w'.os=v1.os∧w'.output=v1.output) (λτ=>g9_wp (v:=onTape v1 τ 0) hA (by simpa using hx0)) ?_;rintro a v2 w2 ⟨hA,q4,q5,q6⟩ r2 n2 -;have g2:Grows v v2:=An g1 ⟨by rw[q4];exact Qi _,λb _=>by rw[q4],q5,q6⟩;refine goesI_cond (dt_idle _ _) (t:=false) (hA.at 45 _ (by simp)) ?_;simp only[if_true,if_false,Qh];have hA:Fl 62 [(0,Pt kp 0),(1,Pt tb 0),(2,F),(6,Pt rb 0),(7,I x),(16,I (R1.stI x))] a:=hA.sub (by simp);rw[eGW];refine goesI_seq (dt_idle _ _) ?_;refine goesI_seq (dt_idle _ _) ?_
 refine goesI_plain (z:=z) (wr:=true) (L:=LT) (I:=NoRow Ch) hE fineT noRow_keeps (λv v' w w' es hi hr ho he=>dt_of_z v v' w w' es hi hr ho he) r2 fine_g3 hA.2.1 (by simp[base]) n2 (Q:=λa w'=>Fl 62 [(22,.bool false),(0,Pt kp 0),(1,Pt tb 0),(2,F),(6,Pt rb 0)] a∧Grows v2 w') (λτ=>wp_mono (g3_wp (v:=onTape v2 τ 0) hA ((Ax hF g2).of (λa x h=>h)) (g2.cell h1) (by simpa using hwho)) (λe a w h=>⟨h.1,h.2.1,gtape h.2.2⟩)) ?_;rintro a v3 w3 ⟨hA,g3⟩ r3 n3 -;have g4:=An g2 g3;have e0:w3.cell? ⟨kp,0,none⟩=some (Pt cb 0):=by rw[r3.cell?];exact g4.cell h0
 have e2:v3.cell? ⟨cb,0,none⟩=some (I j):=g4.cell h2;have HG:Hid (Grows v v3):=⟨g4⟩
 clear g1 g2 g3 g4 q1 q2 q3 q4 q5 q6 r1 r2 n1 n2 hvw hn hF h1 hx2 hx0 hwho h0 h2;clear w1 w2;unfold gWoke gO5 gW gE gS gI gL gB Tryd.f64 seq1 seq2 blockC loopC condB opsOf at hk;simp only[Qa] at hk;obtain ⟨hsz,hd,hpp⟩:=hA;obtain ⟨u,rfl,hg⟩:=litN hsz hd;have u22:=(hg 22).symm.trans (hpp (22,.bool false) (by simp));have u0:=(hg 0).symm.trans (hpp (0,Pt kp 0) (by simp));have u1:=(hg 1).symm.trans (hpp (1,Pt tb 0) (by simp));have u2:=(hg 2).symm.trans (hpp (2,F) (by simp));have u6:=(hg 6).symm.trans (hpp (6,Pt rb 0) (by simp));clear hg hpp hsz hd;unfold gO5 gW gE gS gI gL gB Tryd.f64 seq1 seq2 blockC loopC condB opsOf;simp only[Qa,lits,Nat.reduceAdd,u22,u0,u1,u2,u6];clear u22 u0 u1 u2 u6;refine goesI_cond (dt_idle _ _) (t:=false) (by simp[Act.eval]) ?_;simp only[if_true,if_false,Qh];refine goesI_skip (dt_idle _ _) ?_;refine goesI_seq (dt_idle _ _) ?_;refine goesI_region (dt_idle _ _) ?_;simp only[Sz,Sr,Nat.reduceAdd];iterate 5
  (refine goesI_oper rfl rfl (by decide) (λd K hK=>?_)
   go_simp;refine hK _ _ ⟨dt_reads (λe he=>?_),GoesI.at ?_ d⟩
   .have hm:=mem_listed he
    simp[go_sem, *] at hm
    try exact ⟨_,_,hm⟩
    try (rcases hm with rfl|rfl<;>exact ⟨_,_,rfl⟩)
   clear hK K)
 refine goesI_call (f:=99) (fn:=Tryd.f99) (args:=#[Pt cb 0]) hE fineT rfl rfl (by decide) rfl (by simp[Act.eval]) Tryd.func99 (by kernel_rfl) rfl (fineFn_body fineT (by simp[LT,plainFs]) Tryd.func99 rfl) (λtmps=>⟨_,λw=>results_tmp rfl _ _ _,λw=>by simp[results,go_sem]⟩) r3 n3
  (R:=λr v4=>r=I j∧v4.heap=v3.heap∧v4.os=v3.os∧v4.output=v3.output) (λτ=>wp_mono (cid_body cb j (onTape v3 τ 0) e2 _ rfl) (bp_mono λr u hq=>⟨hq.1,by rw[hq.2];rfl,by rw[hq.2];rfl,by rw[hq.2];rfl⟩)) (λr v4 w4 hR hvw4 hn4=>?_)
 obtain ⟨rfl,k1,k2,k3⟩:=hR;have hg:Grows v v4:=An HG.out ⟨by rw[k1];exact Qi _,λb _=>by rw[k1],k2,k3⟩;walk_nrm
 refine goesI_into (f:=98) (fn:=Tryd.f98) (args:=#[Pt tb 0,I j]) (dt_idle _ _) rfl rfl (by decide) rfl (by simp[Act.eval]) Tryd.func98 (by decide) rfl ?_;exact hk v4 w4 _ _ _ _ _ _ _ _ ⟨rfl,rfl,by
  intro p hp;simp only[Sm,or_false] at hp;rcases hp with rfl|rfl|rfl|rfl<;>rfl⟩ hvw4 hn4 hg rfl (λr=>rfl) _ rfl
theorem get_woke {main:Bool}(hA:Fl 62 [(0,Pt kp 0),(1,Pt tb 0),(2,F),(6,Pt rb 0)] a) (cs:List Frame)
 (hk:∀ a,Fl 62 [(0,Pt kp 0),(1,Pt tb 0),(2,F),(6,Pt rb 0)] a->GoesI Tryd.prog main (DT (ScZ z) Ch) Stop (G (gFr a) cs) w):
 GoesI Tryd.prog main (DT (ScZ z) Ch) Stop (G (gWoke a (.bool true)) cs) w:=by
 unfold gFr at hk;generalize hL:gL=L at hk;have hW:gWoke a (.bool true)=(base 64).at (a.put (some 30) (.bool true)) [.inRegion gO5 [7],.code (seq2 (seq2 gW)),.inBlock 2,.inBlock 1,.inLoop L,.inBlock 0]:=by rw[<-hL];rfl
 rw[hW];clear hW hL;obtain ⟨hsz,hd,hpp⟩:=hA;obtain ⟨u,rfl,hg⟩:=litN hsz hd;have u0:=(hg 0).symm.trans (hpp (0,Pt kp 0) (by simp));have u1:=(hg 1).symm.trans (hpp (1,Pt tb 0) (by simp));have u2:=(hg 2).symm.trans (hpp (2,F) (by simp));have u6:=(hg 6).symm.trans (hpp (6,Pt rb 0) (by simp));clear hg hpp hsz hd;unfold gO5 gW gE gS gI gL gB Tryd.f64 seq1 seq2 blockC loopC condB opsOf;simp only[Qa,lits,Nat.reduceAdd,u0,u1,u2,u6];clear u0 u1 u2 u6;walk_nrm
 iterate 1
  (refine goesI_oper rfl rfl (by decide) (λd K hK=>?_)
   go_simp;refine hK _ _ ⟨dt_reads (λe he=>?_),GoesI.at ?_ d⟩
   .have hm:=mem_listed he
    simp[go_sem, *] at hm
    try exact ⟨_,_,hm⟩
    try (rcases hm with rfl|rfl<;>exact ⟨_,_,rfl⟩)
   clear hK K)
 refine goesI_regionEnd (dt_idle _ _) ?_;refine goesI_cond (dt_idle _ _) (t:=false) (by simp[Act.eval]) ?_;simp only[if_true,if_false,Qh];refine goesI_skip (dt_idle _ _) ?_;refine goesI_inBlock (dt_idle _ _) ?_;refine goesI_inBlock (dt_idle _ _) ?_;refine goesI_inLoop (dt_idle _ _) ?_;exact hk _ ⟨rfl,rfl,by
  intro p hp;simp only[Sm,or_false] at hp;rcases hp with rfl|rfl|rfl|rfl<;>rfl⟩
theorem get_stuck {main:Bool}(hA:Fl 62 [(0,Pt kp 0),(1,Pt tb 0),(2,F),(6,Pt rb 0)] a) (cs:List Frame) {rest:List Nat}(hoc:ops[q]? = some oc) (hpb:v.heap[rb]? = some (.cells #[I 0,I 0] 38 (0,0))) (hvw:Rel z v w) (hn:NoRow Ch v)
 (hk:∀ w',Rel z (ansW v rb 4 0) w'->NoRow Ch (ansW v rb 4 0)->GoesI Tryd.prog main (DT (ScZ z) Ch) Stop (G (bc.at (ac.put oc.dst (.agg #[I 4,I 0])) (.inRegion ops rest :: k0)) cs) w'):
 GoesI Tryd.prog main (DT (ScZ z) Ch) Stop (G (gWoke a (.bool false)) (bc.at ac (.inRegion ops (q :: rest) :: k0) :: cs)) w:=by
 obtain ⟨hsz,hd,hpp⟩:=hA;obtain ⟨u,rfl,hg⟩:=litN hsz hd;have u0:=(hg 0).symm.trans (hpp (0,Pt kp 0) (by simp));have u1:=(hg 1).symm.trans (hpp (1,Pt tb 0) (by simp));have u2:=(hg 2).symm.trans (hpp (2,F) (by simp));have u6:=(hg 6).symm.trans (hpp (6,Pt rb 0) (by simp));clear hg hpp hsz hd;unfold gWoke gO5 gW gE gS gI gL gB Tryd.f64 seq1 seq2 blockC loopC condB opsOf;simp only[Qa,lits,Nat.reduceAdd,u0,u1,u2,u6];clear u0 u1 u2 u6;walk_nrm
 iterate 1
  (refine goesI_oper rfl rfl (by decide) (λd K hK=>?_)
   go_simp;refine hK _ _ ⟨dt_reads (λe he=>?_),GoesI.at ?_ d⟩
   .have hm:=mem_listed he
    simp[go_sem, *] at hm
    try exact ⟨_,_,hm⟩
    try (rcases hm with rfl|rfl<;>exact ⟨_,_,rfl⟩)
   clear hK K)
 refine goesI_regionEnd (dt_idle _ _) ?_;refine goesI_cond (dt_idle _ _) (t:=true) (by simp[Act.eval]) ?_;simp only[if_true,if_false,Qh];refine goesI_seq (dt_idle _ _) ?_;refine goesI_region (dt_idle _ _) ?_;simp only[Sz,Sr,Nat.reduceAdd];iterate 1
  (refine goesI_oper rfl rfl (by decide) (λd K hK=>?_)
   go_simp;refine hK _ _ ⟨dt_reads (λe he=>?_),GoesI.at ?_ d⟩
   .have hm:=mem_listed he
    simp[go_sem, *] at hm
    try exact ⟨_,_,hm⟩
    try (rcases hm with rfl|rfl<;>exact ⟨_,_,rfl⟩)
   clear hK K)
 have q0:v.cell? ⟨rb,0,none⟩=some (I 0):=by simp[World.cell?,hpb]
 have q1:v.cell? ⟨rb,1,none⟩=some (I 0):=by simp[World.cell?,hpb]
 have p0:v.frozen? ⟨rb,0,none⟩=false:=by simp[World.frozen?,hpb]
 have p1:v.frozen? ⟨rb,1,none⟩=false:=by simp[World.frozen?,hpb]
 have hrow:=Aq hpb (4) (0);refine goesI_doZ (L:=LT) rfl rfl (by decide) (fineOp_ask callT extT (by kernel_rfl)) hvw hn (v':=ansW v rb (4) (0)) (by unfold ansW;go_simp) rfl (λw9 r9 n9=>?_);refine goesI_regionEnd (dt_idle _ _) ?_;refine GoesI.ctl rfl (λ_=>stepG_ret') (dt_idle _ _) ?_;refine goesI_leaveZ (f:=64) (fn:=Tryd.f64) (x:=.agg #[I (4),I (0)]) r9 n9 Tryd.func64 rfl hoc ?_ (λw' r'=>hk w' r' n9);generalize ansW v rb (4) (0)=V at hrow;have k0:V.cell? ⟨rb,0,none⟩=some (I (4)):=by simp[World.cell?,hrow]
 have k1:V.cell? ⟨rb,1,none⟩=some (I (0)):=by simp[World.cell?,hrow]
 simp[results,go_sem,Tryd.f64, *]
end Go.Proofs.YtfjjoohflcchnaaDoor.Gen
