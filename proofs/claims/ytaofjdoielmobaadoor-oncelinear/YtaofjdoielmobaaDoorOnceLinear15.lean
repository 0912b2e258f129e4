/- Of the proof of OnceLinear. Part 15 of 27. (Joined, by program, and written short, of: OnP, OnM, OnK.) -/
import Derived.Test.YtaofjdoielmobaaDoorOnceLinear11
import Derived.Test.YtaofjdoielmobaaDoorOnceLinear14
set_option linter.unusedSimpArgs false
set_option linter.unusedVariables false
set_option maxHeartbeats 4000000
set_option maxRecDepth 100000
namespace Go.Proofs.YtaofjdoielmobaaDoor.Gen
open Go Go.Lift Go.Conc Go.RowKit
theorem which_body (a:Int) (n:Nat) (h0:0<n) (hb:(n:Int)<9223372036854775808) (w:World):Body Tryd.f26 #[I a,I n] w (fun v w'=>v=I (Aq a n)∧w'=w):=by
 intro code hb'
 obtain rfl:=Option.some.inj hb'
 clear hb'
 simp only[Tryd.ntmps26,List.size_toArray,List.length_cons,List.length_nil,Nat.reduceAdd,Nat.reduceSub,Array.replicate_succ,Array.replicate_zero,List.push_toArray,List.append_toArray,List.nil_append,List.cons_append]
 have hne:¬ ((n:Int)=0):=by omega
 have HB:Hid ((n:Int)<9223372036854775808∧0<n):=⟨⟨hb,h0⟩⟩
 clear hb h0
 go_wp2_with fail
 all_goals
  go_ret
  rename_i h
  first
   |exact ⟨_,rfl,congrArg I (which_pos h),rfl⟩
   |exact ⟨_,rfl,congrArg I (which_neg h HB.out.2 HB.out.1),rfl⟩
noncomputable def pB:Code:=Tryd.f25.body.getD .skip
noncomputable def pO3:Array Oper:=opsOf (seq1 (seq2 (seq2 pB)))
noncomputable def pFr (a:Act) (r:Value):Frame:=(base 25).at (a.put (some 30) r) [.inRegion pO3 [15],.code .ret]
theorem ePB:pB=.seq (seq1 pB) (.seq (.seq (seq1 (seq1 (seq2 pB))) (seq2 (seq1 (seq2 pB)))) (.seq (.region 3 pO3 true) .ret)):=by kernel_rfl
theorem fine_p0:As Tryd.prog true LT (seq1 pB):=Ba Bi extT (by kernel_rfl)
theorem fine_p1:As Tryd.prog true LT (seq1 (seq1 (seq2 pB))):=Ba Bi extT (by kernel_rfl)
def val_p3 (tb xb mb bx sb m ob:Nat) (po ca cb:Int):Nat->Value
 |0=>.slice (some ⟨sb,0,none⟩) m m
 |1=>Pt bx 1
 |2=>I ca
 |3=>I m
 |4=>I (Aq ca m)
 |5=>Pt sb (Aq ca m)
 |6=>Pt ob 0
 |7=>Pt tb 0
 |8=>Pt bx 0
 |9=>I po
 |10=>I (po - 1)
 |11=>Pt bx 2
 |12=>I cb
 |13=>.agg #[I (po - 1),I cb]
 |_=>undef
theorem reg_p3:regOk pO3 14 16=true:=by kernel_rfl
theorem F0:((pO3.extract 0 14).all fun o=>Dw Tryd.prog true o.op||Ex Co F3 o.op)=true:=by kernel_rfl
theorem p3_pre {z:Nat->Option Nat}{Ch:Nat->Prop}{Stop:Goroutine->World->Prop}{main:Bool}{v w:World}(tb xb mb bx sb m ob:Nat) (po ca cb:Int) {rb:Nat}{a:Act}(hA:Fl 31 [(0,Pt tb 0),(2,Pt xb 0),(3,Pt mb 0),(5,Pt bx 0),(6,Pt rb 0)] a) (k:List Item) (cs:List Frame) (hm0:0<m) (hm1:m≤1000) (hpo:IntKind.i64.wrap (po - 1)=po - 1) (hx:v.cell? ⟨xb,0,none⟩=some (.slice (some ⟨sb,0,none⟩) m m)) (hmb:v.cell? ⟨mb,0,none⟩=some (I m)) (hob:v.cell? ⟨sb,Aq ca m,none⟩=some (Pt ob 0)) (b0:v.cell? ⟨bx,0,none⟩=some (I po)) (b1:v.cell? ⟨bx,1,none⟩=some (I ca)) (b2:v.cell? ⟨bx,2,none⟩=some (I cb)) (hvw:Rel z v w) (hn:Ah Ch v)
 (hN:∀ v1 w1 a' o,pO3[14]? = some o->(∀ y,Region.wanted o y=true)->Fl 31 [(0,Pt tb 0),(2,Pt xb 0),(3,Pt mb 0),(5,Pt bx 0),(6,Pt rb 0),(22,Pt ob 0),(23,Pt tb 0),(29,.agg #[I (po - 1),I cb])] a'->Rel z v1 w1->Ah Ch v1->Grows v v1->GoesI Tryd.prog main (DT (ScZ z) Ch) Stop (G ((base 25).at a' (.inRegion pO3 [14,15] :: k)) cs) w1) :
 GoesI Tryd.prog main (DT (ScZ z) Ch) Stop (G ((base 25).at a (.code (.region 3 pO3 true) :: k)) cs) w:=by
 refine G9 (val:=val_p3 tb xb mb bx sb m ob po ca cb) reg_p3 (by rw[hA.1];decide) hvw hn ?_ ?_
 ·intro i0 o rest a' v1 w1 hi ho hw ev ev0 r1 n1 g1 hk
  match i0,hi,ho,ev,hk with
  |0,_,ho,ev,hk=>have l0:a'.eval (.tmp 2)=Pt xb 0:=(ev0 2 (by decide)).trans (hA.at 2 _ (by simp));have c0:=g1.cell hx;exact A8 ho hw (by simp[base]) (p:=Op.load 68 (Operand.tmp 2)) (by kernel_rfl) (A9 F0 (by decide) ho) r1 n1 (x:=.slice (some ⟨sb,0,none⟩) m m) rfl (fun o' h'=>by unfold execOp;rw[h'];simp only[l0];simp[go_sem,c0]) hk
  |1,_,ho,ev,hk=>have l0:a'.eval (.tmp 5)=Pt bx 0:=(ev0 5 (by decide)).trans (hA.at 5 _ (by simp));exact A8 ho hw (by simp[base]) (p:=Op.fieldAddr 35 (Operand.tmp 5) 1) (by kernel_rfl) (A9 F0 (by decide) ho) r1 n1 (x:=Pt bx 1) rfl (fun o' h'=>by unfold execOp;rw[h'];simp only[l0];simp[go_sem]) hk
  |2,_,ho,ev,hk=>have l0:a'.eval (.tmp 17)=Pt bx 1:=ev 1 (by decide) (by kernel_rfl);have c0:=g1.cell b1;exact A8 ho hw (by simp[base]) (p:=Op.load 3 (Operand.tmp 17)) (by kernel_rfl) (A9 F0 (by decide) ho) r1 n1 (x:=I ca) rfl (fun o' h'=>by unfold execOp;rw[h'];simp only[l0];simp[go_sem,c0]) hk
  |3,_,ho,ev,hk=>have l0:a'.eval (.tmp 3)=Pt mb 0:=(ev0 3 (by decide)).trans (hA.at 3 _ (by simp));have c0:=g1.cell hmb;exact A8 ho hw (by simp[base]) (p:=Op.load 3 (Operand.tmp 3)) (by kernel_rfl) (A9 F0 (by decide) ho) r1 n1 (x:=I m) rfl (fun o' h'=>by unfold execOp;rw[h'];simp only[l0];simp[go_sem,c0]) hk
  |4,_,ho,ev,hk =>
   have l0:a'.eval (.tmp 18)=I ca:=ev 2 (by decide) (by kernel_rfl);have l1:a'.eval (.tmp 19)=I m:=ev 3 (by decide) (by kernel_rfl)
   exact op_calls (f:=26) (fn:=Tryd.f26) (xs:=#[.tmp 18,.tmp 19]) (ats:=#[3,3]) (args:=#[I ca,I m]) ho hw (by simp[base]) (by kernel_rfl) (by simp only[List.map_toArray,List.map_cons,List.map_nil,l0,l1]) Tryd.func26 (by kernel_rfl) rfl (Du Bs (by simp[LT,Co]) Tryd.func26 rfl) (fun tmps=>⟨_,fun w=>results_tmp rfl _ _ _,fun w=>by simp[results,go_sem]⟩) r1 n1 (x:=I (Aq ca m)) rfl (fun τ=>wp_mono (which_body ca m hm0 (by omega) (Ap v1 τ 0) _ rfl) (D7 fun r u hq=>⟨hq.1,by rw[hq.2];exact gtape (grefl _)⟩)) hk
  |5,_,ho,ev,hk=>have l0:a'.eval (.tmp 16)=.slice (some ⟨sb,0,none⟩) m m:=ev 0 (by decide) (by kernel_rfl);have l1:a'.eval (.tmp 20)=I (Aq ca m):=ev 4 (by decide) (by kernel_rfl);have hw1:=F8 ca hm0;have hw2:((Aq ca m:Nat):Int)<(m:Int):=(by omega);have hw3:¬ ((Aq ca m:Nat):Int)<0:=(by omega);exact A8 ho hw (by simp[base]) (p:=Op.indexAddr 68 (Operand.tmp 16) (Operand.tmp 20)) (by kernel_rfl) (A9 F0 (by decide) ho) r1 n1 (x:=Pt sb (Aq ca m)) rfl (fun o' h'=>by unfold execOp;rw[h'];simp only[l0,l1];simp[go_sem,hw1,hw2,hw3]) hk
  |6,_,ho,ev,hk=>have l0:a'.eval (.tmp 21)=Pt sb (Aq ca m):=ev 5 (by decide) (by kernel_rfl);have c0:=g1.cell hob;exact A8 ho hw (by simp[base]) (p:=Op.load 46 (Operand.tmp 21)) (by kernel_rfl) (A9 F0 (by decide) ho) r1 n1 (x:=Pt ob 0) rfl (fun o' h'=>by unfold execOp;rw[h'];simp only[l0];simp[go_sem,c0]) hk
  |7,_,ho,ev,hk=>have l0:a'.eval (.tmp 0)=Pt tb 0:=(ev0 0 (by decide)).trans (hA.at 0 _ (by simp));exact A8 ho hw (by simp[base]) (p:=Op.move (Operand.tmp 0)) (by kernel_rfl) (A9 F0 (by decide) ho) r1 n1 (x:=Pt tb 0) rfl (fun o' h'=>by unfold execOp;rw[h'];simp only[l0];simp[go_sem]) hk
  |8,_,ho,ev,hk=>have l0:a'.eval (.tmp 5)=Pt bx 0:=(ev0 5 (by decide)).trans (hA.at 5 _ (by simp));exact A8 ho hw (by simp[base]) (p:=Op.fieldAddr 35 (Operand.tmp 5) 0) (by kernel_rfl) (A9 F0 (by decide) ho) r1 n1 (x:=Pt bx 0) rfl (fun o' h'=>by unfold execOp;rw[h'];simp only[l0];simp[go_sem]) hk
  |9,_,ho,ev,hk=>have l0:a'.eval (.tmp 24)=Pt bx 0:=ev 8 (by decide) (by kernel_rfl);have c0:=g1.cell b0;exact A8 ho hw (by simp[base]) (p:=Op.load 3 (Operand.tmp 24)) (by kernel_rfl) (A9 F0 (by decide) ho) r1 n1 (x:=I po) rfl (fun o' h'=>by unfold execOp;rw[h'];simp only[l0];simp[go_sem,c0]) hk
  |10,_,ho,ev,hk=>have l0:a'.eval (.tmp 25)=I po:=ev 9 (by decide) (by kernel_rfl);exact A8 ho hw (by simp[base]) (p:=Op.binOp BinOp.sub 3 (Operand.tmp 25) (Operand.const (Value.int IntKind.i64 1)) 3) (by kernel_rfl) (A9 F0 (by decide) ho) r1 n1 (x:=I (po - 1)) rfl (fun o' h'=>by unfold execOp;rw[h'];simp only[l0];simp[go_sem,hpo]) hk
  |11,_,ho,ev,hk=>have l0:a'.eval (.tmp 5)=Pt bx 0:=(ev0 5 (by decide)).trans (hA.at 5 _ (by simp));exact A8 ho hw (by simp[base]) (p:=Op.fieldAddr 35 (Operand.tmp 5) 2) (by kernel_rfl) (A9 F0 (by decide) ho) r1 n1 (x:=Pt bx 2) rfl (fun o' h'=>by unfold execOp;rw[h'];simp only[l0];simp[go_sem]) hk
  |12,_,ho,ev,hk=>have l0:a'.eval (.tmp 27)=Pt bx 2:=ev 11 (by decide) (by kernel_rfl);have c0:=g1.cell b2;exact A8 ho hw (by simp[base]) (p:=Op.load 3 (Operand.tmp 27)) (by kernel_rfl) (A9 F0 (by decide) ho) r1 n1 (x:=I cb) rfl (fun o' h'=>by unfold execOp;rw[h'];simp only[l0];simp[go_sem,c0]) hk
  |13,_,ho,ev,hk=>have l0:a'.eval (.tmp 26)=I (po - 1):=ev 10 (by decide) (by kernel_rfl);have l1:a'.eval (.tmp 28)=I cb:=ev 12 (by decide) (by kernel_rfl);have l2:a'.tmps[26]?.getD undef=I (po - 1):=(by simpa [Act.eval] using l0);have l3:a'.tmps[28]?.getD undef=I cb:=(by simpa [Act.eval] using l1);exact A8 ho hw (by simp[base]) (p:=Op.build 52 #[(0,Operand.tmp 26),(1,Operand.tmp 28)]) (by kernel_rfl) (A9 F0 (by decide) ho) r1 n1 (x:=.agg #[I (po - 1),I cb]) rfl (fun o' h'=>by unfold execOp;rw[h'];simp only[l0,l1];simp[go_sem,l2,l3]) hk
 ·intro v1 w1 o ho hw r1 n1 g1
  refine hN v1 w1 _ o ho hw ⟨(Ef _ _ _ _).trans hA.1,(Dt _ _ _ _).trans hA.2.1,?_⟩ r1 n1 g1
  have hsz:16+14≤a.tmps.size:=by rw[hA.1];decide
  intro p hp
  simp only[List.mem_cons,List.not_mem_nil,or_false] at hp
  rcases hp with rfl|rfl|rfl|rfl|rfl|rfl|rfl|rfl
  ·rw[Array.getD_eq_getD_getElem?,A6 _ _ _ _ _ hsz,if_neg (by simp),←Array.getD_eq_getD_getElem?];exact hA.2.2 (0,Pt tb 0) (by simp)
  ·rw[Array.getD_eq_getD_getElem?,A6 _ _ _ _ _ hsz,if_neg (by simp),←Array.getD_eq_getD_getElem?];exact hA.2.2 (2,Pt xb 0) (by simp)
  ·rw[Array.getD_eq_getD_getElem?,A6 _ _ _ _ _ hsz,if_neg (by simp),←Array.getD_eq_getD_getElem?];exact hA.2.2 (3,Pt mb 0) (by simp)
  ·rw[Array.getD_eq_getD_getElem?,A6 _ _ _ _ _ hsz,if_neg (by simp),←Array.getD_eq_getD_getElem?];exact hA.2.2 (5,Pt bx 0) (by simp)
  ·rw[Array.getD_eq_getD_getElem?,A6 _ _ _ _ _ hsz,if_neg (by simp),←Array.getD_eq_getD_getElem?];exact hA.2.2 (6,Pt rb 0) (by simp)
  ·rw[Array.getD_eq_getD_getElem?,A6 _ _ _ _ _ hsz,if_pos (by simp)];rfl
  ·rw[Array.getD_eq_getD_getElem?,A6 _ _ _ _ _ hsz,if_pos (by simp)];rfl
  ·rw[Array.getD_eq_getD_getElem?,A6 _ _ _ _ _ hsz,if_pos (by simp)];rfl
theorem p1y_wp {v:World}{tb xb mb bx rb:Nat}{po:Int}{a:Act}(hA:Fl 31 [(0,Pt tb 0),(2,Pt xb 0),(3,Pt mb 0),(5,Pt bx 0),(6,Pt rb 0)] a) (b0:v.cell? ⟨bx,0,none⟩=some (I po)) (h1:1≤po) (h4:po≤4):(seq1 (seq1 (seq2 pB))).wp Tryd.prog (fun e a' w'=>e=.normal∧Fl 31 [(14,.bool false),(0,Pt tb 0),(2,Pt xb 0),(3,Pt mb 0),(5,Pt bx 0),(6,Pt rb 0)] a'∧w'.heap=v.heap∧w'.os=v.os∧w'.output=v.output) a v:=by
 have f1:decide (po<1)=false:=decide_eq_false (by omega)
 have f2:decide (po > 4)=false:=decide_eq_false (by omega)
 obtain ⟨hsz,hd,hpp⟩:=hA
 obtain ⟨u,rfl,hg⟩:=litN hsz hd
 have u0:=(hg 0).symm.trans (hpp (0,Pt tb 0) (by simp))
 have u2:=(hg 2).symm.trans (hpp (2,Pt xb 0) (by simp))
 have u3:=(hg 3).symm.trans (hpp (3,Pt mb 0) (by simp))
 have u5:=(hg 5).symm.trans (hpp (5,Pt bx 0) (by simp))
 have u6:=(hg 6).symm.trans (hpp (6,Pt rb 0) (by simp))
 clear hg hpp hsz hd
 unfold pB Tryd.f25 seq1 seq2
 simp only[Option.getD_some,lits,Nat.reduceAdd,u0,u2,u3,u5,u6]
 clear u0 u2 u3 u5 u6
 go_wp2_with fail
 all_goals first
  |exact ⟨rfl,rfl,by
  intro p hp
  simp only[List.mem_cons,List.not_mem_nil,or_false] at hp
  rcases hp with rfl|rfl|rfl|rfl|rfl|rfl<;>rfl⟩
  |omega
theorem p1l_wp {v:World}{tb xb mb bx rb:Nat}{po:Int}{a:Act}(hA:Fl 31 [(0,Pt tb 0),(2,Pt xb 0),(3,Pt mb 0),(5,Pt bx 0),(6,Pt rb 0)] a) (b0:v.cell? ⟨bx,0,none⟩=some (I po)) (h1:po<1):(seq1 (seq1 (seq2 pB))).wp Tryd.prog (fun e a' w'=>e=.normal∧Fl 31 [(14,.bool true),(0,Pt tb 0),(2,Pt xb 0),(3,Pt mb 0),(5,Pt bx 0),(6,Pt rb 0)] a'∧w'.heap=v.heap∧w'.os=v.os∧w'.output=v.output) a v:=by
 have f1:decide (po<1)=true:=decide_eq_true h1
 obtain ⟨hsz,hd,hpp⟩:=hA
 obtain ⟨u,rfl,hg⟩:=litN hsz hd
 have u0:=(hg 0).symm.trans (hpp (0,Pt tb 0) (by simp))
 have u2:=(hg 2).symm.trans (hpp (2,Pt xb 0) (by simp))
 have u3:=(hg 3).symm.trans (hpp (3,Pt mb 0) (by simp))
 have u5:=(hg 5).symm.trans (hpp (5,Pt bx 0) (by simp))
 have u6:=(hg 6).symm.trans (hpp (6,Pt rb 0) (by simp))
 clear hg hpp hsz hd
 unfold pB Tryd.f25 seq1 seq2
 simp only[Option.getD_some,lits,Nat.reduceAdd,u0,u2,u3,u5,u6]
 clear u0 u2 u3 u5 u6
 go_wp2_with fail
 all_goals first
  |exact ⟨rfl,rfl,by
  intro p hp
  simp only[List.mem_cons,List.not_mem_nil,or_false] at hp
  rcases hp with rfl|rfl|rfl|rfl|rfl|rfl<;>rfl⟩
  |omega
theorem p1g_wp {v:World}{tb xb mb bx rb:Nat}{po:Int}{a:Act}(hA:Fl 31 [(0,Pt tb 0),(2,Pt xb 0),(3,Pt mb 0),(5,Pt bx 0),(6,Pt rb 0)] a) (b0:v.cell? ⟨bx,0,none⟩=some (I po)) (h1:4<po):(seq1 (seq1 (seq2 pB))).wp Tryd.prog (fun e a' w'=>e=.normal∧Fl 31 [(14,.bool true),(0,Pt tb 0),(2,Pt xb 0),(3,Pt mb 0),(5,Pt bx 0),(6,Pt rb 0)] a'∧w'.heap=v.heap∧w'.os=v.os∧w'.output=v.output) a v:=by
 have f1:decide (po<1)=false:=decide_eq_false (by omega)
 have f2:decide (po > 4)=true:=decide_eq_true h1
 obtain ⟨hsz,hd,hpp⟩:=hA
 obtain ⟨u,rfl,hg⟩:=litN hsz hd
 have u0:=(hg 0).symm.trans (hpp (0,Pt tb 0) (by simp))
 have u2:=(hg 2).symm.trans (hpp (2,Pt xb 0) (by simp))
 have u3:=(hg 3).symm.trans (hpp (3,Pt mb 0) (by simp))
 have u5:=(hg 5).symm.trans (hpp (5,Pt bx 0) (by simp))
 have u6:=(hg 6).symm.trans (hpp (6,Pt rb 0) (by simp))
 clear hg hpp hsz hd
 unfold pB Tryd.f25 seq1 seq2
 simp only[Option.getD_some,lits,Nat.reduceAdd,u0,u2,u3,u5,u6]
 clear u0 u2 u3 u5 u6
 go_wp2_with fail
 all_goals first
  |exact ⟨rfl,rfl,by
  intro p hp
  simp only[List.mem_cons,List.not_mem_nil,or_false] at hp
  rcases hp with rfl|rfl|rfl|rfl|rfl|rfl<;>rfl⟩
  |omega
theorem call_no {z:Nat->Option Nat}{Ch:Nat->Prop}{Stop:Goroutine->World->Prop}{main:Bool}{v w:World}{tb xb mb:Nat}{po ca cb cc:Int}(hpo:po<1∨4<po) (cs:List Frame) {bc:Frame}{ac:Act}{ops:Array Oper}{q:Nat}{rest:List Nat}{oc:Oper}{k0:List Item}(hoc:ops[q]? = some oc) (hvw:Rel z v w) (hn:Ah Ch v)
 (hk:∀ v' w',Rel z v' w'->Ah Ch v'->Grows v v'->GoesI Tryd.prog main (DT (ScZ z) Ch) Stop (G (bc.at (ac.put oc.dst (.agg #[I 1,I 0])) (.inRegion ops rest :: k0)) cs) w') (code:Code) (hc:Tryd.f25.body=some code) :
 GoesI Tryd.prog main (DT (ScZ z) Ch) Stop (G ((base 25).at { tmps:=#[Pt tb 0,.agg #[I po,I ca,I cb,I cc],Pt xb 0,Pt mb 0]++Array.replicate 27 undef,defers:=[] } [.code code]) (bc.at ac (.inRegion ops (q :: rest) :: k0) :: cs)) w:=by
 have hw0:code=.seq (seq1 pB) (.seq (.seq (seq1 (seq1 (seq2 pB))) (seq2 (seq1 (seq2 pB)))) (.seq (.region 3 pO3 true) .ret)):=by
  rw[show code=pB by unfold pB;rw[hc];rfl];exact ePB
 subst hw0
 clear hc
 refine Ac (Aa _ _) ?_
 refine Am (z:=z) (wr:=true) (L:=LT) (I:=Ah Ch) hE Bs Al (fun v v' w w' es hi hr ho he=>Az v v' w w' es hi hr ho he) hvw fine_p0 rfl (by simp[base]) hn
  (Q:=fun a w'=>Fl 31 [(0,Pt tb 0),(2,Pt xb 0),(3,Pt mb 0),(5,Pt v.heap.size 0),(6,Pt (v.heap.size+1) 0)] a∧w'.heap=((v.heap.push (.cells #[I po,I ca,I cb,I cc] 35)).push (.cells #[I 0,I 0] 38))∧w'.os=v.os∧w'.output=v.output) (fun τ=>?_) ?_
 ·unfold pB Tryd.f25 seq1
  simp only[Option.getD_some,Array.replicate_succ,Array.replicate_zero,List.push_toArray,List.append_toArray,List.nil_append,List.cons_append]
  go_wp2_with fail
  exact ⟨⟨rfl,rfl,by
   intro p hp
   simp only[List.mem_cons,List.not_mem_nil,or_false] at hp
   rcases hp with rfl|rfl|rfl|rfl|rfl<;>rfl⟩,rfl,rfl,rfl⟩
 rintro a' v' w' ⟨hA,hv1,hv2,hv3⟩ hr' hn' -
 have hsz:v'.heap.size=v.heap.size+2:=by rw[hv1];simp
 have hg:Grows v v':=⟨by omega,fun b hb=>by rw[hv1,Array.getElem?_push,if_neg (by simp;omega),Array.getElem?_push,if_neg (by omega)],hv2,hv3⟩
 have hb0:v'.heap[v.heap.size]? = some (.cells #[I po,I ca,I cb,I cc] 35 (0,0)):=by rw[hv1,Array.getElem?_push,if_neg (by simp<;>omega),Array.getElem?_push,if_pos (by simp)]
 have hb1:v'.heap[v.heap.size+1]? = some (.cells #[I 0,I 0] 38 (0,0)):=by rw[hv1,Array.getElem?_push,if_pos (by simp)]
 have c0:v'.cell? ⟨v.heap.size,0,none⟩=some (I po):=by simp[World.cell?,hb0]
 have c1:v'.cell? ⟨v.heap.size,1,none⟩=some (I ca):=by simp[World.cell?,hb0]
 have c2:v'.cell? ⟨v.heap.size,2,none⟩=some (I cb):=by simp[World.cell?,hb0]
 clear hv1 hv2 hv3
 have e1:seq2 (seq1 (seq2 pB))=.cond (.tmp 14) (Gz (seq2 (seq1 (seq2 pB)))) .skip:=by kernel_rfl
 refine Ac (Aa _ _) ?_
 refine Ac (Aa _ _) ?_
 rw[e1]
 refine Am (z:=z) (wr:=true) (L:=LT) (I:=Ah Ch) hE Bs Al (fun v v' w w' es hi hr ho he=>Az v v' w w' es hi hr ho he) hr' fine_p1 hA.2.1 (by simp[base]) hn'
  (Q:=fun a w''=>Fl 31 [(14,.bool true),(0,Pt tb 0),(2,Pt xb 0),(3,Pt mb 0),(5,Pt v.heap.size 0),(6,Pt (v.heap.size+1) 0)] a∧w''.heap=v'.heap∧w''.os=v'.os∧w''.output=v'.output) (fun τ=>?_) ?_
 ·rcases hpo with h|h
  ·exact p1l_wp (v:=Ap v' τ 0) hA c0 h
  ·exact p1g_wp (v:=Ap v' τ 0) hA c0 h
 rintro a2 v2 w2 ⟨hA2,k1,k2,k3⟩ r2 n2 -
 have hpb:v2.heap[v.heap.size+1]? = some (.cells #[I 0,I 0] 38 (0,0)):=by rw[k1];exact hb1
 have g2:Grows v v2:=D9 hg ⟨by rw[k1];exact Nat.le_refl _,fun b _=>by rw[k1],k2,k3⟩
 have hgr:Grows v (ansW v2 (v.heap.size+1) 1 0):=⟨by rw[ans_size];exact g2.size,fun b hb=>by rw[ans_far _ _ _ _ _ (by omega)];exact g2.old b hb,g2.os,g2.output⟩
 have hk:=fun w' r' n'=>hk (ansW v2 (v.heap.size+1) 1 0) w' r' n' hgr
 clear hgr g2 hg hsz hb0 hb1 c0 c1 c2 k1 k2 k3 hr' hn' hvw hn hA
 have hA:=hA2
 clear hA2
 generalize v.heap.size+1=rb at hpb hk hA
 generalize v.heap.size=bx at hA
 obtain ⟨hsz,hd,hpp⟩:=hA
 obtain ⟨u,rfl,hg⟩:=litN hsz hd
 have u14:=(hg 14).symm.trans (hpp (14,.bool true) (by simp))
 have u0:=(hg 0).symm.trans (hpp (0,Pt tb 0) (by simp))
 have u2:=(hg 2).symm.trans (hpp (2,Pt xb 0) (by simp))
 have u3:=(hg 3).symm.trans (hpp (3,Pt mb 0) (by simp))
 have u5:=(hg 5).symm.trans (hpp (5,Pt bx 0) (by simp))
 have u6:=(hg 6).symm.trans (hpp (6,Pt rb 0) (by simp))
 clear hg hpp hsz hd
 unfold pB Tryd.f25 seq1 seq2 Gz
 simp only[Option.getD_some,lits,Nat.reduceAdd,u14,u0,u2,u3,u5,u6]
 clear u14 u0 u2 u3 u5 u6
 refine Au (Aa _ _) (t:=true) (by simp[Act.eval]) ?_
 simp only[if_true,if_false,Bool.false_eq_true]
 refine Ac (Aa _ _) ?_
 refine Ae (Aa _ _) ?_
 simp only[List.size_toArray,List.length_cons,List.length_nil,Nat.reduceAdd,Nat.zero_add,List.range,List.range.loop]
 iterate 1
  (refine Af rfl rfl (by decide) (fun d K hK=>?_)
   go_simp
   refine hK _ _ ⟨Ak (fun e he=>?_),GoesI.at ?_ d⟩
   ·have hm:=mem_listed he
    simp[go_sem, *] at hm
    try exact ⟨_,_,hm⟩
    try (rcases hm with rfl|rfl<;>exact ⟨_,_,rfl⟩)
   clear hK K)
 have q0:v2.cell? ⟨rb,0,none⟩=some (I 0):=by simp[World.cell?,hpb]
 have q1:v2.cell? ⟨rb,1,none⟩=some (I 0):=by simp[World.cell?,hpb]
 have p0:v2.frozen? ⟨rb,0,none⟩=false:=by simp[World.frozen?,hpb]
 have p1:v2.frozen? ⟨rb,1,none⟩=false:=by simp[World.frozen?,hpb]
 have hrow:=Eo hpb (1) (0)
 refine Bv (L:=LT) rfl rfl (by decide) (A7 Bi extT (by kernel_rfl)) r2 n2 (v':=ansW v2 rb (1) (0)) (by unfold ansW;go_simp) rfl (fun w9 r9 n9=>?_)
 refine Ab (Aa _ _) ?_
 refine GoesI.ctl rfl (fun _=>stepG_ret') (Aa _ _) ?_
 refine Bt (f:=25) (fn:=Tryd.f25) (x:=.agg #[I (1),I (0)]) r9 n9 Tryd.func25 rfl hoc ?_ (fun w' r'=>hk w' r' n9)
 generalize ansW v2 rb (1) (0)=V at hrow
 have k0:V.cell? ⟨rb,0,none⟩=some (I (1)):=by simp[World.cell?,hrow]
 have k1:V.cell? ⟨rb,1,none⟩=some (I (0)):=by simp[World.cell?,hrow]
 simp[results,go_sem,Tryd.f25, *]
theorem call_in {z:Nat->Option Nat}{Ch:Nat->Prop}{Stop:Goroutine->World->Prop}{main:Bool}{v w:World}{tb xb mb:Nat}{po ca cb cc:Int}{sb m ob:Nat}(h1:1≤po) (h4:po≤4) (hm0:0<m) (hm1:m≤1000) (hx:v.cell? ⟨xb,0,none⟩=some (.slice (some ⟨sb,0,none⟩) m m)) (hmb:v.cell? ⟨mb,0,none⟩=some (I m)) (hob:v.cell? ⟨sb,Aq ca m,none⟩=some (Pt ob 0)) (cs:List Frame) (hvw:Rel z v w) (hn:Ah Ch v)
 (hk:∀ a v' w' o,Fl 31 [(6,Pt (v.heap.size+1) 0)] a->Rel z v' w'->Ah Ch v'->Grows v v'->v'.heap[v.heap.size+1]? = some (.cells #[I 0,I 0] 38 (0,0))->pO3[14]? = some o->o.dst=some 30->∀ code,Tryd.f19.body=some code ->
   GoesI Tryd.prog main (DT (ScZ z) Ch) Stop (G ((base 19).at { tmps:=#[Pt ob 0,Pt tb 0,.agg #[I (po - 1),I cb]]++Array.replicate 11 undef,defers:=[] } [.code code]) ((base 25).at a (.inRegion pO3 [14,15] :: [.code .ret]) :: cs)) w') (code:Code) (hc:Tryd.f25.body=some code) :
 GoesI Tryd.prog main (DT (ScZ z) Ch) Stop (G ((base 25).at { tmps:=#[Pt tb 0,.agg #[I po,I ca,I cb,I cc],Pt xb 0,Pt mb 0]++Array.replicate 27 undef,defers:=[] } [.code code]) cs) w:=by
 have hw0:code=.seq (seq1 pB) (.seq (.seq (seq1 (seq1 (seq2 pB))) (seq2 (seq1 (seq2 pB)))) (.seq (.region 3 pO3 true) .ret)):=by
  rw[show code=pB by unfold pB;rw[hc];rfl];exact ePB
 subst hw0
 clear hc
 refine Ac (Aa _ _) ?_
 refine Am (z:=z) (wr:=true) (L:=LT) (I:=Ah Ch) hE Bs Al (fun v v' w w' es hi hr ho he=>Az v v' w w' es hi hr ho he) hvw fine_p0 rfl (by simp[base]) hn
  (Q:=fun a w'=>Fl 31 [(0,Pt tb 0),(2,Pt xb 0),(3,Pt mb 0),(5,Pt v.heap.size 0),(6,Pt (v.heap.size+1) 0)] a∧w'.heap=((v.heap.push (.cells #[I po,I ca,I cb,I cc] 35)).push (.cells #[I 0,I 0] 38))∧w'.os=v.os∧w'.output=v.output) (fun τ=>?_) ?_
 ·unfold pB Tryd.f25 seq1
  simp only[Option.getD_some,Array.replicate_succ,Array.replicate_zero,List.push_toArray,List.append_toArray,List.nil_append,List.cons_append]
  go_wp2_with fail
  exact ⟨⟨rfl,rfl,by
   intro p hp
   simp only[List.mem_cons,List.not_mem_nil,or_false] at hp
   rcases hp with rfl|rfl|rfl|rfl|rfl<;>rfl⟩,rfl,rfl,rfl⟩
 rintro a' v' w' ⟨hA,hv1,hv2,hv3⟩ hr' hn' -
 have hsz:v'.heap.size=v.heap.size+2:=by rw[hv1];simp
 have hg:Grows v v':=⟨by omega,fun b hb=>by rw[hv1,Array.getElem?_push,if_neg (by simp;omega),Array.getElem?_push,if_neg (by omega)],hv2,hv3⟩
 have hb0:v'.heap[v.heap.size]? = some (.cells #[I po,I ca,I cb,I cc] 35 (0,0)):=by rw[hv1,Array.getElem?_push,if_neg (by simp<;>omega),Array.getElem?_push,if_pos (by simp)]
 have hb1:v'.heap[v.heap.size+1]? = some (.cells #[I 0,I 0] 38 (0,0)):=by rw[hv1,Array.getElem?_push,if_pos (by simp)]
 have c0:v'.cell? ⟨v.heap.size,0,none⟩=some (I po):=by simp[World.cell?,hb0]
 have c1:v'.cell? ⟨v.heap.size,1,none⟩=some (I ca):=by simp[World.cell?,hb0]
 have c2:v'.cell? ⟨v.heap.size,2,none⟩=some (I cb):=by simp[World.cell?,hb0]
 clear hv1 hv2 hv3
 have e1:seq2 (seq1 (seq2 pB))=.cond (.tmp 14) (Gz (seq2 (seq1 (seq2 pB)))) .skip:=by kernel_rfl
 refine Ac (Aa _ _) ?_
 refine Ac (Aa _ _) ?_
 rw[e1]
 refine Am (z:=z) (wr:=true) (L:=LT) (I:=Ah Ch) hE Bs Al (fun v v' w w' es hi hr ho he=>Az v v' w w' es hi hr ho he) hr' fine_p1 hA.2.1 (by simp[base]) hn'
  (Q:=fun a w''=>Fl 31 [(14,.bool false),(0,Pt tb 0),(2,Pt xb 0),(3,Pt mb 0),(5,Pt v.heap.size 0),(6,Pt (v.heap.size+1) 0)] a∧w''.heap=v'.heap∧w''.os=v'.os∧w''.output=v'.output) (fun τ=>p1y_wp (v:=Ap v' τ 0) hA c0 h1 h4) ?_
 rintro a2 v2 w2 ⟨hA2,k1,k2,k3⟩ r2 n2 -
 have g1:Grows v' v2:=⟨by rw[k1];exact Nat.le_refl _,fun b _=>by rw[k1],k2,k3⟩
 have g2:Grows v v2:=D9 hg g1
 refine Au (Aa _ _) (t:=false) (hA2.at 14 _ (by simp)) ?_
 simp only[if_true,if_false,Bool.false_eq_true]
 refine Bo (Aa _ _) ?_
 refine Ac (Aa _ _) ?_
 refine p3_pre (main:=main) (rb:=v.heap.size+1) tb xb mb v.heap.size sb m ob po ca cb (hA2.sub (by simp)) _ cs hm0 hm1 (by rw[Pl.i64_wrap];exact Pl.wrap_id (by unfold Pl.Fits;omega)) (g2.cell hx) (g2.cell hmb) (g2.cell hob) (g1.cell c0) (g1.cell c1) (g1.cell c2) r2 n2 (fun v3 w3 a3 o ho hw hA3 r3 n3 g3=>?_)
 refine Bj (f:=19) (fn:=Tryd.f19) (args:=#[Pt ob 0,Pt tb 0,.agg #[I (po - 1),I cb]]) (Aa _ _) ho (hw _) (by simp[base]) (op_at (p:=.call { callee:=.value (.func 19),args:=#[.tmp 22,.tmp 23,.tmp 29],argTypes:=#[46,48,52] }) (by kernel_rfl) ho) (by simp only[List.map_toArray,List.map_cons,List.map_nil];rw[hA3.at 22 (Pt ob 0) (by simp),hA3.at 23 (Pt tb 0) (by simp),hA3.at 29 (.agg #[I (po - 1),I cb]) (by simp)]) Tryd.func19 (by kernel_rfl) rfl ?_
 exact hk a3 v3 w3 o (hA3.sub (by simp)) r3 n3 (D9 g2 g3) (by rw[g3.old _ (by rw[k1];omega),k1];exact hb1) ho (dst_at (by kernel_rfl) ho) _ rfl
theorem call_back {z:Nat->Option Nat}{Ch:Nat->Prop}{Stop:Goroutine->World->Prop}{main:Bool}{v w:World}{rb:Nat}{e x:Int}{a:Act}(hA:Fl 31 [(6,Pt rb 0)] a) (cs:List Frame) {bc:Frame}{ac:Act}{ops:Array Oper}{q:Nat}{rest:List Nat}{oc:Oper}{k0:List Item}(hoc:ops[q]? = some oc) (hpb:v.heap[rb]? = some (.cells #[I 0,I 0] 38 (0,0))) (hvw:Rel z v w) (hn:Ah Ch v)
 (hk:∀ w',Rel z (ansW v rb e x) w'->Ah Ch (ansW v rb e x)->GoesI Tryd.prog main (DT (ScZ z) Ch) Stop (G (bc.at (ac.put oc.dst (.agg #[I e,I x])) (.inRegion ops rest :: k0)) cs) w') :
 GoesI Tryd.prog main (DT (ScZ z) Ch) Stop (G (pFr a (.agg #[I e,I x])) (bc.at ac (.inRegion ops (q :: rest) :: k0) :: cs)) w:=by
 obtain ⟨hsz,hd,hpp⟩:=hA
 obtain ⟨u,rfl,hg⟩:=litN hsz hd
 have u6:=(hg 6).symm.trans (hpp (6,Pt rb 0) (by simp))
 clear hg hpp hsz hd
 unfold pFr pO3 pB Tryd.f25 seq1 seq2 opsOf
 simp only[Option.getD_some,lits,Nat.reduceAdd,u6]
 clear u6
 walk_nrm
 have q0:v.cell? ⟨rb,0,none⟩=some (I 0):=by simp[World.cell?,hpb]
 have q1:v.cell? ⟨rb,1,none⟩=some (I 0):=by simp[World.cell?,hpb]
 have p0:v.frozen? ⟨rb,0,none⟩=false:=by simp[World.frozen?,hpb]
 have p1:v.frozen? ⟨rb,1,none⟩=false:=by simp[World.frozen?,hpb]
 have hrow:=Eo hpb (e) (x)
 refine Bv (L:=LT) rfl rfl (by decide) (A7 Bi extT (by kernel_rfl)) hvw hn (v':=ansW v rb (e) (x)) (by unfold ansW;go_simp) rfl (fun w9 r9 n9=>?_)
 refine Ab (Aa _ _) ?_
 refine GoesI.ctl rfl (fun _=>stepG_ret') (Aa _ _) ?_
 refine Bt (f:=25) (fn:=Tryd.f25) (x:=.agg #[I (e),I (x)]) r9 n9 Tryd.func25 rfl hoc ?_ (fun w' r'=>hk w' r' n9)
 generalize ansW v rb (e) (x)=V at hrow
 have k0:V.cell? ⟨rb,0,none⟩=some (I (e)):=by simp[World.cell?,hrow]
 have k1:V.cell? ⟨rb,1,none⟩=some (I (x)):=by simp[World.cell?,hrow]
 simp[results,go_sem,Tryd.f25, *]
def cmO (k b:Int):Int×Int:=if k=0 then (0,b) else if k=1 then (70,b) else (71,b)
def lO (o:Nat) (k b:Int) (d i:Nat):List Int:=[(o:Int),k,b,(d:Int),(i:Int)]
def nxO (o:Nat) (k b:Int) (d i:Nat) (a:Int×Int):Nx :=
 match d with
 |0=>.ans a.1 a.2
 |d+1=>.turn 2 (2*o+1) (5,lO o k b d i++[70,a.1])
def Fb (o:Nat) (k b:Int) (d i:Nat):Nx:=if k=3 then .turn 1 (2*o) (1,lO o k b (d+1) i) else .turn 2 (2*o+1) (5,lO o k b d i++[(cmO k b).1,(cmO k b).2])
def lookO (o:Nat) (k b:Int) (d i:Nat) (x:Int):Nx :=
 if R1.stI x=2 then .turn 1 (2*o+1) (2,lO o k b d i++[R1.codI x]) else if R1.stI x=0 then .turn 4 (2*o) (3,lO o k b d i++[x]) else if R1.whoI x=(i:Int) then nxO o k b d i (72,0) else .wait (2*o) (4,lO o k b d i)
def oA (q:Q):Nat:=(q.2.getD 0 0).toNat
def kA (q:Q):Int:=q.2.getD 1 0
def bA (q:Q):Int:=q.2.getD 2 0
def dA (q:Q):Nat:=(q.2.getD 3 0).toNat
def iA (q:Q):Nat:=(q.2.getD 4 0).toNat
def eA (q:Q):Int:=q.2.getD 5 0
def xA (q:Q):Int:=q.2.getD 6 0
def mcO (m:Nat):Mc where
 start i c:=if 1≤c.po∧c.po≤4 then .turn 1 (2*Aq c.ca m) (1,lO (Aq c.ca m) (c.po - 1) c.cb 0 i) else .ans 1 0
 turn q x :=
  if q.1=1 then ((x,x),x,lookO (oA q) (kA q) (bA q) (dA q) (iA q) x)
  else if q.1=2 then ((x,x),x,nxO (oA q) (kA q) (bA q) (dA q) (iA q) (eA q,x))
  else if q.1=3 then (if x=eA q then ((eA q,R1.Bh 1 (iA q) 0),R1.Bh 1 (iA q) 0,Fb (oA q) (kA q) (bA q) (dA q) (iA q)) else ((x,x),x,.turn 1 (2*oA q) (1,lO (oA q) (kA q) (bA q) (dA q) (iA q))))
  else if q.1=5 then ((x,xA q),xA q,.turn 2 (2*oA q) (6,lO (oA q) (kA q) (bA q) (dA q) (iA q)++[eA q,xA q]))
  else ((x,R1.Bh 2 0 (eA q)),R1.Bh 2 0 (eA q),nxO (oA q) (kA q) (bA q) (dA q) (iA q) (eA q,xA q))
 woke q:=.turn 1 (2*oA q) (1,lO (oA q) (kA q) (bA q) (dA q) (iA q))
 stuck q:=nxO (oA q) (kA q) (bA q) (dA q) (iA q) (4,0)
 stkN q j q' h:=by
  unfold nxO at h
  split at h<;>cases h
section
variable {m o:Nat}{k b:Int}{d i:Nat}{x:Int}
theorem set_nx (s:Bool) (a:Int×Int):(mcO m).set s (nxO o k b d i a)=nxO o k b d i a:=by
 cases d<;>rfl
theorem set_come (s:Bool):(mcO m).set s (Fb o k b d i)=Fb o k b d i:=by
 unfold Fb
 split<;>rfl
theorem turn1:(mcO m).turn (1,lO o k b d i) x=((x,x),x,lookO o k b d i x):=by simp[mcO,lO,oA,kA,bA,dA,iA]
theorem turn2 (c:Int):(mcO m).turn (2,lO o k b d i++[c]) x=((x,x),x,nxO o k b d i (c,x)):=by simp[mcO,lO,oA,kA,bA,dA,iA,eA]
theorem turn3 (c:Int):(mcO m).turn (3,lO o k b d i++[c]) x=if x=c then ((c,R1.Bh 1 i 0),R1.Bh 1 i 0,Fb o k b d i) else ((x,x),x,.turn 1 (2*o) (1,lO o k b d i)):=by simp[mcO,lO,oA,kA,bA,dA,iA,eA]
theorem turn5 (e y:Int):(mcO m).turn (5,lO o k b d i++[e,y]) x=((x,y),y,.turn 2 (2*o) (6,lO o k b d i++[e,y])):=by simp[mcO,lO,oA,kA,bA,dA,iA,eA,xA]
theorem turn6 (e y:Int):(mcO m).turn (6,lO o k b d i++[e,y]) x=((x,R1.Bh 2 0 e),R1.Bh 2 0 e,nxO o k b d i (e,y)):=by simp[mcO,lO,oA,kA,bA,dA,iA,eA,xA]
theorem woke4:(mcO m).woke (4,lO o k b d i)=.turn 1 (2*o) (1,lO o k b d i):=by simp[mcO,lO,oA,kA,bA,dA,iA]
theorem stuck4:(mcO m).stuck (4,lO o k b d i)=nxO o k b d i (4,0):=by simp[mcO,lO,oA,kA,bA,dA,iA]
end
noncomputable def kB:Code:=Tryd.f49.body.getD .skip
noncomputable def k4:Code:=seq2 (seq2 (seq2 kB))
noncomputable def kO3:Array Oper:=opsOf (seq1 (seq2 (seq2 kB)))
noncomputable def kO4:Array Oper:=opsOf (seq1 k4)
noncomputable def kVal (a:Act) (r:Value):Frame:=(base 49).at (a.put (some 18) r) [.inRegion kO3 [],.code k4]
noncomputable def kWord (a:Act) (r:Value):Frame:=(base 49).at (a.put (some 27) r) [.inRegion kO4 [],.code (seq2 k4)]
theorem eKB:kB=.seq (seq1 kB) (.seq (.seq (seq1 (seq1 (seq2 kB))) (seq2 (seq1 (seq2 kB)))) (.seq (.region 3 kO3 true) k4)):=by kernel_rfl
theorem eK4:k4=.seq (.region 4 kO4 true) (seq2 k4):=by kernel_rfl
theorem fine_k0:As Tryd.prog true LT (seq1 kB):=Ba Bi extT (by kernel_rfl)
theorem fine_k1:As Tryd.prog true LT (seq1 (seq1 (seq2 kB))):=Ba Bi extT (by kernel_rfl)
def val_k3 (kp tb bx cv:Nat) (x:Int):Nat->Value
 |0=>Pt kp 0
 |1=>Pt kp 0
 |2=>Pt kp 1
 |3=>Pt cv 0
 |4=>Pt tb 0
 |5=>Pt bx 1
 |6=>I x
 |_=>undef
theorem reg_k3:regOk kO3 7 11=true:=by kernel_rfl
theorem fin_k3:((kO3.extract 0 7).all fun o=>Dw Tryd.prog true o.op||Ex Co F3 o.op)=true:=by kernel_rfl
theorem k3_pre {z:Nat->Option Nat}{Ch:Nat->Prop}{Stop:Goroutine->World->Prop}{main:Bool}{v w:World}(kp tb bx cv:Nat) (x:Int) {rb:Nat}{a:Act}(hA:Fl 29 [(0,Pt kp 0),(1,Pt tb 0),(5,Pt bx 0),(6,Pt rb 0)] a) (k:List Item) (cs:List Frame) (h1:v.cell? ⟨kp,1,none⟩=some (Pt cv 0)) (hb:v.cell? ⟨bx,1,none⟩=some (I x)) (hvw:Rel z v w) (hn:Ah Ch v)
 (hN:∀ v1 w1 a' o,kO3[7]? = some o->(∀ y,Region.wanted o y=true)->Fl 29 [(0,Pt kp 0),(1,Pt tb 0),(5,Pt bx 0),(6,Pt rb 0),(14,Pt cv 0),(15,Pt tb 0),(17,I x)] a'->Rel z v1 w1->Ah Ch v1->Grows v v1->GoesI Tryd.prog main (DT (ScZ z) Ch) Stop (G ((base 49).at a' (.inRegion kO3 [7] :: k)) cs) w1) :
 GoesI Tryd.prog main (DT (ScZ z) Ch) Stop (G ((base 49).at a (.code (.region 3 kO3 true) :: k)) cs) w:=by
 refine G9 (val:=val_k3 kp tb bx cv x) reg_k3 (by rw[hA.1];decide) hvw hn ?_ ?_
 ·intro i0 o rest a' v1 w1 hi ho hw ev ev0 r1 n1 g1 hk
  match i0,hi,ho,ev,hk with
  |0,_,ho,ev,hk=>have l0:a'.eval (.tmp 0)=Pt kp 0:=(ev0 0 (by decide)).trans (hA.at 0 _ (by simp));exact A8 ho hw (by simp[base]) (p:=Op.move (Operand.tmp 0)) (by kernel_rfl) (A9 fin_k3 (by decide) ho) r1 n1 (x:=Pt kp 0) rfl (fun o' h'=>by unfold execOp;rw[h'];simp only[l0];simp[go_sem]) hk
  |1,_,ho,ev,hk=>have l0:a'.eval (.tmp 11)=Pt kp 0:=ev 0 (by decide) (by kernel_rfl);exact A8 ho hw (by simp[base]) (p:=Op.nilCheck (Operand.tmp 11)) (by kernel_rfl) (A9 fin_k3 (by decide) ho) r1 n1 (x:=Pt kp 0) rfl (fun o' h'=>by unfold execOp;rw[h'];simp only[l0];simp[go_sem]) hk
  |2,_,ho,ev,hk=>have l0:a'.eval (.tmp 12)=Pt kp 0:=ev 1 (by decide) (by kernel_rfl);exact A8 ho hw (by simp[base]) (p:=Op.fieldAddr 103 (Operand.tmp 12) 1) (by kernel_rfl) (A9 fin_k3 (by decide) ho) r1 n1 (x:=Pt kp 1) rfl (fun o' h'=>by unfold execOp;rw[h'];simp only[l0];simp[go_sem]) hk
  |3,_,ho,ev,hk=>have l0:a'.eval (.tmp 13)=Pt kp 1:=ev 2 (by decide) (by kernel_rfl);have c0:=g1.cell h1;exact A8 ho hw (by simp[base]) (p:=Op.load 101 (Operand.tmp 13)) (by kernel_rfl) (A9 fin_k3 (by decide) ho) r1 n1 (x:=Pt cv 0) rfl (fun o' h'=>by unfold execOp;rw[h'];simp only[l0];simp[go_sem,c0]) hk
  |4,_,ho,ev,hk=>have l0:a'.eval (.tmp 1)=Pt tb 0:=(ev0 1 (by decide)).trans (hA.at 1 _ (by simp));exact A8 ho hw (by simp[base]) (p:=Op.move (Operand.tmp 1)) (by kernel_rfl) (A9 fin_k3 (by decide) ho) r1 n1 (x:=Pt tb 0) rfl (fun o' h'=>by unfold execOp;rw[h'];simp only[l0];simp[go_sem]) hk
  |5,_,ho,ev,hk=>have l0:a'.eval (.tmp 5)=Pt bx 0:=(ev0 5 (by decide)).trans (hA.at 5 _ (by simp));exact A8 ho hw (by simp[base]) (p:=Op.fieldAddr 38 (Operand.tmp 5) 1) (by kernel_rfl) (A9 fin_k3 (by decide) ho) r1 n1 (x:=Pt bx 1) rfl (fun o' h'=>by unfold execOp;rw[h'];simp only[l0];simp[go_sem]) hk
  |6,_,ho,ev,hk=>have l0:a'.eval (.tmp 16)=Pt bx 1:=ev 5 (by decide) (by kernel_rfl);have c0:=g1.cell hb;exact A8 ho hw (by simp[base]) (p:=Op.load 3 (Operand.tmp 16)) (by kernel_rfl) (A9 fin_k3 (by decide) ho) r1 n1 (x:=I x) rfl (fun o' h'=>by unfold execOp;rw[h'];simp only[l0];simp[go_sem,c0]) hk
 ·intro v1 w1 o ho hw r1 n1 g1
  refine hN v1 w1 _ o ho hw ⟨(Ef _ _ _ _).trans hA.1,(Dt _ _ _ _).trans hA.2.1,?_⟩ r1 n1 g1
  have hsz:11+7≤a.tmps.size:=by rw[hA.1];decide
  intro p hp
  simp only[List.mem_cons,List.not_mem_nil,or_false] at hp
  rcases hp with rfl|rfl|rfl|rfl|rfl|rfl|rfl
  ·rw[Array.getD_eq_getD_getElem?,A6 _ _ _ _ _ hsz,if_neg (by simp),←Array.getD_eq_getD_getElem?];exact hA.2.2 (0,Pt kp 0) (by simp)
  ·rw[Array.getD_eq_getD_getElem?,A6 _ _ _ _ _ hsz,if_neg (by simp),←Array.getD_eq_getD_getElem?];exact hA.2.2 (1,Pt tb 0) (by simp)
  ·rw[Array.getD_eq_getD_getElem?,A6 _ _ _ _ _ hsz,if_neg (by simp),←Array.getD_eq_getD_getElem?];exact hA.2.2 (5,Pt bx 0) (by simp)
  ·rw[Array.getD_eq_getD_getElem?,A6 _ _ _ _ _ hsz,if_neg (by simp),←Array.getD_eq_getD_getElem?];exact hA.2.2 (6,Pt rb 0) (by simp)
  ·rw[Array.getD_eq_getD_getElem?,A6 _ _ _ _ _ hsz,if_pos (by simp)];rfl
  ·rw[Array.getD_eq_getD_getElem?,A6 _ _ _ _ _ hsz,if_pos (by simp)];rfl
  ·rw[Array.getD_eq_getD_getElem?,A6 _ _ _ _ _ hsz,if_pos (by simp)];rfl
def val_k4 (kp tb bx cw:Nat) (e:Int):Nat->Value
 |0=>Pt kp 0
 |1=>Pt kp 0
 |2=>Pt kp 0
 |3=>Pt cw 0
 |4=>Pt tb 0
 |5=>Pt bx 0
 |6=>I e
 |7=>I (R1.Bh 2 0 e)
 |_=>undef
theorem reg_k4:regOk kO4 8 19=true:=by kernel_rfl
theorem fin_k4:((kO4.extract 0 8).all fun o=>Dw Tryd.prog true o.op||Ex Co F3 o.op)=true:=by kernel_rfl
theorem k4_pre {z:Nat->Option Nat}{Ch:Nat->Prop}{Stop:Goroutine->World->Prop}{main:Bool}{v w:World}(kp tb bx cw:Nat) (e:Int) {rb:Nat}{a:Act}(hA:Fl 29 [(0,Pt kp 0),(1,Pt tb 0),(5,Pt bx 0),(6,Pt rb 0)] a) (k:List Item) (cs:List Frame) (hF:R1.Flds v) (h1:v.cell? ⟨kp,0,none⟩=some (Pt cw 0)) (hb:v.cell? ⟨bx,0,none⟩=some (I e)) (hvw:Rel z v w) (hn:Ah Ch v)
 (hN:∀ v1 w1 a' o,kO4[8]? = some o->(∀ y,Region.wanted o y=true)->Fl 29 [(0,Pt kp 0),(1,Pt tb 0),(5,Pt bx 0),(6,Pt rb 0),(22,Pt cw 0),(23,Pt tb 0),(26,I (R1.Bh 2 0 e))] a'->Rel z v1 w1->Ah Ch v1->Grows v v1->GoesI Tryd.prog main (DT (ScZ z) Ch) Stop (G ((base 49).at a' (.inRegion kO4 [8] :: k)) cs) w1) :
 GoesI Tryd.prog main (DT (ScZ z) Ch) Stop (G ((base 49).at a (.code (.region 4 kO4 true) :: k)) cs) w:=by
 refine G9 (val:=val_k4 kp tb bx cw e) reg_k4 (by rw[hA.1];decide) hvw hn ?_ ?_
 ·intro i0 o rest a' v1 w1 hi ho hw ev ev0 r1 n1 g1 hk
  match i0,hi,ho,ev,hk with
  |0,_,ho,ev,hk=>have l0:a'.eval (.tmp 0)=Pt kp 0:=(ev0 0 (by decide)).trans (hA.at 0 _ (by simp));exact A8 ho hw (by simp[base]) (p:=Op.move (Operand.tmp 0)) (by kernel_rfl) (A9 fin_k4 (by decide) ho) r1 n1 (x:=Pt kp 0) rfl (fun o' h'=>by unfold execOp;rw[h'];simp only[l0];simp[go_sem]) hk
  |1,_,ho,ev,hk=>have l0:a'.eval (.tmp 19)=Pt kp 0:=ev 0 (by decide) (by kernel_rfl);exact A8 ho hw (by simp[base]) (p:=Op.nilCheck (Operand.tmp 19)) (by kernel_rfl) (A9 fin_k4 (by decide) ho) r1 n1 (x:=Pt kp 0) rfl (fun o' h'=>by unfold execOp;rw[h'];simp only[l0];simp[go_sem]) hk
  |2,_,ho,ev,hk=>have l0:a'.eval (.tmp 20)=Pt kp 0:=ev 1 (by decide) (by kernel_rfl);exact A8 ho hw (by simp[base]) (p:=Op.fieldAddr 103 (Operand.tmp 20) 0) (by kernel_rfl) (A9 fin_k4 (by decide) ho) r1 n1 (x:=Pt kp 0) rfl (fun o' h'=>by unfold execOp;rw[h'];simp only[l0];simp[go_sem]) hk
  |3,_,ho,ev,hk=>have l0:a'.eval (.tmp 21)=Pt kp 0:=ev 2 (by decide) (by kernel_rfl);have c0:=g1.cell h1;exact A8 ho hw (by simp[base]) (p:=Op.load 101 (Operand.tmp 21)) (by kernel_rfl) (A9 fin_k4 (by decide) ho) r1 n1 (x:=Pt cw 0) rfl (fun o' h'=>by unfold execOp;rw[h'];simp only[l0];simp[go_sem,c0]) hk
  |4,_,ho,ev,hk=>have l0:a'.eval (.tmp 1)=Pt tb 0:=(ev0 1 (by decide)).trans (hA.at 1 _ (by simp));exact A8 ho hw (by simp[base]) (p:=Op.move (Operand.tmp 1)) (by kernel_rfl) (A9 fin_k4 (by decide) ho) r1 n1 (x:=Pt tb 0) rfl (fun o' h'=>by unfold execOp;rw[h'];simp only[l0];simp[go_sem]) hk
  |5,_,ho,ev,hk=>have l0:a'.eval (.tmp 5)=Pt bx 0:=(ev0 5 (by decide)).trans (hA.at 5 _ (by simp));exact A8 ho hw (by simp[base]) (p:=Op.fieldAddr 38 (Operand.tmp 5) 0) (by kernel_rfl) (A9 fin_k4 (by decide) ho) r1 n1 (x:=Pt bx 0) rfl (fun o' h'=>by unfold execOp;rw[h'];simp only[l0];simp[go_sem]) hk
  |6,_,ho,ev,hk=>have l0:a'.eval (.tmp 24)=Pt bx 0:=ev 5 (by decide) (by kernel_rfl);have c0:=g1.cell hb;exact A8 ho hw (by simp[base]) (p:=Op.load 28 (Operand.tmp 24)) (by kernel_rfl) (A9 fin_k4 (by decide) ho) r1 n1 (x:=I e) rfl (fun o' h'=>by unfold execOp;rw[h'];simp only[l0];simp[go_sem,c0]) hk
  |7,_,ho,ev,hk =>
   have l0:a'.eval (.tmp 25)=I e:=ev 6 (by decide) (by kernel_rfl)
   exact op_calls (f:=47) (fn:=Tryd.f47) (xs:=#[.const (.int .i64 2),.const (.int .i64 0),.tmp 25]) (ats:=#[3,3,28]) (args:=#[I 2,I 0,I e]) ho hw (by simp[base]) (by kernel_rfl) (by simp only[List.map_toArray,List.map_cons,List.map_nil,l0];rfl) Tryd.func47 (by kernel_rfl) rfl (Du Bs (by simp[LT,Co]) Tryd.func47 rfl) (fun tmps=>⟨_,fun w=>results_tmp rfl _ _ _,fun w=>by simp[results,go_sem]⟩) r1 n1 (x:=I (R1.Bh 2 0 e)) rfl (fun τ=>wp_mono (R1.wordOf_any 2 0 e (Ap v1 τ 0) ((Fz hF g1).of (fun a x h=>h)) _ rfl) (D7 fun r u hq=>⟨hq.1,gtape (He hq.2)⟩)) hk
 ·intro v1 w1 o ho hw r1 n1 g1
  refine hN v1 w1 _ o ho hw ⟨(Ef _ _ _ _).trans hA.1,(Dt _ _ _ _).trans hA.2.1,?_⟩ r1 n1 g1
  have hsz:19+8≤a.tmps.size:=by rw[hA.1];decide
  intro p hp
  simp only[List.mem_cons,List.not_mem_nil,or_false] at hp
  rcases hp with rfl|rfl|rfl|rfl|rfl|rfl|rfl
  ·rw[Array.getD_eq_getD_getElem?,A6 _ _ _ _ _ hsz,if_neg (by simp),←Array.getD_eq_getD_getElem?];exact hA.2.2 (0,Pt kp 0) (by simp)
  ·rw[Array.getD_eq_getD_getElem?,A6 _ _ _ _ _ hsz,if_neg (by simp),←Array.getD_eq_getD_getElem?];exact hA.2.2 (1,Pt tb 0) (by simp)
  ·rw[Array.getD_eq_getD_getElem?,A6 _ _ _ _ _ hsz,if_neg (by simp),←Array.getD_eq_getD_getElem?];exact hA.2.2 (5,Pt bx 0) (by simp)
  ·rw[Array.getD_eq_getD_getElem?,A6 _ _ _ _ _ hsz,if_neg (by simp),←Array.getD_eq_getD_getElem?];exact hA.2.2 (6,Pt rb 0) (by simp)
  ·rw[Array.getD_eq_getD_getElem?,A6 _ _ _ _ _ hsz,if_pos (by simp)];rfl
  ·rw[Array.getD_eq_getD_getElem?,A6 _ _ _ _ _ hsz,if_pos (by simp)];rfl
  ·rw[Array.getD_eq_getD_getElem?,A6 _ _ _ _ _ hsz,if_pos (by simp)];rfl
theorem keep_in {z:Nat->Option Nat}{Ch:Nat->Prop}{Stop:Goroutine->World->Prop}{main:Bool}{v w:World}{kp tb:Nat}{e x:Int}(he:e≠4) (cs:List Frame) (hvw:Rel z v w) (hn:Ah Ch v)
 (hk:∀ a v' w',Fl 29 [(0,Pt kp 0),(1,Pt tb 0),(5,Pt v.heap.size 0),(6,Pt (v.heap.size+1) 0)] a->Rel z v' w'->Ah Ch v'->Grows v v'->v'.heap[v.heap.size]? = some (.cells #[I e,I x] 38 (0,0))->v'.heap[v.heap.size+1]? = some (.cells #[I 0,I 0] 38 (0,0))->GoesI Tryd.prog main (DT (ScZ z) Ch) Stop (G ((base 49).at a [.code (.seq (.region 3 kO3 true) k4)]) cs) w') (code:Code) (hc:Tryd.f49.body=some code) :
 GoesI Tryd.prog main (DT (ScZ z) Ch) Stop (G ((base 49).at { tmps:=#[Pt kp 0,Pt tb 0,.agg #[I e,I x]]++Array.replicate 26 undef,defers:=[] } [.code code]) cs) w:=by
 have hw0:code=.seq (seq1 kB) (.seq (.seq (seq1 (seq1 (seq2 kB))) (seq2 (seq1 (seq2 kB)))) (.seq (.region 3 kO3 true) k4)):=by
  rw[show code=kB by unfold kB;rw[hc];rfl];exact eKB
 subst hw0
 clear hc
 refine Ac (Aa _ _) ?_
 refine Am (z:=z) (wr:=true) (L:=LT) (I:=Ah Ch) hE Bs Al (fun v v' w w' es hi hr ho he=>Az v v' w w' es hi hr ho he) hvw fine_k0 rfl (by simp[base]) hn
  (Q:=fun a w'=>Fl 29 [(0,Pt kp 0),(1,Pt tb 0),(5,Pt v.heap.size 0),(6,Pt (v.heap.size+1) 0)] a∧w'.heap=(v.heap.push (.cells #[I e,I x] 38)).push (.cells #[I 0,I 0] 38)∧w'.os=v.os∧w'.output=v.output) (fun τ=>?_) ?_
 ·unfold kB Tryd.f49 seq1
  simp only[Option.getD_some,Array.replicate_succ,Array.replicate_zero,List.push_toArray,List.append_toArray,List.nil_append,List.cons_append]
  go_wp2_with fail
  exact ⟨⟨rfl,rfl,by
   intro p hp
   simp only[List.mem_cons,List.not_mem_nil,or_false] at hp
   rcases hp with rfl|rfl|rfl|rfl<;>rfl⟩,rfl,rfl,rfl⟩
 rintro a' v' w' ⟨hA,hv1,hv2,hv3⟩ hr' hn' -
 have hsz:v'.heap.size=v.heap.size+2:=by rw[hv1];simp
 have hg:Grows v v':=⟨by omega,fun b hb=>by rw[hv1,Array.getElem?_push,if_neg (by simp;omega),Array.getElem?_push,if_neg (by omega)],hv2,hv3⟩
 have hbox:v'.heap[v.heap.size]? = some (.cells #[I e,I x] 38 (0,0)):=by rw[hv1,Array.getElem?_push,if_neg (by simp)];exact Array.getElem?_push_size
 have hans:v'.heap[v.heap.size+1]? = some (.cells #[I 0,I 0] 38 (0,0)):=by rw[hv1,Array.getElem?_push,if_pos (by simp)]
 refine Ac (Aa _ _) ?_
 refine Ac (Aa _ _) ?_
 refine Am (z:=z) (wr:=true) (L:=LT) (I:=Ah Ch) hE Bs Al (fun v v' w w' es hi hr ho he=>Az v v' w w' es hi hr ho he) hr' fine_k1 hA.2.1 (by simp[base]) hn'
  (Q:=fun a w''=>Fl 29 [(9,.bool false),(0,Pt kp 0),(1,Pt tb 0),(5,Pt v.heap.size 0),(6,Pt (v.heap.size+1) 0)] a∧w''.heap=v'.heap∧w''.os=v'.os∧w''.output=v'.output) (fun τ=>?_) ?_
 ·have b0:(Ap v' τ 0).cell? ⟨v.heap.size,0,none⟩=some (I e):=by
   show v'.cell? _=_
   simp[World.cell?,hbox]
  have he':(e==4)=false:=by simpa using he
  clear hv1 hv2 hv3 hbox hans hg hsz
  generalize v.heap.size=N at hA b0 ⊢
  obtain ⟨hsz,hd,hpp⟩:=hA
  obtain ⟨u,rfl,hg⟩:=litN hsz hd
  have u0:=(hg 0).symm.trans (hpp (0,Pt kp 0) (by simp))
  have u1:=(hg 1).symm.trans (hpp (1,Pt tb 0) (by simp))
  have u5:=(hg 5).symm.trans (hpp (5,Pt N 0) (by simp))
  have u6:=(hg 6).symm.trans (hpp (6,Pt (N+1) 0) (by simp))
  clear hg hpp hsz hd
  unfold kB Tryd.f49 seq1 seq2
  simp only[Option.getD_some,lits,Nat.reduceAdd,u0,u1,u5,u6]
  clear u0 u1 u5 u6
  go_wp2_with fail
  refine (show ∀ q,q->q∧(Ap v' τ 0).heap=v'.heap∧(Ap v' τ 0).os=v'.os∧(Ap v' τ 0).output=v'.output from fun q h=>⟨h,rfl,rfl,rfl⟩) _ ?_
  exact ⟨rfl,rfl,by
   intro p hp
   simp only[List.mem_cons,List.not_mem_nil,or_false] at hp
   rcases hp with rfl|rfl|rfl|rfl|rfl<;>rfl⟩
 rintro a2 v2 w2 ⟨hA2,k1,k2,k3⟩ r2 n2 -
 have e1:seq2 (seq1 (seq2 kB))=.cond (.tmp 9) (Gz (seq2 (seq1 (seq2 kB)))) .skip:=by kernel_rfl
 rw[e1]
 refine Au (Aa _ _) (t:=false) (hA2.at 9 _ (by simp)) ?_
 simp only[if_true,if_false,Bool.false_eq_true]
 refine Bo (Aa _ _) ?_
 exact hk a2 v2 w2 (hA2.sub (by simp)) r2 n2 (D9 hg ⟨by rw[k1];exact Nat.le_refl _,fun b _=>by rw[k1],k2,k3⟩) (by rw[k1];exact hbox) (by rw[k1];exact hans)
theorem keep_store {z:Nat->Option Nat}{Ch:Nat->Prop}{Stop:Goroutine->World->Prop}{h:Nat}{cont:Addr->Value}{S:TS}{K:List (Nat×Int)}{v w:World}{i j cb kp bx rb:Nat}{t:Thr}{x:Int}(y:Int) (h1:v.cell? ⟨kp,1,none⟩=some (Pt cb 0)) (hb:v.cell? ⟨bx,1,none⟩=some (I x)) {a:Act}(hA:Fl 29 [(0,Pt kp 0),(1,Pt t.tb 0),(5,Pt bx 0),(6,Pt rb 0)] a) (cs:List Frame) (Hm:Goroutine->Prop)
 (hH:∀ g,(∃ a,Fl 29 [(0,Pt kp 0),(1,Pt t.tb 0),(5,Pt bx 0),(6,Pt rb 0)] a∧F2 (h==0) i j cb t.tb 2 (Dp x) (fun r=>G (kVal a r) cs) g)->Hm g)
 (hvw:Rel z v w) (hn:Ah Ch v) (hm:Mem z S K v) (ht:S.thr[i]? = some t) (hK:K[j]? = some (cb,y)) (hz:z t.tb=some 2) (hcont:cont ⟨t.tb,2,none⟩=.chan (some t.gc))
 (hstop:∀ g w',G1 z cont h S.bk t.gc Hm (Then z Ch S K v (waiting S i t 1 2 j) K) g w'->Stop g w') :
 GoesI Tryd.prog (h==0) (DT (ScZ z) Ch) Stop (G ((base 49).at a [.code (.seq (.region 3 kO3 true) k4)]) cs) w:=by
 refine Ac (Aa _ _) ?_
 refine k3_pre (main:=h==0) (rb:=rb) kp t.tb bx cb x hA _ cs h1 hb hvw hn (fun v2 w2 a2 o ho hw hA2 r2 n2 g2=>?_)
 have e2:=hm.grows g2
 refine Bj (f:=79) (fn:=Tryd.f79) (args:=#[Pt cb 0,Pt t.tb 0,I x]) (Aa _ _) ho (hw _) (by simp[base]) (op_at (p:=.call { callee:=.value (.func 79),args:=#[.tmp 14,.tmp 15,.tmp 17],argTypes:=#[101,48,3] }) (by kernel_rfl) ho) (by simp only[List.map_toArray,List.map_cons,List.map_nil];rw[hA2.at 14 (Pt cb 0) (by simp),hA2.at 15 (Pt t.tb 0) (by simp),hA2.at 17 (I x) (by simp)]) Tryd.func79 (by kernel_rfl) rfl ?_
 refine store_goes x y _ Hm ho (fun g hg=>hH g ⟨a2,hA2.sub (by simp),?_⟩) r2 n2 e2.mem ht hK hz hcont (fun g w' hg=>hstop g w' (Hd (fun hF=>?_) hg)) _ rfl
 ·rw[dst_at (p:=some 18) (by kernel_rfl) ho] at hg
  exact hg
 ·obtain ⟨v',k1,k2,k3⟩:=hF
  exact ⟨v',k1,k2,e2.trans k3⟩
theorem keep_word {z:Nat->Option Nat}{Ch:Nat->Prop}{Stop:Goroutine->World->Prop}{h:Nat}{cont:Addr->Value}{S:TS}{K:List (Nat×Int)}{v w:World}{i j cb kp bx rb:Nat}{t:Thr}{e:Int}(y:Int) (hF:R1.Flds v) (h0:v.cell? ⟨kp,0,none⟩=some (Pt cb 0)) (hb:v.cell? ⟨bx,0,none⟩=some (I e)) {a:Act}(hA:Fl 29 [(0,Pt kp 0),(1,Pt t.tb 0),(5,Pt bx 0),(6,Pt rb 0)] a) (r0:Value) (cs:List Frame) (Hm:Goroutine->Prop)
 (hH:∀ g,(∃ a,Fl 29 [(0,Pt kp 0),(1,Pt t.tb 0),(5,Pt bx 0),(6,Pt rb 0)] a∧F2 (h==0) i j cb t.tb 2 (Dp (R1.Bh 2 0 e)) (fun r=>G (kWord a r) cs) g)->Hm g)
 (hvw:Rel z v w) (hn:Ah Ch v) (hm:Mem z S K v) (ht:S.thr[i]? = some t) (hK:K[j]? = some (cb,y)) (hz:z t.tb=some 2) (hcont:cont ⟨t.tb,2,none⟩=.chan (some t.gc))
 (hstop:∀ g w',G1 z cont h S.bk t.gc Hm (Then z Ch S K v (waiting S i t 1 2 j) K) g w'->Stop g w') :
 GoesI Tryd.prog (h==0) (DT (ScZ z) Ch) Stop (G (kVal a r0) cs) w:=by
 have hA1:Fl 29 [(0,Pt kp 0),(1,Pt t.tb 0),(5,Pt bx 0),(6,Pt rb 0)] (a.put (some 18) r0):=(fl_put hA (by decide) (by simp)).sub (by simp)
 unfold kVal
 generalize a.put (some 18) r0=a1 at hA1
 refine Ab (Aa _ _) ?_
 rw[eK4]
 refine Ac (Aa _ _) ?_
 refine k4_pre (main:=h==0) (rb:=rb) kp t.tb bx cb e hA1 _ cs hF h0 hb hvw hn (fun v2 w2 a2 o ho hw hA2 r2 n2 g2=>?_)
 have e2:=hm.grows g2
 refine Bj (f:=79) (fn:=Tryd.f79) (args:=#[Pt cb 0,Pt t.tb 0,I (R1.Bh 2 0 e)]) (Aa _ _) ho (hw _) (by simp[base]) (op_at (p:=.call { callee:=.value (.func 79),args:=#[.tmp 22,.tmp 23,.tmp 26],argTypes:=#[101,48,3] }) (by kernel_rfl) ho) (by simp only[List.map_toArray,List.map_cons,List.map_nil];rw[hA2.at 22 (Pt cb 0) (by simp),hA2.at 23 (Pt t.tb 0) (by simp),hA2.at 26 (I (R1.Bh 2 0 e)) (by simp)]) Tryd.func79 (by kernel_rfl) rfl ?_
 refine store_goes (R1.Bh 2 0 e) y _ Hm ho (fun g hg=>hH g ⟨a2,hA2.sub (by simp),?_⟩) r2 n2 e2.mem ht hK hz hcont (fun g w' hg=>hstop g w' (Hd (fun hF=>?_) hg)) _ rfl
 ·rw[dst_at (p:=some 27) (by kernel_rfl) ho] at hg
  exact hg
 ·obtain ⟨v',k1,k2,k3⟩:=hF
  exact ⟨v',k1,k2,e2.trans k3⟩
theorem keep_out {z:Nat->Option Nat}{Ch:Nat->Prop}{Stop:Goroutine->World->Prop}{main:Bool}{v w:World}{kp tb bx rb:Nat}{e x:Int}{a:Act}(hA:Fl 29 [(0,Pt kp 0),(1,Pt tb 0),(5,Pt bx 0),(6,Pt rb 0)] a) (r0:Value) (cs:List Frame) {bc:Frame}{ac:Act}{ops:Array Oper}{q:Nat}{rest:List Nat}{oc:Oper}{k0:List Item}(hoc:ops[q]? = some oc) (hbx:v.heap[bx]? = some (.cells #[I e,I x] 38 (0,0))) (hpb:v.heap[rb]? = some (.cells #[I 0,I 0] 38 (0,0))) (hvw:Rel z v w) (hn:Ah Ch v)
 (hk:∀ w',Rel z (ansW v rb e x) w'->Ah Ch (ansW v rb e x)->GoesI Tryd.prog main (DT (ScZ z) Ch) Stop (G (bc.at (ac.put oc.dst (.agg #[I e,I x])) (.inRegion ops rest :: k0)) cs) w') :
 GoesI Tryd.prog main (DT (ScZ z) Ch) Stop (G (kWord a r0) (bc.at ac (.inRegion ops (q :: rest) :: k0) :: cs)) w:=by
 have d0:w.cell? ⟨bx,0,none⟩=some (I e):=by rw[hvw.cell?];simp[World.cell?,hbx]
 have d1:w.cell? ⟨bx,1,none⟩=some (I x):=by rw[hvw.cell?];simp[World.cell?,hbx]
 obtain ⟨hsz,hd,hpp⟩:=hA
 obtain ⟨u,rfl,hg⟩:=litN hsz hd
 have u0:=(hg 0).symm.trans (hpp (0,Pt kp 0) (by simp))
 have u1:=(hg 1).symm.trans (hpp (1,Pt tb 0) (by simp))
 have u5:=(hg 5).symm.trans (hpp (5,Pt bx 0) (by simp))
 have u6:=(hg 6).symm.trans (hpp (6,Pt rb 0) (by simp))
 clear hg hpp hsz hd
 unfold kWord kO4 k4 kB Tryd.f49 seq1 seq2 opsOf
 simp only[Option.getD_some,lits,Nat.reduceAdd,u0,u1,u5,u6]
 clear u0 u1 u5 u6
 walk_nrm
 refine Ab (Aa _ _) ?_
 refine Ac (Aa _ _) ?_
 refine Ae (Aa _ _) ?_
 simp only[List.size_toArray,List.length_cons,List.length_nil,Nat.reduceAdd,Nat.zero_add,List.range,List.range.loop]
 iterate 1
  (refine Af rfl rfl (by decide) (fun d K hK=>?_)
   go_simp
   refine hK _ _ ⟨Ak (fun e he=>?_),GoesI.at ?_ d⟩
   ·have hm:=mem_listed he
    simp[go_sem, *] at hm
    try exact ⟨_,_,hm⟩
    try (rcases hm with rfl|rfl<;>exact ⟨_,_,rfl⟩)
   clear hK K)
 have q0:v.cell? ⟨rb,0,none⟩=some (I 0):=by simp[World.cell?,hpb]
 have q1:v.cell? ⟨rb,1,none⟩=some (I 0):=by simp[World.cell?,hpb]
 have p0:v.frozen? ⟨rb,0,none⟩=false:=by simp[World.frozen?,hpb]
 have p1:v.frozen? ⟨rb,1,none⟩=false:=by simp[World.frozen?,hpb]
 have hrow:=Eo hpb (e) (x)
 refine Bv (L:=LT) rfl rfl (by decide) (A7 Bi extT (by kernel_rfl)) hvw hn (v':=ansW v rb (e) (x)) (by unfold ansW;go_simp) rfl (fun w9 r9 n9=>?_)
 refine Ab (Aa _ _) ?_
 refine GoesI.ctl rfl (fun _=>stepG_ret') (Aa _ _) ?_
 refine Bt (f:=49) (fn:=Tryd.f49) (x:=.agg #[I (e),I (x)]) r9 n9 Tryd.func49 rfl hoc ?_ (fun w' r'=>hk w' r' n9)
 generalize ansW v rb (e) (x)=V at hrow
 have k0:V.cell? ⟨rb,0,none⟩=some (I (e)):=by simp[World.cell?,hrow]
 have k1:V.cell? ⟨rb,1,none⟩=some (I (x)):=by simp[World.cell?,hrow]
 simp[results,go_sem,Tryd.f49, *]
end Go.Proofs.YtaofjdoielmobaaDoor.Gen
