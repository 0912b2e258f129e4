/- Of the proof of OnceAlone. Part 23 of 30. (Joined, by program, and written short, of: OnP, OnM.) -/
import Derived.Test.YtfjjoohflcchnaaDoorOnceAlone21
import Derived.Test.YtfjjoohflcchnaaDoorOnceAlone22
set_option linter.unusedSimpArgs false
set_option linter.unusedVariables false
set_option maxHeartbeats 4000000
set_option maxRecDepth 100000
namespace Go.Proofs.YtfjjoohflcchnaaDoor.Gen
open Go Go.Lift Go.Conc Go.RowKit
theorem which_body (a:Int) (n:Nat) (h0:0<n) (hb:(n:Int)<9223372036854775808) (w:World):Body Tryd.f62 #[I a,I n] w (fun v w'=>v=I (which a n)∧w'=w):=by
 intro code hb'
 obtain rfl:=Option.some.inj hb'
 clear hb'
 simp only [Tryd.ntmps62,List.size_toArray,List.length_cons,List.length_nil,Nat.reduceAdd,Nat.reduceSub,Array.replicate_succ,Array.replicate_zero,List.push_toArray,List.append_toArray,List.nil_append,List.cons_append]
 have hne:¬ ((n:Int)=0):=by omega
 have HB:Hid ((n:Int)<9223372036854775808∧0<n):=⟨⟨hb,h0⟩⟩
 clear hb h0
 go_wp2_with fail
 all_goals
  go_ret
  rename_i h
  first
   |exact ⟨_,rfl,congrArg I (which_pos h),rfl⟩
   |exact ⟨_,rfl,congrArg I (which_neg h HB.out.2 HB.out.1),rfl⟩
noncomputable def pB:Code:=Tryd.f61.body.getD .skip
noncomputable def pO3:Array Oper:=opsOf (seq1 (seq2 (seq2 pB)))
noncomputable def pFr (a:Act) (r:Value):Frame:=(base 61).at (a.put (some 30) r) [.inRegion pO3 [15],.code .ret]
theorem ePB:pB=.seq (seq1 pB) (.seq (.seq (seq1 (seq1 (seq2 pB))) (seq2 (seq1 (seq2 pB)))) (.seq (.region 3 pO3 true) .ret)):=by kernel_rfl
theorem fine_p0:fineCode Tryd.prog true LT (seq1 pB):=fineCode_ask callT extT (by kernel_rfl)
theorem fine_p1:fineCode Tryd.prog true LT (seq1 (seq1 (seq2 pB))):=fineCode_ask callT extT (by kernel_rfl)
def val_p3 (tb xb mb bx sb m ob:Nat) (po ca cb:Int):Nat→Value
 |0=>.slice (some ⟨sb,0,none⟩) m m
 |1=>Pt bx 1
 |2=>I ca
 |3=>I m
 |4=>I (which ca m)
 |5=>Pt sb (which ca m)
 |6=>Pt ob 0
 |7=>Pt tb 0
 |8=>Pt bx 0
 |9=>I po
 |10=>I (po - 1)
 |11=>Pt bx 2
 |12=>I cb
 |13=>.agg #[I (po - 1),I cb]
 |_=>undef
theorem reg_p3:regOk pO3 14 16=true:=by kernel_rfl
theorem fin_p3:((pO3.extract 0 14).all fun o=>plainOp Tryd.prog true o.op||askCall plainFs plainXs o.op)=true:=by kernel_rfl
theorem p3_pre {z:Nat→Option Nat} {Ch:Nat→Prop} {Stop:Goroutine→World→Prop} {main:Bool} {v w:World} (tb xb mb bx sb m ob:Nat) (po ca cb:Int) {rb:Nat} {a:Act} (hA:Fl 31 [(0,Pt tb 0),(2,Pt xb 0),(3,Pt mb 0),(5,Pt bx 0),(6,Pt rb 0)] a) (k:List Item) (cs:List Frame) (hm0:0<m) (hm1:m≤1000) (hpo:IntKind.i64.wrap (po - 1)=po - 1) (hx:v.cell? ⟨xb,0,none⟩=some (.slice (some ⟨sb,0,none⟩) m m)) (hmb:v.cell? ⟨mb,0,none⟩=some (I m)) (hob:v.cell? ⟨sb,which ca m,none⟩=some (Pt ob 0)) (b0:v.cell? ⟨bx,0,none⟩=some (I po)) (b1:v.cell? ⟨bx,1,none⟩=some (I ca)) (b2:v.cell? ⟨bx,2,none⟩=some (I cb)) (hvw:Rel z v w) (hn:NoRow Ch v)
 (hN:∀ v1 w1 a' o,pO3[14]? = some o→(∀ y,Region.wanted o y=true)→Fl 31 [(0,Pt tb 0),(2,Pt xb 0),(3,Pt mb 0),(5,Pt bx 0),(6,Pt rb 0),(22,Pt ob 0),(23,Pt tb 0),(29,.agg #[I (po - 1),I cb])] a'→Rel z v1 w1→NoRow Ch v1→Grows v v1→GoesI Tryd.prog main (DT (ScZ z) Ch) Stop (G ((base 61).at a' (.inRegion pO3 [14,15] :: k)) cs) w1) :
 GoesI Tryd.prog main (DT (ScZ z) Ch) Stop (G ((base 61).at a (.code (.region 3 pO3 true) :: k)) cs) w:=by
 refine region_in (val:=val_p3 tb xb mb bx sb m ob po ca cb) reg_p3 (by rw [hA.1];decide) hvw hn ?_ ?_
 ·intro i0 o rest a' v1 w1 hi ho hw ev ev0 r1 n1 g1 hk
  match i0,hi,ho,ev,hk with
  |0,_,ho,ev,hk=>have l0:a'.eval (.tmp 2)=Pt xb 0:=(ev0 2 (by decide)).trans (hA.at 2 _ (by simp));have c0:=g1.cell hx;exact op_reads ho hw (by simp [base]) (p:=Op.load 99 (Operand.tmp 2)) (by kernel_rfl) (fine_ops fin_p3 (by decide) ho) r1 n1 (x:=.slice (some ⟨sb,0,none⟩) m m) rfl (fun o' h'=>by unfold execOp;rw [h'];simp only [l0];simp [go_sem,c0]) hk
  |1,_,ho,ev,hk=>have l0:a'.eval (.tmp 5)=Pt bx 0:=(ev0 5 (by decide)).trans (hA.at 5 _ (by simp));exact op_reads ho hw (by simp [base]) (p:=Op.fieldAddr 35 (Operand.tmp 5) 1) (by kernel_rfl) (fine_ops fin_p3 (by decide) ho) r1 n1 (x:=Pt bx 1) rfl (fun o' h'=>by unfold execOp;rw [h'];simp only [l0];simp [go_sem]) hk
  |2,_,ho,ev,hk=>have l0:a'.eval (.tmp 17)=Pt bx 1:=ev 1 (by decide) (by kernel_rfl);have c0:=g1.cell b1;exact op_reads ho hw (by simp [base]) (p:=Op.load 3 (Operand.tmp 17)) (by kernel_rfl) (fine_ops fin_p3 (by decide) ho) r1 n1 (x:=I ca) rfl (fun o' h'=>by unfold execOp;rw [h'];simp only [l0];simp [go_sem,c0]) hk
  |3,_,ho,ev,hk=>have l0:a'.eval (.tmp 3)=Pt mb 0:=(ev0 3 (by decide)).trans (hA.at 3 _ (by simp));have c0:=g1.cell hmb;exact op_reads ho hw (by simp [base]) (p:=Op.load 3 (Operand.tmp 3)) (by kernel_rfl) (fine_ops fin_p3 (by decide) ho) r1 n1 (x:=I m) rfl (fun o' h'=>by unfold execOp;rw [h'];simp only [l0];simp [go_sem,c0]) hk
  |4,_,ho,ev,hk =>
   have l0:a'.eval (.tmp 18)=I ca:=ev 2 (by decide) (by kernel_rfl);have l1:a'.eval (.tmp 19)=I m:=ev 3 (by decide) (by kernel_rfl)
   exact op_calls (f:=62) (fn:=Tryd.f62) (xs:=#[.tmp 18,.tmp 19]) (ats:=#[3,3]) (args:=#[I ca,I m]) ho hw (by simp [base]) (by kernel_rfl) (by simp only [List.map_toArray,List.map_cons,List.map_nil,l0,l1]) Tryd.func62 (by kernel_rfl) rfl (fineFn_body fineT (by simp [LT,plainFs]) Tryd.func62 rfl) (fun tmps=>⟨_,fun w=>results_tmp rfl _ _ _,fun w=>by simp [results,go_sem]⟩) r1 n1 (x:=I (which ca m)) rfl (fun τ=>wp_mono (which_body ca m hm0 (by omega) (onTape v1 τ 0) _ rfl) (bp_mono fun r u hq=>⟨hq.1,by rw [hq.2];exact gtape (grefl _)⟩)) hk
  |5,_,ho,ev,hk=>have l0:a'.eval (.tmp 16)=.slice (some ⟨sb,0,none⟩) m m:=ev 0 (by decide) (by kernel_rfl);have l1:a'.eval (.tmp 20)=I (which ca m):=ev 4 (by decide) (by kernel_rfl);have hw1:=which_lt ca hm0;have hw2:((which ca m:Nat):Int)<(m:Int):=(by omega);have hw3:¬ ((which ca m:Nat):Int)<0:=(by omega);exact op_reads ho hw (by simp [base]) (p:=Op.indexAddr 99 (Operand.tmp 16) (Operand.tmp 20)) (by kernel_rfl) (fine_ops fin_p3 (by decide) ho) r1 n1 (x:=Pt sb (which ca m)) rfl (fun o' h'=>by unfold execOp;rw [h'];simp only [l0,l1];simp [go_sem,hw1,hw2,hw3]) hk
  |6,_,ho,ev,hk=>have l0:a'.eval (.tmp 21)=Pt sb (which ca m):=ev 5 (by decide) (by kernel_rfl);have c0:=g1.cell hob;exact op_reads ho hw (by simp [base]) (p:=Op.load 46 (Operand.tmp 21)) (by kernel_rfl) (fine_ops fin_p3 (by decide) ho) r1 n1 (x:=Pt ob 0) rfl (fun o' h'=>by unfold execOp;rw [h'];simp only [l0];simp [go_sem,c0]) hk
  |7,_,ho,ev,hk=>have l0:a'.eval (.tmp 0)=Pt tb 0:=(ev0 0 (by decide)).trans (hA.at 0 _ (by simp));exact op_reads ho hw (by simp [base]) (p:=Op.move (Operand.tmp 0)) (by kernel_rfl) (fine_ops fin_p3 (by decide) ho) r1 n1 (x:=Pt tb 0) rfl (fun o' h'=>by unfold execOp;rw [h'];simp only [l0];simp [go_sem]) hk
  |8,_,ho,ev,hk=>have l0:a'.eval (.tmp 5)=Pt bx 0:=(ev0 5 (by decide)).trans (hA.at 5 _ (by simp));exact op_reads ho hw (by simp [base]) (p:=Op.fieldAddr 35 (Operand.tmp 5) 0) (by kernel_rfl) (fine_ops fin_p3 (by decide) ho) r1 n1 (x:=Pt bx 0) rfl (fun o' h'=>by unfold execOp;rw [h'];simp only [l0];simp [go_sem]) hk
  |9,_,ho,ev,hk=>have l0:a'.eval (.tmp 24)=Pt bx 0:=ev 8 (by decide) (by kernel_rfl);have c0:=g1.cell b0;exact op_reads ho hw (by simp [base]) (p:=Op.load 3 (Operand.tmp 24)) (by kernel_rfl) (fine_ops fin_p3 (by decide) ho) r1 n1 (x:=I po) rfl (fun o' h'=>by unfold execOp;rw [h'];simp only [l0];simp [go_sem,c0]) hk
  |10,_,ho,ev,hk=>have l0:a'.eval (.tmp 25)=I po:=ev 9 (by decide) (by kernel_rfl);exact op_reads ho hw (by simp [base]) (p:=Op.binOp BinOp.sub 3 (Operand.tmp 25) (Operand.const (Value.int IntKind.i64 1)) 3) (by kernel_rfl) (fine_ops fin_p3 (by decide) ho) r1 n1 (x:=I (po - 1)) rfl (fun o' h'=>by unfold execOp;rw [h'];simp only [l0];simp [go_sem,hpo]) hk
  |11,_,ho,ev,hk=>have l0:a'.eval (.tmp 5)=Pt bx 0:=(ev0 5 (by decide)).trans (hA.at 5 _ (by simp));exact op_reads ho hw (by simp [base]) (p:=Op.fieldAddr 35 (Operand.tmp 5) 2) (by kernel_rfl) (fine_ops fin_p3 (by decide) ho) r1 n1 (x:=Pt bx 2) rfl (fun o' h'=>by unfold execOp;rw [h'];simp only [l0];simp [go_sem]) hk
  |12,_,ho,ev,hk=>have l0:a'.eval (.tmp 27)=Pt bx 2:=ev 11 (by decide) (by kernel_rfl);have c0:=g1.cell b2;exact op_reads ho hw (by simp [base]) (p:=Op.load 3 (Operand.tmp 27)) (by kernel_rfl) (fine_ops fin_p3 (by decide) ho) r1 n1 (x:=I cb) rfl (fun o' h'=>by unfold execOp;rw [h'];simp only [l0];simp [go_sem,c0]) hk
  |13,_,ho,ev,hk=>have l0:a'.eval (.tmp 26)=I (po - 1):=ev 10 (by decide) (by kernel_rfl);have l1:a'.eval (.tmp 28)=I cb:=ev 12 (by decide) (by kernel_rfl);have l2:a'.tmps[26]?.getD undef=I (po - 1):=(by simpa [Act.eval] using l0);have l3:a'.tmps[28]?.getD undef=I cb:=(by simpa [Act.eval] using l1);exact op_reads ho hw (by simp [base]) (p:=Op.build 52 #[(0,Operand.tmp 26),(1,Operand.tmp 28)]) (by kernel_rfl) (fine_ops fin_p3 (by decide) ho) r1 n1 (x:=.agg #[I (po - 1),I cb]) rfl (fun o' h'=>by unfold execOp;rw [h'];simp only [l0,l1];simp [go_sem,l2,l3]) hk
 ·intro v1 w1 o ho hw r1 n1 g1
  refine hN v1 w1 _ o ho hw ⟨(putN_size _ _ _ _).trans hA.1,(putN_defers _ _ _ _).trans hA.2.1,?_⟩ r1 n1 g1
  have hsz:16+14≤a.tmps.size:=by rw [hA.1];decide
  intro p hp
  simp only [List.mem_cons,List.not_mem_nil,or_false] at hp
  rcases hp with rfl|rfl|rfl|rfl|rfl|rfl|rfl|rfl
  ·rw [Array.getD_eq_getD_getElem?,putN_get _ _ _ _ _ hsz,if_neg (by simp),←Array.getD_eq_getD_getElem?];exact hA.2.2 (0,Pt tb 0) (by simp)
  ·rw [Array.getD_eq_getD_getElem?,putN_get _ _ _ _ _ hsz,if_neg (by simp),←Array.getD_eq_getD_getElem?];exact hA.2.2 (2,Pt xb 0) (by simp)
  ·rw [Array.getD_eq_getD_getElem?,putN_get _ _ _ _ _ hsz,if_neg (by simp),←Array.getD_eq_getD_getElem?];exact hA.2.2 (3,Pt mb 0) (by simp)
  ·rw [Array.getD_eq_getD_getElem?,putN_get _ _ _ _ _ hsz,if_neg (by simp),←Array.getD_eq_getD_getElem?];exact hA.2.2 (5,Pt bx 0) (by simp)
  ·rw [Array.getD_eq_getD_getElem?,putN_get _ _ _ _ _ hsz,if_neg (by simp),←Array.getD_eq_getD_getElem?];exact hA.2.2 (6,Pt rb 0) (by simp)
  ·rw [Array.getD_eq_getD_getElem?,putN_get _ _ _ _ _ hsz,if_pos (by simp)];rfl
  ·rw [Array.getD_eq_getD_getElem?,putN_get _ _ _ _ _ hsz,if_pos (by simp)];rfl
  ·rw [Array.getD_eq_getD_getElem?,putN_get _ _ _ _ _ hsz,if_pos (by simp)];rfl
theorem p1y_wp {v:World} {tb xb mb bx rb:Nat} {po:Int} {a:Act} (hA:Fl 31 [(0,Pt tb 0),(2,Pt xb 0),(3,Pt mb 0),(5,Pt bx 0),(6,Pt rb 0)] a) (b0:v.cell? ⟨bx,0,none⟩=some (I po)) (h1:1≤po) (h4:po≤4):(seq1 (seq1 (seq2 pB))).wp Tryd.prog (fun e a' w'=>e=.normal∧Fl 31 [(14,.bool false),(0,Pt tb 0),(2,Pt xb 0),(3,Pt mb 0),(5,Pt bx 0),(6,Pt rb 0)] a'∧w'.heap=v.heap∧w'.os=v.os∧w'.output=v.output) a v:=by
 have f1:decide (po<1)=false:=decide_eq_false (by omega)
 have f2:decide (po > 4)=false:=decide_eq_false (by omega)
 obtain ⟨hsz,hd,hpp⟩:=hA
 obtain ⟨u,rfl,hg⟩:=litN hsz hd
 have u0:=(hg 0).symm.trans (hpp (0,Pt tb 0) (by simp))
 have u2:=(hg 2).symm.trans (hpp (2,Pt xb 0) (by simp))
 have u3:=(hg 3).symm.trans (hpp (3,Pt mb 0) (by simp))
 have u5:=(hg 5).symm.trans (hpp (5,Pt bx 0) (by simp))
 have u6:=(hg 6).symm.trans (hpp (6,Pt rb 0) (by simp))
 clear hg hpp hsz hd
 unfold pB Tryd.f61 seq1 seq2
 simp only [Option.getD_some,lits,Nat.reduceAdd,u0,u2,u3,u5,u6]
 clear u0 u2 u3 u5 u6
 go_wp2_with fail
 all_goals first
  |exact ⟨rfl,rfl,by
  intro p hp
  simp only [List.mem_cons,List.not_mem_nil,or_false] at hp
  rcases hp with rfl|rfl|rfl|rfl|rfl|rfl<;>rfl⟩
  |omega
theorem p1l_wp {v:World} {tb xb mb bx rb:Nat} {po:Int} {a:Act} (hA:Fl 31 [(0,Pt tb 0),(2,Pt xb 0),(3,Pt mb 0),(5,Pt bx 0),(6,Pt rb 0)] a) (b0:v.cell? ⟨bx,0,none⟩=some (I po)) (h1:po<1):(seq1 (seq1 (seq2 pB))).wp Tryd.prog (fun e a' w'=>e=.normal∧Fl 31 [(14,.bool true),(0,Pt tb 0),(2,Pt xb 0),(3,Pt mb 0),(5,Pt bx 0),(6,Pt rb 0)] a'∧w'.heap=v.heap∧w'.os=v.os∧w'.output=v.output) a v:=by
 have f1:decide (po<1)=true:=decide_eq_true h1
 obtain ⟨hsz,hd,hpp⟩:=hA
 obtain ⟨u,rfl,hg⟩:=litN hsz hd
 have u0:=(hg 0).symm.trans (hpp (0,Pt tb 0) (by simp))
 have u2:=(hg 2).symm.trans (hpp (2,Pt xb 0) (by simp))
 have u3:=(hg 3).symm.trans (hpp (3,Pt mb 0) (by simp))
 have u5:=(hg 5).symm.trans (hpp (5,Pt bx 0) (by simp))
 have u6:=(hg 6).symm.trans (hpp (6,Pt rb 0) (by simp))
 clear hg hpp hsz hd
 unfold pB Tryd.f61 seq1 seq2
 simp only [Option.getD_some,lits,Nat.reduceAdd,u0,u2,u3,u5,u6]
 clear u0 u2 u3 u5 u6
 go_wp2_with fail
 all_goals first
  |exact ⟨rfl,rfl,by
  intro p hp
  simp only [List.mem_cons,List.not_mem_nil,or_false] at hp
  rcases hp with rfl|rfl|rfl|rfl|rfl|rfl<;>rfl⟩
  |omega
theorem p1g_wp {v:World} {tb xb mb bx rb:Nat} {po:Int} {a:Act} (hA:Fl 31 [(0,Pt tb 0),(2,Pt xb 0),(3,Pt mb 0),(5,Pt bx 0),(6,Pt rb 0)] a) (b0:v.cell? ⟨bx,0,none⟩=some (I po)) (h1:4<po):(seq1 (seq1 (seq2 pB))).wp Tryd.prog (fun e a' w'=>e=.normal∧Fl 31 [(14,.bool true),(0,Pt tb 0),(2,Pt xb 0),(3,Pt mb 0),(5,Pt bx 0),(6,Pt rb 0)] a'∧w'.heap=v.heap∧w'.os=v.os∧w'.output=v.output) a v:=by
 have f1:decide (po<1)=false:=decide_eq_false (by omega)
 have f2:decide (po > 4)=true:=decide_eq_true h1
 obtain ⟨hsz,hd,hpp⟩:=hA
 obtain ⟨u,rfl,hg⟩:=litN hsz hd
 have u0:=(hg 0).symm.trans (hpp (0,Pt tb 0) (by simp))
 have u2:=(hg 2).symm.trans (hpp (2,Pt xb 0) (by simp))
 have u3:=(hg 3).symm.trans (hpp (3,Pt mb 0) (by simp))
 have u5:=(hg 5).symm.trans (hpp (5,Pt bx 0) (by simp))
 have u6:=(hg 6).symm.trans (hpp (6,Pt rb 0) (by simp))
 clear hg hpp hsz hd
 unfold pB Tryd.f61 seq1 seq2
 simp only [Option.getD_some,lits,Nat.reduceAdd,u0,u2,u3,u5,u6]
 clear u0 u2 u3 u5 u6
 go_wp2_with fail
 all_goals first
  |exact ⟨rfl,rfl,by
  intro p hp
  simp only [List.mem_cons,List.not_mem_nil,or_false] at hp
  rcases hp with rfl|rfl|rfl|rfl|rfl|rfl<;>rfl⟩
  |omega
theorem call_no {z:Nat→Option Nat} {Ch:Nat→Prop} {Stop:Goroutine→World→Prop} {main:Bool} {v w:World} {tb xb mb:Nat} {po ca cb cc:Int} (hpo:po<1∨4<po) (cs:List Frame) {bc:Frame} {ac:Act} {ops:Array Oper} {q:Nat} {rest:List Nat} {oc:Oper} {k0:List Item} (hoc:ops[q]? = some oc) (hvw:Rel z v w) (hn:NoRow Ch v)
 (hk:∀ v' w',Rel z v' w'→NoRow Ch v'→Grows v v'→GoesI Tryd.prog main (DT (ScZ z) Ch) Stop (G (bc.at (ac.put oc.dst (.agg #[I 1,I 0])) (.inRegion ops rest :: k0)) cs) w') (code:Code) (hc:Tryd.f61.body=some code) :
 GoesI Tryd.prog main (DT (ScZ z) Ch) Stop (G ((base 61).at { tmps:=#[Pt tb 0,.agg #[I po,I ca,I cb,I cc],Pt xb 0,Pt mb 0]++Array.replicate 27 undef,defers:=[] } [.code code]) (bc.at ac (.inRegion ops (q :: rest) :: k0) :: cs)) w:=by
 have hw0:code=.seq (seq1 pB) (.seq (.seq (seq1 (seq1 (seq2 pB))) (seq2 (seq1 (seq2 pB)))) (.seq (.region 3 pO3 true) .ret)):=by
  rw [show code=pB by unfold pB;rw [hc];rfl];exact ePB
 subst hw0
 clear hc
 refine goesI_seq (dt_idle _ _) ?_
 refine goesI_plain (z:=z) (wr:=true) (L:=LT) (I:=NoRow Ch) hE fineT noRow_keeps (fun v v' w w' es hi hr ho he=>dt_of_z v v' w w' es hi hr ho he) hvw fine_p0 rfl (by simp [base]) hn
  (Q:=fun a w'=>Fl 31 [(0,Pt tb 0),(2,Pt xb 0),(3,Pt mb 0),(5,Pt v.heap.size 0),(6,Pt (v.heap.size+1) 0)] a∧w'.heap=((v.heap.push (.cells #[I po,I ca,I cb,I cc] 35)).push (.cells #[I 0,I 0] 38))∧w'.os=v.os∧w'.output=v.output) (fun τ=>?_) ?_
 ·unfold pB Tryd.f61 seq1
  simp only [Option.getD_some,Array.replicate_succ,Array.replicate_zero,List.push_toArray,List.append_toArray,List.nil_append,List.cons_append]
  go_wp2_with fail
  exact ⟨⟨rfl,rfl,by
   intro p hp
   simp only [List.mem_cons,List.not_mem_nil,or_false] at hp
   rcases hp with rfl|rfl|rfl|rfl|rfl<;>rfl⟩,rfl,rfl,rfl⟩
 rintro a' v' w' ⟨hA,hv1,hv2,hv3⟩ hr' hn' -
 have hsz:v'.heap.size=v.heap.size+2:=by rw [hv1];simp
 have hg:Grows v v':=⟨by omega,fun b hb=>by rw [hv1,Array.getElem?_push,if_neg (by simp;omega),Array.getElem?_push,if_neg (by omega)],hv2,hv3⟩
 have hb0:v'.heap[v.heap.size]? = some (.cells #[I po,I ca,I cb,I cc] 35 (0,0)):=by rw [hv1,Array.getElem?_push,if_neg (by simp<;>omega),Array.getElem?_push,if_pos (by simp)]
 have hb1:v'.heap[v.heap.size+1]? = some (.cells #[I 0,I 0] 38 (0,0)):=by rw [hv1,Array.getElem?_push,if_pos (by simp)]
 have c0:v'.cell? ⟨v.heap.size,0,none⟩=some (I po):=by simp [World.cell?,hb0]
 have c1:v'.cell? ⟨v.heap.size,1,none⟩=some (I ca):=by simp [World.cell?,hb0]
 have c2:v'.cell? ⟨v.heap.size,2,none⟩=some (I cb):=by simp [World.cell?,hb0]
 clear hv1 hv2 hv3
 have e1:seq2 (seq1 (seq2 pB))=.cond (.tmp 14) (condA (seq2 (seq1 (seq2 pB)))) .skip:=by kernel_rfl
 refine goesI_seq (dt_idle _ _) ?_
 refine goesI_seq (dt_idle _ _) ?_
 rw [e1]
 refine goesI_plain (z:=z) (wr:=true) (L:=LT) (I:=NoRow Ch) hE fineT noRow_keeps (fun v v' w w' es hi hr ho he=>dt_of_z v v' w w' es hi hr ho he) hr' fine_p1 hA.2.1 (by simp [base]) hn'
  (Q:=fun a w''=>Fl 31 [(14,.bool true),(0,Pt tb 0),(2,Pt xb 0),(3,Pt mb 0),(5,Pt v.heap.size 0),(6,Pt (v.heap.size+1) 0)] a∧w''.heap=v'.heap∧w''.os=v'.os∧w''.output=v'.output) (fun τ=>?_) ?_
 ·rcases hpo with h|h
  ·exact p1l_wp (v:=onTape v' τ 0) hA c0 h
  ·exact p1g_wp (v:=onTape v' τ 0) hA c0 h
 rintro a2 v2 w2 ⟨hA2,k1,k2,k3⟩ r2 n2 -
 have hpb:v2.heap[v.heap.size+1]? = some (.cells #[I 0,I 0] 38 (0,0)):=by rw [k1];exact hb1
 have g2:Grows v v2:=gtrans hg ⟨by rw [k1];exact Nat.le_refl _,fun b _=>by rw [k1],k2,k3⟩
 have hgr:Grows v (ansW v2 (v.heap.size+1) 1 0):=⟨by rw [ans_size];exact g2.size,fun b hb=>by rw [ans_far _ _ _ _ _ (by omega)];exact g2.old b hb,g2.os,g2.output⟩
 have hk:=fun w' r' n'=>hk (ansW v2 (v.heap.size+1) 1 0) w' r' n' hgr
 clear hgr g2 hg hsz hb0 hb1 c0 c1 c2 k1 k2 k3 hr' hn' hvw hn hA
 have hA:=hA2
 clear hA2
 generalize v.heap.size+1=rb at hpb hk hA
 generalize v.heap.size=bx at hA
 obtain ⟨hsz,hd,hpp⟩:=hA
 obtain ⟨u,rfl,hg⟩:=litN hsz hd
 have u14:=(hg 14).symm.trans (hpp (14,.bool true) (by simp))
 have u0:=(hg 0).symm.trans (hpp (0,Pt tb 0) (by simp))
 have u2:=(hg 2).symm.trans (hpp (2,Pt xb 0) (by simp))
 have u3:=(hg 3).symm.trans (hpp (3,Pt mb 0) (by simp))
 have u5:=(hg 5).symm.trans (hpp (5,Pt bx 0) (by simp))
 have u6:=(hg 6).symm.trans (hpp (6,Pt rb 0) (by simp))
 clear hg hpp hsz hd
 unfold pB Tryd.f61 seq1 seq2 condA
 simp only [Option.getD_some,lits,Nat.reduceAdd,u14,u0,u2,u3,u5,u6]
 clear u14 u0 u2 u3 u5 u6
 refine goesI_cond (dt_idle _ _) (t:=true) (by simp [Act.eval]) ?_
 simp only [if_true,if_false,Bool.false_eq_true]
 refine goesI_seq (dt_idle _ _) ?_
 refine goesI_region (dt_idle _ _) ?_
 simp only [List.size_toArray,List.length_cons,List.length_nil,Nat.reduceAdd,Nat.zero_add,List.range,List.range.loop]
 iterate 1
  (refine goesI_oper rfl rfl (by decide) (fun d K hK=>?_)
   go_simp
   refine hK _ _ ⟨dt_reads (fun e he=>?_),GoesI.at ?_ d⟩
   ·have hm:=mem_listed he
    simp [go_sem, *] at hm
    try exact ⟨_,_,hm⟩
    try (rcases hm with rfl|rfl<;>exact ⟨_,_,rfl⟩)
   clear hK K)
 have q0:v2.cell? ⟨rb,0,none⟩=some (I 0):=by simp [World.cell?,hpb]
 have q1:v2.cell? ⟨rb,1,none⟩=some (I 0):=by simp [World.cell?,hpb]
 have p0:v2.frozen? ⟨rb,0,none⟩=false:=by simp [World.frozen?,hpb]
 have p1:v2.frozen? ⟨rb,1,none⟩=false:=by simp [World.frozen?,hpb]
 have hrow:=ans_row hpb (1) (0)
 refine goesI_doZ (L:=LT) rfl rfl (by decide) (fineOp_ask callT extT (by kernel_rfl)) r2 n2 (v':=ansW v2 rb (1) (0)) (by unfold ansW;go_simp) rfl (fun w9 r9 n9=>?_)
 refine goesI_regionEnd (dt_idle _ _) ?_
 refine GoesI.ctl rfl (fun _=>stepG_ret') (dt_idle _ _) ?_
 refine goesI_leaveZ (f:=61) (fn:=Tryd.f61) (x:=.agg #[I (1),I (0)]) r9 n9 Tryd.func61 rfl hoc ?_ (fun w' r'=>hk w' r' n9)
 generalize ansW v2 rb (1) (0)=V at hrow
 have k0:V.cell? ⟨rb,0,none⟩=some (I (1)):=by simp [World.cell?,hrow]
 have k1:V.cell? ⟨rb,1,none⟩=some (I (0)):=by simp [World.cell?,hrow]
 simp [results,go_sem,Tryd.f61, *]
theorem call_in {z:Nat→Option Nat} {Ch:Nat→Prop} {Stop:Goroutine→World→Prop} {main:Bool} {v w:World} {tb xb mb:Nat} {po ca cb cc:Int} {sb m ob:Nat} (h1:1≤po) (h4:po≤4) (hm0:0<m) (hm1:m≤1000) (hx:v.cell? ⟨xb,0,none⟩=some (.slice (some ⟨sb,0,none⟩) m m)) (hmb:v.cell? ⟨mb,0,none⟩=some (I m)) (hob:v.cell? ⟨sb,which ca m,none⟩=some (Pt ob 0)) (cs:List Frame) (hvw:Rel z v w) (hn:NoRow Ch v)
 (hk:∀ a v' w' o,Fl 31 [(6,Pt (v.heap.size+1) 0)] a→Rel z v' w'→NoRow Ch v'→Grows v v'→v'.heap[v.heap.size+1]? = some (.cells #[I 0,I 0] 38 (0,0))→pO3[14]? = some o→o.dst=some 30→∀ code,Tryd.f28.body=some code →
   GoesI Tryd.prog main (DT (ScZ z) Ch) Stop (G ((base 28).at { tmps:=#[Pt ob 0,Pt tb 0,.agg #[I (po - 1),I cb]]++Array.replicate 11 undef,defers:=[] } [.code code]) ((base 61).at a (.inRegion pO3 [14,15] :: [.code .ret]) :: cs)) w') (code:Code) (hc:Tryd.f61.body=some code) :
 GoesI Tryd.prog main (DT (ScZ z) Ch) Stop (G ((base 61).at { tmps:=#[Pt tb 0,.agg #[I po,I ca,I cb,I cc],Pt xb 0,Pt mb 0]++Array.replicate 27 undef,defers:=[] } [.code code]) cs) w:=by
 have hw0:code=.seq (seq1 pB) (.seq (.seq (seq1 (seq1 (seq2 pB))) (seq2 (seq1 (seq2 pB)))) (.seq (.region 3 pO3 true) .ret)):=by
  rw [show code=pB by unfold pB;rw [hc];rfl];exact ePB
 subst hw0
 clear hc
 refine goesI_seq (dt_idle _ _) ?_
 refine goesI_plain (z:=z) (wr:=true) (L:=LT) (I:=NoRow Ch) hE fineT noRow_keeps (fun v v' w w' es hi hr ho he=>dt_of_z v v' w w' es hi hr ho he) hvw fine_p0 rfl (by simp [base]) hn
  (Q:=fun a w'=>Fl 31 [(0,Pt tb 0),(2,Pt xb 0),(3,Pt mb 0),(5,Pt v.heap.size 0),(6,Pt (v.heap.size+1) 0)] a∧w'.heap=((v.heap.push (.cells #[I po,I ca,I cb,I cc] 35)).push (.cells #[I 0,I 0] 38))∧w'.os=v.os∧w'.output=v.output) (fun τ=>?_) ?_
 ·unfold pB Tryd.f61 seq1
  simp only [Option.getD_some,Array.replicate_succ,Array.replicate_zero,List.push_toArray,List.append_toArray,List.nil_append,List.cons_append]
  go_wp2_with fail
  exact ⟨⟨rfl,rfl,by
   intro p hp
   simp only [List.mem_cons,List.not_mem_nil,or_false] at hp
   rcases hp with rfl|rfl|rfl|rfl|rfl<;>rfl⟩,rfl,rfl,rfl⟩
 rintro a' v' w' ⟨hA,hv1,hv2,hv3⟩ hr' hn' -
 have hsz:v'.heap.size=v.heap.size+2:=by rw [hv1];simp
 have hg:Grows v v':=⟨by omega,fun b hb=>by rw [hv1,Array.getElem?_push,if_neg (by simp;omega),Array.getElem?_push,if_neg (by omega)],hv2,hv3⟩
 have hb0:v'.heap[v.heap.size]? = some (.cells #[I po,I ca,I cb,I cc] 35 (0,0)):=by rw [hv1,Array.getElem?_push,if_neg (by simp<;>omega),Array.getElem?_push,if_pos (by simp)]
 have hb1:v'.heap[v.heap.size+1]? = some (.cells #[I 0,I 0] 38 (0,0)):=by rw [hv1,Array.getElem?_push,if_pos (by simp)]
 have c0:v'.cell? ⟨v.heap.size,0,none⟩=some (I po):=by simp [World.cell?,hb0]
 have c1:v'.cell? ⟨v.heap.size,1,none⟩=some (I ca):=by simp [World.cell?,hb0]
 have c2:v'.cell? ⟨v.heap.size,2,none⟩=some (I cb):=by simp [World.cell?,hb0]
 clear hv1 hv2 hv3
 have e1:seq2 (seq1 (seq2 pB))=.cond (.tmp 14) (condA (seq2 (seq1 (seq2 pB)))) .skip:=by kernel_rfl
 refine goesI_seq (dt_idle _ _) ?_
 refine goesI_seq (dt_idle _ _) ?_
 rw [e1]
 refine goesI_plain (z:=z) (wr:=true) (L:=LT) (I:=NoRow Ch) hE fineT noRow_keeps (fun v v' w w' es hi hr ho he=>dt_of_z v v' w w' es hi hr ho he) hr' fine_p1 hA.2.1 (by simp [base]) hn'
  (Q:=fun a w''=>Fl 31 [(14,.bool false),(0,Pt tb 0),(2,Pt xb 0),(3,Pt mb 0),(5,Pt v.heap.size 0),(6,Pt (v.heap.size+1) 0)] a∧w''.heap=v'.heap∧w''.os=v'.os∧w''.output=v'.output) (fun τ=>p1y_wp (v:=onTape v' τ 0) hA c0 h1 h4) ?_
 rintro a2 v2 w2 ⟨hA2,k1,k2,k3⟩ r2 n2 -
 have g1:Grows v' v2:=⟨by rw [k1];exact Nat.le_refl _,fun b _=>by rw [k1],k2,k3⟩
 have g2:Grows v v2:=gtrans hg g1
 refine goesI_cond (dt_idle _ _) (t:=false) (hA2.at 14 _ (by simp)) ?_
 simp only [if_true,if_false,Bool.false_eq_true]
 refine goesI_skip (dt_idle _ _) ?_
 refine goesI_seq (dt_idle _ _) ?_
 refine p3_pre (main:=main) (rb:=v.heap.size+1) tb xb mb v.heap.size sb m ob po ca cb (hA2.sub (by simp)) _ cs hm0 hm1 (by rw [Pl.i64_wrap];exact Pl.wrap_id (by unfold Pl.Fits;omega)) (g2.cell hx) (g2.cell hmb) (g2.cell hob) (g1.cell c0) (g1.cell c1) (g1.cell c2) r2 n2 (fun v3 w3 a3 o ho hw hA3 r3 n3 g3=>?_)
 refine goesI_into (f:=28) (fn:=Tryd.f28) (args:=#[Pt ob 0,Pt tb 0,.agg #[I (po - 1),I cb]]) (dt_idle _ _) ho (hw _) (by simp [base]) (op_at (p:=.call { callee:=.value (.func 28),args:=#[.tmp 22,.tmp 23,.tmp 29],argTypes:=#[46,48,52] }) (by kernel_rfl) ho) (by simp only [List.map_toArray,List.map_cons,List.map_nil];rw [hA3.at 22 (Pt ob 0) (by simp),hA3.at 23 (Pt tb 0) (by simp),hA3.at 29 (.agg #[I (po - 1),I cb]) (by simp)]) Tryd.func28 (by kernel_rfl) rfl ?_
 exact hk a3 v3 w3 o (hA3.sub (by simp)) r3 n3 (gtrans g2 g3) (by rw [g3.old _ (by rw [k1];omega),k1];exact hb1) ho (dst_at (by kernel_rfl) ho) _ rfl
theorem call_back {z:Nat→Option Nat} {Ch:Nat→Prop} {Stop:Goroutine→World→Prop} {main:Bool} {v w:World} {rb:Nat} {e x:Int} {a:Act} (hA:Fl 31 [(6,Pt rb 0)] a) (cs:List Frame) {bc:Frame} {ac:Act} {ops:Array Oper} {q:Nat} {rest:List Nat} {oc:Oper} {k0:List Item} (hoc:ops[q]? = some oc) (hpb:v.heap[rb]? = some (.cells #[I 0,I 0] 38 (0,0))) (hvw:Rel z v w) (hn:NoRow Ch v)
 (hk:∀ w',Rel z (ansW v rb e x) w'→NoRow Ch (ansW v rb e x)→GoesI Tryd.prog main (DT (ScZ z) Ch) Stop (G (bc.at (ac.put oc.dst (.agg #[I e,I x])) (.inRegion ops rest :: k0)) cs) w') :
 GoesI Tryd.prog main (DT (ScZ z) Ch) Stop (G (pFr a (.agg #[I e,I x])) (bc.at ac (.inRegion ops (q :: rest) :: k0) :: cs)) w:=by
 obtain ⟨hsz,hd,hpp⟩:=hA
 obtain ⟨u,rfl,hg⟩:=litN hsz hd
 have u6:=(hg 6).symm.trans (hpp (6,Pt rb 0) (by simp))
 clear hg hpp hsz hd
 unfold pFr pO3 pB Tryd.f61 seq1 seq2 opsOf
 simp only [Option.getD_some,lits,Nat.reduceAdd,u6]
 clear u6
 walk_nrm
 have q0:v.cell? ⟨rb,0,none⟩=some (I 0):=by simp [World.cell?,hpb]
 have q1:v.cell? ⟨rb,1,none⟩=some (I 0):=by simp [World.cell?,hpb]
 have p0:v.frozen? ⟨rb,0,none⟩=false:=by simp [World.frozen?,hpb]
 have p1:v.frozen? ⟨rb,1,none⟩=false:=by simp [World.frozen?,hpb]
 have hrow:=ans_row hpb (e) (x)
 refine goesI_doZ (L:=LT) rfl rfl (by decide) (fineOp_ask callT extT (by kernel_rfl)) hvw hn (v':=ansW v rb (e) (x)) (by unfold ansW;go_simp) rfl (fun w9 r9 n9=>?_)
 refine goesI_regionEnd (dt_idle _ _) ?_
 refine GoesI.ctl rfl (fun _=>stepG_ret') (dt_idle _ _) ?_
 refine goesI_leaveZ (f:=61) (fn:=Tryd.f61) (x:=.agg #[I (e),I (x)]) r9 n9 Tryd.func61 rfl hoc ?_ (fun w' r'=>hk w' r' n9)
 generalize ansW v rb (e) (x)=V at hrow
 have k0:V.cell? ⟨rb,0,none⟩=some (I (e)):=by simp [World.cell?,hrow]
 have k1:V.cell? ⟨rb,1,none⟩=some (I (x)):=by simp [World.cell?,hrow]
 simp [results,go_sem,Tryd.f61, *]
def cmO (k b:Int):Int×Int:=if k=0 then (0,b) else if k=1 then (70,b) else (71,b)
def lO (o:Nat) (k b:Int) (d i:Nat):List Int:=[(o:Int),k,b,(d:Int),(i:Int)]
def nxO (o:Nat) (k b:Int) (d i:Nat) (a:Int×Int):Nx :=
 match d with
 |0=>.ans a.1 a.2
 |d+1=>.turn 2 (2*o+1) (5,lO o k b d i++[70,a.1])
def comeO (o:Nat) (k b:Int) (d i:Nat):Nx:=if k=3 then .turn 1 (2*o) (1,lO o k b (d+1) i) else .turn 2 (2*o+1) (5,lO o k b d i++[(cmO k b).1,(cmO k b).2])
def lookO (o:Nat) (k b:Int) (d i:Nat) (x:Int):Nx :=
 if R1.stI x=2 then .turn 1 (2*o+1) (2,lO o k b d i++[R1.codI x]) else if R1.stI x=0 then .turn 4 (2*o) (3,lO o k b d i++[x]) else if R1.whoI x=(i:Int) then nxO o k b d i (72,0) else .wait (2*o) (4,lO o k b d i)
def oA (q:Q):Nat:=(q.2.getD 0 0).toNat
def kA (q:Q):Int:=q.2.getD 1 0
def bA (q:Q):Int:=q.2.getD 2 0
def dA (q:Q):Nat:=(q.2.getD 3 0).toNat
def iA (q:Q):Nat:=(q.2.getD 4 0).toNat
def eA (q:Q):Int:=q.2.getD 5 0
def xA (q:Q):Int:=q.2.getD 6 0
def mcO (m:Nat):Mc where
 start i c:=if 1≤c.po∧c.po≤4 then .turn 1 (2*which c.ca m) (1,lO (which c.ca m) (c.po - 1) c.cb 0 i) else .ans 1 0
 turn q x :=
  if q.1=1 then ((x,x),x,lookO (oA q) (kA q) (bA q) (dA q) (iA q) x)
  else if q.1=2 then ((x,x),x,nxO (oA q) (kA q) (bA q) (dA q) (iA q) (eA q,x))
  else if q.1=3 then (if x=eA q then ((eA q,R1.wordI 1 (iA q) 0),R1.wordI 1 (iA q) 0,comeO (oA q) (kA q) (bA q) (dA q) (iA q)) else ((x,x),x,.turn 1 (2*oA q) (1,lO (oA q) (kA q) (bA q) (dA q) (iA q))))
  else if q.1=5 then ((x,xA q),xA q,.turn 2 (2*oA q) (6,lO (oA q) (kA q) (bA q) (dA q) (iA q)++[eA q,xA q]))
  else ((x,R1.wordI 2 0 (eA q)),R1.wordI 2 0 (eA q),nxO (oA q) (kA q) (bA q) (dA q) (iA q) (eA q,xA q))
 woke q:=.turn 1 (2*oA q) (1,lO (oA q) (kA q) (bA q) (dA q) (iA q))
 stuck q:=nxO (oA q) (kA q) (bA q) (dA q) (iA q) (4,0)
 stkN q j q' h:=by
  unfold nxO at h
  split at h<;>cases h
section
variable {m o:Nat} {k b:Int} {d i:Nat} {x:Int}
theorem set_nx (s:Bool) (a:Int×Int):(mcO m).set s (nxO o k b d i a)=nxO o k b d i a:=by
 cases d<;>rfl
theorem set_come (s:Bool):(mcO m).set s (comeO o k b d i)=comeO o k b d i:=by
 unfold comeO
 split<;>rfl
theorem turn1:(mcO m).turn (1,lO o k b d i) x=((x,x),x,lookO o k b d i x):=by simp [mcO,lO,oA,kA,bA,dA,iA]
theorem turn2 (c:Int):(mcO m).turn (2,lO o k b d i++[c]) x=((x,x),x,nxO o k b d i (c,x)):=by simp [mcO,lO,oA,kA,bA,dA,iA,eA]
theorem turn3 (c:Int):(mcO m).turn (3,lO o k b d i++[c]) x=if x=c then ((c,R1.wordI 1 i 0),R1.wordI 1 i 0,comeO o k b d i) else ((x,x),x,.turn 1 (2*o) (1,lO o k b d i)):=by simp [mcO,lO,oA,kA,bA,dA,iA,eA]
theorem turn5 (e y:Int):(mcO m).turn (5,lO o k b d i++[e,y]) x=((x,y),y,.turn 2 (2*o) (6,lO o k b d i++[e,y])):=by simp [mcO,lO,oA,kA,bA,dA,iA,eA,xA]
theorem turn6 (e y:Int):(mcO m).turn (6,lO o k b d i++[e,y]) x=((x,R1.wordI 2 0 e),R1.wordI 2 0 e,nxO o k b d i (e,y)):=by simp [mcO,lO,oA,kA,bA,dA,iA,eA,xA]
theorem woke4:(mcO m).woke (4,lO o k b d i)=.turn 1 (2*o) (1,lO o k b d i):=by simp [mcO,lO,oA,kA,bA,dA,iA]
theorem stuck4:(mcO m).stuck (4,lO o k b d i)=nxO o k b d i (4,0):=by simp [mcO,lO,oA,kA,bA,dA,iA]
end
end Go.Proofs.YtfjjoohflcchnaaDoor.Gen
