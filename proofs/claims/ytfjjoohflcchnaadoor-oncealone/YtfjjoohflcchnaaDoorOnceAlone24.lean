/- Of the proof of OnceAlone. Part 24 of 30. (Joined, by program, and written short, of: OnK.) -/
import Derived.Test.YtfjjoohflcchnaaDoorOnceAlone20
set_option linter.unusedSimpArgs false
set_option linter.unusedVariables false
set_option maxHeartbeats 4000000
set_option maxRecDepth 100000
namespace Go.Proofs.YtfjjoohflcchnaaDoor.Gen
open Go Go.Lift Go.Conc Go.RowKit
noncomputable def kB:Code:=Tryd.f97.body.getD .skip
noncomputable def k4:Code:=seq2 (seq2 (seq2 kB))
noncomputable def kO3:Array Oper:=opsOf (seq1 (seq2 (seq2 kB)))
noncomputable def kO4:Array Oper:=opsOf (seq1 k4)
noncomputable def kVal (a:Act) (r:Value):Frame:=(base 97).at (a.put (some 18) r) [.inRegion kO3 [],.code k4]
noncomputable def kWord (a:Act) (r:Value):Frame:=(base 97).at (a.put (some 27) r) [.inRegion kO4 [],.code (seq2 k4)]
theorem eKB:kB=.seq (seq1 kB) (.seq (.seq (seq1 (seq1 (seq2 kB))) (seq2 (seq1 (seq2 kB)))) (.seq (.region 3 kO3 true) k4)):=by kernel_rfl
theorem eK4:k4=.seq (.region 4 kO4 true) (seq2 k4):=by kernel_rfl
theorem fine_k0:fineCode Tryd.prog true LT (seq1 kB):=fineCode_ask callT extT (by kernel_rfl)
theorem fine_k1:fineCode Tryd.prog true LT (seq1 (seq1 (seq2 kB))):=fineCode_ask callT extT (by kernel_rfl)
def val_k3 (kp tb bx cv:Nat) (x:Int):Nat→Value
 |0=>Pt kp 0
 |1=>Pt kp 0
 |2=>Pt kp 1
 |3=>Pt cv 0
 |4=>Pt tb 0
 |5=>Pt bx 1
 |6=>I x
 |_=>undef
theorem reg_k3:regOk kO3 7 11=true:=by kernel_rfl
theorem fin_k3:((kO3.extract 0 7).all fun o=>plainOp Tryd.prog true o.op||askCall plainFs plainXs o.op)=true:=by kernel_rfl
theorem k3_pre {z:Nat→Option Nat} {Ch:Nat→Prop} {Stop:Goroutine→World→Prop} {main:Bool} {v w:World} (kp tb bx cv:Nat) (x:Int) {rb:Nat} {a:Act} (hA:Fl 29 [(0,Pt kp 0),(1,Pt tb 0),(5,Pt bx 0),(6,Pt rb 0)] a) (k:List Item) (cs:List Frame) (h1:v.cell? ⟨kp,1,none⟩=some (Pt cv 0)) (hb:v.cell? ⟨bx,1,none⟩=some (I x)) (hvw:Rel z v w) (hn:NoRow Ch v)
 (hN:∀ v1 w1 a' o,kO3[7]? = some o→(∀ y,Region.wanted o y=true)→Fl 29 [(0,Pt kp 0),(1,Pt tb 0),(5,Pt bx 0),(6,Pt rb 0),(14,Pt cv 0),(15,Pt tb 0),(17,I x)] a'→Rel z v1 w1→NoRow Ch v1→Grows v v1→GoesI Tryd.prog main (DT (ScZ z) Ch) Stop (G ((base 97).at a' (.inRegion kO3 [7] :: k)) cs) w1) :
 GoesI Tryd.prog main (DT (ScZ z) Ch) Stop (G ((base 97).at a (.code (.region 3 kO3 true) :: k)) cs) w:=by
 refine region_in (val:=val_k3 kp tb bx cv x) reg_k3 (by rw [hA.1];decide) hvw hn ?_ ?_
 ·intro i0 o rest a' v1 w1 hi ho hw ev ev0 r1 n1 g1 hk
  match i0,hi,ho,ev,hk with
  |0,_,ho,ev,hk=>have l0:a'.eval (.tmp 0)=Pt kp 0:=(ev0 0 (by decide)).trans (hA.at 0 _ (by simp));exact op_reads ho hw (by simp [base]) (p:=Op.move (Operand.tmp 0)) (by kernel_rfl) (fine_ops fin_k3 (by decide) ho) r1 n1 (x:=Pt kp 0) rfl (fun o' h'=>by unfold execOp;rw [h'];simp only [l0];simp [go_sem]) hk
  |1,_,ho,ev,hk=>have l0:a'.eval (.tmp 11)=Pt kp 0:=ev 0 (by decide) (by kernel_rfl);exact op_reads ho hw (by simp [base]) (p:=Op.nilCheck (Operand.tmp 11)) (by kernel_rfl) (fine_ops fin_k3 (by decide) ho) r1 n1 (x:=Pt kp 0) rfl (fun o' h'=>by unfold execOp;rw [h'];simp only [l0];simp [go_sem]) hk
  |2,_,ho,ev,hk=>have l0:a'.eval (.tmp 12)=Pt kp 0:=ev 1 (by decide) (by kernel_rfl);exact op_reads ho hw (by simp [base]) (p:=Op.fieldAddr 146 (Operand.tmp 12) 1) (by kernel_rfl) (fine_ops fin_k3 (by decide) ho) r1 n1 (x:=Pt kp 1) rfl (fun o' h'=>by unfold execOp;rw [h'];simp only [l0];simp [go_sem]) hk
  |3,_,ho,ev,hk=>have l0:a'.eval (.tmp 13)=Pt kp 1:=ev 2 (by decide) (by kernel_rfl);have c0:=g1.cell h1;exact op_reads ho hw (by simp [base]) (p:=Op.load 116 (Operand.tmp 13)) (by kernel_rfl) (fine_ops fin_k3 (by decide) ho) r1 n1 (x:=Pt cv 0) rfl (fun o' h'=>by unfold execOp;rw [h'];simp only [l0];simp [go_sem,c0]) hk
  |4,_,ho,ev,hk=>have l0:a'.eval (.tmp 1)=Pt tb 0:=(ev0 1 (by decide)).trans (hA.at 1 _ (by simp));exact op_reads ho hw (by simp [base]) (p:=Op.move (Operand.tmp 1)) (by kernel_rfl) (fine_ops fin_k3 (by decide) ho) r1 n1 (x:=Pt tb 0) rfl (fun o' h'=>by unfold execOp;rw [h'];simp only [l0];simp [go_sem]) hk
  |5,_,ho,ev,hk=>have l0:a'.eval (.tmp 5)=Pt bx 0:=(ev0 5 (by decide)).trans (hA.at 5 _ (by simp));exact op_reads ho hw (by simp [base]) (p:=Op.fieldAddr 38 (Operand.tmp 5) 1) (by kernel_rfl) (fine_ops fin_k3 (by decide) ho) r1 n1 (x:=Pt bx 1) rfl (fun o' h'=>by unfold execOp;rw [h'];simp only [l0];simp [go_sem]) hk
  |6,_,ho,ev,hk=>have l0:a'.eval (.tmp 16)=Pt bx 1:=ev 5 (by decide) (by kernel_rfl);have c0:=g1.cell hb;exact op_reads ho hw (by simp [base]) (p:=Op.load 3 (Operand.tmp 16)) (by kernel_rfl) (fine_ops fin_k3 (by decide) ho) r1 n1 (x:=I x) rfl (fun o' h'=>by unfold execOp;rw [h'];simp only [l0];simp [go_sem,c0]) hk
 ·intro v1 w1 o ho hw r1 n1 g1
  refine hN v1 w1 _ o ho hw ⟨(putN_size _ _ _ _).trans hA.1,(putN_defers _ _ _ _).trans hA.2.1,?_⟩ r1 n1 g1
  have hsz:11+7≤a.tmps.size:=by rw [hA.1];decide
  intro p hp
  simp only [List.mem_cons,List.not_mem_nil,or_false] at hp
  rcases hp with rfl|rfl|rfl|rfl|rfl|rfl|rfl
  ·rw [Array.getD_eq_getD_getElem?,putN_get _ _ _ _ _ hsz,if_neg (by simp),←Array.getD_eq_getD_getElem?];exact hA.2.2 (0,Pt kp 0) (by simp)
  ·rw [Array.getD_eq_getD_getElem?,putN_get _ _ _ _ _ hsz,if_neg (by simp),←Array.getD_eq_getD_getElem?];exact hA.2.2 (1,Pt tb 0) (by simp)
  ·rw [Array.getD_eq_getD_getElem?,putN_get _ _ _ _ _ hsz,if_neg (by simp),←Array.getD_eq_getD_getElem?];exact hA.2.2 (5,Pt bx 0) (by simp)
  ·rw [Array.getD_eq_getD_getElem?,putN_get _ _ _ _ _ hsz,if_neg (by simp),←Array.getD_eq_getD_getElem?];exact hA.2.2 (6,Pt rb 0) (by simp)
  ·rw [Array.getD_eq_getD_getElem?,putN_get _ _ _ _ _ hsz,if_pos (by simp)];rfl
  ·rw [Array.getD_eq_getD_getElem?,putN_get _ _ _ _ _ hsz,if_pos (by simp)];rfl
  ·rw [Array.getD_eq_getD_getElem?,putN_get _ _ _ _ _ hsz,if_pos (by simp)];rfl
def val_k4 (kp tb bx cw:Nat) (e:Int):Nat→Value
 |0=>Pt kp 0
 |1=>Pt kp 0
 |2=>Pt kp 0
 |3=>Pt cw 0
 |4=>Pt tb 0
 |5=>Pt bx 0
 |6=>I e
 |7=>I (R1.wordI 2 0 e)
 |_=>undef
theorem reg_k4:regOk kO4 8 19=true:=by kernel_rfl
theorem fin_k4:((kO4.extract 0 8).all fun o=>plainOp Tryd.prog true o.op||askCall plainFs plainXs o.op)=true:=by kernel_rfl
theorem k4_pre {z:Nat→Option Nat} {Ch:Nat→Prop} {Stop:Goroutine→World→Prop} {main:Bool} {v w:World} (kp tb bx cw:Nat) (e:Int) {rb:Nat} {a:Act} (hA:Fl 29 [(0,Pt kp 0),(1,Pt tb 0),(5,Pt bx 0),(6,Pt rb 0)] a) (k:List Item) (cs:List Frame) (hF:R1.Flds v) (h1:v.cell? ⟨kp,0,none⟩=some (Pt cw 0)) (hb:v.cell? ⟨bx,0,none⟩=some (I e)) (hvw:Rel z v w) (hn:NoRow Ch v)
 (hN:∀ v1 w1 a' o,kO4[8]? = some o→(∀ y,Region.wanted o y=true)→Fl 29 [(0,Pt kp 0),(1,Pt tb 0),(5,Pt bx 0),(6,Pt rb 0),(22,Pt cw 0),(23,Pt tb 0),(26,I (R1.wordI 2 0 e))] a'→Rel z v1 w1→NoRow Ch v1→Grows v v1→GoesI Tryd.prog main (DT (ScZ z) Ch) Stop (G ((base 97).at a' (.inRegion kO4 [8] :: k)) cs) w1) :
 GoesI Tryd.prog main (DT (ScZ z) Ch) Stop (G ((base 97).at a (.code (.region 4 kO4 true) :: k)) cs) w:=by
 refine region_in (val:=val_k4 kp tb bx cw e) reg_k4 (by rw [hA.1];decide) hvw hn ?_ ?_
 ·intro i0 o rest a' v1 w1 hi ho hw ev ev0 r1 n1 g1 hk
  match i0,hi,ho,ev,hk with
  |0,_,ho,ev,hk=>have l0:a'.eval (.tmp 0)=Pt kp 0:=(ev0 0 (by decide)).trans (hA.at 0 _ (by simp));exact op_reads ho hw (by simp [base]) (p:=Op.move (Operand.tmp 0)) (by kernel_rfl) (fine_ops fin_k4 (by decide) ho) r1 n1 (x:=Pt kp 0) rfl (fun o' h'=>by unfold execOp;rw [h'];simp only [l0];simp [go_sem]) hk
  |1,_,ho,ev,hk=>have l0:a'.eval (.tmp 19)=Pt kp 0:=ev 0 (by decide) (by kernel_rfl);exact op_reads ho hw (by simp [base]) (p:=Op.nilCheck (Operand.tmp 19)) (by kernel_rfl) (fine_ops fin_k4 (by decide) ho) r1 n1 (x:=Pt kp 0) rfl (fun o' h'=>by unfold execOp;rw [h'];simp only [l0];simp [go_sem]) hk
  |2,_,ho,ev,hk=>have l0:a'.eval (.tmp 20)=Pt kp 0:=ev 1 (by decide) (by kernel_rfl);exact op_reads ho hw (by simp [base]) (p:=Op.fieldAddr 146 (Operand.tmp 20) 0) (by kernel_rfl) (fine_ops fin_k4 (by decide) ho) r1 n1 (x:=Pt kp 0) rfl (fun o' h'=>by unfold execOp;rw [h'];simp only [l0];simp [go_sem]) hk
  |3,_,ho,ev,hk=>have l0:a'.eval (.tmp 21)=Pt kp 0:=ev 2 (by decide) (by kernel_rfl);have c0:=g1.cell h1;exact op_reads ho hw (by simp [base]) (p:=Op.load 116 (Operand.tmp 21)) (by kernel_rfl) (fine_ops fin_k4 (by decide) ho) r1 n1 (x:=Pt cw 0) rfl (fun o' h'=>by unfold execOp;rw [h'];simp only [l0];simp [go_sem,c0]) hk
  |4,_,ho,ev,hk=>have l0:a'.eval (.tmp 1)=Pt tb 0:=(ev0 1 (by decide)).trans (hA.at 1 _ (by simp));exact op_reads ho hw (by simp [base]) (p:=Op.move (Operand.tmp 1)) (by kernel_rfl) (fine_ops fin_k4 (by decide) ho) r1 n1 (x:=Pt tb 0) rfl (fun o' h'=>by unfold execOp;rw [h'];simp only [l0];simp [go_sem]) hk
  |5,_,ho,ev,hk=>have l0:a'.eval (.tmp 5)=Pt bx 0:=(ev0 5 (by decide)).trans (hA.at 5 _ (by simp));exact op_reads ho hw (by simp [base]) (p:=Op.fieldAddr 38 (Operand.tmp 5) 0) (by kernel_rfl) (fine_ops fin_k4 (by decide) ho) r1 n1 (x:=Pt bx 0) rfl (fun o' h'=>by unfold execOp;rw [h'];simp only [l0];simp [go_sem]) hk
  |6,_,ho,ev,hk=>have l0:a'.eval (.tmp 24)=Pt bx 0:=ev 5 (by decide) (by kernel_rfl);have c0:=g1.cell hb;exact op_reads ho hw (by simp [base]) (p:=Op.load 28 (Operand.tmp 24)) (by kernel_rfl) (fine_ops fin_k4 (by decide) ho) r1 n1 (x:=I e) rfl (fun o' h'=>by unfold execOp;rw [h'];simp only [l0];simp [go_sem,c0]) hk
  |7,_,ho,ev,hk =>
   have l0:a'.eval (.tmp 25)=I e:=ev 6 (by decide) (by kernel_rfl)
   exact op_calls (f:=96) (fn:=Tryd.f96) (xs:=#[.const (.int .i64 2),.const (.int .i64 0),.tmp 25]) (ats:=#[3,3,28]) (args:=#[I 2,I 0,I e]) ho hw (by simp [base]) (by kernel_rfl) (by simp only [List.map_toArray,List.map_cons,List.map_nil,l0];rfl) Tryd.func96 (by kernel_rfl) rfl (fineFn_body fineT (by simp [LT,plainFs]) Tryd.func96 rfl) (fun tmps=>⟨_,fun w=>results_tmp rfl _ _ _,fun w=>by simp [results,go_sem]⟩) r1 n1 (x:=I (R1.wordI 2 0 e)) rfl (fun τ=>wp_mono (R1.wordOf_any 2 0 e (onTape v1 τ 0) ((flds_grows hF g1).of (fun a x h=>h)) _ rfl) (bp_mono fun r u hq=>⟨hq.1,gtape (blw_grows hq.2)⟩)) hk
 ·intro v1 w1 o ho hw r1 n1 g1
  refine hN v1 w1 _ o ho hw ⟨(putN_size _ _ _ _).trans hA.1,(putN_defers _ _ _ _).trans hA.2.1,?_⟩ r1 n1 g1
  have hsz:19+8≤a.tmps.size:=by rw [hA.1];decide
  intro p hp
  simp only [List.mem_cons,List.not_mem_nil,or_false] at hp
  rcases hp with rfl|rfl|rfl|rfl|rfl|rfl|rfl
  ·rw [Array.getD_eq_getD_getElem?,putN_get _ _ _ _ _ hsz,if_neg (by simp),←Array.getD_eq_getD_getElem?];exact hA.2.2 (0,Pt kp 0) (by simp)
  ·rw [Array.getD_eq_getD_getElem?,putN_get _ _ _ _ _ hsz,if_neg (by simp),←Array.getD_eq_getD_getElem?];exact hA.2.2 (1,Pt tb 0) (by simp)
  ·rw [Array.getD_eq_getD_getElem?,putN_get _ _ _ _ _ hsz,if_neg (by simp),←Array.getD_eq_getD_getElem?];exact hA.2.2 (5,Pt bx 0) (by simp)
  ·rw [Array.getD_eq_getD_getElem?,putN_get _ _ _ _ _ hsz,if_neg (by simp),←Array.getD_eq_getD_getElem?];exact hA.2.2 (6,Pt rb 0) (by simp)
  ·rw [Array.getD_eq_getD_getElem?,putN_get _ _ _ _ _ hsz,if_pos (by simp)];rfl
  ·rw [Array.getD_eq_getD_getElem?,putN_get _ _ _ _ _ hsz,if_pos (by simp)];rfl
  ·rw [Array.getD_eq_getD_getElem?,putN_get _ _ _ _ _ hsz,if_pos (by simp)];rfl
theorem keep_in {z:Nat→Option Nat} {Ch:Nat→Prop} {Stop:Goroutine→World→Prop} {main:Bool} {v w:World} {kp tb:Nat} {e x:Int} (he:e≠4) (cs:List Frame) (hvw:Rel z v w) (hn:NoRow Ch v)
 (hk:∀ a v' w',Fl 29 [(0,Pt kp 0),(1,Pt tb 0),(5,Pt v.heap.size 0),(6,Pt (v.heap.size+1) 0)] a→Rel z v' w'→NoRow Ch v'→Grows v v'→v'.heap[v.heap.size]? = some (.cells #[I e,I x] 38 (0,0))→v'.heap[v.heap.size+1]? = some (.cells #[I 0,I 0] 38 (0,0))→GoesI Tryd.prog main (DT (ScZ z) Ch) Stop (G ((base 97).at a [.code (.seq (.region 3 kO3 true) k4)]) cs) w') (code:Code) (hc:Tryd.f97.body=some code) :
 GoesI Tryd.prog main (DT (ScZ z) Ch) Stop (G ((base 97).at { tmps:=#[Pt kp 0,Pt tb 0,.agg #[I e,I x]]++Array.replicate 26 undef,defers:=[] } [.code code]) cs) w:=by
 have hw0:code=.seq (seq1 kB) (.seq (.seq (seq1 (seq1 (seq2 kB))) (seq2 (seq1 (seq2 kB)))) (.seq (.region 3 kO3 true) k4)):=by
  rw [show code=kB by unfold kB;rw [hc];rfl];exact eKB
 subst hw0
 clear hc
 refine goesI_seq (dt_idle _ _) ?_
 refine goesI_plain (z:=z) (wr:=true) (L:=LT) (I:=NoRow Ch) hE fineT noRow_keeps (fun v v' w w' es hi hr ho he=>dt_of_z v v' w w' es hi hr ho he) hvw fine_k0 rfl (by simp [base]) hn
  (Q:=fun a w'=>Fl 29 [(0,Pt kp 0),(1,Pt tb 0),(5,Pt v.heap.size 0),(6,Pt (v.heap.size+1) 0)] a∧w'.heap=(v.heap.push (.cells #[I e,I x] 38)).push (.cells #[I 0,I 0] 38)∧w'.os=v.os∧w'.output=v.output) (fun τ=>?_) ?_
 ·unfold kB Tryd.f97 seq1
  simp only [Option.getD_some,Array.replicate_succ,Array.replicate_zero,List.push_toArray,List.append_toArray,List.nil_append,List.cons_append]
  go_wp2_with fail
  exact ⟨⟨rfl,rfl,by
   intro p hp
   simp only [List.mem_cons,List.not_mem_nil,or_false] at hp
   rcases hp with rfl|rfl|rfl|rfl<;>rfl⟩,rfl,rfl,rfl⟩
 rintro a' v' w' ⟨hA,hv1,hv2,hv3⟩ hr' hn' -
 have hsz:v'.heap.size=v.heap.size+2:=by rw [hv1];simp
 have hg:Grows v v':=⟨by omega,fun b hb=>by rw [hv1,Array.getElem?_push,if_neg (by simp;omega),Array.getElem?_push,if_neg (by omega)],hv2,hv3⟩
 have hbox:v'.heap[v.heap.size]? = some (.cells #[I e,I x] 38 (0,0)):=by rw [hv1,Array.getElem?_push,if_neg (by simp)];exact Array.getElem?_push_size
 have hans:v'.heap[v.heap.size+1]? = some (.cells #[I 0,I 0] 38 (0,0)):=by rw [hv1,Array.getElem?_push,if_pos (by simp)]
 refine goesI_seq (dt_idle _ _) ?_
 refine goesI_seq (dt_idle _ _) ?_
 refine goesI_plain (z:=z) (wr:=true) (L:=LT) (I:=NoRow Ch) hE fineT noRow_keeps (fun v v' w w' es hi hr ho he=>dt_of_z v v' w w' es hi hr ho he) hr' fine_k1 hA.2.1 (by simp [base]) hn'
  (Q:=fun a w''=>Fl 29 [(9,.bool false),(0,Pt kp 0),(1,Pt tb 0),(5,Pt v.heap.size 0),(6,Pt (v.heap.size+1) 0)] a∧w''.heap=v'.heap∧w''.os=v'.os∧w''.output=v'.output) (fun τ=>?_) ?_
 ·have b0:(onTape v' τ 0).cell? ⟨v.heap.size,0,none⟩=some (I e):=by
   show v'.cell? _=_
   simp [World.cell?,hbox]
  have he':(e==4)=false:=by simpa using he
  clear hv1 hv2 hv3 hbox hans hg hsz
  generalize v.heap.size=N at hA b0 ⊢
  obtain ⟨hsz,hd,hpp⟩:=hA
  obtain ⟨u,rfl,hg⟩:=litN hsz hd
  have u0:=(hg 0).symm.trans (hpp (0,Pt kp 0) (by simp))
  have u1:=(hg 1).symm.trans (hpp (1,Pt tb 0) (by simp))
  have u5:=(hg 5).symm.trans (hpp (5,Pt N 0) (by simp))
  have u6:=(hg 6).symm.trans (hpp (6,Pt (N+1) 0) (by simp))
  clear hg hpp hsz hd
  unfold kB Tryd.f97 seq1 seq2
  simp only [Option.getD_some,lits,Nat.reduceAdd,u0,u1,u5,u6]
  clear u0 u1 u5 u6
  go_wp2_with fail
  refine (show ∀ q,q→q∧(onTape v' τ 0).heap=v'.heap∧(onTape v' τ 0).os=v'.os∧(onTape v' τ 0).output=v'.output from fun q h=>⟨h,rfl,rfl,rfl⟩) _ ?_
  exact ⟨rfl,rfl,by
   intro p hp
   simp only [List.mem_cons,List.not_mem_nil,or_false] at hp
   rcases hp with rfl|rfl|rfl|rfl|rfl<;>rfl⟩
 rintro a2 v2 w2 ⟨hA2,k1,k2,k3⟩ r2 n2 -
 have e1:seq2 (seq1 (seq2 kB))=.cond (.tmp 9) (condA (seq2 (seq1 (seq2 kB)))) .skip:=by kernel_rfl
 rw [e1]
 refine goesI_cond (dt_idle _ _) (t:=false) (hA2.at 9 _ (by simp)) ?_
 simp only [if_true,if_false,Bool.false_eq_true]
 refine goesI_skip (dt_idle _ _) ?_
 exact hk a2 v2 w2 (hA2.sub (by simp)) r2 n2 (gtrans hg ⟨by rw [k1];exact Nat.le_refl _,fun b _=>by rw [k1],k2,k3⟩) (by rw [k1];exact hbox) (by rw [k1];exact hans)
theorem keep_store {z:Nat→Option Nat} {Ch:Nat→Prop} {Stop:Goroutine→World→Prop} {h:Nat} {cont:Addr→Value} {S:TS} {K:List (Nat×Int)} {v w:World} {i j cb kp bx rb:Nat} {t:Thr} {x:Int} (y:Int) (h1:v.cell? ⟨kp,1,none⟩=some (Pt cb 0)) (hb:v.cell? ⟨bx,1,none⟩=some (I x)) {a:Act} (hA:Fl 29 [(0,Pt kp 0),(1,Pt t.tb 0),(5,Pt bx 0),(6,Pt rb 0)] a) (cs:List Frame) (Hm:Goroutine→Prop)
 (hH:∀ g,(∃ a,Fl 29 [(0,Pt kp 0),(1,Pt t.tb 0),(5,Pt bx 0),(6,Pt rb 0)] a∧OpBack (h==0) i j cb t.tb 2 (effStore x) (fun r=>G (kVal a r) cs) g)→Hm g)
 (hvw:Rel z v w) (hn:NoRow Ch v) (hm:Mem z S K v) (ht:S.thr[i]? = some t) (hK:K[j]? = some (cb,y)) (hz:z t.tb=some 2) (hcont:cont ⟨t.tb,2,none⟩=.chan (some t.gc))
 (hstop:∀ g w',GiveT z cont h S.bk t.gc Hm (Then z Ch S K v (waiting S i t 1 2 j) K) g w'→Stop g w') :
 GoesI Tryd.prog (h==0) (DT (ScZ z) Ch) Stop (G ((base 97).at a [.code (.seq (.region 3 kO3 true) k4)]) cs) w:=by
 refine goesI_seq (dt_idle _ _) ?_
 refine k3_pre (main:=h==0) (rb:=rb) kp t.tb bx cb x hA _ cs h1 hb hvw hn (fun v2 w2 a2 o ho hw hA2 r2 n2 g2=>?_)
 have e2:=hm.grows g2
 refine goesI_into (f:=76) (fn:=Tryd.f76) (args:=#[Pt cb 0,Pt t.tb 0,I x]) (dt_idle _ _) ho (hw _) (by simp [base]) (op_at (p:=.call { callee:=.value (.func 76),args:=#[.tmp 14,.tmp 15,.tmp 17],argTypes:=#[116,48,3] }) (by kernel_rfl) ho) (by simp only [List.map_toArray,List.map_cons,List.map_nil];rw [hA2.at 14 (Pt cb 0) (by simp),hA2.at 15 (Pt t.tb 0) (by simp),hA2.at 17 (I x) (by simp)]) Tryd.func76 (by kernel_rfl) rfl ?_
 refine store_goes x y _ Hm ho (fun g hg=>hH g ⟨a2,hA2.sub (by simp),?_⟩) r2 n2 e2.mem ht hK hz hcont (fun g w' hg=>hstop g w' (give_mono (fun hF=>?_) hg)) _ rfl
 ·rw [dst_at (p:=some 18) (by kernel_rfl) ho] at hg
  exact hg
 ·obtain ⟨v',k1,k2,k3⟩:=hF
  exact ⟨v',k1,k2,e2.trans k3⟩
theorem keep_word {z:Nat→Option Nat} {Ch:Nat→Prop} {Stop:Goroutine→World→Prop} {h:Nat} {cont:Addr→Value} {S:TS} {K:List (Nat×Int)} {v w:World} {i j cb kp bx rb:Nat} {t:Thr} {e:Int} (y:Int) (hF:R1.Flds v) (h0:v.cell? ⟨kp,0,none⟩=some (Pt cb 0)) (hb:v.cell? ⟨bx,0,none⟩=some (I e)) {a:Act} (hA:Fl 29 [(0,Pt kp 0),(1,Pt t.tb 0),(5,Pt bx 0),(6,Pt rb 0)] a) (r0:Value) (cs:List Frame) (Hm:Goroutine→Prop)
 (hH:∀ g,(∃ a,Fl 29 [(0,Pt kp 0),(1,Pt t.tb 0),(5,Pt bx 0),(6,Pt rb 0)] a∧OpBack (h==0) i j cb t.tb 2 (effStore (R1.wordI 2 0 e)) (fun r=>G (kWord a r) cs) g)→Hm g)
 (hvw:Rel z v w) (hn:NoRow Ch v) (hm:Mem z S K v) (ht:S.thr[i]? = some t) (hK:K[j]? = some (cb,y)) (hz:z t.tb=some 2) (hcont:cont ⟨t.tb,2,none⟩=.chan (some t.gc))
 (hstop:∀ g w',GiveT z cont h S.bk t.gc Hm (Then z Ch S K v (waiting S i t 1 2 j) K) g w'→Stop g w') :
 GoesI Tryd.prog (h==0) (DT (ScZ z) Ch) Stop (G (kVal a r0) cs) w:=by
 have hA1:Fl 29 [(0,Pt kp 0),(1,Pt t.tb 0),(5,Pt bx 0),(6,Pt rb 0)] (a.put (some 18) r0):=(fl_put hA (by decide) (by simp)).sub (by simp)
 unfold kVal
 generalize a.put (some 18) r0=a1 at hA1
 refine goesI_regionEnd (dt_idle _ _) ?_
 rw [eK4]
 refine goesI_seq (dt_idle _ _) ?_
 refine k4_pre (main:=h==0) (rb:=rb) kp t.tb bx cb e hA1 _ cs hF h0 hb hvw hn (fun v2 w2 a2 o ho hw hA2 r2 n2 g2=>?_)
 have e2:=hm.grows g2
 refine goesI_into (f:=76) (fn:=Tryd.f76) (args:=#[Pt cb 0,Pt t.tb 0,I (R1.wordI 2 0 e)]) (dt_idle _ _) ho (hw _) (by simp [base]) (op_at (p:=.call { callee:=.value (.func 76),args:=#[.tmp 22,.tmp 23,.tmp 26],argTypes:=#[116,48,3] }) (by kernel_rfl) ho) (by simp only [List.map_toArray,List.map_cons,List.map_nil];rw [hA2.at 22 (Pt cb 0) (by simp),hA2.at 23 (Pt t.tb 0) (by simp),hA2.at 26 (I (R1.wordI 2 0 e)) (by simp)]) Tryd.func76 (by kernel_rfl) rfl ?_
 refine store_goes (R1.wordI 2 0 e) y _ Hm ho (fun g hg=>hH g ⟨a2,hA2.sub (by simp),?_⟩) r2 n2 e2.mem ht hK hz hcont (fun g w' hg=>hstop g w' (give_mono (fun hF=>?_) hg)) _ rfl
 ·rw [dst_at (p:=some 27) (by kernel_rfl) ho] at hg
  exact hg
 ·obtain ⟨v',k1,k2,k3⟩:=hF
  exact ⟨v',k1,k2,e2.trans k3⟩
theorem keep_out {z:Nat→Option Nat} {Ch:Nat→Prop} {Stop:Goroutine→World→Prop} {main:Bool} {v w:World} {kp tb bx rb:Nat} {e x:Int} {a:Act} (hA:Fl 29 [(0,Pt kp 0),(1,Pt tb 0),(5,Pt bx 0),(6,Pt rb 0)] a) (r0:Value) (cs:List Frame) {bc:Frame} {ac:Act} {ops:Array Oper} {q:Nat} {rest:List Nat} {oc:Oper} {k0:List Item} (hoc:ops[q]? = some oc) (hbx:v.heap[bx]? = some (.cells #[I e,I x] 38 (0,0))) (hpb:v.heap[rb]? = some (.cells #[I 0,I 0] 38 (0,0))) (hvw:Rel z v w) (hn:NoRow Ch v)
 (hk:∀ w',Rel z (ansW v rb e x) w'→NoRow Ch (ansW v rb e x)→GoesI Tryd.prog main (DT (ScZ z) Ch) Stop (G (bc.at (ac.put oc.dst (.agg #[I e,I x])) (.inRegion ops rest :: k0)) cs) w') :
 GoesI Tryd.prog main (DT (ScZ z) Ch) Stop (G (kWord a r0) (bc.at ac (.inRegion ops (q :: rest) :: k0) :: cs)) w:=by
 have d0:w.cell? ⟨bx,0,none⟩=some (I e):=by rw [hvw.cell?];simp [World.cell?,hbx]
 have d1:w.cell? ⟨bx,1,none⟩=some (I x):=by rw [hvw.cell?];simp [World.cell?,hbx]
 obtain ⟨hsz,hd,hpp⟩:=hA
 obtain ⟨u,rfl,hg⟩:=litN hsz hd
 have u0:=(hg 0).symm.trans (hpp (0,Pt kp 0) (by simp))
 have u1:=(hg 1).symm.trans (hpp (1,Pt tb 0) (by simp))
 have u5:=(hg 5).symm.trans (hpp (5,Pt bx 0) (by simp))
 have u6:=(hg 6).symm.trans (hpp (6,Pt rb 0) (by simp))
 clear hg hpp hsz hd
 unfold kWord kO4 k4 kB Tryd.f97 seq1 seq2 opsOf
 simp only [Option.getD_some,lits,Nat.reduceAdd,u0,u1,u5,u6]
 clear u0 u1 u5 u6
 walk_nrm
 refine goesI_regionEnd (dt_idle _ _) ?_
 refine goesI_seq (dt_idle _ _) ?_
 refine goesI_region (dt_idle _ _) ?_
 simp only [List.size_toArray,List.length_cons,List.length_nil,Nat.reduceAdd,Nat.zero_add,List.range,List.range.loop]
 iterate 1
  (refine goesI_oper rfl rfl (by decide) (fun d K hK=>?_)
   go_simp
   refine hK _ _ ⟨dt_reads (fun e he=>?_),GoesI.at ?_ d⟩
   ·have hm:=mem_listed he
    simp [go_sem, *] at hm
    try exact ⟨_,_,hm⟩
    try (rcases hm with rfl|rfl<;>exact ⟨_,_,rfl⟩)
   clear hK K)
 have q0:v.cell? ⟨rb,0,none⟩=some (I 0):=by simp [World.cell?,hpb]
 have q1:v.cell? ⟨rb,1,none⟩=some (I 0):=by simp [World.cell?,hpb]
 have p0:v.frozen? ⟨rb,0,none⟩=false:=by simp [World.frozen?,hpb]
 have p1:v.frozen? ⟨rb,1,none⟩=false:=by simp [World.frozen?,hpb]
 have hrow:=ans_row hpb (e) (x)
 refine goesI_doZ (L:=LT) rfl rfl (by decide) (fineOp_ask callT extT (by kernel_rfl)) hvw hn (v':=ansW v rb (e) (x)) (by unfold ansW;go_simp) rfl (fun w9 r9 n9=>?_)
 refine goesI_regionEnd (dt_idle _ _) ?_
 refine GoesI.ctl rfl (fun _=>stepG_ret') (dt_idle _ _) ?_
 refine goesI_leaveZ (f:=97) (fn:=Tryd.f97) (x:=.agg #[I (e),I (x)]) r9 n9 Tryd.func97 rfl hoc ?_ (fun w' r'=>hk w' r' n9)
 generalize ansW v rb (e) (x)=V at hrow
 have k0:V.cell? ⟨rb,0,none⟩=some (I (e)):=by simp [World.cell?,hrow]
 have k1:V.cell? ⟨rb,1,none⟩=some (I (x)):=by simp [World.cell?,hrow]
 simp [results,go_sem,Tryd.f97, *]
end Go.Proofs.YtfjjoohflcchnaaDoor.Gen
