/- OnceOnce, part 16 of 26: OnK, OnG2, OnS, OnF, OnF2, GEnd, La5a, La3a. -/
import Derived.Test.YtfjjoohflcchnaaDoorOnceOnce01
import Derived.Test.YtfjjoohflcchnaaDoorOnceOnce13
import Derived.Test.YtfjjoohflcchnaaDoorOnceOnce14
import Derived.Test.YtfjjoohflcchnaaDoorOnceOnce15
set_option linter.unusedSimpArgs false
set_option linter.unusedVariables false
set_option maxHeartbeats 4000000
set_option maxRecDepth 100000
noncomputable section
namespace Go.Proofs.YtfjjoohflcchnaaDoor.Gen
open Go Go.Lift Go.Conc Go.RowKit
variable {z:Nat->Option Nat} {Ch:Nat->Prop} {Stop:Goroutine->World->Prop} {v w:World} {bx cb i j kp q rb:Nat} {e x:Int} {bc:Frame} {ac:Act} {ops:Array Oper} {oc:Oper} {k0:List Item} {F:Value} {o:Obj}
def kB:Code:=Tryd.f97.body.getD .skip
def k4:Code:=seq2 (seq2 (seq2 kB))
def kO3:Array Oper:=opsOf (seq1 (seq2 (seq2 kB)))
def kO4:Array Oper:=opsOf (seq1 k4)
def kVal (a:Act) (r:Value):Frame:=(base 97).at (a.put (some 18) r) [.inRegion kO3 [],.code k4]
def kWord (a:Act) (r:Value):Frame:=(base 97).at (a.put (some 27) r) [.inRegion kO4 [],.code (seq2 k4)]
theorem eKB:kB=.seq (seq1 kB) (.seq (.seq (seq1 (seq1 (seq2 kB))) (seq2 (seq1 (seq2 kB)))) (.seq (.region 3 kO3 true) k4)):=by kernel_rfl
theorem eK4:k4=.seq (.region 4 kO4 true) (seq2 k4):=by kernel_rfl
theorem fine_k0:fineCode Tryd.prog true LT (seq1 kB):=fineCode_ask callT extT (by kernel_rfl)
theorem fine_k1:fineCode Tryd.prog true LT (seq1 (seq1 (seq2 kB))):=fineCode_ask callT extT (by kernel_rfl)
def val_k3 (kp tb bx cv:Nat) (x:Int):Nat->Value
 |0=>Pt kp 0
 |1=>Pt kp 0
 |2=>Pt kp 1
 |3=>Pt cv 0
 |4=>Pt tb 0
 |5=>Pt bx 1
 |6=>I x
 |_=>undef
theorem reg_k3:regOk kO3 7 11=true:=by kernel_rfl
theorem fin_k3:((kO3.extract 0 7).all λo=>plainOp Tryd.prog true o.op||askCall plainFs plainXs o.op)=true:=by kernel_rfl
theorem k3_pre {main:Bool}(kp tb bx cv:Nat) (x:Int) {a:Act}(hA:Fl 29 [(0,Pt kp 0),(1,Pt tb 0),(5,Pt bx 0),(6,Pt rb 0)] a) (k:List Item) (cs:List Frame) (h1:v.cell? ⟨kp,1,none⟩=some (Pt cv 0)) (hb:v.cell? ⟨bx,1,none⟩=some (I x)) (hvw:Rel z v w) (hn:NoRow Ch v)
 (hN:∀ v1 w1 a' o,kO3[7]? = some o->(∀ y,Region.wanted o y=true)->Fl 29 [(0,Pt kp 0),(1,Pt tb 0),(5,Pt bx 0),(6,Pt rb 0),(14,Pt cv 0),(15,Pt tb 0),(17,I x)] a'->Rel z v1 w1->NoRow Ch v1->Grows v v1->GoesI Tryd.prog main (DT (ScZ z) Ch) Stop (G ((base 97).at a' (.inRegion kO3 [7] :: k)) cs) w1):
 GoesI Tryd.prog main (DT (ScZ z) Ch) Stop (G ((base 97).at a (.code (.region 3 kO3 true) :: k)) cs) w:=by
 refine A7 (val:=val_k3 kp tb bx cv x) reg_k3 (by rw[hA.1];decide) hvw hn ?_ ?_
 .intro i0 o rest a' v1 w1 hi ho hw ev ev0 r1 n1 g1 hk
  match i0,hi,ho,ev,hk with
  |0,_,ho,ev,hk=>have l0:a'.eval (.tmp 0)=Pt kp 0:=(ev0 0 (by decide)).trans (hA.at 0 _ (by simp));exact Ab ho hw (by simp[base]) (p:=Op.move (Operand.tmp 0)) (by kernel_rfl) (Ad fin_k3 (by decide) ho) r1 n1 (x:=Pt kp 0) rfl (λo' h'=>by unfold execOp;rw[h'];simp only[l0];simp[go_sem]) hk
  |1,_,ho,ev,hk=>have l0:a'.eval (.tmp 11)=Pt kp 0:=ev 0 (by decide) (by kernel_rfl);exact Ab ho hw (by simp[base]) (p:=Op.nilCheck (Operand.tmp 11)) (by kernel_rfl) (Ad fin_k3 (by decide) ho) r1 n1 (x:=Pt kp 0) rfl (λo' h'=>by unfold execOp;rw[h'];simp only[l0];simp[go_sem]) hk
  |2,_,ho,ev,hk=>have l0:a'.eval (.tmp 12)=Pt kp 0:=ev 1 (by decide) (by kernel_rfl);exact Ab ho hw (by simp[base]) (p:=Op.fieldAddr 146 (Operand.tmp 12) 1) (by kernel_rfl) (Ad fin_k3 (by decide) ho) r1 n1 (x:=Pt kp 1) rfl (λo' h'=>by unfold execOp;rw[h'];simp only[l0];simp[go_sem]) hk
  |3,_,ho,ev,hk=>have l0:a'.eval (.tmp 13)=Pt kp 1:=ev 2 (by decide) (by kernel_rfl);have c0:=g1.cell h1;exact Ab ho hw (by simp[base]) (p:=Op.load 116 (Operand.tmp 13)) (by kernel_rfl) (Ad fin_k3 (by decide) ho) r1 n1 (x:=Pt cv 0) rfl (λo' h'=>by unfold execOp;rw[h'];simp only[l0];simp[go_sem,c0]) hk
  |4,_,ho,ev,hk=>have l0:a'.eval (.tmp 1)=Pt tb 0:=(ev0 1 (by decide)).trans (hA.at 1 _ (by simp));exact Ab ho hw (by simp[base]) (p:=Op.move (Operand.tmp 1)) (by kernel_rfl) (Ad fin_k3 (by decide) ho) r1 n1 (x:=Pt tb 0) rfl (λo' h'=>by unfold execOp;rw[h'];simp only[l0];simp[go_sem]) hk
  |5,_,ho,ev,hk=>have l0:a'.eval (.tmp 5)=Pt bx 0:=(ev0 5 (by decide)).trans (hA.at 5 _ (by simp));exact Ab ho hw (by simp[base]) (p:=Op.fieldAddr 38 (Operand.tmp 5) 1) (by kernel_rfl) (Ad fin_k3 (by decide) ho) r1 n1 (x:=Pt bx 1) rfl (λo' h'=>by unfold execOp;rw[h'];simp only[l0];simp[go_sem]) hk
  |6,_,ho,ev,hk=>have l0:a'.eval (.tmp 16)=Pt bx 1:=ev 5 (by decide) (by kernel_rfl);have c0:=g1.cell hb;exact Ab ho hw (by simp[base]) (p:=Op.load 3 (Operand.tmp 16)) (by kernel_rfl) (Ad fin_k3 (by decide) ho) r1 n1 (x:=I x) rfl (λo' h'=>by unfold execOp;rw[h'];simp only[l0];simp[go_sem,c0]) hk
 .intro v1 w1 o ho hw r1 n1 g1
  refine hN v1 w1 _ o ho hw ⟨(An _ _ _ _).trans hA.1,(Al _ _ _ _).trans hA.2.1,?_⟩ r1 n1 g1;have hsz:11+7<=a.tmps.size:=by rw[hA.1];decide
  intro p hp;simp only[Sm,or_false] at hp;rcases hp with rfl|rfl|rfl|rfl|rfl|rfl|rfl;rw[Qe,Aa _ _ _ _ _ hsz,if_neg (by simp),<-Qe];exact hA.2.2 (0,Pt kp 0) (by simp);rw[Qe,Aa _ _ _ _ _ hsz,if_neg (by simp),<-Qe];exact hA.2.2 (1,Pt tb 0) (by simp);rw[Qe,Aa _ _ _ _ _ hsz,if_neg (by simp),<-Qe];exact hA.2.2 (5,Pt bx 0) (by simp);rw[Qe,Aa _ _ _ _ _ hsz,if_neg (by simp),<-Qe];exact hA.2.2 (6,Pt rb 0) (by simp);rw[Qe,Aa _ _ _ _ _ hsz,if_pos (by simp)];rfl;rw[Qe,Aa _ _ _ _ _ hsz,if_pos (by simp)];rfl;rw[Qe,Aa _ _ _ _ _ hsz,if_pos (by simp)];rfl
def val_k4 (kp tb bx cw:Nat) (e:Int):Nat->Value
 |0=>Pt kp 0
 |1=>Pt kp 0
 |2=>Pt kp 0
 |3=>Pt cw 0
 |4=>Pt tb 0
 |5=>Pt bx 0
 |6=>I e
 |7=>I (R1.Ae 2 0 e)
 |_=>undef
theorem reg_k4:regOk kO4 8 19=true:=by kernel_rfl
theorem fin_k4:((kO4.extract 0 8).all λo=>plainOp Tryd.prog true o.op||askCall plainFs plainXs o.op)=true:=by kernel_rfl
theorem k4_pre {main:Bool}(kp tb bx cw:Nat) (e:Int) {a:Act}(hA:Fl 29 [(0,Pt kp 0),(1,Pt tb 0),(5,Pt bx 0),(6,Pt rb 0)] a) (k:List Item) (cs:List Frame) (hF:R1.Flds v) (h1:v.cell? ⟨kp,0,none⟩=some (Pt cw 0)) (hb:v.cell? ⟨bx,0,none⟩=some (I e)) (hvw:Rel z v w) (hn:NoRow Ch v)
 (hN:∀ v1 w1 a' o,kO4[8]? = some o->(∀ y,Region.wanted o y=true)->Fl 29 [(0,Pt kp 0),(1,Pt tb 0),(5,Pt bx 0),(6,Pt rb 0),(22,Pt cw 0),(23,Pt tb 0),(26,I (R1.Ae 2 0 e))] a'->Rel z v1 w1->NoRow Ch v1->Grows v v1->GoesI Tryd.prog main (DT (ScZ z) Ch) Stop (G ((base 97).at a' (.inRegion kO4 [8] :: k)) cs) w1):
 GoesI Tryd.prog main (DT (ScZ z) Ch) Stop (G ((base 97).at a (.code (.region 4 kO4 true) :: k)) cs) w:=by
 refine A7 (val:=val_k4 kp tb bx cw e) reg_k4 (by rw[hA.1];decide) hvw hn ?_ ?_
 .intro i0 o rest a' v1 w1 hi ho hw ev ev0 r1 n1 g1 hk
  match i0,hi,ho,ev,hk with
  |0,_,ho,ev,hk=>have l0:a'.eval (.tmp 0)=Pt kp 0:=(ev0 0 (by decide)).trans (hA.at 0 _ (by simp));exact Ab ho hw (by simp[base]) (p:=Op.move (Operand.tmp 0)) (by kernel_rfl) (Ad fin_k4 (by decide) ho) r1 n1 (x:=Pt kp 0) rfl (λo' h'=>by unfold execOp;rw[h'];simp only[l0];simp[go_sem]) hk
  |1,_,ho,ev,hk=>have l0:a'.eval (.tmp 19)=Pt kp 0:=ev 0 (by decide) (by kernel_rfl);exact Ab ho hw (by simp[base]) (p:=Op.nilCheck (Operand.tmp 19)) (by kernel_rfl) (Ad fin_k4 (by decide) ho) r1 n1 (x:=Pt kp 0) rfl (λo' h'=>by unfold execOp;rw[h'];simp only[l0];simp[go_sem]) hk
  |2,_,ho,ev,hk=>have l0:a'.eval (.tmp 20)=Pt kp 0:=ev 1 (by decide) (by kernel_rfl);exact Ab ho hw (by simp[base]) (p:=Op.fieldAddr 146 (Operand.tmp 20) 0) (by kernel_rfl) (Ad fin_k4 (by decide) ho) r1 n1 (x:=Pt kp 0) rfl (λo' h'=>by unfold execOp;rw[h'];simp only[l0];simp[go_sem]) hk
  |3,_,ho,ev,hk=>have l0:a'.eval (.tmp 21)=Pt kp 0:=ev 2 (by decide) (by kernel_rfl);have c0:=g1.cell h1;exact Ab ho hw (by simp[base]) (p:=Op.load 116 (Operand.tmp 21)) (by kernel_rfl) (Ad fin_k4 (by decide) ho) r1 n1 (x:=Pt cw 0) rfl (λo' h'=>by unfold execOp;rw[h'];simp only[l0];simp[go_sem,c0]) hk
  |4,_,ho,ev,hk=>have l0:a'.eval (.tmp 1)=Pt tb 0:=(ev0 1 (by decide)).trans (hA.at 1 _ (by simp));exact Ab ho hw (by simp[base]) (p:=Op.move (Operand.tmp 1)) (by kernel_rfl) (Ad fin_k4 (by decide) ho) r1 n1 (x:=Pt tb 0) rfl (λo' h'=>by unfold execOp;rw[h'];simp only[l0];simp[go_sem]) hk
  |5,_,ho,ev,hk=>have l0:a'.eval (.tmp 5)=Pt bx 0:=(ev0 5 (by decide)).trans (hA.at 5 _ (by simp));exact Ab ho hw (by simp[base]) (p:=Op.fieldAddr 38 (Operand.tmp 5) 0) (by kernel_rfl) (Ad fin_k4 (by decide) ho) r1 n1 (x:=Pt bx 0) rfl (λo' h'=>by unfold execOp;rw[h'];simp only[l0];simp[go_sem]) hk
  |6,_,ho,ev,hk=>have l0:a'.eval (.tmp 24)=Pt bx 0:=ev 5 (by decide) (by kernel_rfl);have c0:=g1.cell hb;exact Ab ho hw (by simp[base]) (p:=Op.load 28 (Operand.tmp 24)) (by kernel_rfl) (Ad fin_k4 (by decide) ho) r1 n1 (x:=I e) rfl (λo' h'=>by unfold execOp;rw[h'];simp only[l0];simp[go_sem,c0]) hk
  |7,_,ho,ev,hk =>have l0:a'.eval (.tmp 25)=I e:=ev 6 (by decide) (by kernel_rfl);exact op_calls (f:=96) (fn:=Tryd.f96) (xs:=#[.const (.int .i64 2),.const (.int .i64 0),.tmp 25]) (ats:=#[3,3,28]) (args:=#[I 2,I 0,I e]) ho hw (by simp[base]) (by kernel_rfl) (by simp only[List.map_toArray,List.map_cons,List.map_nil,l0];rfl) Tryd.func96 (by kernel_rfl) rfl (fineFn_body fineT (by simp[LT,plainFs]) Tryd.func96 rfl) (λtmps=>⟨_,λw=>results_tmp rfl _ _ _,λw=>by simp[results,go_sem]⟩) r1 n1 (x:=I (R1.Ae 2 0 e)) rfl (λτ=>wp_mono (R1.wordOf_any 2 0 e (onTape v1 τ 0) ((Av hF g1).of (λa x h=>h)) _ rfl) (bp_mono λr u hq=>⟨hq.1,gtape (Ba hq.2)⟩)) hk
 .intro v1 w1 o ho hw r1 n1 g1
  refine hN v1 w1 _ o ho hw ⟨(An _ _ _ _).trans hA.1,(Al _ _ _ _).trans hA.2.1,?_⟩ r1 n1 g1;have hsz:19+8<=a.tmps.size:=by rw[hA.1];decide
  intro p hp;simp only[Sm,or_false] at hp;rcases hp with rfl|rfl|rfl|rfl|rfl|rfl|rfl;rw[Qe,Aa _ _ _ _ _ hsz,if_neg (by simp),<-Qe];exact hA.2.2 (0,Pt kp 0) (by simp);rw[Qe,Aa _ _ _ _ _ hsz,if_neg (by simp),<-Qe];exact hA.2.2 (1,Pt tb 0) (by simp);rw[Qe,Aa _ _ _ _ _ hsz,if_neg (by simp),<-Qe];exact hA.2.2 (5,Pt bx 0) (by simp);rw[Qe,Aa _ _ _ _ _ hsz,if_neg (by simp),<-Qe];exact hA.2.2 (6,Pt rb 0) (by simp);rw[Qe,Aa _ _ _ _ _ hsz,if_pos (by simp)];rfl;rw[Qe,Aa _ _ _ _ _ hsz,if_pos (by simp)];rfl;rw[Qe,Aa _ _ _ _ _ hsz,if_pos (by simp)];rfl
theorem keep_in {main:Bool}{tb:Nat}(he:e≠4) (cs:List Frame) (hvw:Rel z v w) (hn:NoRow Ch v)
 (hk:∀ a v' w',Fl 29 [(0,Pt kp 0),(1,Pt tb 0),(5,Pt v.heap.size 0),(6,Pt (v.heap.size+1) 0)] a->Rel z v' w'->NoRow Ch v'->Grows v v'->v'.heap[v.heap.size]? = some (.cells #[I e,I x] 38 (0,0))->v'.heap[v.heap.size+1]? = some (.cells #[I 0,I 0] 38 (0,0))->GoesI Tryd.prog main (DT (ScZ z) Ch) Stop (G ((base 97).at a [.code (.seq (.region 3 kO3 true) k4)]) cs) w') (code:Code) (hc:Tryd.f97.body=some code):
 GoesI Tryd.prog main (DT (ScZ z) Ch) Stop (G ((base 97).at { tmps:=#[Pt kp 0,Pt tb 0,.agg #[I e,I x]]++Array.replicate 26 undef,defers:=[] } [.code code]) cs) w:=by
 have hw0:code=.seq (seq1 kB) (.seq (.seq (seq1 (seq1 (seq2 kB))) (seq2 (seq1 (seq2 kB)))) (.seq (.region 3 kO3 true) k4)):=by rw[show code=kB by unfold kB;rw[hc];rfl];exact eKB
 subst hw0;clear hc;refine goesI_seq (dt_idle _ _) ?_;refine goesI_plain (z:=z) (wr:=true) (L:=LT) (I:=NoRow Ch) hE fineT noRow_keeps (λv v' w w' es hi hr ho he=>dt_of_z v v' w w' es hi hr ho he) hvw fine_k0 rfl (by simp[base]) hn
  (Q:=λa w'=>Fl 29 [(0,Pt kp 0),(1,Pt tb 0),(5,Pt v.heap.size 0),(6,Pt (v.heap.size+1) 0)] a∧w'.heap=(v.heap.push (.cells #[I e,I x] 38)).push (.cells #[I 0,I 0] 38)∧w'.os=v.os∧w'.output=v.output) (λτ=>?_) ?_
 .unfold kB Tryd.f97 seq1
  simp only[Qa,Sy];go_wp2_with fail;exact ⟨⟨rfl,rfl,by
   intro p hp;simp only[Sm,or_false] at hp;rcases hp with rfl|rfl|rfl|rfl<;>rfl⟩,rfl,rfl,rfl⟩
 rintro a' v' w' ⟨hA,hv1,hv2,hv3⟩ hr' hn' -;have hsz:v'.heap.size=v.heap.size+2:=by rw[hv1];simp
 have hg:Grows v v':=⟨by omega,λb hb=>by rw[hv1,Qg,if_neg (by simp;omega),Qg,if_neg (by omega)],hv2,hv3⟩
 have hbox:v'.heap[v.heap.size]? = some (.cells #[I e,I x] 38 (0,0)):=by rw[hv1,Qg,if_neg (by simp)];exact Qo
 have hans:v'.heap[v.heap.size+1]? = some (.cells #[I 0,I 0] 38 (0,0)):=by rw[hv1,Qg,if_pos (by simp)]
 refine goesI_seq (dt_idle _ _) ?_;refine goesI_seq (dt_idle _ _) ?_;refine goesI_plain (z:=z) (wr:=true) (L:=LT) (I:=NoRow Ch) hE fineT noRow_keeps (λv v' w w' es hi hr ho he=>dt_of_z v v' w w' es hi hr ho he) hr' fine_k1 hA.2.1 (by simp[base]) hn'
  (Q:=λa w''=>Fl 29 [(9,.bool false),(0,Pt kp 0),(1,Pt tb 0),(5,Pt v.heap.size 0),(6,Pt (v.heap.size+1) 0)] a∧w''.heap=v'.heap∧w''.os=v'.os∧w''.output=v'.output) (λτ=>?_) ?_
 .have b0:(onTape v' τ 0).cell? ⟨v.heap.size,0,none⟩=some (I e):=by show v'.cell? _=_;simp[World.cell?,hbox]
  have he':(e==4)=false:=by simpa using he
  clear hv1 hv2 hv3 hbox hans hg hsz;generalize v.heap.size=N at hA b0 ⊢;obtain ⟨hsz,hd,hpp⟩:=hA;obtain ⟨u,rfl,hg⟩:=litN hsz hd;have u0:=(hg 0).symm.trans (hpp (0,Pt kp 0) (by simp));have u1:=(hg 1).symm.trans (hpp (1,Pt tb 0) (by simp));have u5:=(hg 5).symm.trans (hpp (5,Pt N 0) (by simp));have u6:=(hg 6).symm.trans (hpp (6,Pt (N+1) 0) (by simp));clear hg hpp hsz hd;unfold kB Tryd.f97 seq1 seq2;simp only[Qa,lits,Nat.reduceAdd,u0,u1,u5,u6];clear u0 u1 u5 u6;go_wp2_with fail;refine (show ∀ q,q->q∧(onTape v' τ 0).heap=v'.heap∧(onTape v' τ 0).os=v'.os∧(onTape v' τ 0).output=v'.output from λq h=>⟨h,rfl,rfl,rfl⟩) _ ?_;exact ⟨rfl,rfl,by
   intro p hp;simp only[Sm,or_false] at hp;rcases hp with rfl|rfl|rfl|rfl|rfl<;>rfl⟩
 rintro a2 v2 w2 ⟨hA2,k1,k2,k3⟩ r2 n2 -;have e1:seq2 (seq1 (seq2 kB))=.cond (.tmp 9) (condA (seq2 (seq1 (seq2 kB)))) .skip:=by kernel_rfl
 rw[e1];refine goesI_cond (dt_idle _ _) (t:=false) (hA2.at 9 _ (by simp)) ?_;simp only[if_true,if_false,Qh];refine goesI_skip (dt_idle _ _) ?_;exact hk a2 v2 w2 (hA2.sub (by simp)) r2 n2 (Am hg ⟨by rw[k1];exact Qi _,λb _=>by rw[k1],k2,k3⟩) (by rw[k1];exact hbox) (by rw[k1];exact hans)
theorem keep_store {h:Nat}{cont:Addr->Value}{S:TS}{K:List (Nat×Int)}{t:Thr}(y:Int) (h1:v.cell? ⟨kp,1,none⟩=some (Pt cb 0)) (hb:v.cell? ⟨bx,1,none⟩=some (I x)) {a:Act}(hA:Fl 29 [(0,Pt kp 0),(1,Pt t.tb 0),(5,Pt bx 0),(6,Pt rb 0)] a) (cs:List Frame) (Hm:Goroutine->Prop)
 (hH:∀ g,(∃ a,Fl 29 [(0,Pt kp 0),(1,Pt t.tb 0),(5,Pt bx 0),(6,Pt rb 0)] a∧OpBack (h==0) i j cb t.tb 2 (effStore x) (λr=>G (kVal a r) cs) g)->Hm g)
 (hvw:Rel z v w) (hn:NoRow Ch v) (hm:Mem z S K v) (ht:S.thr[i]? = some t) (hK:K[j]? = some (cb,y)) (hz:z t.tb=some 2) (hcont:cont ⟨t.tb,2,none⟩=.chan (some t.gc))
 (hstop:∀ g w',GiveT z cont h S.bk t.gc Hm (Then z Ch S K v (waiting S i t 1 2 j) K) g w'->Stop g w'):
 GoesI Tryd.prog (h==0) (DT (ScZ z) Ch) Stop (G ((base 97).at a [.code (.seq (.region 3 kO3 true) k4)]) cs) w:=by
 refine goesI_seq (dt_idle _ _) ?_;refine k3_pre (main:=h==0) (rb:=rb) kp t.tb bx cb x hA _ cs h1 hb hvw hn (λv2 w2 a2 o ho hw hA2 r2 n2 g2=>?_);have e2:=hm.grows g2;refine goesI_into (f:=76) (fn:=Tryd.f76) (args:=#[Pt cb 0,Pt t.tb 0,I x]) (dt_idle _ _) ho (hw _) (by simp[base]) (op_at (p:=.call { callee:=.value (.func 76),args:=#[.tmp 14,.tmp 15,.tmp 17],argTypes:=#[116,48,3] }) (by kernel_rfl) ho) (by simp only[List.map_toArray,List.map_cons,List.map_nil];rw[hA2.at 14 (Pt cb 0) (by simp),hA2.at 15 (Pt t.tb 0) (by simp),hA2.at 17 (I x) (by simp)]) Tryd.func76 (by kernel_rfl) rfl ?_;refine store_goes x y _ Hm ho (λg hg=>hH g ⟨a2,hA2.sub (by simp),?_⟩) r2 n2 e2.mem ht hK hz hcont (λg w' hg=>hstop g w' (give_mono (λhF=>?_) hg)) _ rfl
 .rw[dst_at (p:=some 18) (by kernel_rfl) ho] at hg
  exact hg
 .obtain ⟨v',k1,k2,k3⟩:=hF
  exact ⟨v',k1,k2,e2.trans k3⟩
theorem keep_word {h:Nat}{cont:Addr->Value}{S:TS}{K:List (Nat×Int)}{t:Thr}(y:Int) (hF:R1.Flds v) (h0:v.cell? ⟨kp,0,none⟩=some (Pt cb 0)) (hb:v.cell? ⟨bx,0,none⟩=some (I e)) {a:Act}(hA:Fl 29 [(0,Pt kp 0),(1,Pt t.tb 0),(5,Pt bx 0),(6,Pt rb 0)] a) (r0:Value) (cs:List Frame) (Hm:Goroutine->Prop)
 (hH:∀ g,(∃ a,Fl 29 [(0,Pt kp 0),(1,Pt t.tb 0),(5,Pt bx 0),(6,Pt rb 0)] a∧OpBack (h==0) i j cb t.tb 2 (effStore (R1.Ae 2 0 e)) (λr=>G (kWord a r) cs) g)->Hm g)
 (hvw:Rel z v w) (hn:NoRow Ch v) (hm:Mem z S K v) (ht:S.thr[i]? = some t) (hK:K[j]? = some (cb,y)) (hz:z t.tb=some 2) (hcont:cont ⟨t.tb,2,none⟩=.chan (some t.gc))
 (hstop:∀ g w',GiveT z cont h S.bk t.gc Hm (Then z Ch S K v (waiting S i t 1 2 j) K) g w'->Stop g w'):
 GoesI Tryd.prog (h==0) (DT (ScZ z) Ch) Stop (G (kVal a r0) cs) w:=by
 have hA1:Fl 29 [(0,Pt kp 0),(1,Pt t.tb 0),(5,Pt bx 0),(6,Pt rb 0)] (a.put (some 18) r0):=(fl_put hA (by decide) (by simp)).sub (by simp);unfold kVal;generalize a.put (some 18) r0=a1 at hA1;refine goesI_regionEnd (dt_idle _ _) ?_;rw[eK4];refine goesI_seq (dt_idle _ _) ?_;refine k4_pre (main:=h==0) (rb:=rb) kp t.tb bx cb e hA1 _ cs hF h0 hb hvw hn (λv2 w2 a2 o ho hw hA2 r2 n2 g2=>?_);have e2:=hm.grows g2;refine goesI_into (f:=76) (fn:=Tryd.f76) (args:=#[Pt cb 0,Pt t.tb 0,I (R1.Ae 2 0 e)]) (dt_idle _ _) ho (hw _) (by simp[base]) (op_at (p:=.call { callee:=.value (.func 76),args:=#[.tmp 22,.tmp 23,.tmp 26],argTypes:=#[116,48,3] }) (by kernel_rfl) ho) (by simp only[List.map_toArray,List.map_cons,List.map_nil];rw[hA2.at 22 (Pt cb 0) (by simp),hA2.at 23 (Pt t.tb 0) (by simp),hA2.at 26 (I (R1.Ae 2 0 e)) (by simp)]) Tryd.func76 (by kernel_rfl) rfl ?_;refine store_goes (R1.Ae 2 0 e) y _ Hm ho (λg hg=>hH g ⟨a2,hA2.sub (by simp),?_⟩) r2 n2 e2.mem ht hK hz hcont (λg w' hg=>hstop g w' (give_mono (λhF=>?_) hg)) _ rfl
 .rw[dst_at (p:=some 27) (by kernel_rfl) ho] at hg
  exact hg
 .obtain ⟨v',k1,k2,k3⟩:=hF
  exact ⟨v',k1,k2,e2.trans k3⟩
theorem keep_out {main:Bool}{tb:Nat}{a:Act}(hA:Fl 29 [(0,Pt kp 0),(1,Pt tb 0),(5,Pt bx 0),(6,Pt rb 0)] a) (r0:Value) (cs:List Frame) {rest:List Nat}(hoc:ops[q]? = some oc) (hbx:v.heap[bx]? = some (.cells #[I e,I x] 38 (0,0))) (hpb:v.heap[rb]? = some (.cells #[I 0,I 0] 38 (0,0))) (hvw:Rel z v w) (hn:NoRow Ch v)
 (hk:∀ w',Rel z (ansW v rb e x) w'->NoRow Ch (ansW v rb e x)->GoesI Tryd.prog main (DT (ScZ z) Ch) Stop (G (bc.at (ac.put oc.dst (.agg #[I e,I x])) (.inRegion ops rest :: k0)) cs) w'):
 GoesI Tryd.prog main (DT (ScZ z) Ch) Stop (G (kWord a r0) (bc.at ac (.inRegion ops (q :: rest) :: k0) :: cs)) w:=by
 have d0:w.cell? ⟨bx,0,none⟩=some (I e):=by rw[hvw.cell?];simp[World.cell?,hbx]
 have d1:w.cell? ⟨bx,1,none⟩=some (I x):=by rw[hvw.cell?];simp[World.cell?,hbx]
 obtain ⟨hsz,hd,hpp⟩:=hA;obtain ⟨u,rfl,hg⟩:=litN hsz hd;have u0:=(hg 0).symm.trans (hpp (0,Pt kp 0) (by simp));have u1:=(hg 1).symm.trans (hpp (1,Pt tb 0) (by simp));have u5:=(hg 5).symm.trans (hpp (5,Pt bx 0) (by simp));have u6:=(hg 6).symm.trans (hpp (6,Pt rb 0) (by simp));clear hg hpp hsz hd;unfold kWord kO4 k4 kB Tryd.f97 seq1 seq2 opsOf;simp only[Qa,lits,Nat.reduceAdd,u0,u1,u5,u6];clear u0 u1 u5 u6;walk_nrm
 refine goesI_regionEnd (dt_idle _ _) ?_;refine goesI_seq (dt_idle _ _) ?_;refine goesI_region (dt_idle _ _) ?_;simp only[Sz,Sr,Nat.reduceAdd];iterate 1
  (refine goesI_oper rfl rfl (by decide) (λd K hK=>?_)
   go_simp;refine hK _ _ ⟨dt_reads (λe he=>?_),GoesI.at ?_ d⟩
   .have hm:=mem_listed he
    simp[go_sem, *] at hm
    try exact ⟨_,_,hm⟩
    try (rcases hm with rfl|rfl<;>exact ⟨_,_,rfl⟩)
   clear hK K)
 have q0:v.cell? ⟨rb,0,none⟩=some (I 0):=by simp[World.cell?,hpb]
 have q1:v.cell? ⟨rb,1,none⟩=some (I 0):=by simp[World.cell?,hpb]
 have p0:v.frozen? ⟨rb,0,none⟩=false:=by simp[World.frozen?,hpb]
 have p1:v.frozen? ⟨rb,1,none⟩=false:=by simp[World.frozen?,hpb]
 have hrow:=Ap hpb (e) (x);refine goesI_doZ (L:=LT) rfl rfl (by decide) (fineOp_ask callT extT (by kernel_rfl)) hvw hn (v':=ansW v rb (e) (x)) (by unfold ansW;go_simp) rfl (λw9 r9 n9=>?_);refine goesI_regionEnd (dt_idle _ _) ?_;refine GoesI.ctl rfl (λ_=>stepG_ret') (dt_idle _ _) ?_;refine goesI_leaveZ (f:=97) (fn:=Tryd.f97) (x:=.agg #[I (e),I (x)]) r9 n9 Tryd.func97 rfl hoc ?_ (λw' r'=>hk w' r' n9);generalize ansW v rb (e) (x)=V at hrow;have k0:V.cell? ⟨rb,0,none⟩=some (I (e)):=by simp[World.cell?,hrow]
 have k1:V.cell? ⟨rb,1,none⟩=some (I (x)):=by simp[World.cell?,hrow]
 simp[results,go_sem,Tryd.f97, *]
theorem get_val {main:Bool}{tb:Nat}{c y:Int}{a:Act}(hA:Fl 62 [(37,I c),(0,Pt kp 0),(1,Pt tb 0),(2,F),(6,Pt rb 0)] a) (cs:List Frame) {rest:List Nat}(hoc:ops[q]? = some oc) (hpb:v.heap[rb]? = some (.cells #[I 0,I 0] 38 (0,0))) (hvw:Rel z v w) (hn:NoRow Ch v)
 (hk:∀ w',Rel z (ansW v rb c y) w'->NoRow Ch (ansW v rb c y)->GoesI Tryd.prog main (DT (ScZ z) Ch) Stop (G (bc.at (ac.put oc.dst (.agg #[I c,I y])) (.inRegion ops rest :: k0)) cs) w'):
 GoesI Tryd.prog main (DT (ScZ z) Ch) Stop (G (gVal a (I y)) (bc.at ac (.inRegion ops (q :: rest) :: k0) :: cs)) w:=by
 obtain ⟨hsz,hd,hpp⟩:=hA;obtain ⟨u,rfl,hg⟩:=litN hsz hd;have u37:=(hg 37).symm.trans (hpp (37,I c) (by simp));have u0:=(hg 0).symm.trans (hpp (0,Pt kp 0) (by simp));have u1:=(hg 1).symm.trans (hpp (1,Pt tb 0) (by simp));have u2:=(hg 2).symm.trans (hpp (2,F) (by simp));have u6:=(hg 6).symm.trans (hpp (6,Pt rb 0) (by simp));clear hg hpp hsz hd;unfold gVal gO8 gS gI gL gB Tryd.f64 seq1 seq2 blockC loopC condA opsOf;simp only[Qa,lits,Nat.reduceAdd,u37,u0,u1,u2,u6];clear u37 u0 u1 u2 u6;walk_nrm
 iterate 1
  (refine goesI_oper rfl rfl (by decide) (λd K hK=>?_)
   go_simp;refine hK _ _ ⟨dt_reads (λe he=>?_),GoesI.at ?_ d⟩
   .have hm:=mem_listed he
    simp[go_sem, *] at hm
    try exact ⟨_,_,hm⟩
    try (rcases hm with rfl|rfl<;>exact ⟨_,_,rfl⟩)
   clear hK K)
 have q0:v.cell? ⟨rb,0,none⟩=some (I 0):=by simp[World.cell?,hpb]
 have q1:v.cell? ⟨rb,1,none⟩=some (I 0):=by simp[World.cell?,hpb]
 have p0:v.frozen? ⟨rb,0,none⟩=false:=by simp[World.frozen?,hpb]
 have p1:v.frozen? ⟨rb,1,none⟩=false:=by simp[World.frozen?,hpb]
 have hrow:=Ap hpb (c) (y);refine goesI_doZ (L:=LT) rfl rfl (by decide) (fineOp_ask callT extT (by kernel_rfl)) hvw hn (v':=ansW v rb (c) (y)) (by unfold ansW;go_simp) rfl (λw9 r9 n9=>?_);refine goesI_regionEnd (dt_idle _ _) ?_;refine GoesI.ctl rfl (λ_=>stepG_ret') (dt_idle _ _) ?_;refine goesI_leaveZ (f:=64) (fn:=Tryd.f64) (x:=.agg #[I (c),I (y)]) r9 n9 Tryd.func64 rfl hoc ?_ (λw' r'=>hk w' r' n9);generalize ansW v rb (c) (y)=V at hrow;have k0:V.cell? ⟨rb,0,none⟩=some (I (c)):=by simp[World.cell?,hrow]
 have k1:V.cell? ⟨rb,1,none⟩=some (I (y)):=by simp[World.cell?,hrow]
 simp[results,go_sem,Tryd.f64, *]
theorem get_lost {main:Bool}{tb:Nat}{a:Act}(hA:Fl 62 [(0,Pt kp 0),(1,Pt tb 0),(2,F),(6,Pt rb 0)] a) (cs:List Frame)
 (hk:∀ a,Fl 62 [(0,Pt kp 0),(1,Pt tb 0),(2,F),(6,Pt rb 0)] a->GoesI Tryd.prog main (DT (ScZ z) Ch) Stop (G (gFr a) cs) w):
 GoesI Tryd.prog main (DT (ScZ z) Ch) Stop (G (gTry a (.bool false)) cs) w:=by
 have hA1:Fl 62 [(56,.bool false),(0,Pt kp 0),(1,Pt tb 0),(2,F),(6,Pt rb 0)] (a.put (some 56) (.bool false)):=(fl_put hA (by decide) (by simp)).sub (by simp);unfold gTry;generalize a.put (some 56) (.bool false)=a1 at hA1;have e:seq2 gN=.cond (.tmp 56) (.seq (.region 11 gO11 false) .ret) .skip:=by kernel_rfl
 rw[e];refine goesI_regionEnd (dt_idle _ _) ?_;refine goesI_cond (dt_idle _ _) (t:=false) (hA1.at 56 _ (by simp)) ?_;simp only[if_true,if_false,Qh];refine goesI_skip (dt_idle _ _) ?_;refine goesI_inBlock (dt_idle _ _) ?_;refine goesI_inBlock (dt_idle _ _) ?_;refine goesI_inLoop (dt_idle _ _) ?_;exact hk a1 (hA1.sub (by simp))
theorem get_won {main:Bool}{tb b3 b4 b5:Nat}{a:Act}(hA:Fl 62 [(0,Pt kp 0),(1,Pt tb 0),(2,.func (.func 65) #[] #[Pt b3 0,Pt b4 0,Pt b5 0]),(6,Pt rb 0)] a) (cs:List Frame)
 (hk:∀ a o,Fl 62 [(0,Pt kp 0),(1,Pt tb 0),(2,.func (.func 65) #[] #[Pt b3 0,Pt b4 0,Pt b5 0]),(6,Pt rb 0),(57,Pt kp 0),(58,Pt tb 0)] a->gO11[3]? = some o->o.dst=some 60->∀ code,Tryd.f65.body=some code ->
   GoesI Tryd.prog main (DT (ScZ z) Ch) Stop (G ((base 65).at { tmps:=#[Pt b3 0,Pt b4 0,Pt b5 0]++Array.replicate 5 undef,defers:=[] } [.code code]) ((base 64).at a (.inRegion gO11 [3,4,5] :: [.code .ret,.inBlock 2,.inBlock 1,.inLoop gL,.inBlock 0]):: cs)) w):
 GoesI Tryd.prog main (DT (ScZ z) Ch) Stop (G (gTry a (.bool true)) cs) w:=by
 unfold gO11 gN gE gS gI gL gB Tryd.f64 seq1 seq2 blockC loopC condA condB opsOf at hk;simp only[Qa] at hk;obtain ⟨hsz,hd,hpp⟩:=hA;obtain ⟨u,rfl,hg⟩:=litN hsz hd;have u0:=(hg 0).symm.trans (hpp (0,Pt kp 0) (by simp));have u1:=(hg 1).symm.trans (hpp (1,Pt tb 0) (by simp));have u2:=(hg 2).symm.trans (hpp (2,.func (.func 65) #[] #[Pt b3 0,Pt b4 0,Pt b5 0]) (by simp));have u6:=(hg 6).symm.trans (hpp (6,Pt rb 0) (by simp));clear hg hpp hsz hd;unfold gTry gO10 gN gE gS gI gL gB Tryd.f64 seq1 seq2 blockC loopC condA condB opsOf;simp only[Qa,lits,Nat.reduceAdd,u0,u1,u2,u6];clear u0 u1 u2 u6;walk_nrm
 refine goesI_regionEnd (dt_idle _ _) ?_;refine goesI_cond (dt_idle _ _) (t:=true) (by simp[Act.eval]) ?_;simp only[if_true,if_false,Qh];refine goesI_seq (dt_idle _ _) ?_;refine goesI_region (dt_idle _ _) ?_;simp only[Sz,Sr,Nat.reduceAdd];iterate 3
  (refine goesI_oper rfl rfl (by decide) (λd K hK=>?_)
   go_simp;refine hK _ _ ⟨dt_reads (λe he=>?_),GoesI.at ?_ d⟩
   .have hm:=mem_listed he
    simp[go_sem, *] at hm
    try exact ⟨_,_,hm⟩
    try (rcases hm with rfl|rfl<;>exact ⟨_,_,rfl⟩)
   clear hK K)
 refine goesI_clo (f:=65) (fn:=Tryd.f65) (cap:=#[Pt b3 0,Pt b4 0,Pt b5 0]) (dt_idle _ _) rfl rfl (by decide) rfl (by simp[Act.eval]) Tryd.func65 (by decide) rfl ?_;exact hk _ _ ⟨rfl,rfl,by
  intro p hp;simp only[Sm,or_false] at hp;rcases hp with rfl|rfl|rfl|rfl|rfl|rfl<;>rfl⟩ rfl rfl _ rfl
theorem get_came {main:Bool}{tb:Nat}{a:Act}(hA:Fl 62 [(0,Pt kp 0),(1,Pt tb 0),(2,F),(6,Pt rb 0),(57,Pt kp 0),(58,Pt tb 0)] a) (cs:List Frame)
 (hk:∀ a o,Fl 62 [(0,Pt kp 0),(1,Pt tb 0),(2,F),(6,Pt rb 0)] a->gO11[4]? = some o->o.dst=some 61->∀ code,Tryd.f97.body=some code->GoesI Tryd.prog main (DT (ScZ z) Ch) Stop (G ((base 97).at { tmps:=#[Pt kp 0,Pt tb 0,.agg #[I e,I x]]++Array.replicate 26 undef,defers:=[] } [.code code]) ((base 64).at a (.inRegion gO11 [4,5] :: [.code .ret,.inBlock 2,.inBlock 1,.inLoop gL,.inBlock 0]):: cs)) w):
 GoesI Tryd.prog main (DT (ScZ z) Ch) Stop (G (gDone a (.agg #[I e,I x])) cs) w:=by
 unfold gO11 gN gE gS gI gL gB Tryd.f64 seq1 seq2 blockC loopC condA condB opsOf at hk;simp only[Qa] at hk;obtain ⟨hsz,hd,hpp⟩:=hA;obtain ⟨u,rfl,hg⟩:=litN hsz hd;have u0:=(hg 0).symm.trans (hpp (0,Pt kp 0) (by simp));have u1:=(hg 1).symm.trans (hpp (1,Pt tb 0) (by simp));have u2:=(hg 2).symm.trans (hpp (2,F) (by simp));have u6:=(hg 6).symm.trans (hpp (6,Pt rb 0) (by simp));have u57:=(hg 57).symm.trans (hpp (57,Pt kp 0) (by simp));have u58:=(hg 58).symm.trans (hpp (58,Pt tb 0) (by simp));clear hg hpp hsz hd;unfold gDone gO11 gN gE gS gI gL gB Tryd.f64 seq1 seq2 blockC loopC condA condB opsOf;simp only[Qa,lits,Nat.reduceAdd,u0,u1,u2,u6,u57,u58];clear u0 u1 u2 u6 u57 u58;walk_nrm
 refine goesI_into (f:=97) (fn:=Tryd.f97) (args:=#[Pt kp 0,Pt tb 0,.agg #[I e,I x]]) (dt_idle _ _) rfl rfl (by decide) rfl (by simp[Act.eval]) Tryd.func97 (by decide) rfl ?_;exact hk _ _ ⟨rfl,rfl,by
  intro p hp;simp only[Sm,or_false] at hp;rcases hp with rfl|rfl|rfl|rfl<;>rfl⟩ rfl rfl _ rfl
theorem get_kept {main:Bool}{tb:Nat}{a:Act}(hA:Fl 62 [(0,Pt kp 0),(1,Pt tb 0),(2,F),(6,Pt rb 0)] a) (cs:List Frame) {rest:List Nat}(hoc:ops[q]? = some oc) (hpb:v.heap[rb]? = some (.cells #[I 0,I 0] 38 (0,0))) (hvw:Rel z v w) (hn:NoRow Ch v)
 (hk:∀ w',Rel z (ansW v rb e x) w'->NoRow Ch (ansW v rb e x)->GoesI Tryd.prog main (DT (ScZ z) Ch) Stop (G (bc.at (ac.put oc.dst (.agg #[I e,I x])) (.inRegion ops rest :: k0)) cs) w'):
 GoesI Tryd.prog main (DT (ScZ z) Ch) Stop (G (gKept a (.agg #[I e,I x])) (bc.at ac (.inRegion ops (q :: rest) :: k0) :: cs)) w:=by
 obtain ⟨hsz,hd,hpp⟩:=hA;obtain ⟨u,rfl,hg⟩:=litN hsz hd;have u0:=(hg 0).symm.trans (hpp (0,Pt kp 0) (by simp));have u1:=(hg 1).symm.trans (hpp (1,Pt tb 0) (by simp));have u2:=(hg 2).symm.trans (hpp (2,F) (by simp));have u6:=(hg 6).symm.trans (hpp (6,Pt rb 0) (by simp));clear hg hpp hsz hd;unfold gKept gO11 gN gE gS gI gL gB Tryd.f64 seq1 seq2 blockC loopC condA condB opsOf;simp only[Qa,lits,Nat.reduceAdd,u0,u1,u2,u6];clear u0 u1 u2 u6;walk_nrm
 have q0:v.cell? ⟨rb,0,none⟩=some (I 0):=by simp[World.cell?,hpb]
 have q1:v.cell? ⟨rb,1,none⟩=some (I 0):=by simp[World.cell?,hpb]
 have p0:v.frozen? ⟨rb,0,none⟩=false:=by simp[World.frozen?,hpb]
 have p1:v.frozen? ⟨rb,1,none⟩=false:=by simp[World.frozen?,hpb]
 have hrow:=Ap hpb (e) (x);refine goesI_doZ (L:=LT) rfl rfl (by decide) (fineOp_ask callT extT (by kernel_rfl)) hvw hn (v':=ansW v rb (e) (x)) (by unfold ansW;go_simp) rfl (λw9 r9 n9=>?_);refine goesI_regionEnd (dt_idle _ _) ?_;refine GoesI.ctl rfl (λ_=>stepG_ret') (dt_idle _ _) ?_;refine goesI_leaveZ (f:=64) (fn:=Tryd.f64) (x:=.agg #[I (e),I (x)]) r9 n9 Tryd.func64 rfl hoc ?_ (λw' r'=>hk w' r' n9);generalize ansW v rb (e) (x)=V at hrow;have k0:V.cell? ⟨rb,0,none⟩=some (I (e)):=by simp[World.cell?,hrow]
 have k1:V.cell? ⟨rb,1,none⟩=some (I (x)):=by simp[World.cell?,hrow]
 simp[results,go_sem,Tryd.f64, *]
theorem g3_wp {tb:Nat}{b:Bool}{a:Act}(hA:Fl 62 [(0,Pt kp 0),(1,Pt tb 0),(2,F),(6,Pt rb 0),(7,I x),(16,I (R1.stI x))] a) (hF:R1.Flds v) (h1:v.cell? ⟨tb,1,none⟩=some (I i)) (hb:(R1.whoI x==(i:Int))=b):(seq1 (seq1 gW)).wp Tryd.prog (λe a' w'=>e=.normal∧Fl 62 [(22,.bool b),(0,Pt kp 0),(1,Pt tb 0),(2,F),(6,Pt rb 0)] a'∧Grows v w') a v:=by
 subst hb;have s0:=hF.w0;have s1:=hF.w1;have HK:Hid (v.cell? ⟨tb,1,none⟩=some (I i)):=⟨h1⟩
 clear hF h1;obtain ⟨hsz,hd,hpp⟩:=hA;obtain ⟨u,rfl,hg⟩:=litN hsz hd;have u0:=(hg 0).symm.trans (hpp (0,Pt kp 0) (by simp));have u1:=(hg 1).symm.trans (hpp (1,Pt tb 0) (by simp));have u2:=(hg 2).symm.trans (hpp (2,F) (by simp));have u6:=(hg 6).symm.trans (hpp (6,Pt rb 0) (by simp));have u7:=(hg 7).symm.trans (hpp (7,I x) (by simp));have u16:=(hg 16).symm.trans (hpp (16,I (R1.stI x)) (by simp));clear hg hpp hsz hd;unfold gW gE gS gI gL gB Tryd.f64 seq1 seq2 blockC loopC condB;simp only[Qa,lits,Nat.reduceAdd,u0,u1,u2,u6,u7,u16];clear u0 u1 u2 u6 u7 u16;go_wp2_with fail;refine (R1.get_yes x 2 8 _ (by decide) (by decide) (by decide)).mono ?_;rintro e w1 ⟨rfl,hb1⟩;have h1:w1.cell? ⟨tb,1,none⟩=some (I i):=(Ba hb1).cell HK.out;have HG:Hid (Grows v w1):=⟨Ba hb1⟩
 clear hb1 s0 s1
 go_wp2_with (go_at_call 68;refine (R1.id_any tb i _ h1).mono ?_;rintro e w2 ⟨rfl,rfl⟩)
 exact ⟨⟨rfl,rfl,by
  intro p hp;simp only[Sm,or_false] at hp;rcases hp with rfl|rfl|rfl|rfl|rfl<;>rfl⟩,HG.out⟩
theorem get_again {main:Bool}{tb:Nat}(hx2:R1.stI x≠2) (hx0:R1.stI x≠0) (hwho:R1.whoI x=i) (hF:R1.Flds v) (h1:v.cell? ⟨tb,1,none⟩=some (I i)) {a:Act}(hA:Fl 62 [(0,Pt kp 0),(1,Pt tb 0),(2,F),(6,Pt rb 0),(7,I x),(16,I (R1.stI x))] a) (cs:List Frame) {rest:List Nat}(hoc:ops[q]? = some oc) (hpb:v.heap[rb]? = some (.cells #[I 0,I 0] 38 (0,0))) (hvw:Rel z v w) (hn:NoRow Ch v)
 (hk:∀ v1 w1,Rel z v1 w1->NoRow Ch v1->Grows v v1->∀ w',Rel z (ansW v1 rb 72 0) w'->NoRow Ch (ansW v1 rb 72 0)->GoesI Tryd.prog main (DT (ScZ z) Ch) Stop (G (bc.at (ac.put oc.dst (.agg #[I 72,I 0])) (.inRegion ops rest :: k0)) cs) w'):
 GoesI Tryd.prog main (DT (ScZ z) Ch) Stop (G (gSw a) (bc.at ac (.inRegion ops (q :: rest) :: k0) :: cs)) w:=by
 rw[show gSw a=(base 64).at a [.code (.seq (seq1 gS) (.cond (.tmp 33) (.seq (.region 8 gO8 true) .ret) (.seq (seq1 gE) (.cond (.tmp 45) (.seq (.region 10 gO10 true) (seq2 gN)) gW)))),.inBlock 2,.inBlock 1,.inLoop gL,.inBlock 0] by unfold gSw;rw[<-eGS]];refine goesI_seq (dt_idle _ _) ?_;refine goesI_plain (z:=z) (wr:=true) (L:=LT) (I:=NoRow Ch) hE fineT noRow_keeps (λv v' w w' es hi hr ho he=>dt_of_z v v' w w' es hi hr ho he) hvw fine_g7 hA.2.1 (by simp[base]) hn (Q:=λa w'=>Fl 62 [(33,.bool false),(0,Pt kp 0),(1,Pt tb 0),(2,F),(6,Pt rb 0),(7,I x),(16,I (R1.stI x))] a∧w'.heap=v.heap∧w'.os=v.os∧w'.output=v.output) (λτ=>g7_wp (v:=onTape v τ 0) hA (by simpa using hx2)) ?_;rintro a v1 w1 ⟨hA,q1,q2,q3⟩ r1 n1 -;have g1:Grows v v1:=⟨by rw[q1];exact Qi _,λb _=>by rw[q1],q2,q3⟩
 refine goesI_cond (dt_idle _ _) (t:=false) (hA.at 33 _ (by simp)) ?_;simp only[if_true,if_false,Qh];have hA:Fl 62 [(0,Pt kp 0),(1,Pt tb 0),(2,F),(6,Pt rb 0),(7,I x),(16,I (R1.stI x))] a:=hA.sub (by simp);refine goesI_seq (dt_idle _ _) ?_;refine goesI_plain (z:=z) (wr:=true) (L:=LT) (I:=NoRow Ch) hE fineT noRow_keeps (λv v' w w' es hi hr ho he=>dt_of_z v v' w w' es hi hr ho he) r1 fine_g9 hA.2.1 (by simp[base]) n1 (Q:=λa w'=>Fl 62 [(45,.bool false),(0,Pt kp 0),(1,Pt tb 0),(2,F),(6,Pt rb 0),(7,I x),(16,I (R1.stI x))] a∧w'.heap=v1.heap∧w'.os=v1.os∧w'.output=v1.output) (λτ=>g9_wp (v:=onTape v1 τ 0) hA (by simpa using hx0)) ?_;rintro a v2 w2 ⟨hA,q4,q5,q6⟩ r2 n2 -;have g2:Grows v v2:=Am g1 ⟨by rw[q4];exact Qi _,λb _=>by rw[q4],q5,q6⟩;refine goesI_cond (dt_idle _ _) (t:=false) (hA.at 45 _ (by simp)) ?_;simp only[if_true,if_false,Qh];have hA:Fl 62 [(0,Pt kp 0),(1,Pt tb 0),(2,F),(6,Pt rb 0),(7,I x),(16,I (R1.stI x))] a:=hA.sub (by simp);rw[eGW];refine goesI_seq (dt_idle _ _) ?_;refine goesI_seq (dt_idle _ _) ?_
 refine goesI_plain (z:=z) (wr:=true) (L:=LT) (I:=NoRow Ch) hE fineT noRow_keeps (λv v' w w' es hi hr ho he=>dt_of_z v v' w w' es hi hr ho he) r2 fine_g3 hA.2.1 (by simp[base]) n2 (Q:=λa w'=>Fl 62 [(22,.bool true),(0,Pt kp 0),(1,Pt tb 0),(2,F),(6,Pt rb 0)] a∧Grows v2 w') (λτ=>wp_mono (g3_wp (v:=onTape v2 τ 0) hA ((Av hF g2).of (λa x h=>h)) (g2.cell h1) (by simpa using hwho)) (λe a w h=>⟨h.1,h.2.1,gtape h.2.2⟩)) ?_;rintro a v3 w3 ⟨hA,g3⟩ r3 n3 -;have g4:=Am g2 g3;have hpb:v3.heap[rb]? = some (.cells #[I 0,I 0] 38 (0,0)):=by rw[g4.old rb (Qb hpb).1];exact hpb
 have hk:∀ w',Rel z (ansW v3 rb 72 0) w'->NoRow Ch (ansW v3 rb 72 0)->GoesI Tryd.prog main (DT (ScZ z) Ch) Stop (G (bc.at (ac.put oc.dst (.agg #[I 72,I 0])) (.inRegion ops rest :: k0)) cs) w':=λw' r' n'=>hk v3 w3 r3 n3 g4 w' r' n';clear g1 g2 g3 g4 q1 q2 q3 q4 q5 q6 r1 r2 n1 n2 hvw hn hF h1 hx2 hx0 hwho;clear w1 w2;obtain ⟨hsz,hd,hpp⟩:=hA;obtain ⟨u,rfl,hg⟩:=litN hsz hd;have u22:=(hg 22).symm.trans (hpp (22,.bool true) (by simp));have u0:=(hg 0).symm.trans (hpp (0,Pt kp 0) (by simp));have u1:=(hg 1).symm.trans (hpp (1,Pt tb 0) (by simp));have u2:=(hg 2).symm.trans (hpp (2,F) (by simp));have u6:=(hg 6).symm.trans (hpp (6,Pt rb 0) (by simp));clear hg hpp hsz hd;unfold gW gE gS gI gL gB Tryd.f64 seq1 seq2 blockC loopC condB;simp only[Qa,lits,Nat.reduceAdd,u22,u0,u1,u2,u6];clear u22 u0 u1 u2 u6;refine goesI_cond (dt_idle _ _) (t:=true) (by simp[Act.eval]) ?_;simp only[if_true,if_false,Qh];refine goesI_seq (dt_idle _ _) ?_;refine goesI_region (dt_idle _ _) ?_;simp only[Sz,Sr,Nat.reduceAdd];iterate 1
  (refine goesI_oper rfl rfl (by decide) (λd K hK=>?_)
   go_simp;refine hK _ _ ⟨dt_reads (λe he=>?_),GoesI.at ?_ d⟩
   .have hm:=mem_listed he
    simp[go_sem, *] at hm
    try exact ⟨_,_,hm⟩
    try (rcases hm with rfl|rfl<;>exact ⟨_,_,rfl⟩)
   clear hK K)
 have q0:v3.cell? ⟨rb,0,none⟩=some (I 0):=by simp[World.cell?,hpb]
 have q1:v3.cell? ⟨rb,1,none⟩=some (I 0):=by simp[World.cell?,hpb]
 have p0:v3.frozen? ⟨rb,0,none⟩=false:=by simp[World.frozen?,hpb]
 have p1:v3.frozen? ⟨rb,1,none⟩=false:=by simp[World.frozen?,hpb]
 have hrow:=Ap hpb (72) (0);refine goesI_doZ (L:=LT) rfl rfl (by decide) (fineOp_ask callT extT (by kernel_rfl)) r3 n3 (v':=ansW v3 rb (72) (0)) (by unfold ansW;go_simp) rfl (λw9 r9 n9=>?_);refine goesI_regionEnd (dt_idle _ _) ?_;refine GoesI.ctl rfl (λ_=>stepG_ret') (dt_idle _ _) ?_;refine goesI_leaveZ (f:=64) (fn:=Tryd.f64) (x:=.agg #[I (72),I (0)]) r9 n9 Tryd.func64 rfl hoc ?_ (λw' r'=>hk w' r' n9);generalize ansW v3 rb (72) (0)=V at hrow;have k0:V.cell? ⟨rb,0,none⟩=some (I (72)):=by simp[World.cell?,hrow]
 have k1:V.cell? ⟨rb,1,none⟩=some (I (0)):=by simp[World.cell?,hrow]
 simp[results,go_sem,Tryd.f64, *]
theorem get_wait {main:Bool}{tb:Nat}(hx2:R1.stI x≠2) (hx0:R1.stI x≠0) (hwho:R1.whoI x≠i) (hF:R1.Flds v) (h1:v.cell? ⟨tb,1,none⟩=some (I i)) (h0:v.cell? ⟨kp,0,none⟩=some (Pt cb 0)) (h2:v.cell? ⟨cb,0,none⟩=some (I j)) {a:Act}(hA:Fl 62 [(0,Pt kp 0),(1,Pt tb 0),(2,F),(6,Pt rb 0),(7,I x),(16,I (R1.stI x))] a) (cs:List Frame) (hvw:Rel z v w) (hn:NoRow Ch v)
 (hk:∀ v' w' a (bd:Frame) (ad:Act) (od:Array Oper) (qd:Nat) (rd:List Nat) (oe:Oper) (kd:List Item),Fl 62 [(0,Pt kp 0),(1,Pt tb 0),(2,F),(6,Pt rb 0)] a->Rel z v' w'->NoRow Ch v'->Grows v v'->od[qd]? = some oe->(∀ r,bd.at (ad.put oe.dst r) (.inRegion od rd :: kd)=gWoke a r)->∀ code,Tryd.f98.body=some code ->
   GoesI Tryd.prog main (DT (ScZ z) Ch) Stop (G ((base 98).at { tmps:=#[Pt tb 0,I j]++Array.replicate 33 undef,defers:=[] } [.code code]) (bd.at ad (.inRegion od (qd :: rd):: kd):: cs)) w'):
 GoesI Tryd.prog main (DT (ScZ z) Ch) Stop (G (gSw a) cs) w:=by
 rw[show gSw a=(base 64).at a [.code (.seq (seq1 gS) (.cond (.tmp 33) (.seq (.region 8 gO8 true) .ret) (.seq (seq1 gE) (.cond (.tmp 45) (.seq (.region 10 gO10 true) (seq2 gN)) gW)))),.inBlock 2,.inBlock 1,.inLoop gL,.inBlock 0] by unfold gSw;rw[<-eGS]];refine goesI_seq (dt_idle _ _) ?_;refine goesI_plain (z:=z) (wr:=true) (L:=LT) (I:=NoRow Ch) hE fineT noRow_keeps (λv v' w w' es hi hr ho he=>dt_of_z v v' w w' es hi hr ho he) hvw fine_g7 hA.2.1 (by simp[base]) hn (Q:=λa w'=>Fl 62 [(33,.bool false),(0,Pt kp 0),(1,Pt tb 0),(2,F),(6,Pt rb 0),(7,I x),(16,I (R1.stI x))] a∧w'.heap=v.heap∧w'.os=v.os∧w'.output=v.output) (λτ=>g7_wp (v:=onTape v τ 0) hA (by simpa using hx2)) ?_;rintro a v1 w1 ⟨hA,q1,q2,q3⟩ r1 n1 -;have g1:Grows v v1:=⟨by rw[q1];exact Qi _,λb _=>by rw[q1],q2,q3⟩
 refine goesI_cond (dt_idle _ _) (t:=false) (hA.at 33 _ (by simp)) ?_;simp only[if_true,if_false,Qh];have hA:Fl 62 [(0,Pt kp 0),(1,Pt tb 0),(2,F),(6,Pt rb 0),(7,I x),(16,I (R1.stI x))] a:=hA.sub (by simp);refine goesI_seq (dt_idle _ _) ?_;refine goesI_plain (z:=z) (wr:=true) (L:=LT) (I:=NoRow Ch) hE fineT noRow_keeps (λv v' w w' es hi hr ho he=>dt_of_z v v' w w' es hi hr ho he) r1 fine_g9 hA.2.1 (by simp[base]) n1 (Q:=λa w'=>Fl 62 [(45,.bool false),(0,Pt kp 0),(1,Pt tb 0),(2,F),(6,Pt rb 0),(7,I x),(16,I (R1.stI x))] a∧w'.heap=v1.heap∧w'.os=v1.os∧w'.output=v1.output) (λτ=>g9_wp (v:=onTape v1 τ 0) hA (by simpa using hx0)) ?_;rintro a v2 w2 ⟨hA,q4,q5,q6⟩ r2 n2 -;have g2:Grows v v2:=Am g1 ⟨by rw[q4];exact Qi _,λb _=>by rw[q4],q5,q6⟩;refine goesI_cond (dt_idle _ _) (t:=false) (hA.at 45 _ (by simp)) ?_;simp only[if_true,if_false,Qh];have hA:Fl 62 [(0,Pt kp 0),(1,Pt tb 0),(2,F),(6,Pt rb 0),(7,I x),(16,I (R1.stI x))] a:=hA.sub (by simp);rw[eGW];refine goesI_seq (dt_idle _ _) ?_;refine goesI_seq (dt_idle _ _) ?_
 refine goesI_plain (z:=z) (wr:=true) (L:=LT) (I:=NoRow Ch) hE fineT noRow_keeps (λv v' w w' es hi hr ho he=>dt_of_z v v' w w' es hi hr ho he) r2 fine_g3 hA.2.1 (by simp[base]) n2 (Q:=λa w'=>Fl 62 [(22,.bool false),(0,Pt kp 0),(1,Pt tb 0),(2,F),(6,Pt rb 0)] a∧Grows v2 w') (λτ=>wp_mono (g3_wp (v:=onTape v2 τ 0) hA ((Av hF g2).of (λa x h=>h)) (g2.cell h1) (by simpa using hwho)) (λe a w h=>⟨h.1,h.2.1,gtape h.2.2⟩)) ?_;rintro a v3 w3 ⟨hA,g3⟩ r3 n3 -;have g4:=Am g2 g3;have e0:w3.cell? ⟨kp,0,none⟩=some (Pt cb 0):=by rw[r3.cell?];exact g4.cell h0
 have e2:v3.cell? ⟨cb,0,none⟩=some (I j):=g4.cell h2;have HG:Hid (Grows v v3):=⟨g4⟩
 clear g1 g2 g3 g4 q1 q2 q3 q4 q5 q6 r1 r2 n1 n2 hvw hn hF h1 hx2 hx0 hwho h0 h2;clear w1 w2;unfold gWoke gO5 gW gE gS gI gL gB Tryd.f64 seq1 seq2 blockC loopC condB opsOf at hk;simp only[Qa] at hk;obtain ⟨hsz,hd,hpp⟩:=hA;obtain ⟨u,rfl,hg⟩:=litN hsz hd;have u22:=(hg 22).symm.trans (hpp (22,.bool false) (by simp));have u0:=(hg 0).symm.trans (hpp (0,Pt kp 0) (by simp));have u1:=(hg 1).symm.trans (hpp (1,Pt tb 0) (by simp));have u2:=(hg 2).symm.trans (hpp (2,F) (by simp));have u6:=(hg 6).symm.trans (hpp (6,Pt rb 0) (by simp));clear hg hpp hsz hd;unfold gO5 gW gE gS gI gL gB Tryd.f64 seq1 seq2 blockC loopC condB opsOf;simp only[Qa,lits,Nat.reduceAdd,u22,u0,u1,u2,u6];clear u22 u0 u1 u2 u6;refine goesI_cond (dt_idle _ _) (t:=false) (by simp[Act.eval]) ?_;simp only[if_true,if_false,Qh];refine goesI_skip (dt_idle _ _) ?_;refine goesI_seq (dt_idle _ _) ?_;refine goesI_region (dt_idle _ _) ?_;simp only[Sz,Sr,Nat.reduceAdd];iterate 5
  (refine goesI_oper rfl rfl (by decide) (λd K hK=>?_)
   go_simp;refine hK _ _ ⟨dt_reads (λe he=>?_),GoesI.at ?_ d⟩
   .have hm:=mem_listed he
    simp[go_sem, *] at hm
    try exact ⟨_,_,hm⟩
    try (rcases hm with rfl|rfl<;>exact ⟨_,_,rfl⟩)
   clear hK K)
 refine goesI_call (f:=99) (fn:=Tryd.f99) (args:=#[Pt cb 0]) hE fineT rfl rfl (by decide) rfl (by simp[Act.eval]) Tryd.func99 (by kernel_rfl) rfl (fineFn_body fineT (by simp[LT,plainFs]) Tryd.func99 rfl) (λtmps=>⟨_,λw=>results_tmp rfl _ _ _,λw=>by simp[results,go_sem]⟩) r3 n3
  (R:=λr v4=>r=I j∧v4.heap=v3.heap∧v4.os=v3.os∧v4.output=v3.output) (λτ=>wp_mono (cid_body cb j (onTape v3 τ 0) e2 _ rfl) (bp_mono λr u hq=>⟨hq.1,by rw[hq.2];rfl,by rw[hq.2];rfl,by rw[hq.2];rfl⟩)) (λr v4 w4 hR hvw4 hn4=>?_)
 obtain ⟨rfl,k1,k2,k3⟩:=hR;have hg:Grows v v4:=Am HG.out ⟨by rw[k1];exact Qi _,λb _=>by rw[k1],k2,k3⟩;walk_nrm
 refine goesI_into (f:=98) (fn:=Tryd.f98) (args:=#[Pt tb 0,I j]) (dt_idle _ _) rfl rfl (by decide) rfl (by simp[Act.eval]) Tryd.func98 (by decide) rfl ?_;exact hk v4 w4 _ _ _ _ _ _ _ _ ⟨rfl,rfl,by
  intro p hp;simp only[Sm,or_false] at hp;rcases hp with rfl|rfl|rfl|rfl<;>rfl⟩ hvw4 hn4 hg rfl (λr=>rfl) _ rfl
theorem get_woke {main:Bool}{tb:Nat}{a:Act}(hA:Fl 62 [(0,Pt kp 0),(1,Pt tb 0),(2,F),(6,Pt rb 0)] a) (cs:List Frame)
 (hk:∀ a,Fl 62 [(0,Pt kp 0),(1,Pt tb 0),(2,F),(6,Pt rb 0)] a->GoesI Tryd.prog main (DT (ScZ z) Ch) Stop (G (gFr a) cs) w):
 GoesI Tryd.prog main (DT (ScZ z) Ch) Stop (G (gWoke a (.bool true)) cs) w:=by
 unfold gFr at hk;generalize hL:gL=L at hk;have hW:gWoke a (.bool true)=(base 64).at (a.put (some 30) (.bool true)) [.inRegion gO5 [7],.code (seq2 (seq2 gW)),.inBlock 2,.inBlock 1,.inLoop L,.inBlock 0]:=by rw[<-hL];rfl
 rw[hW];clear hW hL;obtain ⟨hsz,hd,hpp⟩:=hA;obtain ⟨u,rfl,hg⟩:=litN hsz hd;have u0:=(hg 0).symm.trans (hpp (0,Pt kp 0) (by simp));have u1:=(hg 1).symm.trans (hpp (1,Pt tb 0) (by simp));have u2:=(hg 2).symm.trans (hpp (2,F) (by simp));have u6:=(hg 6).symm.trans (hpp (6,Pt rb 0) (by simp));clear hg hpp hsz hd;unfold gO5 gW gE gS gI gL gB Tryd.f64 seq1 seq2 blockC loopC condB opsOf;simp only[Qa,lits,Nat.reduceAdd,u0,u1,u2,u6];clear u0 u1 u2 u6;walk_nrm
 iterate 1
  (refine goesI_oper rfl rfl (by decide) (λd K hK=>?_)
   go_simp;refine hK _ _ ⟨dt_reads (λe he=>?_),GoesI.at ?_ d⟩
   .have hm:=mem_listed he
    simp[go_sem, *] at hm
    try exact ⟨_,_,hm⟩
    try (rcases hm with rfl|rfl<;>exact ⟨_,_,rfl⟩)
   clear hK K)
 refine goesI_regionEnd (dt_idle _ _) ?_;refine goesI_cond (dt_idle _ _) (t:=false) (by simp[Act.eval]) ?_;simp only[if_true,if_false,Qh];refine goesI_skip (dt_idle _ _) ?_;refine goesI_inBlock (dt_idle _ _) ?_;refine goesI_inBlock (dt_idle _ _) ?_;refine goesI_inLoop (dt_idle _ _) ?_;exact hk _ ⟨rfl,rfl,by
  intro p hp;simp only[Sm,or_false] at hp;rcases hp with rfl|rfl|rfl|rfl<;>rfl⟩
theorem get_stuck {main:Bool}{tb:Nat}{a:Act}(hA:Fl 62 [(0,Pt kp 0),(1,Pt tb 0),(2,F),(6,Pt rb 0)] a) (cs:List Frame) {rest:List Nat}(hoc:ops[q]? = some oc) (hpb:v.heap[rb]? = some (.cells #[I 0,I 0] 38 (0,0))) (hvw:Rel z v w) (hn:NoRow Ch v)
 (hk:∀ w',Rel z (ansW v rb 4 0) w'->NoRow Ch (ansW v rb 4 0)->GoesI Tryd.prog main (DT (ScZ z) Ch) Stop (G (bc.at (ac.put oc.dst (.agg #[I 4,I 0])) (.inRegion ops rest :: k0)) cs) w'):
 GoesI Tryd.prog main (DT (ScZ z) Ch) Stop (G (gWoke a (.bool false)) (bc.at ac (.inRegion ops (q :: rest) :: k0) :: cs)) w:=by
 obtain ⟨hsz,hd,hpp⟩:=hA;obtain ⟨u,rfl,hg⟩:=litN hsz hd;have u0:=(hg 0).symm.trans (hpp (0,Pt kp 0) (by simp));have u1:=(hg 1).symm.trans (hpp (1,Pt tb 0) (by simp));have u2:=(hg 2).symm.trans (hpp (2,F) (by simp));have u6:=(hg 6).symm.trans (hpp (6,Pt rb 0) (by simp));clear hg hpp hsz hd;unfold gWoke gO5 gW gE gS gI gL gB Tryd.f64 seq1 seq2 blockC loopC condB opsOf;simp only[Qa,lits,Nat.reduceAdd,u0,u1,u2,u6];clear u0 u1 u2 u6;walk_nrm
 iterate 1
  (refine goesI_oper rfl rfl (by decide) (λd K hK=>?_)
   go_simp;refine hK _ _ ⟨dt_reads (λe he=>?_),GoesI.at ?_ d⟩
   .have hm:=mem_listed he
    simp[go_sem, *] at hm
    try exact ⟨_,_,hm⟩
    try (rcases hm with rfl|rfl<;>exact ⟨_,_,rfl⟩)
   clear hK K)
 refine goesI_regionEnd (dt_idle _ _) ?_;refine goesI_cond (dt_idle _ _) (t:=true) (by simp[Act.eval]) ?_;simp only[if_true,if_false,Qh];refine goesI_seq (dt_idle _ _) ?_;refine goesI_region (dt_idle _ _) ?_;simp only[Sz,Sr,Nat.reduceAdd];iterate 1
  (refine goesI_oper rfl rfl (by decide) (λd K hK=>?_)
   go_simp;refine hK _ _ ⟨dt_reads (λe he=>?_),GoesI.at ?_ d⟩
   .have hm:=mem_listed he
    simp[go_sem, *] at hm
    try exact ⟨_,_,hm⟩
    try (rcases hm with rfl|rfl<;>exact ⟨_,_,rfl⟩)
   clear hK K)
 have q0:v.cell? ⟨rb,0,none⟩=some (I 0):=by simp[World.cell?,hpb]
 have q1:v.cell? ⟨rb,1,none⟩=some (I 0):=by simp[World.cell?,hpb]
 have p0:v.frozen? ⟨rb,0,none⟩=false:=by simp[World.frozen?,hpb]
 have p1:v.frozen? ⟨rb,1,none⟩=false:=by simp[World.frozen?,hpb]
 have hrow:=Ap hpb (4) (0);refine goesI_doZ (L:=LT) rfl rfl (by decide) (fineOp_ask callT extT (by kernel_rfl)) hvw hn (v':=ansW v rb (4) (0)) (by unfold ansW;go_simp) rfl (λw9 r9 n9=>?_);refine goesI_regionEnd (dt_idle _ _) ?_;refine GoesI.ctl rfl (λ_=>stepG_ret') (dt_idle _ _) ?_;refine goesI_leaveZ (f:=64) (fn:=Tryd.f64) (x:=.agg #[I (4),I (0)]) r9 n9 Tryd.func64 rfl hoc ?_ (λw' r'=>hk w' r' n9);generalize ansW v rb (4) (0)=V at hrow;have k0:V.cell? ⟨rb,0,none⟩=some (I (4)):=by simp[World.cell?,hrow]
 have k1:V.cell? ⟨rb,1,none⟩=some (I (0)):=by simp[World.cell?,hrow]
 simp[results,go_sem,Tryd.f64, *]
def Af:Obj:=.cells #[I 0,I 0] 38 (0,0)
section
variable {mc:Mc}{X:Fix mc}{z:Nat->Option Nat}{cont:Addr->Value}{Ch:Nat->Prop}{S0:TS}{K0:List (Nat×Int)}{v0:World}{Mo0 M M1 M2:Nat->Option Obj}{σ:TS}{κ:List (Nat×Int)}{S:TS}{v w v' w':World}{t:Thr}
structure NowP (X:Fix mc) (z:Nat->Option Nat) (cont:Addr->Value) (Ch:Nat->Prop) (S0:TS) (K0:List (Nat×Int)) (v0:World) (Mo0 M:Nat->Option Obj) (σ:TS) (κ:List (Nat×Int)) (S:TS) (v w:World) (t:Thr):Prop where
 now:Now X z cont Ch S0 K0 v0 Mo0 M σ κ S v w t
 hp:∀ b,M b≠none->X.pk b=none
theorem NowP.grows (N:NowP X z cont Ch S0 K0 v0 Mo0 M σ κ S v w t) (g:Grows v v') (r:Rel z v' w') (n:NoRow Ch v'):NowP X z cont Ch S0 K0 v0 Mo0 M σ κ S v' w' t :=
 ⟨N.now.on (N.now.at_.mem.grows g) r n N.now.nv N.now.at_.thr N.now.at_.tb N.now.at_.gc rfl N.now.at_.kb.2,N.hp⟩
theorem NowP.more (N:NowP X z cont Ch S0 K0 v0 Mo0 M σ κ S v w t) (g:Grows v v') (r:Rel z v' w') (n:NoRow Ch v') (hd:∀ b,M1 b≠none->v.heap.size<=b) (hm:Has M1 v') (hr:∀ b o,M1 b=some o->∃ c e f,o=.cells c e f):NowP X z cont Ch S0 K0 v0 Mo0 (uni M1 M) σ κ S v' w' t:=by
 have N1:=N.grows g r n;refine ⟨⟨N1.now.at_,N1.now.evo,N1.now.nv,N1.now.bk,uni_has hm N1.now.mo,λb hb=>?_,λb hb=>?_,uni_rows hr N1.now.row⟩,λb hb=>?_⟩
 .rcases Aj.1 hb with h|h
  exact λho=>by have:=N.now.at_.mem.lt ho;have:=hd b h;omega
  exact N1.now.far b h
 .rcases Aj.1 hb with h|h
  exact .inr (Qk N.now.evo.fr.size (hd b h));exact N.now.new b h
 .rcases Aj.1 hb with h|h
  .cases hx:X.pk b with
   |none=>rfl
   |some o =>have:=(Qb (N.now.at_.pk b o hx)).1;have:=hd b h;omega
  exact N.hp b h
theorem NowP.to (N:NowP X z cont Ch S0 K0 v0 Mo0 M σ κ S v w t) (g:Grows v v') (r:Rel z v' w') (n:NoRow Ch v') (hd:∀ b o,M1 b=some o->M b=some o∨(v.heap.size<=b∧v'.heap[b]? = some o∧∃ c e f,o=.cells c e f)):NowP X z cont Ch S0 K0 v0 Mo0 M1 σ κ S v' w' t:=by
 have N1:=N.grows g r n;have hn:∀ b,M1 b≠none->M b≠none∨v.heap.size<=b:=λb hb=>by obtain ⟨o,ho⟩:=Option.ne_none_iff_exists'.1 hb;rcases hd b o ho with h|h;exact .inl (by rw[h];simp);exact .inr h.1
 refine ⟨⟨N1.now.at_,N1.now.evo,N1.now.nv,N1.now.bk,λb o hb=>(hd b o hb).elim (N1.now.mo b o) (λh=>h.2.1),λb hb=>?_,λb hb=>?_,λb o hb=>(hd b o hb).elim (N1.now.row b o) (λh=>h.2.2)⟩,λb hb=>?_⟩
 .rcases hn b hb with h|h
  exact N1.now.far b h;exact λho=>by have:=N.now.at_.mem.lt ho;omega
 .rcases hn b hb with h|h
  exact N.now.new b h;exact .inr (Qk N.now.evo.fr.size h)
 .rcases hn b hb with h|h
  exact N.hp b h
  .cases hx:X.pk b with
   |none=>rfl
   |some o =>have:=(Qb (N.now.at_.pk b o hx)).1;omega
theorem NowP.lt (N:NowP X z cont Ch S0 K0 v0 Mo0 M σ κ S v w t) {b:Nat}(hb:M b≠none):b<v.heap.size:=by obtain ⟨o,ho⟩:=Option.ne_none_iff_exists'.1 hb;exact (Qb (N.now.mo b o ho)).1
theorem NowP.less (N:NowP X z cont Ch S0 K0 v0 Mo0 M σ κ S v w t) (hs:∀ b o,M1 b=some o->M b=some o):NowP X z cont Ch S0 K0 v0 Mo0 M1 σ κ S v w t:=by
 have hn:∀ b,M1 b≠none->M b≠none:=λb hb=>by obtain ⟨o,ho⟩:=Option.ne_none_iff_exists'.1 hb;rw[hs b o ho];simp
 exact ⟨⟨N.now.at_,N.now.evo,N.now.nv,N.now.bk,λb o hb=>N.now.mo b o (hs b o hb),λb hb=>N.now.far b (hn b hb),λb hb=>N.now.new b (hn b hb),λb o hb=>N.now.row b o (hs b o hb)⟩,λb hb=>N.hp b (hn b hb)⟩
theorem NowP.wrote (N:NowP X z cont Ch S0 K0 v0 Mo0 (uni M1 M2) σ κ S v w t) (ha:apartM M1 M2) (e:EvoP (λb=>M1 b≠none) z S κ v S κ v') (r:Rel z v' w') (n:NoRow Ch v'):NowP X z cont Ch S0 K0 v0 Mo0 M2 σ κ S v' w' t:=by
 obtain ⟨k1,k2⟩:=has_uni N.now.mo ha;have h2:∀ b,M2 b≠none->uni M1 M2 b≠none:=λb hb=>Aj.2 (.inr hb);have h2':∀ b o,M2 b=some o->uni M1 M2 b=some o:=λb o hb=>by
  cases h1:M1 b with
  |none=>exact Ak h1 hb
  |some o'=>rw[ha b (by rw[h1];simp)] at hb;cases hb
 refine ⟨⟨⟨r,n,e.mem,N.now.at_.thr,N.now.at_.tb,N.now.at_.gc,N.now.at_.kb,N.now.at_.z,N.now.at_.cont,λb o hb=>?_,N.now.at_.far⟩,N.now.evo.join e (λb hb=>?_),N.now.nv,N.now.bk,λb o hb=>?_,λb hb=>N.now.far b (h2 b hb),λb hb=>N.now.new b (h2 b hb),λb o hb=>N.now.row b o (h2' b o hb)⟩,λb hb=>N.hp b (h2 b hb)⟩
 .have hv:=N.now.at_.pk b o hb
  have:=e.keeps (Qb hv).1 (N.now.at_.far b (by rw[hb];simp)) (λh=>by have h:M1 b≠none:=h;rw[N.hp b (Aj.2 (.inl h))] at hb;cases hb)
  rw[this.1];exact hv
 .have hb:M1 b≠none:=hb
  exact N.now.new b (Aj.2 (.inl hb))
 .have hv:=k2 b o hb
  have:=e.keeps (Qb hv).1 (N.now.far b (h2 b (by rw[hb];simp))) (λh=>by have h:M1 b≠none:=h;rw[ha b h] at hb;cases hb)
  rw[this.1];exact hv
end
theorem uni_assoc (A B C:Nat->Option Obj):uni A (uni B C)=uni (uni A B) C:=by funext b;unfold uni;cases A b<;>rfl
theorem apart_lt {A B:Nat->Option Obj}{n:Nat}(ha:∀ b,A b≠none->n<=b) (hb:∀ b,B b≠none->b<n):apartM A B:=λb h=>by
 cases hx:B b with
 |none=>rfl
 |some o =>have h1:=ha b h;have h2:=hb b (by rw[hx];simp);omega
theorem one_apart {M:Nat->Option Obj}(h:M rb=none):apartM (oneM rb Af) M:=λb hb=>by rw[Ao hb];exact h
theorem kb_of {main:Bool}{c cu:Value->Goroutine}(h:∀ (z:Nat->Option Nat) (Ch:Nat->Prop) (Stop:Goroutine->World->Prop) (v w:World) (e x:Int),v.heap[rb]? = some Af->Rel z v w->NoRow Ch v->(∀ w',Rel z (ansW v rb e x) w'->NoRow Ch (ansW v rb e x)->GoesI Tryd.prog main (DT (ScZ z) Ch) Stop (cu (.agg #[I e,I x])) w')->GoesI Tryd.prog main (DT (ScZ z) Ch) Stop (c (.agg #[I e,I x])) w):KBack main (oneM rb Af) (λa=>a) c cu:=by intro z Ch Stop w v S K a hvw hn hm hM hO hk;refine h z Ch Stop v w a.1 a.2 (has_one.1 hM) hvw hn (λw' r' n'=>hk _ w' r' n' ?_);exact (ans_evo hm (hO rb (by rw[Ah];simp)) a.1 a.2).wider (λb _ hb=>by rw[show b=rb from hb,Ah];simp)
def Box3 (ob tb:Nat) (k b:Int) (b3 b4 b5:Nat) (M:Nat->Option Obj):Prop:=M b3=some (.cells #[Pt ob 0] 46 (0,0))∧M b4=some (.cells #[Pt tb 0] 48 (0,0))∧M b5=some (.cells #[I k,I b] 52 (0,0))
inductive OCtx (main:Bool) (tb kp ob:Nat) (k b:Int):Nat->(Nat->Option Obj)->(Value->Goroutine)->(Value->Goroutine)->Prop
 |base {M:Nat->Option Obj} {c cu:Value->Goroutine}:KBack main M (λa=>a) c cu->OCtx main tb kp ob k b 0 M c cu
 |nest {d:Nat} {M0 M1:Nat->Option Obj} {c cu:Value->Goroutine} {f:Frs} {a:Act} {rb b3 b4 b5:Nat}:f.Ok->OCtx main tb kp ob k b d M0 f.ret cu->Fl 62 [(0,Pt kp 0),(1,Pt tb 0),(2,.func (.func 65) #[] #[Pt b3 0,Pt b4 0,Pt b5 0]),(6,Pt rb 0),(57,Pt kp 0),(58,Pt tb 0)] a ->
   Box3 ob tb k b b3 b4 b5 M0->KBack main M1 (λa=>(70,a.1)) c (λr=>G (gDone a r) f.stack)->apartM M1 (uni (oneM rb Af) M0)->M0 rb=none->OCtx main tb kp ob k b (d+1) (uni M1 (uni (oneM rb Af) M0)) c cu
structure ODat {m:Nat}(X:Fix (mcO m)) (o ob kp cw cv:Nat):Prop where
 mem:∀ v,Has X.pk v->R1.Flds v∧v.cell? ⟨ob,0,none⟩=some (Pt kp 0)∧v.cell? ⟨kp,0,none⟩=some (Pt cw 0)∧v.cell? ⟨kp,1,none⟩=some (Pt cv 0)
 kw:X.kb[2*o]? = some cw
 kv:X.kb[2*o+1]? = some cv
abbrev GF (kp tb b3 b4 b5 rb:Nat) (a:Act):Prop:=Fl 62 [(0,Pt kp 0),(1,Pt tb 0),(2,.func (.func 65) #[] #[Pt b3 0,Pt b4 0,Pt b5 0]),(6,Pt rb 0)] a
abbrev KF (kp tb bx rb:Nat) (a:Act):Prop:=Fl 29 [(0,Pt kp 0),(1,Pt tb 0),(5,Pt bx 0),(6,Pt rb 0)] a
def kStack (a:Act) (f:Frs):List Frame:=(base 64).at a (.inRegion gO11 [4,5] :: [.code .ret,.inBlock 2,.inBlock 1,.inLoop gL,.inBlock 0]) :: f.stack
def kMo (bx rb2 rb:Nat) (e y:Int) (M:Nat->Option Obj):Nat->Option Obj:=uni (oneM bx (.cells #[I e,I y] 38 (0,0))) (uni (oneM rb2 Af) (uni (oneM rb Af) M))
def oSit {m:Nat}(X:Fix (mcO m)) (x:Nx) (Mo:Nat->Option Obj) (cu:Value->Goroutine) (g:Goroutine):Prop :=
 (∀ b o,Mo b=some o->∃ c e f,o=.cells c e f)∧∃ (o ob kp cw cv:Nat) (k b:Int) (d:Nat) (f:Frs) (rb b3 b4 b5:Nat) (a:Act) (M:Nat->Option Obj),ODat X o ob kp cw cv∧(0<=k∧k<=3)∧f.Ok∧OCtx (X.h==0) X.tb kp ob k b d M f.ret cu∧Box3 ob X.tb k b b3 b4 b5 M∧M rb=none∧GF kp X.tb b3 b4 b5 rb a ∧
   ((Mo=uni (oneM rb Af) M ∧
     ((x=.turn 1 (2*o) (1,lO o k b d X.i)∧OpBack (X.h==0) X.i (2*o) cw X.tb 1 effLoad (λr=>G (gSeen a r) f.stack) g) ∨
      (∃ c,x=.turn 1 (2*o+1) (2,lO o k b d X.i++[c])∧Fl 62 [(37,I c)] a∧OpBack (X.h==0) X.i (2*o+1) cv X.tb 1 effLoad (λr=>G (gVal a r) f.stack) g) ∨
      (∃ c,x=.turn 4 (2*o) (3,lO o k b d X.i++[c])∧OpBack (X.h==0) X.i (2*o) cw X.tb 4 (effCas c (R1.Ae 1 X.i 0)) (λr=>G (gTry a r) f.stack) g) ∨
      (x=.wait (2*o) (4,lO o k b d X.i)∧WakeBack (X.h==0) X.i X.tb ((2*o:Nat):Int) (λr=>G (gWoke a r) f.stack) g))) ∨
    (∃ (e y:Int) (bx rb2:Nat) (a2:Act),Mo=kMo bx rb2 rb e y M∧KF kp X.tb bx rb2 a2∧(0<=e∧e<1048576)∧(bx≠rb2∧bx≠rb∧M bx=none∧rb2≠rb∧M rb2=none) ∧
     ((x=.turn 2 (2*o+1) (5,lO o k b d X.i++[e,y])∧OpBack (X.h==0) X.i (2*o+1) cv X.tb 2 (effStore y) (λr=>G (kVal a2 r) (kStack a f)) g) ∨
      (x=.turn 2 (2*o) (6,lO o k b d X.i++[e,y])∧OpBack (X.h==0) X.i (2*o) cw X.tb 2 (effStore (R1.Ae 2 0 e)) (λr=>G (kWord a2 r) (kStack a f)) g))))
theorem Fm.grows {tb:Nat}{v':World}(h:Fm tb cb x v) (g:Grows v v'):Fm tb cb x v':=⟨g.cell h.thr,h.ne,by rw[g.old cb (Qb h.cel).1];exact h.cel⟩
structure Gx (cw cv:Nat) (v v':World):Prop where
 size:v.heap.size<=v'.heap.size
 old:∀ b,b<v.heap.size->b≠cw->b≠cv->v'.heap[b]? = v.heap[b]?
 os:v'.os=v.os
 output:v'.output=v.output
structure FO (ob kp cw cv tb i:Nat) (x y:Int) (v:World):Prop where
 hob:v.heap[ob]? = some (.cells #[Pt kp 0] 105 (0,0))
 hkp:v.heap[kp]? = some (.cells #[Pt cw 0,Pt cv 0] 146 (0,0))
 hcw:v.heap[cw]? = some (.cells #[I 0,I x] 158 (0,0))
 hcv:v.heap[cv]? = some (.cells #[I 0,I y] 158 (0,0))
 htb:v.heap[tb]? = some (.cells #[.pointer none,I i,.chan none,I 0,I 0,I 0,I 0] 107 (0,0))
 fl:R1.Flds v
 ne:cw≠cv
 lo:3<cw∧3<cv
section
variable {ob kp cw cv tb i cb rb:Nat}{x y x' y' e a:Int}{v v' u u':World}
theorem Gx.refl:Gx cw cv v v:=⟨Qi _,λ_ _ _ _=>rfl,rfl,rfl⟩
theorem Gx.trans (h:Gx cw cv v u) (k:Gx cw cv u u'):Gx cw cv v u':=⟨Qk h.size k.size,λb hb h1 h2=>by rw[k.old b (Qp hb h.size) h1 h2,h.old b hb h1 h2],k.os.trans h.os,k.output.trans h.output⟩
theorem Gx.of (g:Grows v v'):Gx cw cv v v':=⟨g.size,λb hb _ _=>g.old b hb,g.os,g.output⟩
theorem Gx.ans (h:Gx cw cv v u) (hr:v.heap.size<=rb):Gx cw cv v (ansW u rb e a):=⟨by rw[Bg];exact h.size,λb hb h1 h2=>by rw[Bf _ _ _ _ _ (by omega)];exact h.old b hb h1 h2,h.os,h.output⟩
theorem blt {b:Nat}(h:v.heap[b]? = some o):b<v.heap.size:=(Qb h).1
theorem Gx.at {b:Nat}(g:Gx cw cv v v') (h:v.heap[b]? = some o) (h1:b≠cw) (h2:b≠cv):v'.heap[b]? = some o:=by rw[g.old b (blt h) h1 h2];exact h
theorem grows_at {b:Nat}(g:Grows v v') (h:v.heap[b]? = some o):v'.heap[b]? = some o:=by rw[g.old b (blt h)];exact h
theorem FO.fmw (h:FO ob kp cw cv tb i x y v):Fm tb cw x v:=⟨cell_of h.htb rfl,λe=>by have:=h.htb;rw[e,h.hcw] at this;simp at this,h.hcw⟩
theorem FO.fmv (h:FO ob kp cw cv tb i x y v):Fm tb cv y v:=⟨cell_of h.htb rfl,λe=>by have:=h.htb;rw[e,h.hcv] at this;simp at this,h.hcv⟩
theorem FO.gx (h:FO ob kp cw cv tb i x y v) (g:Gx cw cv v v') (hw:v'.heap[cw]? = some (.cells #[I 0,I x'] 158 (0,0))) (hv:v'.heap[cv]? = some (.cells #[I 0,I y'] 158 (0,0))):FO ob kp cw cv tb i x' y' v':=by
 have e1:ob≠cw:=λe=>by have:=h.hob;rw[e,h.hcw] at this;simp at this
 have e2:ob≠cv:=λe=>by have:=h.hob;rw[e,h.hcv] at this;simp at this
 have e3:kp≠cw:=λe=>by have:=h.hkp;rw[e,h.hcw] at this;simp at this
 have e4:kp≠cv:=λe=>by have:=h.hkp;rw[e,h.hcv] at this;simp at this
 have hl:=h.lo;have hc:∀ b j X,b<4->v.cell? ⟨b,j,none⟩=some X->v'.cell? ⟨b,j,none⟩=some X:=λb j X hb hX=>by rw[World.cell?_of_block (w:=v) (w':=v') (g.old b (World.block_lt_of_cell? _ _ hX) (by omega) (by omega))];exact hX
 exact ⟨g.at h.hob e1 e2,g.at h.hkp e3 e4,hw,hv,g.at h.htb h.fmw.ne h.fmv.ne,⟨hc _ _ _ (by decide) h.fl.s0,hc _ _ _ (by decide) h.fl.s1,hc _ _ _ (by decide) h.fl.c0,hc _ _ _ (by decide) h.fl.c1,hc _ _ _ (by decide) h.fl.w0,hc _ _ _ (by decide) h.fl.w1⟩,h.ne,hl⟩
theorem FO.grows (h:FO ob kp cw cv tb i x y v) (g:Grows v v'):FO ob kp cw cv tb i x y v':=h.gx (Gx.of g) (grows_at g h.hcw) (grows_at g h.hcv)
theorem FO.back (h0:FO ob kp cw cv tb i x y v) (g:Gx cw cv v u) (hw:u.heap[cw]? = some (.cells #[I 0,I x'] 158 (0,0))) (hv:u.heap[cv]? = some (.cells #[I 0,I y'] 158 (0,0))) (hr:v.heap.size<=rb):FO ob kp cw cv tb i x' y' (ansW u rb e a) :=
 h0.gx (g.ans hr) (by rw[Bf _ _ _ _ _ (by have:=blt h0.hcw;omega)];exact hw) (by rw[Bf _ _ _ _ _ (by have:=blt h0.hcv;omega)];exact hv)
end
section
variable {Ch:Nat->Prop}{Stop:Goroutine->World->Prop}{main:Bool}{v w:World}{ob kp cw cv tb i:Nat}{x y kd b:Int}
end
theorem goesI_retZ {main:Bool}{f:FuncId}{c:Code}{act:Act}{more:List Item}{cs:List Frame}{Q:Act->World->Prop}(hvw:Rel zn v w) (hn:NoRow Ch v) (hc:fineCode Tryd.prog true LV c) (ha:act.defers=[])
 (hwp:∀ τ,c.wp Tryd.prog (λe a w'=>e=.ret∧Q a w') act (onTape v τ 0))
 (h:∀ a' v' w' todo,Q a' v'->a'.defers=[]->Rel zn v' w'->NoRow Ch v'->GoesI Tryd.prog main (DT (ScZ zn) Ch) Stop (G { (base f).at a' todo with mode:=.returning } cs) w'):
 GoesI Tryd.prog main (DT (ScZ zn) Ch) Stop (G ((base f).at act (.code c :: more)) cs) w:=by
 have hfin:=lift_code (P:=Tryd.prog) (z:=zn) (wr:=true) (L:=LV) (D:=DT (ScZ zn) Ch) (I:=NoRow Ch) (main:=main) (b:=base f) (k:=more) (cs:=cs) hE fineV noRow_keeps (λv v' w w' es hi hr ho he=>dt_of_z v v' w w' es hi hr ho he) hvw hc ha (by simp[base]) hn
  (Q:=λe a w'=>e=.ret∧Q a w') hwp (λe a w hq=>.inr hq.1)
 refine hfin.then ?_
 rintro g w' ⟨a',v',hr,hiv,hd,⟨⟨hq,_⟩,_⟩|⟨⟨_,hQ⟩,todo,rfl⟩⟩;cases hq;exact h a' v' w' todo hQ hd hr hiv
theorem _root_.Go.Proofs.YtfjjoohflcchnaaDoor.Grows.toAt {W v w:World}(h:Grows W v) (hr:Rel zn v w) (d:Nat):Grows W (w.at d):=by have e:(w.at d).heap=v.heap:=hr.eq;exact ⟨by rw[e];exact h.size,λb hb=>by rw[e];exact h.old b hb,hr.os.trans h.os,hr.output.trans h.output⟩
theorem _root_.Go.Proofs.YtfjjoohflcchnaaDoor.Grows.andThen {W v w:World}(h:Grows W v) (k:Grows v w):Grows W w:=⟨Qk h.size k.size,λb hb=>by rw[k.old b (by have:=h.size;omega),h.old b hb],k.os.trans h.os,k.output.trans h.output⟩
def PostT (W:World) (r:Value) (w':World):Prop:=r=.bool true∧Grows W w'
structure NwO (v w':World):Prop where
 kp:w'.heap[v.heap.size]? = some (.cells #[Pt (v.heap.size+1) 0,Pt (v.heap.size+2) 0] 146 (0,0))
 cw:w'.heap[v.heap.size+1]? = some (.cells #[I 0,I 0] 158 (0,0))
 cv:w'.heap[v.heap.size+2]? = some (.cells #[I 0,I 0] 158 (0,0))
 ob:w'.heap[v.heap.size+3]? = some (.cells #[Pt v.heap.size 0] 105 (0,0))
 g:Grows v w'
theorem acts1 (v:World) (b:Int):Calls Tryd.prog 21 #[I 1,I b] v (λe w'=>e=.returned (.agg #[I 0,I b])∧Hid (Grows v w')):=by
 go_enter Tryd.func21,Tryd.ntmps21
 go_wp2_with fail;have hrow:(v.alloc (.cells #[I 0,I b] 38)).heap[v.heap.size]? = some (.cells #[I 0,I b] 38 (0,0)):=Qo;have k0:(v.alloc (.cells #[I 0,I b] 38)).cell? ⟨v.heap.size,0,none⟩=some (I 0):=cell_of hrow rfl;have k1:(v.alloc (.cells #[I 0,I b] 38)).cell? ⟨v.heap.size,1,none⟩=some (I b):=cell_of hrow rfl;refine ⟨rfl,.agg #[I 0,I b],?_,rfl,⟨⟨by simp,λb hb=>by show (v.heap.push _)[b]? = _;rw[Qg,if_neg (by omega)],rfl,rfl⟩⟩⟩;show (results Tryd.f21 _).run Tryd.prog (v.alloc (.cells #[I 0,I b] 38))=_;generalize v.alloc (.cells #[I 0,I b] 38)=V at k0 k1;simp[results,go_sem,Tryd.f21, *]
theorem acts2 (v:World) (b:Int):Calls Tryd.prog 21 #[I 2,I b] v (λe w'=>e=.returned (.agg #[I 70,I b])∧Hid (Grows v w')):=by
 go_enter Tryd.func21,Tryd.ntmps21
 go_wp2_with fail;have hrow:(v.alloc (.cells #[I 70,I b] 38)).heap[v.heap.size]? = some (.cells #[I 70,I b] 38 (0,0)):=Qo;have k0:(v.alloc (.cells #[I 70,I b] 38)).cell? ⟨v.heap.size,0,none⟩=some (I 70):=cell_of hrow rfl;have k1:(v.alloc (.cells #[I 70,I b] 38)).cell? ⟨v.heap.size,1,none⟩=some (I b):=cell_of hrow rfl;refine ⟨rfl,.agg #[I 70,I b],?_,rfl,⟨⟨by simp,λb hb=>by show (v.heap.push _)[b]? = _;rw[Qg,if_neg (by omega)],rfl,rfl⟩⟩⟩;show (results Tryd.f21 _).run Tryd.prog (v.alloc (.cells #[I 70,I b] 38))=_;generalize v.alloc (.cells #[I 70,I b] 38)=V at k0 k1;simp[results,go_sem,Tryd.f21, *]
theorem acts3 (v:World) (b:Int):Calls Tryd.prog 21 #[I 3,I b] v (λe w'=>e=.returned (.agg #[I 71,I b])∧Hid (Grows v w')):=by
 go_enter Tryd.func21,Tryd.ntmps21
 go_wp2_with fail;have hrow:(v.alloc (.cells #[I 71,I b] 38)).heap[v.heap.size]? = some (.cells #[I 71,I b] 38 (0,0)):=Qo;have k0:(v.alloc (.cells #[I 71,I b] 38)).cell? ⟨v.heap.size,0,none⟩=some (I 71):=cell_of hrow rfl;have k1:(v.alloc (.cells #[I 71,I b] 38)).cell? ⟨v.heap.size,1,none⟩=some (I b):=cell_of hrow rfl;refine ⟨rfl,.agg #[I 71,I b],?_,rfl,⟨⟨by simp,λb hb=>by show (v.heap.push _)[b]? = _;rw[Qg,if_neg (by omega)],rfl,rfl⟩⟩⟩;show (results Tryd.f21 _).run Tryd.prog (v.alloc (.cells #[I 71,I b] 38))=_;generalize v.alloc (.cells #[I 71,I b] 38)=V at k0 k1;simp[results,go_sem,Tryd.f21, *]
theorem acts4 (v:World) (b:Int):Calls Tryd.prog 21 #[I 4,I b] v (λe w'=>e=.returned (.agg #[I 70,I 72])∧Hid (Grows v w')):=by
 go_enter Tryd.func21,Tryd.ntmps21
 go_wp2_with fail;have hrow:(v.alloc (.cells #[I 70,I 72] 38)).heap[v.heap.size]? = some (.cells #[I 70,I 72] 38 (0,0)):=Qo;have k0:(v.alloc (.cells #[I 70,I 72] 38)).cell? ⟨v.heap.size,0,none⟩=some (I 70):=cell_of hrow rfl;have k1:(v.alloc (.cells #[I 70,I 72] 38)).cell? ⟨v.heap.size,1,none⟩=some (I 72):=cell_of hrow rfl;refine ⟨rfl,.agg #[I 70,I 72],?_,rfl,⟨⟨by simp,λb hb=>by show (v.heap.push _)[b]? = _;rw[Qg,if_neg (by omega)],rfl,rfl⟩⟩⟩;show (results Tryd.f21 _).run Tryd.prog (v.alloc (.cells #[I 70,I 72] 38))=_;generalize v.alloc (.cells #[I 70,I 72] 38)=V at k0 k1;simp[results,go_sem,Tryd.f21, *]
theorem place_body (a:Int) (n:Nat) (h0:0<n) (hb:(n:Int)<9223372036854775808) (w:World):Body Tryd.f20 #[I a,I n] w (λv w'=>v=I (which a n)∧w'=w):=by
 intro code hb';obtain rfl:=Qd hb';clear hb';simp only[Tryd.ntmps20,Sz,Nat.reduceAdd,Nat.reduceSub,Sy];have hne:¬ ((n:Int)=0):=by omega
 have HB:Hid ((n:Int)<9223372036854775808∧0<n):=⟨⟨hb,h0⟩⟩
 clear hb h0;go_wp2_with fail;all_goals
  go_ret;rename_i h;first
   |exact ⟨_,rfl,congrArg I (which_pos h),rfl⟩
   |exact ⟨_,rfl,congrArg I (which_neg h HB.out.2 HB.out.1),rfl⟩
theorem acts_any (v:World) (c:Cl) (h:isO c):Calls Tryd.prog 21 #[I c.po,I c.cb] v (λe w'=>e=.returned (.agg #[I (actR c).1,I (actR c).2])∧Hid (Grows v w')):=by
 obtain ⟨h1,h2⟩:=h;obtain ⟨po,ca,cb,cc⟩:=c;have h1:1<=po:=h1;have h2:po<=4:=h2;have:po=1∨po=2∨po=3∨po=4:=by omega
 rcases this with rfl|rfl|rfl|rfl;exact acts1 v cb;exact acts2 v cb;exact acts3 v cb;exact acts4 v cb
end Go.Proofs.YtfjjoohflcchnaaDoor.Gen
