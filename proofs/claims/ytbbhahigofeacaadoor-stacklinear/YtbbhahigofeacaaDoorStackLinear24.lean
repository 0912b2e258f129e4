/- StackLinear, part 24 of 32: StPu, StPo, GNow, KpB, StCa. -/
import Derived.Test.YtbbhahigofeacaaDoorStackLinear01
import Derived.Test.YtbbhahigofeacaaDoorStackLinear04
import Derived.Test.YtbbhahigofeacaaDoorStackLinear05
import Derived.Test.YtbbhahigofeacaaDoorStackLinear08
import Derived.Test.YtbbhahigofeacaaDoorStackLinear09
import Derived.Test.YtbbhahigofeacaaDoorStackLinear22
import Derived.Test.YtbbhahigofeacaaDoorStackLinear23
set_option linter.unusedSimpArgs false
set_option linter.unusedVariables false
set_option maxHeartbeats 4000000
set_option maxRecDepth 100000
noncomputable section
namespace Go.Proofs.YtbbhahigofeacaaDoor.Gen
open Go Go.Lift Go.Conc Go.RowKit
open R1 (fstI verI hdI)
variable {z:Nat->Option Nat} {Ch:Nat->Prop} {Stop:Goroutine->World->Prop} {main:Bool} {v w:World} {c cb h i j k n pb q tb:Nat} {h0 x y:Int} {a ac:Act} {bc:Frame} {ops:Array Oper} {oc:Oper} {k0:List Item} {cont:Addr->Value} {S:TS} {K:List (Nat×Int)} {t:Thr}
def pS:Code:=Bd (seq2 (Tryd.f50.body.getD .skip))
def p2:Code:=seq2 pS
def p4:Code:=seq2 p2
def p5:Code:=seq2 p4
def pL:Code:=Be (Ar (seq2 p5))
def pK:Code:=Ar pL
def p6:Code:=seq2 pK
def p7:Code:=seq2 p6
def p8:Code:=seq2 p7
def pO1:Array Oper:=opsOf (seq1 pS)
def pO4:Array Oper:=opsOf (seq1 p4)
def pO5:Array Oper:=opsOf (seq1 pK)
def pO6:Array Oper:=opsOf (seq1 p6)
def pO7:Array Oper:=opsOf (seq1 (seq1 p7))
def pC7:Code:=seq2 (seq1 p7)
def pE':List Item:=[.inBlock 0,.inScope pS]
def pE:List Item:=.inBlock 1 :: .inLoop pL :: pE'
def Js (a:Act):Frame:=(base 50).at a (.inRegion pO1 [5,6,7,8,9,10] :: .code p2 :: [.inScope pS])
def pTook (a:Act) (r:Value):Frame:=(base 50).at (a.put (some 16) r) (.inRegion pO1 [6,7,8,9,10] :: .code p2 :: [.inScope pS])
def pVal (a:Act) (r:Value):Frame:=(base 50).at (a.put (some 32) r) (.inRegion pO4 [] :: .code p5 :: [.inScope pS])
def pHead (a:Act):Frame:=(base 50).at a (.code pL :: .inLoop pL :: pE')
def pSeen (a:Act) (r:Value):Frame:=(base 50).at (a.put (some 38) r) (.inRegion pO5 [6] :: .code p6 :: pE)
def pLink (a:Act) (r:Value):Frame:=(base 50).at (a.put (some 51) r) (.inRegion pO6 [] :: .code p7 :: pE)
def pTry (a:Act):Frame:=(base 50).at a (.inRegion pO7 [5,6] :: .code pC7 :: .code p8 :: pE)
def pTried (a:Act) (r:Value):Frame:=(base 50).at (a.put (some 57) r) (.inRegion pO7 [6] :: .code pC7 :: .code p8 :: pE)
theorem pO1_5:(pO1[5]?).map (·.dst)=some (some 16):=by kernel_rfl
theorem pO7_5:(pO7[5]?).map (·.dst)=some (some 57):=by kernel_rfl
theorem ePB:Tryd.f50.body.getD .skip=.seq (.region 0 (opsOf (seq1 (Tryd.f50.body.getD .skip))) false) (.scope pS):=by kernel_rfl
theorem ePS:pS=.seq (.region 1 pO1 false) p2:=by kernel_rfl
theorem eP5:p5=.seq (.label 0) (.block 0 (.loop pL)):=by kernel_rfl
theorem ePL:pL=.block 1 pK:=by kernel_rfl
theorem ePK:pK=.seq (.region 5 pO5 false) p6:=by kernel_rfl
theorem eP6:p6=.seq (.region 6 pO6 true) p7:=by kernel_rfl
theorem eP7:p7=.seq (.seq (.region 7 pO7 false) pC7) p8:=by kernel_rfl
theorem push_in {s:Nat}(c0:v.cell? ⟨c,0,none⟩=some (Pt s 0)) (cs:List Frame) (hvw:Rel z v w)
 (hk:∀ a code,Tryd.f25.body=some code->Fl 59 [(0,Pt c 0),(1,Pt tb 0),(2,I x)] a->GoT z main Ch Stop (G ((base 25).at { tmps:=#[Pt s 0,Pt tb 0]++Array.replicate 46 undef,defers:=[] } [.code code]) (Js a :: cs)) w) (code:Code) (hc:Tryd.f50.body=some code):
 GoT z main Ch Stop (G ((base 50).at { tmps:=#[Pt c 0,Pt tb 0,I x]++Array.replicate 56 undef,defers:=[] } [.code code]) cs) w:=by
 have hw0:code=.seq (.region 0 (opsOf (seq1 (Tryd.f50.body.getD .skip))) false) (.scope pS):=by rw[show code=Tryd.f50.body.getD .skip by rw[hc];rfl];exact ePB
 subst hw0;clear hc;have d0:w.cell? ⟨c,0,none⟩=some (Pt s 0):=by rw[hvw.cell?];exact c0
 unfold Js at hk;simp only[Sy];refine Ab ?_;unfold Tryd.f50 seq1 opsOf;simp only[Qa];refine Ac ?_;simp only[Sz,Sr,Nat.reduceAdd];refine Ad rfl rfl (by decide) rfl λd K hK=>?_;go_simp;refine hK _ ?_;clear hK K;refine Aa ?_;refine Ig (Ag _ _) ?_;generalize hq:Item.inScope pS=q at hk ⊢;rw[ePS];refine Ab ?_;unfold pO1 pS Bd Tryd.f50 seq1 seq2 opsOf at hk ⊢;simp only[Qa] at hk ⊢;refine Ac ?_;simp only[Sz,Sr,Nat.reduceAdd];iterate 5
  (refine Ad rfl rfl (by decide) rfl λd K hK=>?_
   go_simp;refine hK _ ?_;clear hK K)
 refine Ao (f:=25) (fn:=Tryd.f25) (args:=#[Pt s 0,Pt tb 0]) (Ag _ _) rfl rfl (by decide) rfl (by simp[Act.eval]) Tryd.func25 (by decide) rfl ?_;exact hk _ _ rfl ⟨rfl,rfl,(alC rfl<|alC rfl<|alC rfl<|alN)⟩
theorem push_full  (hA:Fl 59 [(0,Pt c 0),(1,Pt tb 0),(2,I x)] a) (cs:List Frame) {rest:List Nat}(hoc:ops[q]? = some oc) (hvw:Rel z v w) (hn:Ai Ch v)
 (hk:∀ w',Rel z v w'->GoT z main Ch Stop (G (bc.at (ac.put oc.dst (I 80)) (.inRegion ops rest :: k0)) cs) w'):
 GoT z main Ch Stop (G (pTook a (.tuple #[I 0,I 80])) (bc.at ac (.inRegion ops (q :: rest) :: k0) :: cs)) w:=by
 obtain ⟨u,rfl,hu⟩:=litF hA;clear hA;simp only[Fls] at hu;unfold pTook pO1 p2 pS Bd Tryd.f50 seq1 seq2 opsOf;simp only[Qa,lits,Nat.reduceAdd,hu];clear hu;walk_nrm
 iterate 5
  (refine Ad rfl rfl (by decide) rfl λd K hK=>?_
   go_simp;refine hK _ ?_;clear hK K)
 refine Aa ?_;refine Ab ?_;refine Ab ?_;refine Ac ?_;simp only[Sz,Sr,Nat.reduceAdd];iterate 2
  (refine Ad rfl rfl (by decide) rfl λd K hK=>?_
   go_simp;refine hK _ ?_;clear hK K)
 refine Aa ?_;refine Ax (t:=true) (by simp[Act.eval]) ?_;simp only[if_true,if_false,Qh];refine Ab ?_;refine Ac ?_;simp only[Sz,Sr,Nat.reduceAdd];iterate 2
  (refine Ad rfl rfl (by decide) rfl λd K hK=>?_
   go_simp;refine hK _ ?_;clear hK K)
 refine Aa ?_;refine GoesI.ctl rfl (λ_=>stepG_ret') (Ag _ _) ?_;exact Ce (f:=50) (fn:=Tryd.f50) (x:=I 80) hvw hn Tryd.func50 rfl hoc (by simp[results,go_sem,Tryd.f50]) (λw' r'=>hk w' r')
theorem push_val (k:Nat) (hkn:k<n) (c1:v.cell? ⟨c,2,none⟩=some (.slice (some ⟨pb,0,none⟩) n n)) (c2:v.cell? ⟨pb,k*2,none⟩=some (Pt cb 0)) (hA:Fl 59 [(0,Pt c 0),(1,Pt t.tb 0),(2,I x)] a) (cs:List Frame) (Hm:Goroutine->Prop)
 (hH:∀ g,(∃ a,Fl 59 [(0,Pt c 0),(1,Pt t.tb 0),(2,I x),(7,I k)] a∧Eg (h==0) i j cb t.tb 2 (Bz (x)) (λr=>G (pVal a r) cs) g)->Hm g)
 (hvw:Rel z v w) (hn:Ai Ch v) (hm:Mem z S K v) (ht:S.thr[i]? = some t) (hK:K[j]? = some (cb,y)) (hz:z t.tb=some 2) (hcont:cont ⟨t.tb,2,none⟩=.chan (some t.gc))
 (hstop:∀ g w',Fq z cont h S.bk t.gc Hm (Then z Ch S K v (waiting S i t 1 2 j) K) g w'->Stop g w'):
 GoT z (h==0) Ch Stop (G (pTook a (.tuple #[I k,I 0])) cs) w:=by
 have HM:Hid (Mem z S K v):=⟨hm⟩
 clear hm;unfold pVal pO4 at hH;obtain ⟨u,rfl,hu⟩:=litF hA;clear hA;simp only[Fls] at hu;unfold pTook pO1 p2 pS Bd Tryd.f50 seq1 seq2 opsOf;simp only[Qa,lits,Nat.reduceAdd,hu];clear hu;have hkn':(k:Int)<(n:Int):=by omega
 have d1:w.cell? ⟨c,2,none⟩=some (.slice (some ⟨pb,0,none⟩) n n):=by rw[hvw.cell?];exact c1
 have d2:w.cell? ⟨pb,k*2,none⟩=some (Pt cb 0):=by rw[hvw.cell?];exact c2
 walk_nrm
 iterate 5
  (refine Ad rfl rfl (by decide) rfl λd K hK=>?_
   go_simp;refine hK _ ?_;clear hK K)
 refine Aa ?_;refine Ab ?_;refine Ab ?_;refine Ac ?_;simp only[Sz,Sr,Nat.reduceAdd];iterate 2
  (refine Ad rfl rfl (by decide) rfl λd K hK=>?_
   go_simp;refine hK _ ?_;clear hK K)
 refine Aa ?_;refine Ax (t:=false) (by simp[Act.eval]) ?_;simp only[if_true,if_false,Qh];refine Bo ?_;unfold p4 p2 pS Bd Tryd.f50 seq1 seq2 opsOf at hH;simp only[Qa] at hH;refine Ab ?_;refine Ac ?_;simp only[Sz,Sr,Nat.reduceAdd];iterate 10
  (refine Ad rfl rfl (by decide) rfl λd K hK=>?_
   go_simp;refine hK _ ?_;clear hK K)
 refine Ao (f:=47) (fn:=Tryd.f47) (args:=#[Pt cb 0,Pt t.tb 0,I (x)]) (Ag _ _) rfl rfl (by decide) rfl (by simp[Act.eval]) Tryd.func47 (by decide) rfl ?_;exact store_goes (x) y _ Hm rfl (λg hg=>hH g ⟨_,⟨rfl,rfl,(alC rfl<|alC rfl<|alC rfl<|alC rfl<|alN)⟩,hg⟩) hvw hn HM.out ht hK hz hcont hstop _ rfl
theorem push_head (r:Value) (hA:Fl 59 [(0,Pt c 0),(1,Pt tb 0),(2,I x),(7,I k)] a) (cs:List Frame)
 (hk:∀ a,Fl 59 [(0,Pt c 0),(1,Pt tb 0),(2,I x),(7,I k)] a->GoT z main Ch Stop (G (pHead a) cs) w):
 GoT z main Ch Stop (G (pVal a r) cs) w:=by
 unfold pHead pE' at hk
 try simp only[Qa] at hk
 obtain ⟨u,rfl,hu⟩:=litF hA;clear hA;simp only[Fls] at hu;unfold pVal;simp only[Qa,lits,Nat.reduceAdd,hu];clear hu;refine Aa ?_;rw[eP5];refine Ab ?_;refine Jx (Ag _ _) ?_;refine Bt ?_;refine Gg (Ag _ _) ?_;exact hk _ ⟨rfl,rfl,(alC rfl<|alC rfl<|alC rfl<|alC rfl<|alN)⟩
theorem push_look (c0:v.cell? ⟨c,1,none⟩=some (Pt cb 0)) (hA:Fl 59 [(0,Pt c 0),(1,Pt t.tb 0),(2,I x),(7,I k)] a) (cs:List Frame) (Hm:Goroutine->Prop)
 (hH:∀ g,(∃ a,Fl 59 [(0,Pt c 0),(1,Pt t.tb 0),(2,I x),(7,I k)] a∧Eg (h==0) i j cb t.tb 1 Bm (λr=>G (pSeen a r) cs) g)->Hm g)
 (hvw:Rel z v w) (hn:Ai Ch v) (hm:Mem z S K v) (ht:S.thr[i]? = some t) (hK:K[j]? = some (cb,y)) (hz:z t.tb=some 2) (hcont:cont ⟨t.tb,2,none⟩=.chan (some t.gc))
 (hstop:∀ g w',Fq z cont h S.bk t.gc Hm (Then z Ch S K v (waiting S i t 1 1 j) K) g w'->Stop g w'):
 GoT z (h==0) Ch Stop (G (pHead a) cs) w:=by
 have HM:Hid (Mem z S K v):=⟨hm⟩
 clear hm;unfold pSeen at hH;obtain ⟨u,rfl,hu⟩:=litF hA;clear hA;simp only[Fls] at hu;unfold pHead;simp only[Qa,lits,Nat.reduceAdd,hu];clear hu;have c0w:w.cell? ⟨c,1,none⟩=some (Pt cb 0):=by rw[hvw.cell?];exact c0
 rw[show (Item.code pL :: Item.inLoop pL :: pE')=Item.code (.block 1 pK) :: Item.inLoop pL :: pE' by rw[<-ePL]];refine Bt ?_;rw[show (Item.inBlock 1 :: Item.inLoop pL :: pE')=pE from rfl,ePK];refine Ab ?_;unfold pO5 pK pL p5 p4 p2 pS Bd Tryd.f50 seq1 seq2 Ar Be opsOf at hH ⊢;simp only[Qa] at hH ⊢;refine Ac ?_;simp only[Sz,Sr,Nat.reduceAdd];iterate 5
  (refine Ad rfl rfl (by decide) rfl λd K hK=>?_
   go_simp;refine hK _ ?_;clear hK K)
 refine Ao (f:=44) (fn:=Tryd.f44) (args:=#[Pt cb 0,Pt t.tb 0]) (Ag _ _) rfl rfl (by decide) rfl (by simp[Act.eval]) Tryd.func44 (by decide) rfl ?_;exact Hn y _ Hm rfl (λg hg=>hH g ⟨_,⟨rfl,rfl,(alC rfl<|alC rfl<|alC rfl<|alC rfl<|alN)⟩,hg⟩) hvw hn HM.out ht hK hz hcont hstop _ rfl
def val_p6 (c pb n m cb tb:Nat) (x y:Int):Nat->Value
 |0=>Pt c 0
 |1=>Pt c 0
 |2=>Pt c 2
 |3=>.slice (some ⟨pb,0,none⟩) n n
 |4=>I m
 |5=>Pt pb (m*2)
 |6=>Pt pb (m*2+1)
 |7=>Pt cb 0
 |8=>Pt tb 0
 |9=>I y
 |10=>.agg #[I 0,I 32]
 |11=>I (fstI y)
 |_=>undef
theorem reg_p6:regOk pO6 12 39=true:=by kernel_rfl
theorem Ji:((pO6.extract 0 12).all λo=>E5 Tryd.prog true o.op||H8 Dh Jr o.op)=true:=by kernel_rfl
theorem p6_pre (c pb n m cb tb:Nat) (x y:Int) (hkn:m<n) (hA:Fl 59 [(0,Pt c 0),(1,Pt tb 0),(2,I x),(7,I m),(9,I y)] a) (k:List Item) (cs:List Frame) (hF:R1.Flds v) (h1:v.cell? ⟨c,2,none⟩=some (.slice (some ⟨pb,0,none⟩) n n)) (h2:v.cell? ⟨pb,m*2+1,none⟩=some (Pt cb 0)) (hvw:Rel z v w) (hn:Ai Ch v)
 (hN:∀ v1 w1 a' o,pO6[12]? = some o->(∀ y,Region.wanted o y=true)->Fl 59 [(0,Pt c 0),(1,Pt tb 0),(2,I x),(7,I m),(9,I y),(46,Pt cb 0),(47,Pt tb 0),(50,I (fstI y))] a'->Rel z v1 w1->Ai Ch v1->Grows v v1->GoT z main Ch Stop (G ((base 50).at a' (.inRegion pO6 [12] :: k)) cs) w1):
 GoT z main Ch Stop (G ((base 50).at a (.code (.region 6 pO6 true) :: k)) cs) w:=by
 refine region_in (val:=val_p6 c pb n m cb tb x y) reg_p6 (by rw[hA.1];decide) hvw hn ?_ ?_
 .intro i0 o rest a' v1 w1 hi ho hw ev ev0 r1 n1 g1 hk
  match i0,hi,ho,ev,hk with
  |0,_,ho,ev,hk=>have l0:a'.eval (.tmp 0)=Pt c 0:=(ev0 0 (by decide)).trans (hA.at 0 _ (by simp));exact Bf ho hw (by simp[base]) (p:=Op.move (Operand.tmp 0)) (by kernel_rfl) (Bg Ji (by decide) ho) r1 n1 (x:=Pt c 0) rfl (λo' h'=>by unfold execOp;rw[h'];simp only[l0];simp[go_sem]) hk
  |1,_,ho,ev,hk=>have l0:a'.eval (.tmp 39)=Pt c 0:=ev 0 (by decide) (by kernel_rfl);exact Bf ho hw (by simp[base]) (p:=Op.nilCheck (Operand.tmp 39)) (by kernel_rfl) (Bg Ji (by decide) ho) r1 n1 (x:=Pt c 0) rfl (λo' h'=>by unfold execOp;rw[h'];simp only[l0];simp[go_sem]) hk
  |2,_,ho,ev,hk=>have l0:a'.eval (.tmp 40)=Pt c 0:=ev 1 (by decide) (by kernel_rfl);exact Bf ho hw (by simp[base]) (p:=Op.fieldAddr 132 (Operand.tmp 40) 2) (by kernel_rfl) (Bg Ji (by decide) ho) r1 n1 (x:=Pt c 2) rfl (λo' h'=>by unfold execOp;rw[h'];simp only[l0];simp[go_sem]) hk
  |3,_,ho,ev,hk=>have l0:a'.eval (.tmp 41)=Pt c 2:=ev 2 (by decide) (by kernel_rfl);have c0:=g1.cell h1;exact Bf ho hw (by simp[base]) (p:=Op.load 130 (Operand.tmp 41)) (by kernel_rfl) (Bg Ji (by decide) ho) r1 n1 (x:=.slice (some ⟨pb,0,none⟩) n n) rfl (λo' h'=>by unfold execOp;rw[h'];simp only[l0];simp[go_sem,c0]) hk
  |4,_,ho,ev,hk=>have l0:a'.eval (.tmp 7)=I m:=(ev0 7 (by decide)).trans (hA.at 7 _ (by simp));exact Bf ho hw (by simp[base]) (p:=Op.move (Operand.tmp 7)) (by kernel_rfl) (Bg Ji (by decide) ho) r1 n1 (x:=I m) rfl (λo' h'=>by unfold execOp;rw[h'];simp only[l0];simp[go_sem]) hk
  |5,_,ho,ev,hk=>have l0:a'.eval (.tmp 42)=.slice (some ⟨pb,0,none⟩) n n:=ev 3 (by decide) (by kernel_rfl);have l1:a'.eval (.tmp 43)=I m:=ev 4 (by decide) (by kernel_rfl);have hk1:(m:Int)<(n:Int):=Int.ofNat_lt.2 hkn;exact Bf ho hw (by simp[base]) (p:=Op.indexAddr 130 (Operand.tmp 42) (Operand.tmp 43)) (by kernel_rfl) (Bg Ji (by decide) ho) r1 n1 (x:=Pt pb (m*2)) rfl (λo' h'=>by unfold execOp;rw[h'];simp only[l0,l1];simp[go_sem,hk1]) hk
  |6,_,ho,ev,hk=>have l0:a'.eval (.tmp 44)=Pt pb (m*2):=ev 5 (by decide) (by kernel_rfl);exact Bf ho hw (by simp[base]) (p:=Op.fieldAddr 134 (Operand.tmp 44) 1) (by kernel_rfl) (Bg Ji (by decide) ho) r1 n1 (x:=Pt pb (m*2+1)) rfl (λo' h'=>by unfold execOp;rw[h'];simp only[l0];simp[go_sem]) hk
  |7,_,ho,ev,hk=>have l0:a'.eval (.tmp 45)=Pt pb (m*2+1):=ev 6 (by decide) (by kernel_rfl);have c0:=g1.cell h2;exact Bf ho hw (by simp[base]) (p:=Op.load 89 (Operand.tmp 45)) (by kernel_rfl) (Bg Ji (by decide) ho) r1 n1 (x:=Pt cb 0) rfl (λo' h'=>by unfold execOp;rw[h'];simp only[l0];simp[go_sem,c0]) hk
  |8,_,ho,ev,hk=>have l0:a'.eval (.tmp 1)=Pt tb 0:=(ev0 1 (by decide)).trans (hA.at 1 _ (by simp));exact Bf ho hw (by simp[base]) (p:=Op.move (Operand.tmp 1)) (by kernel_rfl) (Bg Ji (by decide) ho) r1 n1 (x:=Pt tb 0) rfl (λo' h'=>by unfold execOp;rw[h'];simp only[l0];simp[go_sem]) hk
  |9,_,ho,ev,hk=>have l0:a'.eval (.tmp 9)=I y:=(ev0 9 (by decide)).trans (hA.at 9 _ (by simp));exact Bf ho hw (by simp[base]) (p:=Op.move (Operand.tmp 9)) (by kernel_rfl) (Bg Ji (by decide) ho) r1 n1 (x:=I y) rfl (λo' h'=>by unfold execOp;rw[h'];simp only[l0];simp[go_sem]) hk
  |10,_,ho,ev,hk=>have c0:=g1.cell hF.c0;have c1:=g1.cell hF.c1;exact Bf ho hw (by simp[base]) (p:=Op.load 98 (Operand.global 2)) (by kernel_rfl) (Bg Ji (by decide) ho) r1 n1 (x:=.agg #[I 0,I 32]) rfl (λo' h'=>by unfold execOp;rw[h'];simp only[Act.eval];simp[go_sem,c0,c1]) hk
  |11,_,ho,ev,hk =>have l0:a'.eval (.tmp 48)=I y:=ev 9 (by decide) (by kernel_rfl);have l1:a'.eval (.tmp 49)=.agg #[I 0,I 32]:=ev 10 (by decide) (by kernel_rfl);exact Kz (f:=45) (fn:=Tryd.f45) (xs:=#[.tmp 48,.tmp 49]) (ats:=#[3,98]) (args:=#[I y,.agg #[I 0,I 32]]) ho hw (by simp[base]) (by kernel_rfl) (by simp only[List.map_toArray,List.map_cons,List.map_nil,l0,l1]) Tryd.func45 (by kernel_rfl) rfl (Ci Dn (by simp[LT,Dh]) Tryd.func45 rfl) (λtmps=>⟨_,λw=>results_tmp rfl _ _ _,λw=>by simp[results,go_sem,Tryd.f45]⟩) r1 n1 (x:=I (fstI y)) rfl (λτ=>wp_mono (R1.Ew y 0 32 (Ap v1 τ 0) (by decide) (by decide) (by decide) _ rfl) (Dm λr u hq=>⟨hq.1,gtape (Dv hq.2)⟩)) hk
 .intro v1 w1 o ho hw r1 n1 g1
  refine hN v1 w1 _ o ho hw ⟨(Hk _ _ _ _).trans hA.1,(Gp _ _ _ _).trans hA.2.1,?_⟩ r1 n1 g1;have hsz:39+12<=a.tmps.size:=by rw[hA.1];decide
  intro p hp;simp only[Sm,or_false] at hp;rcases hp with rfl|rfl|rfl|rfl|rfl|rfl|rfl|rfl;rw[Qe,Br _ _ _ _ _ hsz,if_neg (by simp),<-Qe];exact hA.2.2 (0,Pt c 0) (by simp);rw[Qe,Br _ _ _ _ _ hsz,if_neg (by simp),<-Qe];exact hA.2.2 (1,Pt tb 0) (by simp);rw[Qe,Br _ _ _ _ _ hsz,if_neg (by simp),<-Qe];exact hA.2.2 (2,I x) (by simp);rw[Qe,Br _ _ _ _ _ hsz,if_neg (by simp),<-Qe];exact hA.2.2 (7,I m) (by simp);rw[Qe,Br _ _ _ _ _ hsz,if_neg (by simp),<-Qe];exact hA.2.2 (9,I y) (by simp);rw[Qe,Br _ _ _ _ _ hsz,if_pos (by simp)];rfl;rw[Qe,Br _ _ _ _ _ hsz,if_pos (by simp)];rfl;rw[Qe,Br _ _ _ _ _ hsz,if_pos (by simp)];rfl
theorem push_link (h0:Int) (hkn:k<n) (hF:R1.Flds v) (h1:v.cell? ⟨c,2,none⟩=some (.slice (some ⟨pb,0,none⟩) n n)) (h2:v.cell? ⟨pb,k*2+1,none⟩=some (Pt cb 0)) (hA:Fl 59 [(0,Pt c 0),(1,Pt t.tb 0),(2,I x),(7,I k)] a) (cs:List Frame) (Hm:Goroutine->Prop)
 (hH:∀ g,(∃ a,Fl 59 [(0,Pt c 0),(1,Pt t.tb 0),(2,I x),(7,I k),(9,I h0)] a∧Eg (h==0) i j cb t.tb 2 (Bz (fstI h0)) (λr=>G (pLink a r) cs) g)->Hm g)
 (hvw:Rel z v w) (hn:Ai Ch v) (hm:Mem z S K v) (ht:S.thr[i]? = some t) (hK:K[j]? = some (cb,y)) (hz:z t.tb=some 2) (hcont:cont ⟨t.tb,2,none⟩=.chan (some t.gc))
 (hstop:∀ g w',Fq z cont h S.bk t.gc Hm (Then z Ch S K v (waiting S i t 1 2 j) K) g w'->Stop g w'):
 GoT z (h==0) Ch Stop (G (pSeen a (I h0)) cs) w:=by
 have HM:Hid (Mem z S K v):=⟨hm⟩
 clear hm;obtain ⟨u,rfl,hu⟩:=litF hA;clear hA;simp only[Fls] at hu;unfold pSeen;simp only[Qa,lits,Nat.reduceAdd,hu];clear hu;unfold pO5 pK pL p5 p4 p2 pS Bd Tryd.f50 seq1 seq2 Ar Be opsOf;simp only[Qa];walk_nrm
 refine Ad rfl rfl (by decide) rfl λd K hK=>?_;go_simp;refine hK _ ?_;clear hK K;refine Aa ?_;rw[eP6];refine Ab ?_;refine p6_pre c pb n k cb t.tb x h0 hkn ⟨rfl,rfl,(alC rfl<|alC rfl<|alC rfl<|alC rfl<|alC rfl<|alN)⟩ _ cs hF h1 h2 hvw hn (λv4 w4 a' o ho hw hA hvw4 hn4 hg4=>?_);have hm4:=HM.out.grows hg4;have e46:a'.eval (.tmp 46)=Pt cb 0:=hA.at 46 _ (by simp);have e47:a'.eval (.tmp 47)=Pt t.tb 0:=hA.at 47 _ (by simp);have e50:a'.eval (.tmp 50)=I (fstI h0):=hA.at 50 _ (by simp);have hop:(pO6[12]?).map (·.op)=some (.call { callee:=.value (.func 47),args:=#[.tmp 46,.tmp 47,.tmp 50],argTypes:=#[89,52,3] }):=by kernel_rfl
 have hds:(pO6[12]?).map (·.dst)=some (some 51):=by kernel_rfl
 rw[ho] at hop hds;have hop':=Qd hop;have hds':o.dst=some 51:=Qd hds;refine Ao (f:=47) (fn:=Tryd.f47) (args:=#[Pt cb 0,Pt t.tb 0,I (fstI h0)]) (Ag _ _) ho (hw _) (by simp[base]) hop' (by simp only[List.map_toArray,List.map_cons,List.map_nil,e46,e47,e50]) Tryd.func47 (by decide) rfl ?_;refine store_goes (fstI h0) y _ Hm ho (λg hg=>hH g ⟨a',⟨hA.1,hA.2.1,λp hp=>hA.2.2 p (by simp only[Sm,or_false] at hp ⊢;rcases hp with rfl|rfl|rfl|rfl|rfl<;>simp)⟩,?_⟩) hvw4 hn4 hm4.mem ht hK hz hcont (λg w' hs=>hstop g w' (Hr (λhT=>by obtain ⟨v',r1,r2,r3⟩:=hT;exact ⟨v',r1,r2,hm4.trans r3⟩) hs)) _ rfl;rw[hds'] at hg;exact hg
theorem push_try (hk3:k<1000) (r:Value) (hA:Fl 59 [(0,Pt c 0),(1,Pt tb 0),(2,I x),(7,I k),(9,I h0)] a) (cs:List Frame)
 (hk:∀ a code,Tryd.f73.body=some code->Fl 59 [(0,Pt c 0),(1,Pt tb 0),(2,I x),(7,I k),(9,I h0)] a->GoT z main Ch Stop (G ((base 73).at { tmps:=#[Pt c 0,Pt tb 0,I h0,I ((k:Int)+1)]++Array.replicate 18 undef,defers:=[] } [.code code]) (pTry a :: cs)) w):
 GoT z main Ch Stop (G (pLink a r) cs) w:=by
 have hwr:IntKind.i64.wrap ((k:Int)+1)=(k:Int)+1:=by rw[IntKind.wrap_i64];omega
 unfold pTry at hk;obtain ⟨u,rfl,hu⟩:=litF hA;clear hA;simp only[Fls] at hu;unfold pLink;simp only[Qa,lits,Nat.reduceAdd,hu];clear hu;refine Aa ?_;rw[eP7];refine Ab ?_;refine Ab ?_;unfold pO7 p7 p6 pK pL p5 p4 p2 pS Bd Tryd.f50 seq1 seq2 Ar Be opsOf at hk ⊢;simp only[Qa] at hk ⊢;refine Ac ?_;simp only[Sz,Sr,Nat.reduceAdd];iterate 5
  (refine Ad rfl rfl (by decide) rfl λd K hK=>?_
   go_simp;refine hK _ ?_;clear hK K)
 refine Ao (f:=73) (fn:=Tryd.f73) (args:=#[Pt c 0,Pt tb 0,I h0,I ((k:Int)+1)]) (Ag _ _) rfl rfl (by decide) rfl (by simp[Act.eval]) Tryd.func73 (by decide) rfl ?_;exact hk _ _ rfl ⟨rfl,rfl,(alC rfl<|alC rfl<|alC rfl<|alC rfl<|alC rfl<|alN)⟩
theorem push_again  (hA:Fl 59 [(0,Pt c 0),(1,Pt tb 0),(2,I x),(7,I k),(9,I h0)] a) (cs:List Frame)
 (hk:∀ a,Fl 59 [(0,Pt c 0),(1,Pt tb 0),(2,I x),(7,I k)] a->GoT z main Ch Stop (G (pHead a) cs) w):
 GoT z main Ch Stop (G (pTried a (.bool false)) cs) w:=by
 unfold pHead pE' at hk
 try simp only[Qa] at hk
 obtain ⟨u,rfl,hu⟩:=litF hA;clear hA;simp only[Fls] at hu;unfold pTried pO7 pC7 p7 p6 pK pL p5 p4 p2 pS Bd Tryd.f50 seq1 seq2 Ar Be opsOf;simp only[Qa,lits,Nat.reduceAdd,hu];clear hu;walk_nrm
 refine Ad rfl rfl (by decide) rfl λd K hK=>?_;go_simp;refine hK _ ?_;clear hK K;refine Aa ?_;refine Ax (t:=true) (by simp[Act.eval]) ?_;simp only[if_true,if_false,Qh];rw[show pE=Item.inBlock 1 :: .inLoop pL :: [.inBlock 0,.inScope pS] from rfl];refine E7 (Ag _ _) (k':=[.inLoop pL,.inBlock 0,.inScope pS]) rfl ?_;refine Ea (Ag _ _) ?_;exact hk _ ⟨rfl,rfl,(alC rfl<|alC rfl<|alC rfl<|alC rfl<|alN)⟩
theorem push_done  (hA:Fl 59 [(0,Pt c 0),(1,Pt tb 0),(2,I x),(7,I k),(9,I h0)] a) (cs:List Frame) {rest:List Nat}(hoc:ops[q]? = some oc) (hvw:Rel z v w) (hn:Ai Ch v)
 (hk:∀ w',Rel z v w'->GoT z main Ch Stop (G (bc.at (ac.put oc.dst (I 0)) (.inRegion ops rest :: k0)) cs) w'):
 GoT z main Ch Stop (G (pTried a (.bool true)) (bc.at ac (.inRegion ops (q :: rest) :: k0) :: cs)) w:=by
 obtain ⟨u,rfl,hu⟩:=litF hA;clear hA;simp only[Fls] at hu;unfold pTried pO7 pC7 p8 p7 p6 pK pL p5 p4 p2 pS Bd Tryd.f50 seq1 seq2 Ar Be opsOf;simp only[Qa,lits,Nat.reduceAdd,hu];clear hu;walk_nrm
 refine Ad rfl rfl (by decide) rfl λd K hK=>?_;go_simp;refine hK _ ?_;clear hK K;refine Aa ?_;refine Ax (t:=false) (by simp[Act.eval]) ?_;simp only[if_true,if_false,Qh];refine Bo ?_;refine Ab ?_;refine Ac ?_;simp only[Sz,Sr,Nat.reduceAdd];refine Ad rfl rfl (by decide) rfl λd K hK=>?_;go_simp;refine hK _ ?_;clear hK K;refine Aa ?_;refine GoesI.ctl rfl (λ_=>stepG_ret') (Ag _ _) ?_;exact Ce (f:=50) (fn:=Tryd.f50) (x:=I 0) hvw hn Tryd.func50 rfl hoc (by simp[results,go_sem,Tryd.f50]) (λw' r'=>hk w' r')
def oS:Code:=Bd (seq2 (Tryd.f51.body.getD .skip))
def oL:Code:=Be (Ar (seq2 oS))
def oK:Code:=Ar oL
def o2:Code:=seq2 oK
def o3:Code:=seq2 o2
def o5:Code:=seq2 o3
def o6:Code:=seq2 o5
def o7:Code:=seq2 o6
def o8:Code:=seq2 o7
def o9:Code:=seq2 o8
def o10:Code:=seq2 o9
def oO1:Array Oper:=opsOf (seq1 oK)
def oO6:Array Oper:=opsOf (seq1 o6)
def oO7:Array Oper:=opsOf (seq1 (seq1 o7))
def oC7:Code:=seq2 (seq1 o7)
def oO8:Array Oper:=opsOf (seq1 o8)
def oO9:Array Oper:=opsOf (seq1 o9)
def oE':List Item:=[.inBlock 0,.inScope oS]
def oE:List Item:=.inBlock 1 :: .inLoop oL :: oE'
def oHead (a:Act):Frame:=(base 51).at a (.code oL :: .inLoop oL :: oE')
def K7 (a:Act) (r:Value):Frame:=(base 51).at (a.put (some 16) r) (.inRegion oO1 [6] :: .code o2 :: oE)
def oLink (a:Act) (r:Value):Frame:=(base 51).at (a.put (some 33) r) (.inRegion oO6 [10] :: .code o7 :: oE)
def oTry (a:Act):Frame:=(base 51).at a (.inRegion oO7 [4,5] :: .code oC7 :: .code o8 :: oE)
def oTried (a:Act) (r:Value):Frame:=(base 51).at (a.put (some 38) r) (.inRegion oO7 [5] :: .code oC7 :: .code o8 :: oE)
def oVal (a:Act) (r:Value):Frame:=(base 51).at (a.put (some 49) r) (.inRegion oO8 [10] :: .code o9 :: oE)
def oGive (a:Act):Frame:=(base 51).at a (.inRegion oO9 [6] :: .code o10 :: oE)
def oGave (a:Act) (r:Value):Frame:=(base 51).at (a.put (some 56) r) (.inRegion oO9 [] :: .code o10 :: oE)
theorem oO7_4:(oO7[4]?).map (·.dst)=some (some 38):=by kernel_rfl
theorem oO9_6:(oO9[6]?).map (·.dst)=some (some 56):=by kernel_rfl
theorem eOB:Tryd.f51.body.getD .skip=.seq (.region 0 (opsOf (seq1 (Tryd.f51.body.getD .skip))) false) (.scope oS):=by kernel_rfl
theorem eOS:oS=.seq (.label 0) (.block 0 (.loop oL)):=by kernel_rfl
theorem eOL:oL=.block 1 oK:=by kernel_rfl
theorem eOK:oK=.seq (.region 1 oO1 false) o2:=by kernel_rfl
theorem eO7:o7=.seq (.seq (.region 7 oO7 false) oC7) o8:=by kernel_rfl
theorem eO8:o8=.seq (.region 8 oO8 false) o9:=by kernel_rfl
theorem eO9:o9=.seq (.region 9 oO9 false) o10:=by kernel_rfl
theorem pop_in (cs:List Frame)
 (hk:∀ a,Fl 58 [(0,Pt c 0),(1,Pt tb 0)] a->GoT z main Ch Stop (G (oHead a) cs) w) (code:Code) (hc:Tryd.f51.body=some code):
 GoT z main Ch Stop (G ((base 51).at { tmps:=#[Pt c 0,Pt tb 0]++Array.replicate 56 undef,defers:=[] } [.code code]) cs) w:=by
 have hw0:code=.seq (.region 0 (opsOf (seq1 (Tryd.f51.body.getD .skip))) false) (.scope oS):=by rw[show code=Tryd.f51.body.getD .skip by rw[hc];rfl];exact eOB
 subst hw0;clear hc;simp only[Sy];unfold oHead oE' at hk;refine Ab ?_;unfold Tryd.f51 seq1 opsOf;simp only[Qa];refine Ac ?_;simp only[Sz,Sr,Nat.reduceAdd];iterate 2
  (refine Ad rfl rfl (by decide) rfl λd K hK=>?_
   go_simp;refine hK _ ?_;clear hK K)
 refine Aa ?_;refine Ig (Ag _ _) ?_;generalize hq:Item.inScope oS=q at hk ⊢;rw[eOS];refine Ab ?_;refine Jx (Ag _ _) ?_;refine Bt ?_;refine Gg (Ag _ _) ?_;exact hk _ ⟨rfl,rfl,(alC rfl<|alC rfl<|alN)⟩
theorem pop_look (c0:v.cell? ⟨c,1,none⟩=some (Pt cb 0)) (hA:Fl 58 [(0,Pt c 0),(1,Pt t.tb 0)] a) (cs:List Frame) (Hm:Goroutine->Prop)
 (hH:∀ g,(∃ a,Fl 58 [(0,Pt c 0),(1,Pt t.tb 0)] a∧Eg (h==0) i j cb t.tb 1 Bm (λr=>G (K7 a r) cs) g)->Hm g)
 (hvw:Rel z v w) (hn:Ai Ch v) (hm:Mem z S K v) (ht:S.thr[i]? = some t) (hK:K[j]? = some (cb,y)) (hz:z t.tb=some 2) (hcont:cont ⟨t.tb,2,none⟩=.chan (some t.gc))
 (hstop:∀ g w',Fq z cont h S.bk t.gc Hm (Then z Ch S K v (waiting S i t 1 1 j) K) g w'->Stop g w'):
 GoT z (h==0) Ch Stop (G (oHead a) cs) w:=by
 have HM:Hid (Mem z S K v):=⟨hm⟩
 clear hm;unfold K7 at hH;obtain ⟨u,rfl,hu⟩:=litF hA;clear hA;simp only[Fls] at hu;unfold oHead;simp only[Qa,lits,Nat.reduceAdd,hu];clear hu;have c0w:w.cell? ⟨c,1,none⟩=some (Pt cb 0):=by rw[hvw.cell?];exact c0
 rw[show (Item.code oL :: Item.inLoop oL :: oE')=Item.code (.block 1 oK) :: Item.inLoop oL :: oE' by rw[<-eOL]];refine Bt ?_;rw[show (Item.inBlock 1 :: Item.inLoop oL :: oE')=oE from rfl,eOK];refine Ab ?_;unfold oO1 oK oL oS Bd Tryd.f51 seq1 seq2 Ar Be opsOf at hH ⊢;simp only[Qa] at hH ⊢;refine Ac ?_;simp only[Sz,Sr,Nat.reduceAdd];iterate 5
  (refine Ad rfl rfl (by decide) rfl λd K hK=>?_
   go_simp;refine hK _ ?_;clear hK K)
 refine Ao (f:=44) (fn:=Tryd.f44) (args:=#[Pt cb 0,Pt t.tb 0]) (Ag _ _) rfl rfl (by decide) rfl (by simp[Act.eval]) Tryd.func44 (by decide) rfl ?_;exact Hn y _ Hm rfl (λg hg=>hH g ⟨_,⟨rfl,rfl,(alC rfl<|alC rfl<|alN)⟩,hg⟩) hvw hn HM.out ht hK hz hcont hstop _ rfl
theorem pop_empty (x:Int) (h0:fstI x=0) (hF:R1.Flds v) (hA:Fl 58 [(0,Pt c 0),(1,Pt tb 0)] a) (cs:List Frame) {rest:List Nat}(hoc:ops[q]? = some oc) (hvw:Rel z v w) (hn:Ai Ch v)
 (hk:∀ v' w',Rel z v' w'->Ai Ch v'->Grows v v'->GoT z main Ch Stop (G (bc.at (ac.put oc.dst (.tuple #[I 0,I 90])) (.inRegion ops rest :: k0)) cs) w'):
 GoT z main Ch Stop (G (K7 a (I x)) (bc.at ac (.inRegion ops (q :: rest) :: k0) :: cs)) w:=by
 obtain ⟨u,rfl,hu⟩:=litF hA;clear hA;simp only[Fls] at hu;unfold K7 oO1 o2 oK oL oS Bd Tryd.f51 seq1 seq2 Ar Be opsOf;simp only[Qa,lits,Nat.reduceAdd,hu];clear hu;have g0:w.cell? ⟨2,0,none⟩=some (I 0):=by rw[hvw.cell?];exact hF.c0
 have g1:w.cell? ⟨2,1,none⟩=some (I 32):=by rw[hvw.cell?];exact hF.c1
 walk_nrm
 refine Ad rfl rfl (by decide) rfl λd K hK=>?_;go_simp;refine hK _ ?_;clear hK K;refine Aa ?_;refine Ab ?_;refine Ac ?_;simp only[Sz,Sr,Nat.reduceAdd];iterate 2
  (refine Ad rfl rfl (by decide) rfl λd K hK=>?_
   go_simp;refine hK _ ?_;clear hK K)
 refine Ed (f:=45) (fn:=Tryd.f45) (args:=#[I x,R1.F 0 32]) hE Dn rfl rfl (by decide) rfl (by simp[Act.eval,R1.F]) Tryd.func45 (by kernel_rfl) rfl (Ci Dn (by simp[LT,Dh]) Tryd.func45 rfl) (λtmps=>⟨_,λw=>results_tmp rfl _ _ _,λw=>by simp[results,go_sem,Tryd.f45]⟩) hvw hn
  (R:=λr v4=>r=I (fstI x)∧Grows v v4) (λτ=>?_) (λr v4 w4 hR hvw4 hn4=>?_)
 exact wp_mono (R1.Ew x 0 32 (Ap v τ 0) (by decide) (by decide) (by decide) _ rfl) (Dm λr u hq=>⟨hq.1,gtape (Dv hq.2)⟩);obtain ⟨rfl,hg4⟩:=hR;walk_nrm
 refine Ad rfl rfl (by decide) rfl λd K hK=>?_;go_simp;refine hK _ ?_;clear hK K;refine Aa ?_;refine Ab ?_;refine Ab ?_;refine Ac ?_;simp only[Sz,Sr,Nat.reduceAdd];iterate 2
  (refine Ad rfl rfl (by decide) rfl λd K hK=>?_
   go_simp;refine hK _ ?_;clear hK K)
 refine Aa ?_;refine Ax (t:=true) (by simp[Act.eval,h0]) ?_;simp only[if_true,if_false,Qh];refine Ab ?_;refine Ac ?_;simp only[Sz,Sr,Nat.reduceAdd];iterate 2
  (refine Ad rfl rfl (by decide) rfl λd K hK=>?_
   go_simp;refine hK _ ?_;clear hK K)
 refine Aa ?_;refine GoesI.ctl rfl (λ_=>stepG_ret') (Ag _ _) ?_;exact Ce (f:=51) (fn:=Tryd.f51) (x:=.tuple #[I 0,I 90]) hvw4 hn4 Tryd.func51 rfl hoc (by simp[results,go_sem,Tryd.f51]) (λw' r'=>hk v4 w' r' hn4 hg4)
theorem pop_link (k:Nat) (hk0:fstI x=(k:Int)+1) (hkn:k<n) (hF:R1.Flds v) (c1:v.cell? ⟨c,2,none⟩=some (.slice (some ⟨pb,0,none⟩) n n)) (c2:v.cell? ⟨pb,k*2+1,none⟩=some (Pt cb 0)) (hA:Fl 58 [(0,Pt c 0),(1,Pt t.tb 0)] a) (cs:List Frame) (Hm:Goroutine->Prop)
 (hH:∀ g,(∃ a,Fl 58 [(0,Pt c 0),(1,Pt t.tb 0),(6,I x),(8,I k)] a∧Eg (h==0) i j cb t.tb 1 Bm (λr=>G (oLink a r) cs) g)->Hm g)
 (hvw:Rel z v w) (hn:Ai Ch v) (hm:Mem z S K v) (ht:S.thr[i]? = some t) (hK:K[j]? = some (cb,y)) (hz:z t.tb=some 2) (hcont:cont ⟨t.tb,2,none⟩=.chan (some t.gc))
 (hstop:∀ g w',Fq z cont h S.bk t.gc Hm (Then z Ch S K v (waiting S i t 1 1 j) K) g w'->Stop g w'):
 GoT z (h==0) Ch Stop (G (K7 a (I x)) cs) w:=by
 have HM:Hid (Mem z S K v):=⟨hm⟩
 clear hm;unfold oLink at hH;obtain ⟨u,rfl,hu⟩:=litF hA;clear hA;simp only[Fls] at hu;unfold K7 oO1 o2 oK oL oS Bd Tryd.f51 seq1 seq2 Ar Be opsOf;simp only[Qa,lits,Nat.reduceAdd,hu];clear hu;have HK0:Hid (fstI x=(k:Int)+1):=⟨hk0⟩
 clear hk0;have g0:w.cell? ⟨2,0,none⟩=some (I 0):=by rw[hvw.cell?];exact hF.c0
 have g1:w.cell? ⟨2,1,none⟩=some (I 32):=by rw[hvw.cell?];exact hF.c1
 walk_nrm
 refine Ad rfl rfl (by decide) rfl λd K hK=>?_;go_simp;refine hK _ ?_;clear hK K;refine Aa ?_;refine Ab ?_;refine Ac ?_;simp only[Sz,Sr,Nat.reduceAdd];iterate 2
  (refine Ad rfl rfl (by decide) rfl λd K hK=>?_
   go_simp;refine hK _ ?_;clear hK K)
 refine Ed (f:=45) (fn:=Tryd.f45) (args:=#[I x,R1.F 0 32]) hE Dn rfl rfl (by decide) rfl (by simp[Act.eval,R1.F]) Tryd.func45 (by kernel_rfl) rfl (Ci Dn (by simp[LT,Dh]) Tryd.func45 rfl) (λtmps=>⟨_,λw=>results_tmp rfl _ _ _,λw=>by simp[results,go_sem,Tryd.f45]⟩) hvw hn
  (R:=λr v4=>r=I (fstI x)∧Grows v v4) (λτ=>?_) (λr v4 w4 hR hvw4 hn4=>?_)
 exact wp_mono (R1.Ew x 0 32 (Ap v τ 0) (by decide) (by decide) (by decide) _ rfl) (Dm λr u hq=>⟨hq.1,gtape (Dv hq.2)⟩);obtain ⟨rfl,hg4⟩:=hR;walk_nrm
 have hne:¬ (fstI x=0):=by have:=HK0.out;omega
 have hwr:IntKind.i64.wrap (fstI x - 1)=(k:Int):=by have:=HK0.out;have hx:=R1.J0 x;rw[IntKind.wrap_i64];omega
 have hkn':(k:Int)<(n:Int):=by omega
 have d1:w4.cell? ⟨c,2,none⟩=some (.slice (some ⟨pb,0,none⟩) n n):=by rw[hvw4.cell?];exact hg4.cell c1
 have d2:w4.cell? ⟨pb,k*2+1,none⟩=some (Pt cb 0):=by rw[hvw4.cell?];exact hg4.cell c2
 refine Ad rfl rfl (by decide) rfl λd K hK=>?_;go_simp;refine hK _ ?_;clear hK K;refine Aa ?_;refine Ab ?_;refine Ab ?_;refine Ac ?_;simp only[Sz,Sr,Nat.reduceAdd];iterate 2
  (refine Ad rfl rfl (by decide) rfl λd K hK=>?_
   go_simp;refine hK _ ?_;clear hK K)
 refine Aa ?_;refine Ax (t:=false) (by simp[Act.eval,hne]) ?_;simp only[if_true,if_false,Qh];refine Bo ?_;refine Ab ?_;refine Ac ?_;simp only[Sz,Sr,Nat.reduceAdd];iterate 3
  (refine Ad rfl rfl (by decide) rfl λd K hK=>?_
   go_simp;refine hK _ ?_;clear hK K)
 refine Aa ?_;refine Ab ?_;unfold oO6 o6 o5 o3 o2 oK oL oS Bd Tryd.f51 seq1 seq2 Ar Be opsOf at hH;simp only[Qa] at hH;refine Ac ?_;simp only[Sz,Sr,Nat.reduceAdd];iterate 9
  (refine Ad rfl rfl (by decide) rfl λd K hK=>?_
   go_simp;refine hK _ ?_;clear hK K)
 have hm4:=HM.out.grows hg4;refine Ao (f:=44) (fn:=Tryd.f44) (args:=#[Pt cb 0,Pt t.tb 0]) (Ag _ _) rfl rfl (by decide) rfl (by simp[Act.eval]) Tryd.func44 (by decide) rfl ?_;exact Hn y _ Hm rfl (λg hg=>hH g ⟨_,⟨rfl,rfl,(alC rfl<|alC rfl<|alC rfl<|alC rfl<|alN)⟩,hg⟩) hvw4 hn4 hm4.mem ht hK hz hcont (λg w' hs=>hstop g w' (Hr (λhT=>by obtain ⟨v',r1,r2,r3⟩:=hT;exact ⟨v',r1,r2,hm4.trans r3⟩) hs)) _ rfl
theorem pop_try (f:Int) (hA:Fl 58 [(0,Pt c 0),(1,Pt tb 0),(6,I x),(8,I k)] a) (cs:List Frame)
 (hk:∀ a code,Tryd.f73.body=some code->Fl 58 [(0,Pt c 0),(1,Pt tb 0),(6,I x),(8,I k)] a->GoT z main Ch Stop (G ((base 73).at { tmps:=#[Pt c 0,Pt tb 0,I x,I f]++Array.replicate 18 undef,defers:=[] } [.code code]) (oTry a :: cs)) w):
 GoT z main Ch Stop (G (oLink a (I f)) cs) w:=by
 unfold oTry at hk;obtain ⟨u,rfl,hu⟩:=litF hA;clear hA;simp only[Fls] at hu;unfold oLink;simp only[Qa,lits,Nat.reduceAdd,hu];clear hu;unfold oO6 o6 o5 o3 o2 oK oL oS Bd Tryd.f51 seq1 seq2 Ar Be opsOf;simp only[Qa];walk_nrm
 refine Ad rfl rfl (by decide) rfl λd K hK=>?_;go_simp;refine hK _ ?_;clear hK K;refine Aa ?_;rw[eO7];refine Ab ?_;refine Ab ?_;unfold oO7 o7 o6 o5 o3 o2 oK oL oS Bd Tryd.f51 seq1 seq2 Ar Be opsOf at hk ⊢;simp only[Qa] at hk ⊢;refine Ac ?_;simp only[Sz,Sr,Nat.reduceAdd];iterate 4
  (refine Ad rfl rfl (by decide) rfl λd K hK=>?_
   go_simp;refine hK _ ?_;clear hK K)
 refine Ao (f:=73) (fn:=Tryd.f73) (args:=#[Pt c 0,Pt tb 0,I x,I f]) (Ag _ _) rfl rfl (by decide) rfl (by simp[Act.eval]) Tryd.func73 (by decide) rfl ?_;exact hk _ _ rfl ⟨rfl,rfl,(alC rfl<|alC rfl<|alC rfl<|alC rfl<|alN)⟩
theorem pop_again  (hA:Fl 58 [(0,Pt c 0),(1,Pt tb 0),(6,I x),(8,I k)] a) (cs:List Frame)
 (hk:∀ a,Fl 58 [(0,Pt c 0),(1,Pt tb 0)] a->GoT z main Ch Stop (G (oHead a) cs) w):
 GoT z main Ch Stop (G (oTried a (.bool false)) cs) w:=by
 unfold oHead oE' at hk
 try simp only[Qa] at hk
 obtain ⟨u,rfl,hu⟩:=litF hA;clear hA;simp only[Fls] at hu;unfold oTried oO7 oC7 o7 o6 o5 o3 o2 oK oL oS Bd Tryd.f51 seq1 seq2 Ar Be opsOf;simp only[Qa,lits,Nat.reduceAdd,hu];clear hu;walk_nrm
 refine Ad rfl rfl (by decide) rfl λd K hK=>?_;go_simp;refine hK _ ?_;clear hK K;refine Aa ?_;refine Ax (t:=true) (by simp[Act.eval]) ?_;simp only[if_true,if_false,Qh];rw[show oE=Item.inBlock 1 :: .inLoop oL :: [.inBlock 0,.inScope oS] from rfl];refine E7 (Ag _ _) (k':=[.inLoop oL,.inBlock 0,.inScope oS]) rfl ?_;refine Ea (Ag _ _) ?_;exact hk _ ⟨rfl,rfl,(alC rfl<|alC rfl<|alN)⟩
theorem pop_val (hkn:k<n) (c1:v.cell? ⟨c,2,none⟩=some (.slice (some ⟨pb,0,none⟩) n n)) (c2:v.cell? ⟨pb,k*2,none⟩=some (Pt cb 0)) (hA:Fl 58 [(0,Pt c 0),(1,Pt t.tb 0),(6,I x),(8,I k)] a) (cs:List Frame) (Hm:Goroutine->Prop)
 (hH:∀ g,(∃ a,Fl 58 [(0,Pt c 0),(1,Pt t.tb 0),(8,I k)] a∧Eg (h==0) i j cb t.tb 1 Bm (λr=>G (oVal a r) cs) g)->Hm g)
 (hvw:Rel z v w) (hn:Ai Ch v) (hm:Mem z S K v) (ht:S.thr[i]? = some t) (hK:K[j]? = some (cb,y)) (hz:z t.tb=some 2) (hcont:cont ⟨t.tb,2,none⟩=.chan (some t.gc))
 (hstop:∀ g w',Fq z cont h S.bk t.gc Hm (Then z Ch S K v (waiting S i t 1 1 j) K) g w'->Stop g w'):
 GoT z (h==0) Ch Stop (G (oTried a (.bool true)) cs) w:=by
 have HM:Hid (Mem z S K v):=⟨hm⟩
 clear hm;unfold oVal at hH;obtain ⟨u,rfl,hu⟩:=litF hA;clear hA;simp only[Fls] at hu;unfold oTried oO7 oC7 o7 o6 o5 o3 o2 oK oL oS Bd Tryd.f51 seq1 seq2 Ar Be opsOf;simp only[Qa,lits,Nat.reduceAdd,hu];clear hu;have hkn':(k:Int)<(n:Int):=by omega
 have d1:w.cell? ⟨c,2,none⟩=some (.slice (some ⟨pb,0,none⟩) n n):=by rw[hvw.cell?];exact c1
 have d2:w.cell? ⟨pb,k*2,none⟩=some (Pt cb 0):=by rw[hvw.cell?];exact c2
 walk_nrm
 refine Ad rfl rfl (by decide) rfl λd K hK=>?_;go_simp;refine hK _ ?_;clear hK K;refine Aa ?_;refine Ax (t:=false) (by simp[Act.eval]) ?_;simp only[if_true,if_false,Qh];refine Bo ?_;rw[eO8];refine Ab ?_;unfold oO8 o8 o7 o6 o5 o3 o2 oK oL oS Bd Tryd.f51 seq1 seq2 Ar Be opsOf at hH ⊢;simp only[Qa] at hH ⊢;refine Ac ?_;simp only[Sz,Sr,Nat.reduceAdd];iterate 9
  (refine Ad rfl rfl (by decide) rfl λd K hK=>?_
   go_simp;refine hK _ ?_;clear hK K)
 refine Ao (f:=44) (fn:=Tryd.f44) (args:=#[Pt cb 0,Pt t.tb 0]) (Ag _ _) rfl rfl (by decide) rfl (by simp[Act.eval]) Tryd.func44 (by decide) rfl ?_;exact Hn y _ Hm rfl (λg hg=>hH g ⟨_,⟨rfl,rfl,(alC rfl<|alC rfl<|alC rfl<|alN)⟩,hg⟩) hvw hn HM.out ht hK hz hcont hstop _ rfl
theorem pop_give {s:Nat}(y:Int) (c0:v.cell? ⟨c,0,none⟩=some (Pt s 0)) (hA:Fl 58 [(0,Pt c 0),(1,Pt tb 0),(8,I k)] a) (cs:List Frame) (hvw:Rel z v w)
 (hk:∀ a code,Tryd.f26.body=some code->Fl 58 [(0,Pt c 0),(1,Pt tb 0),(8,I k),(10,I y)] a->GoT z main Ch Stop (G ((base 26).at { tmps:=#[Pt s 0,Pt tb 0,I k]++Array.replicate 53 undef,defers:=[] } [.code code]) (oGive a :: cs)) w):
 GoT z main Ch Stop (G (oVal a (I y)) cs) w:=by
 have d0:w.cell? ⟨c,0,none⟩=some (Pt s 0):=by rw[hvw.cell?];exact c0
 unfold oGive at hk;obtain ⟨u,rfl,hu⟩:=litF hA;clear hA;simp only[Fls] at hu;unfold oVal;simp only[Qa,lits,Nat.reduceAdd,hu];clear hu;unfold oO8 o8 o7 o6 o5 o3 o2 oK oL oS Bd Tryd.f51 seq1 seq2 Ar Be opsOf;simp only[Qa];walk_nrm
 refine Ad rfl rfl (by decide) rfl λd K hK=>?_;go_simp;refine hK _ ?_;clear hK K;refine Aa ?_;rw[eO9];refine Ab ?_;unfold oO9 o9 o8 o7 o6 o5 o3 o2 oK oL oS Bd Tryd.f51 seq1 seq2 Ar Be opsOf at hk ⊢;simp only[Qa] at hk ⊢;refine Ac ?_;simp only[Sz,Sr,Nat.reduceAdd];iterate 6
  (refine Ad rfl rfl (by decide) rfl λd K hK=>?_
   go_simp;refine hK _ ?_;clear hK K)
 refine Ao (f:=26) (fn:=Tryd.f26) (args:=#[Pt s 0,Pt tb 0,I k]) (Ag _ _) rfl rfl (by decide) rfl (by simp[Act.eval]) Tryd.func26 (by decide) rfl ?_;exact hk _ _ rfl ⟨rfl,rfl,(alC rfl<|alC rfl<|alC rfl<|alC rfl<|alN)⟩
theorem pop_done (r:Value) (hA:Fl 58 [(0,Pt c 0),(1,Pt tb 0),(8,I k),(10,I y)] a) (cs:List Frame) {rest:List Nat}(hoc:ops[q]? = some oc) (hvw:Rel z v w) (hn:Ai Ch v)
 (hk:∀ w',Rel z v w'->GoT z main Ch Stop (G (bc.at (ac.put oc.dst (.tuple #[I y,I 0])) (.inRegion ops rest :: k0)) cs) w'):
 GoT z main Ch Stop (G (oGave a r) (bc.at ac (.inRegion ops (q :: rest) :: k0) :: cs)) w:=by
 obtain ⟨u,rfl,hu⟩:=litF hA;clear hA;simp only[Fls] at hu;unfold oGave oO9 o10 o9 o8 o7 o6 o5 o3 o2 oK oL oS Bd Tryd.f51 seq1 seq2 Ar Be opsOf;simp only[Qa,lits,Nat.reduceAdd,hu];clear hu;walk_nrm
 refine Aa ?_;refine Ab ?_;refine Ac ?_;simp only[Sz,Sr,Nat.reduceAdd];iterate 3
  (refine Ad rfl rfl (by decide) rfl λd K hK=>?_
   go_simp;refine hK _ ?_;clear hK K)
 refine Aa ?_;refine GoesI.ctl rfl (λ_=>stepG_ret') (Ag _ _) ?_;exact Ce (f:=51) (fn:=Tryd.f51) (x:=.tuple #[I y,I 0]) hvw hn Tryd.func51 rfl hoc (by simp[results,go_sem,Tryd.f51]) (λw' r'=>hk w' r')
end Go.Proofs.YtbbhahigofeacaaDoor.Gen
namespace Go.Proofs.YtbbhahigofeacaaDoor.Gen
open Go Go.Lift Go.Conc Go.RowKit
variable {mc:Mc}
structure Now (X:Fix mc) (z:Nat->Option Nat) (cont:Addr->Value) (Ch:Nat->Prop) (S0:TS) (K0:List (Nat×Int)) (v0:World) (Mo0 Mo:Nat->Option Obj) (σ:TS) (κ:List (Nat×Int)) (S:TS) (v w:World) (t:Thr):Prop where
 at_:At X z cont Ch S κ v w t
 evo:EvoP (λb=>Mo0 b≠none) z S0 K0 v0 S κ v
 nv:nv S=σ
 bk:S.bk=S0.bk
 mo:Has Mo v
 far:∀ b,Mo b≠none->¬ Own S κ b
 new:∀ b,Mo b≠none->Mo0 b≠none∨v0.heap.size<=b
 row:∀ b o,Mo b=some o->∃ c e f,o=.cells c e f
section
variable {X:Fix mc}{z:Nat->Option Nat}{cont:Addr->Value}{Ch:Nat->Prop}{Stop:Goroutine->World->Prop}{cu:Value->Goroutine}{S0:TS}{K0:List (Nat×Int)}{v0:World}{Mo0 Mo:Nat->Option Obj}{σ:TS}{κ:List (Nat×Int)}{S:TS}{v w:World}{t:Thr}{H:Nx->(Nat->Option Obj)->Goroutine->Prop}
theorem Now.good (N:Now X z cont Ch S0 K0 v0 Mo0 Mo σ κ S v w t) {x:Nx}(hx:∀ e y,x≠.ans e y):Good v0 Mo0 x Mo:=⟨hx,N.new,N.row⟩
theorem Now.on (N:Now X z cont Ch S0 K0 v0 Mo0 Mo σ κ S v w t) {S' σ':TS}{κ':List (Nat×Int)}{v' w':World}{t':Thr}(e:Evo z S κ v S' κ' v') (r:Rel z v' w') (n:Ai Ch v') (hS:Gen.nv S'=σ') (ht:S'.thr[X.i]? = some t') (htb:t'.tb=X.tb) (hgc:t'.gc=X.gc) (hbk:S'.bk=S.bk) (hok:KOk mc κ'):Now X z cont Ch S0 K0 v0 Mo0 Mo σ' κ' S' v' w' t':=by
 have kp:∀ b,b<v.heap.size->¬ Own S κ b->v'.heap[b]? = v.heap[b]?∧¬ Own S' κ' b:=λb hb ho=>(Evo.toP (Pr:=λ_=>False) e).keeps hb ho (λh=>h);have km:∀ (M:Nat->Option Obj),Has M v->(∀ b,M b≠none->¬ Own S κ b)->Has M v'∧∀ b,M b≠none->¬ Own S' κ' b:=λM hM hf=>by have h1:∀ b o,M b=some o->v'.heap[b]? = v.heap[b]?∧¬ Own S' κ' b:=λb o hb=>kp b (Qb (hM b o hb)).1 (hf b (by rw[hb];simp));refine ⟨λb o hb=>by rw[(h1 b o hb).1];exact hM b o hb,λb hb=>?_⟩;obtain ⟨o,ho⟩:=Option.ne_none_iff_exists'.1 hb;exact (h1 b o ho).2
 have k1:=km X.pk N.at_.pk N.at_.far;have k2:=km Mo N.mo N.far;exact ⟨⟨r,n,e.mem,ht,htb,hgc,⟨e.blks.trans N.at_.kb.1,hok⟩,N.at_.z,N.at_.cont,k1.1,k1.2⟩,N.evo.trans (Evo.toP e),hS,hbk.trans N.bk,k2.1,k2.2,N.new,N.row⟩
theorem Now.same (N:Now X z cont Ch S0 K0 v0 Mo0 Mo σ κ S v w t) {v' w':World}(r:Rel z v' w') (n:Ai Ch v') (e1:v'.heap=v.heap) (e2:v'.os=v.os) (e3:v'.output=v.output):Now X z cont Ch S0 K0 v0 Mo0 Mo σ κ S v' w' t :=
 N.on (N.at_.mem.grows ⟨by rw[e1];exact Qi _,λb _=>by rw[e1],e2,e3⟩) r n N.nv N.at_.thr N.at_.tb N.at_.gc rfl N.at_.kb.2
theorem Now.here (A:At X z cont Ch S κ v w t) (hm:Has Mo v) (hf:∀ b,Mo b≠none->¬ Own S κ b) (hr:∀ b o,Mo b=some o->∃ c e f,o=.cells c e f):Now X z cont Ch S κ v Mo Mo (Gen.nv S) κ S v w t :=
 ⟨A,Evo.toP (A.mem.grows ⟨Qi _,λ_ _=>rfl,rfl,rfl⟩),rfl,rfl,hm,hf,λb hb=>.inl hb,hr⟩
theorem Now.cell (N:Now X z cont Ch S0 K0 v0 Mo0 Mo σ κ S v w t) {j cb:Nat}(h:X.kb[j]? = some cb):κ[j]? = some (cb,(cellAt κ j).2)∧cellAt κ j=(cb,(cellAt κ j).2):=by
 rw[<-N.at_.kb.1,List.getElem?_map,Option.map_eq_some_iff] at h;obtain ⟨p,h1,rfl⟩:=h;have:cellAt κ j=p:=by unfold cellAt;rw[h1];rfl
 rw[this];exact ⟨h1,rfl⟩
theorem Ej {op:Int}{j:Nat}{q:Q}(hob:Ob X H z cont Ch Stop cu S0 K0 v0 Mo0 σ κ (.turn op j q)) (N:Now X z cont Ch S0 K0 v0 Mo0 Mo σ κ S v w t) (g:Goroutine) (w':World) (hg:Fq z cont X.h S.bk t.gc (H (.turn op j q) Mo) (Then z Ch S κ v (waiting S X.i t 1 op j) κ) g w'):Stop g w':=by refine hob.seat 1 op j (.inl ⟨⟨q,rfl⟩,rfl⟩) g w' Mo (N.good (λ_ _ h=>by cases h)) ?_;rw[N.at_.gc,N.bk] at hg;refine J9 (λhF=>?_) hg;obtain ⟨v',r,n,e⟩:=hF;have N':=N.on e r n rfl (t':={ t with st:=1,op:=op,ce:=j,se:=_ }) (List.getElem?_set_self (Qc N.at_.thr).1) N.at_.tb N.at_.gc rfl N.at_.kb.2;refine ⟨v',_,r,n,?_,N'.evo,N'.mo,N'.far⟩;rw[<-N.nv,show thrI (Gen.nv S) X.i=t from E0 N.at_.thr];rfl
end
structure Frs where
 bd:Frame
 ad:Act
 od:Array Oper
 qd:Nat
 rd:List Nat
 oe:Oper
 kd:List Item
 fs:List Frame
def Frs.stack (f:Frs):List Frame:=f.bd.at f.ad (.inRegion f.od (f.qd :: f.rd) :: f.kd) :: f.fs
def Frs.ret (f:Frs) (r:Value):Goroutine:=G (f.bd.at (f.ad.put f.oe.dst r) (.inRegion f.od f.rd :: f.kd)) f.fs
def Frs.Ok (f:Frs):Prop:=f.od[f.qd]? = some f.oe
end Go.Proofs.YtbbhahigofeacaaDoor.Gen
namespace Go.Proofs.YtbbhahigofeacaaDoor.Gen
open Go Go.Lift Go.Conc Go.RowKit
open R1 (fstI verI hdI)
variable {z:Nat->Option Nat} {main:Bool} {v w:World} {c q tb:Nat} {bc:Frame} {ac:Act} {ops:Array Oper} {rest:List Nat} {oc:Oper} {k:List Item}
def CBack {α:Type}(main:Bool) (pb:Nat) (enc:α->Value) (f:α->Int×Int) (cu:Value->Goroutine) (cl:Value->Goroutine):Prop :=
 ∀ (z:Nat->Option Nat) (Ch:Nat->Prop) (Stop:Goroutine->World->Prop) (w v:World) (S:TS) (K:List (Nat×Int)) (x:α),Rel z v w->Ai Ch v->Mem z S K v->v.heap[pb]? = some (.cells #[I 0,I 0] 48 (0,0))->¬ Own S K pb ->
   (∀ v' w',Rel z v' w'->Ai Ch v'->EvoP (· = pb) z S K v S K v'->GoT z main Ch Stop (cl (.agg #[I (f x).1,I (f x).2])) w') ->
   GoT z main Ch Stop (cu (enc x)) w
def c520:Code:=seq1 (Tryd.f52.body.getD .skip)
theorem fine_c520:A7 Tryd.prog true LT c520:=Dk C9 extT (by kernel_rfl)
theorem call_push {Ch:Nat->Prop}{Stop:Goroutine->World->Prop}(ca cb cc:Int) (cs:List Frame) (hoc:ops[q]? = some oc)
 (hvw:Rel z v w) (hn:Ai Ch v)
 (hstop:∀ v' w' (bd:Frame) (ad:Act) (od:Array Oper) (qd:Nat) (rd:List Nat) (oe:Oper) (kd:List Item),Rel z v' w'->Ai Ch v'->Grows v v'->v'.heap[v.heap.size+1]? = some (.cells #[I 0,I 0] 48 (0,0))->od[qd]? = some oe ->
   CBack main (v.heap.size+1) (λe:Int=>I e) (λe=>(e,0)) (λr=>G (bd.at (ad.put oe.dst r) (.inRegion od rd :: kd)) (bc.at ac (.inRegion ops (q :: rest) :: k) :: cs)) (λr=>G (bc.at (ac.put oc.dst r) (.inRegion ops rest :: k)) cs)->∀ code,Tryd.f50.body=some code ->
   GoT z main Ch Stop (G ((base 50).at { tmps:=#[Pt c 0,Pt tb 0,I ca]++Array.replicate 56 undef,defers:=[] } [.code code]) (bd.at ad (.inRegion od (qd :: rd):: kd):: bc.at ac (.inRegion ops (q :: rest):: k):: cs)) w') (code:Code) (hc:Tryd.f52.body=some code):
 GoT z main Ch Stop (G ((base 52).at { tmps:=#[Pt c 0,Pt tb 0,.agg #[I 1,I ca,I cb,I cc]]++Array.replicate 28 undef,defers:=[] } [.code code]) (bc.at ac (.inRegion ops (q :: rest) :: k) :: cs)) w:=by
 have hw0:code=.seq c520 (seq2 (Tryd.f52.body.getD .skip)):=by rw[show code=Tryd.f52.body.getD .skip by rw[hc];rfl];rfl
 subst hw0;clear hc;refine Ab ?_;refine Ba (z:=z) (wr:=true) (L:=LT) (I:=Ai Ch) hE Dn Az (λv v' w w' es hi hr ho he=>B0 v v' w w' es hi hr ho he) hvw fine_c520 rfl (by simp[base]) hn
  (Q:=λa w'=>a={ tmps:=#[Pt c 0,Pt tb 0,.agg #[I 1,I ca,I cb,I cc],undef,undef,Pt v.heap.size 0,Pt (v.heap.size+1) 0]++Array.replicate 24 undef,defers:=[] } ∧
    w'.heap=(v.heap.push (.cells #[I 1,I ca,I cb,I cc] 50)).push (.cells #[I 0,I 0] 48)∧w'.os=v.os∧w'.output=v.output) (λτ=>?_) ?_
 .show Code.wp Tryd.prog (seq1 (Tryd.f52.body.getD .skip)) _ _ _
  unfold Tryd.f52 seq1;simp only[Qa,Sy];go_wp2_with fail;exact ⟨rfl,rfl,rfl,rfl⟩
 rintro a' v' w' ⟨rfl,hv1,hv2,hv3⟩ hr' hn' -;have hsz:v'.heap.size=v.heap.size+2:=by rw[hv1];simp
 have hg:Grows v v':=⟨by omega,λb hb=>by rw[hv1,Qg,if_neg (by simp;omega),Qg,if_neg (by omega)],hv2,hv3⟩
 have hbox:v'.heap[v.heap.size]? = some (.cells #[I 1,I ca,I cb,I cc] 50):=by rw[hv1,Qg,if_neg (by simp)];exact Qo
 have hans:v'.heap[v.heap.size+1]? = some (.cells #[I 0,I 0] 48):=by rw[hv1,Qg,if_pos (by simp)]
 have b0:w'.cell? ⟨v.heap.size,0,none⟩=some (I 1):=by rw[hr'.cell?];simp[World.cell?,hbox]
 have b1:w'.cell? ⟨v.heap.size,1,none⟩=some (I ca):=by rw[hr'.cell?];simp[World.cell?,hbox]
 have HV:Hid (Grows v v'∧v'.heap[v.heap.size+1]? = some (.cells #[I 0,I 0] 48)∧Ai Ch v'∧Rel z v' w'):=⟨⟨hg,hans,hn',hr'⟩⟩
 clear hv1 hv2 hv3 hsz hg hbox hans hn' hvw hn hr';generalize hN:v.heap.size=N at b0 b1 HV hstop ⊢;simp only[Sy];show GoT z main Ch Stop (G ((base 52).at _ [.code (seq2 (Tryd.f52.body.getD .skip))]) _) w';unfold Tryd.f52 seq2;simp only[Qa];refine Ab ?_;refine Ab ?_;refine Ac ?_;simp only[Sz,Sr,Nat.reduceAdd];iterate 2
  (refine Ad rfl rfl (by decide) rfl λd K hK=>?_
   go_simp;refine hK _ ?_;clear hK K)
 refine Aa ?_;refine Bt ?_;refine Ab ?_;refine Ac ?_;simp only[Sz,Sr,Nat.reduceAdd];iterate 2
  (refine Ad rfl rfl (by decide) rfl λd K hK=>?_
   go_simp;refine hK _ ?_;clear hK K)
 refine Aa ?_;refine Ax (t:=true) (by simp[Act.eval]) ?_;simp only[if_true,if_false,Qh];refine Ab ?_;refine Ac ?_;simp only[Sz,Sr,Nat.reduceAdd];iterate 4
  (refine Ad rfl rfl (by decide) rfl λd K hK=>?_
   go_simp;refine hK _ ?_;clear hK K)
 refine Ao (f:=50) (fn:=Tryd.f50) (args:=#[Pt c 0,Pt tb 0,I ca]) (Ag _ _) rfl rfl (by decide) rfl (by simp[Act.eval]) Tryd.func50 (by decide) rfl ?_;refine hstop v' w' _ _ _ _ _ _ _ HV.out.2.2.2 HV.out.2.2.1 HV.out.1 HV.out.2.1 rfl ?_ _ rfl;clear b0 b1 HV hstop;intro z1 Ch1 St w2 v2 S1 K1 x r2 n2 m2 hpb2 hown2 hk;have q0:v2.cell? ⟨N+1,0,none⟩=some (I 0):=by simp[World.cell?,hpb2]
 have q1:v2.cell? ⟨N+1,1,none⟩=some (I 0):=by simp[World.cell?,hpb2]
 have p0:v2.frozen? ⟨N+1,0,none⟩=false:=by simp[World.frozen?,hpb2]
 have p1:v2.frozen? ⟨N+1,1,none⟩=false:=by simp[World.frozen?,hpb2]
 have e3:=m2.other (v':=(v2.setCell ⟨N+1,0,none⟩ (I x)).setCell ⟨N+1,1,none⟩ (I 0)) hown2 (λb hb=>by rw[Below.heap_setCell _ _ _ _ hb,Below.heap_setCell _ _ _ _ hb]) (by simp[World.setCell]) rfl rfl;have hrow:((v2.setCell ⟨N+1,0,none⟩ (I x)).setCell ⟨N+1,1,none⟩ (I 0)).heap[N+1]? = some (.cells #[I x,I 0] 48 (0,0)):=by have:=heap_setCell_same (o:=1) (heap_setCell_same (o:=0) hpb2 (I x)) (I 0);simpa using this
 have HM:Hid (Mem z1 S1 K1 v2∧v2.heap[N+1]? = some (.cells #[I 0,I 0] 48 (0,0))):=⟨⟨m2,hpb2⟩⟩
 clear m2 hpb2;show GoesI Tryd.prog main (DT (ScZ z1) Ch1) St _ w2;walk_nrm
 refine Ad rfl rfl (by decide) rfl λd K hK=>?_;go_simp;refine hK _ ?_;clear hK K;refine Fg (L:=LT) rfl rfl (by decide) (Bh C9 extT (by kernel_rfl)) r2 n2 (v':=(v2.setCell ⟨N+1,0,none⟩ (I x)).setCell ⟨N+1,1,none⟩ (I 0)) (by go_simp) rfl (λw3 r3 n3=>?_);refine Aa ?_;refine GoesI.ctl rfl (λ_=>stepG_ret') (Ag _ _) ?_;refine Ce (f:=52) (fn:=Tryd.f52) (x:=.agg #[I x,I 0]) r3 n3 Tryd.func52 rfl hoc ?_ (λw' r'=>hk _ w' r' n3 e3);generalize ((v2.setCell ⟨N+1,0,none⟩ (I x)).setCell ⟨N+1,1,none⟩ (I 0))=V at hrow;have k0:V.cell? ⟨N+1,0,none⟩=some (I x):=by simp[World.cell?,hrow]
 have k1:V.cell? ⟨N+1,1,none⟩=some (I 0):=by simp[World.cell?,hrow]
 simp[results,go_sem,Tryd.f52, *]
theorem call_pop {Ch:Nat->Prop}{Stop:Goroutine->World->Prop}(ca cb cc:Int) (cs:List Frame) (hoc:ops[q]? = some oc)
 (hvw:Rel z v w) (hn:Ai Ch v)
 (hstop:∀ v' w' (bd:Frame) (ad:Act) (od:Array Oper) (qd:Nat) (rd:List Nat) (oe:Oper) (kd:List Item),Rel z v' w'->Ai Ch v'->Grows v v'->v'.heap[v.heap.size+1]? = some (.cells #[I 0,I 0] 48 (0,0))->od[qd]? = some oe ->
   CBack main (v.heap.size+1) (λp:Int×Int=>.tuple #[I p.1,I p.2]) (λp=>(p.2,p.1)) (λr=>G (bd.at (ad.put oe.dst r) (.inRegion od rd :: kd)) (bc.at ac (.inRegion ops (q :: rest) :: k) :: cs)) (λr=>G (bc.at (ac.put oc.dst r) (.inRegion ops rest :: k)) cs)->∀ code,Tryd.f51.body=some code ->
   GoT z main Ch Stop (G ((base 51).at { tmps:=#[Pt c 0,Pt tb 0]++Array.replicate 56 undef,defers:=[] } [.code code]) (bd.at ad (.inRegion od (qd :: rd):: kd):: bc.at ac (.inRegion ops (q :: rest):: k):: cs)) w') (code:Code) (hc:Tryd.f52.body=some code):
 GoT z main Ch Stop (G ((base 52).at { tmps:=#[Pt c 0,Pt tb 0,.agg #[I 2,I ca,I cb,I cc]]++Array.replicate 28 undef,defers:=[] } [.code code]) (bc.at ac (.inRegion ops (q :: rest) :: k) :: cs)) w:=by
 have hw0:code=.seq c520 (seq2 (Tryd.f52.body.getD .skip)):=by rw[show code=Tryd.f52.body.getD .skip by rw[hc];rfl];rfl
 subst hw0;clear hc;refine Ab ?_;refine Ba (z:=z) (wr:=true) (L:=LT) (I:=Ai Ch) hE Dn Az (λv v' w w' es hi hr ho he=>B0 v v' w w' es hi hr ho he) hvw fine_c520 rfl (by simp[base]) hn
  (Q:=λa w'=>a={ tmps:=#[Pt c 0,Pt tb 0,.agg #[I 2,I ca,I cb,I cc],undef,undef,Pt v.heap.size 0,Pt (v.heap.size+1) 0]++Array.replicate 24 undef,defers:=[] } ∧
    w'.heap=(v.heap.push (.cells #[I 2,I ca,I cb,I cc] 50)).push (.cells #[I 0,I 0] 48)∧w'.os=v.os∧w'.output=v.output) (λτ=>?_) ?_
 .show Code.wp Tryd.prog (seq1 (Tryd.f52.body.getD .skip)) _ _ _
  unfold Tryd.f52 seq1;simp only[Qa,Sy];go_wp2_with fail;exact ⟨rfl,rfl,rfl,rfl⟩
 rintro a' v' w' ⟨rfl,hv1,hv2,hv3⟩ hr' hn' -;have hsz:v'.heap.size=v.heap.size+2:=by rw[hv1];simp
 have hg:Grows v v':=⟨by omega,λb hb=>by rw[hv1,Qg,if_neg (by simp;omega),Qg,if_neg (by omega)],hv2,hv3⟩
 have hbox:v'.heap[v.heap.size]? = some (.cells #[I 2,I ca,I cb,I cc] 50):=by rw[hv1,Qg,if_neg (by simp)];exact Qo
 have hans:v'.heap[v.heap.size+1]? = some (.cells #[I 0,I 0] 48):=by rw[hv1,Qg,if_pos (by simp)]
 have b0:w'.cell? ⟨v.heap.size,0,none⟩=some (I 2):=by rw[hr'.cell?];simp[World.cell?,hbox]
 have b1:w'.cell? ⟨v.heap.size,1,none⟩=some (I ca):=by rw[hr'.cell?];simp[World.cell?,hbox]
 have HV:Hid (Grows v v'∧v'.heap[v.heap.size+1]? = some (.cells #[I 0,I 0] 48)∧Ai Ch v'∧Rel z v' w'):=⟨⟨hg,hans,hn',hr'⟩⟩
 clear hv1 hv2 hv3 hsz hg hbox hans hn' hvw hn hr';generalize hN:v.heap.size=N at b0 b1 HV hstop ⊢;simp only[Sy];show GoT z main Ch Stop (G ((base 52).at _ [.code (seq2 (Tryd.f52.body.getD .skip))]) _) w';unfold Tryd.f52 seq2;simp only[Qa];refine Ab ?_;refine Ab ?_;refine Ac ?_;simp only[Sz,Sr,Nat.reduceAdd];iterate 2
  (refine Ad rfl rfl (by decide) rfl λd K hK=>?_
   go_simp;refine hK _ ?_;clear hK K)
 refine Aa ?_;refine Bt ?_;refine Ab ?_;refine Ac ?_;simp only[Sz,Sr,Nat.reduceAdd];iterate 2
  (refine Ad rfl rfl (by decide) rfl λd K hK=>?_
   go_simp;refine hK _ ?_;clear hK K)
 refine Aa ?_;refine Ax (t:=false) (by simp[Act.eval]) ?_;simp only[if_true,if_false,Qh];refine Ab ?_;refine Ac ?_;simp only[Sz,Sr,Nat.reduceAdd];iterate 2
  (refine Ad rfl rfl (by decide) rfl λd K hK=>?_
   go_simp;refine hK _ ?_;clear hK K)
 refine Aa ?_;refine Ax (t:=true) (by simp[Act.eval]) ?_;simp only[if_true,if_false,Qh];refine Ab ?_;refine Ac ?_;simp only[Sz,Sr,Nat.reduceAdd];iterate 2
  (refine Ad rfl rfl (by decide) rfl λd K hK=>?_
   go_simp;refine hK _ ?_;clear hK K)
 refine Ao (f:=51) (fn:=Tryd.f51) (args:=#[Pt c 0,Pt tb 0]) (Ag _ _) rfl rfl (by decide) rfl (by simp[Act.eval]) Tryd.func51 (by decide) rfl ?_;refine hstop v' w' _ _ _ _ _ _ _ HV.out.2.2.2 HV.out.2.2.1 HV.out.1 HV.out.2.1 rfl ?_ _ rfl;clear b0 b1 HV hstop;intro z1 Ch1 St w2 v2 S1 K1 x r2 n2 m2 hpb2 hown2 hk;obtain ⟨x,e⟩:=x;have q0:v2.cell? ⟨N+1,0,none⟩=some (I 0):=by simp[World.cell?,hpb2]
 have q1:v2.cell? ⟨N+1,1,none⟩=some (I 0):=by simp[World.cell?,hpb2]
 have p0:v2.frozen? ⟨N+1,0,none⟩=false:=by simp[World.frozen?,hpb2]
 have p1:v2.frozen? ⟨N+1,1,none⟩=false:=by simp[World.frozen?,hpb2]
 have e3:=m2.other (v':=(v2.setCell ⟨N+1,0,none⟩ (I e)).setCell ⟨N+1,1,none⟩ (I x)) hown2 (λb hb=>by rw[Below.heap_setCell _ _ _ _ hb,Below.heap_setCell _ _ _ _ hb]) (by simp[World.setCell]) rfl rfl;have hrow:((v2.setCell ⟨N+1,0,none⟩ (I e)).setCell ⟨N+1,1,none⟩ (I x)).heap[N+1]? = some (.cells #[I e,I x] 48 (0,0)):=by have:=heap_setCell_same (o:=1) (heap_setCell_same (o:=0) hpb2 (I e)) (I x);simpa using this
 have HM:Hid (Mem z1 S1 K1 v2∧v2.heap[N+1]? = some (.cells #[I 0,I 0] 48 (0,0))):=⟨⟨m2,hpb2⟩⟩
 clear m2 hpb2;show GoesI Tryd.prog main (DT (ScZ z1) Ch1) St _ w2;walk_nrm
 iterate 5
  (refine Ad rfl rfl (by decide) rfl λd K hK=>?_
   go_simp;refine hK _ ?_;clear hK K)
 refine Aa ?_;refine Ab ?_;refine Ac ?_;simp only[Sz,Sr,Nat.reduceAdd];iterate 3
  (refine Ad rfl rfl (by decide) rfl λd K hK=>?_
   go_simp;refine hK _ ?_;clear hK K)
 refine Fg (L:=LT) rfl rfl (by decide) (Bh C9 extT (by kernel_rfl)) r2 n2 (v':=(v2.setCell ⟨N+1,0,none⟩ (I e)).setCell ⟨N+1,1,none⟩ (I x)) (by go_simp) rfl (λw3 r3 n3=>?_);refine Aa ?_;refine GoesI.ctl rfl (λ_=>stepG_ret') (Ag _ _) ?_;refine Ce (f:=52) (fn:=Tryd.f52) (x:=.agg #[I e,I x]) r3 n3 Tryd.func52 rfl hoc ?_ (λw' r'=>hk _ w' r' n3 e3);generalize ((v2.setCell ⟨N+1,0,none⟩ (I e)).setCell ⟨N+1,1,none⟩ (I x))=V at hrow;have k0:V.cell? ⟨N+1,0,none⟩=some (I e):=by simp[World.cell?,hrow]
 have k1:V.cell? ⟨N+1,1,none⟩=some (I x):=by simp[World.cell?,hrow]
 simp[results,go_sem,Tryd.f52, *]
theorem call_none {Ch:Nat->Prop}{Stop:Goroutine->World->Prop}(ca cb cc:Int) (cs:List Frame) (hoc:ops[q]? = some oc)
 (hvw:Rel z v w) (hn:Ai Ch v) (po:Int) (h1:po≠1) (h2:po≠2)
 (hstop:∀ v' w',Rel z v' w'->Ai Ch v'->Grows v v'->v'.heap[v.heap.size+1]? = some (.cells #[I 1,I 0] 48 (0,0))->GoT z main Ch Stop (G (bc.at (ac.put oc.dst (.agg #[I 1,I 0])) (.inRegion ops rest :: k)) cs) w') (code:Code) (hc:Tryd.f52.body=some code):
 GoT z main Ch Stop (G ((base 52).at { tmps:=#[Pt c 0,Pt tb 0,.agg #[I po,I ca,I cb,I cc]]++Array.replicate 28 undef,defers:=[] } [.code code]) (bc.at ac (.inRegion ops (q :: rest) :: k) :: cs)) w:=by
 have hw0:code=.seq c520 (seq2 (Tryd.f52.body.getD .skip)):=by rw[show code=Tryd.f52.body.getD .skip by rw[hc];rfl];rfl
 subst hw0;clear hc;refine Ab ?_;refine Ba (z:=z) (wr:=true) (L:=LT) (I:=Ai Ch) hE Dn Az (λv v' w w' es hi hr ho he=>B0 v v' w w' es hi hr ho he) hvw fine_c520 rfl (by simp[base]) hn
  (Q:=λa w'=>a={ tmps:=#[Pt c 0,Pt tb 0,.agg #[I po,I ca,I cb,I cc],undef,undef,Pt v.heap.size 0,Pt (v.heap.size+1) 0]++Array.replicate 24 undef,defers:=[] } ∧
    w'.heap=(v.heap.push (.cells #[I po,I ca,I cb,I cc] 50)).push (.cells #[I 0,I 0] 48)∧w'.os=v.os∧w'.output=v.output) (λτ=>?_) ?_
 .show Code.wp Tryd.prog (seq1 (Tryd.f52.body.getD .skip)) _ _ _
  unfold Tryd.f52 seq1;simp only[Qa,Sy];go_wp2_with fail;exact ⟨rfl,rfl,rfl,rfl⟩
 rintro a' v' w' ⟨rfl,hv1,hv2,hv3⟩ hr' hn' -;have hsz:v'.heap.size=v.heap.size+2:=by rw[hv1];simp
 have hg:Grows v v':=⟨by omega,λb hb=>by rw[hv1,Qg,if_neg (by simp;omega),Qg,if_neg (by omega)],hv2,hv3⟩
 have hbox:v'.heap[v.heap.size]? = some (.cells #[I po,I ca,I cb,I cc] 50):=by rw[hv1,Qg,if_neg (by simp)];exact Qo
 have hans:v'.heap[v.heap.size+1]? = some (.cells #[I 0,I 0] 48):=by rw[hv1,Qg,if_pos (by simp)]
 have b0:w'.cell? ⟨v.heap.size,0,none⟩=some (I po):=by rw[hr'.cell?];simp[World.cell?,hbox]
 have b1:w'.cell? ⟨v.heap.size,1,none⟩=some (I ca):=by rw[hr'.cell?];simp[World.cell?,hbox]
 have HV:Hid (Grows v v'∧v'.heap[v.heap.size+1]? = some (.cells #[I 0,I 0] 48)∧Ai Ch v'∧Rel z v' w'):=⟨⟨hg,hans,hn',hr'⟩⟩
 clear hv1 hv2 hv3 hsz hg hbox hans hn' hvw hn hr';generalize hN:v.heap.size=N at b0 b1 HV hstop ⊢;simp only[Sy];show GoT z main Ch Stop (G ((base 52).at _ [.code (seq2 (Tryd.f52.body.getD .skip))]) _) w';unfold Tryd.f52 seq2;simp only[Qa];refine Ab ?_;refine Ab ?_;refine Ac ?_;simp only[Sz,Sr,Nat.reduceAdd];iterate 2
  (refine Ad rfl rfl (by decide) rfl λd K hK=>?_
   go_simp;refine hK _ ?_;clear hK K)
 refine Aa ?_;refine Bt ?_;refine Ab ?_;refine Ac ?_;simp only[Sz,Sr,Nat.reduceAdd];iterate 2
  (refine Ad rfl rfl (by decide) rfl λd K hK=>?_
   go_simp;refine hK _ ?_;clear hK K)
 refine Aa ?_;refine Ax (t:=false) (by simp[Act.eval,h1]) ?_;simp only[if_true,if_false,Qh];refine Ab ?_;refine Ac ?_;simp only[Sz,Sr,Nat.reduceAdd];iterate 2
  (refine Ad rfl rfl (by decide) rfl λd K hK=>?_
   go_simp;refine hK _ ?_;clear hK K)
 refine Aa ?_;refine Ax (t:=false) (by simp[Act.eval,h2]) ?_;simp only[if_true,if_false,Qh];refine Bo ?_;refine Hw (Ag _ _) ?_;refine Ab ?_;refine Ac ?_;simp only[Sz,Sr,Nat.reduceAdd];obtain ⟨hg,hans,hn',hr'⟩:=HV.out;have q0:v'.cell? ⟨N+1,0,none⟩=some (I 0):=by simp[World.cell?,hans]
 have q1:v'.cell? ⟨N+1,1,none⟩=some (I 0):=by simp[World.cell?,hans]
 have p0:v'.frozen? ⟨N+1,0,none⟩=false:=by simp[World.frozen?,hans]
 have p1:v'.frozen? ⟨N+1,1,none⟩=false:=by simp[World.frozen?,hans]
 have hrow:((v'.setCell ⟨N+1,0,none⟩ (I 1)).setCell ⟨N+1,1,none⟩ (I 0)).heap[N+1]? = some (.cells #[I 1,I 0] 48 (0,0)):=by have:=heap_setCell_same (o:=1) (heap_setCell_same (o:=0) hans (I 1)) (I 0);simpa using this
 have hg2:Grows v ((v'.setCell ⟨N+1,0,none⟩ (I 1)).setCell ⟨N+1,1,none⟩ (I 0)):=by
  refine ⟨by simp[World.setCell];exact hg.size,λb hb=>?_,hg.os,hg.output⟩;have hbN:b≠N+1:=by omega
  rw[Below.heap_setCell _ _ _ _ hbN,Below.heap_setCell _ _ _ _ hbN];exact hg.old b hb
 clear hg hans b0 b1 HV;refine Ad rfl rfl (by decide) rfl λd K hK=>?_;go_simp;refine hK _ ?_;clear hK K;refine Fg (L:=LT) rfl rfl (by decide) (Bh C9 extT (by kernel_rfl)) hr' hn' (v':=(v'.setCell ⟨N+1,0,none⟩ (I 1)).setCell ⟨N+1,1,none⟩ (I 0)) (by go_simp) rfl (λw3 r3 n3=>?_);refine Aa ?_;refine GoesI.ctl rfl (λ_=>stepG_ret') (Ag _ _) ?_;refine Ce (f:=52) (fn:=Tryd.f52) (x:=.agg #[I 1,I 0]) r3 n3 Tryd.func52 rfl hoc ?_ (λw' r'=>hstop _ w' r' n3 hg2 hrow);generalize ((v'.setCell ⟨N+1,0,none⟩ (I 1)).setCell ⟨N+1,1,none⟩ (I 0))=V at hrow;have k0:V.cell? ⟨N+1,0,none⟩=some (I 1):=by simp[World.cell?,hrow]
 have k1:V.cell? ⟨N+1,1,none⟩=some (I 0):=by simp[World.cell?,hrow]
 simp[results,go_sem,Tryd.f52, *]
end Go.Proofs.YtbbhahigofeacaaDoor.Gen
