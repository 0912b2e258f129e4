/- Of the proof of StackKeeps. Part 19 of 33. (Joined, by program, and written short, of: StPu, StPo.) -/
import Derived.Test.YtbbhahigofeacaaDoorStackKeeps18
set_option linter.unusedSimpArgs false
set_option linter.unusedVariables false
set_option maxHeartbeats 4000000
set_option maxRecDepth 100000
namespace Go.Proofs.YtbbhahigofeacaaDoor.Gen
open Go Go.Lift Go.Conc Go.RowKit
open R1 (fstI verI hdI)
noncomputable def pS:Code:=Bd (seq2 (Tryd.f50.body.getD .skip))
noncomputable def p2:Code:=seq2 pS
noncomputable def p4:Code:=seq2 p2
noncomputable def p5:Code:=seq2 p4
noncomputable def pL:Code:=Ar (Ak (seq2 p5))
noncomputable def pK:Code:=Ak pL
noncomputable def p6:Code:=seq2 pK
noncomputable def p7:Code:=seq2 p6
noncomputable def p8:Code:=seq2 p7
noncomputable def pO1:Array Oper:=opsOf (seq1 pS)
noncomputable def pO4:Array Oper:=opsOf (seq1 p4)
noncomputable def pO5:Array Oper:=opsOf (seq1 pK)
noncomputable def pO6:Array Oper:=opsOf (seq1 p6)
noncomputable def pO7:Array Oper:=opsOf (seq1 (seq1 p7))
noncomputable def pC7:Code:=seq2 (seq1 p7)
noncomputable def pE':List Item:=[.inBlock 0,.inScope pS]
noncomputable def pE:List Item:=.inBlock 1 :: .inLoop pL :: pE'
noncomputable def I6 (a:Act):Frame:=(base 50).at a (.inRegion pO1 [5,6,7,8,9,10] :: .code p2 :: [.inScope pS])
noncomputable def pTook (a:Act) (r:Value):Frame:=(base 50).at (a.put (some 16) r) (.inRegion pO1 [6,7,8,9,10] :: .code p2 :: [.inScope pS])
noncomputable def pVal (a:Act) (r:Value):Frame:=(base 50).at (a.put (some 32) r) (.inRegion pO4 [] :: .code p5 :: [.inScope pS])
noncomputable def pHead (a:Act):Frame:=(base 50).at a (.code pL :: .inLoop pL :: pE')
noncomputable def pSeen (a:Act) (r:Value):Frame:=(base 50).at (a.put (some 38) r) (.inRegion pO5 [6] :: .code p6 :: pE)
noncomputable def pLink (a:Act) (r:Value):Frame:=(base 50).at (a.put (some 51) r) (.inRegion pO6 [] :: .code p7 :: pE)
noncomputable def pTry (a:Act):Frame:=(base 50).at a (.inRegion pO7 [5,6] :: .code pC7 :: .code p8 :: pE)
noncomputable def pTried (a:Act) (r:Value):Frame:=(base 50).at (a.put (some 57) r) (.inRegion pO7 [6] :: .code pC7 :: .code p8 :: pE)
theorem pO1_5:(pO1[5]?).map (·.dst)=some (some 16):=by kernel_rfl
theorem pO7_5:(pO7[5]?).map (·.dst)=some (some 57):=by kernel_rfl
theorem ePB:Tryd.f50.body.getD .skip=.seq (.region 0 (opsOf (seq1 (Tryd.f50.body.getD .skip))) false) (.scope pS):=by kernel_rfl
theorem ePS:pS=.seq (.region 1 pO1 false) p2:=by kernel_rfl
theorem eP5:p5=.seq (.label 0) (.block 0 (.loop pL)):=by kernel_rfl
theorem ePL:pL=.block 1 pK:=by kernel_rfl
theorem ePK:pK=.seq (.region 5 pO5 false) p6:=by kernel_rfl
theorem eP6:p6=.seq (.region 6 pO6 true) p7:=by kernel_rfl
theorem eP7:p7=.seq (.seq (.region 7 pO7 false) pC7) p8:=by kernel_rfl
theorem push_in {z:Nat->Option Nat}{Ch:Nat->Prop}{Stop:Goroutine->World->Prop}{main:Bool}{v w:World}{c s tb:Nat}{x:Int}(c0:v.cell? ⟨c,0,none⟩=some (Pt s 0)) (cs:List Frame) (hvw:Rel z v w)
 (hk:∀ a code,Tryd.f25.body=some code->Fl 59 [(0,Pt c 0),(1,Pt tb 0),(2,I x)] a->GoesI Tryd.prog main (DT (ScZ z) Ch) Stop (G ((base 25).at { tmps:=#[Pt s 0,Pt tb 0]++Array.replicate 46 undef,defers:=[] } [.code code]) (I6 a :: cs)) w) (code:Code) (hc:Tryd.f50.body=some code) :
 GoesI Tryd.prog main (DT (ScZ z) Ch) Stop (G ((base 50).at { tmps:=#[Pt c 0,Pt tb 0,I x]++Array.replicate 56 undef,defers:=[] } [.code code]) cs) w:=by
 have hw0:code=.seq (.region 0 (opsOf (seq1 (Tryd.f50.body.getD .skip))) false) (.scope pS):=by
  rw[show code=Tryd.f50.body.getD .skip by rw[hc];rfl];exact ePB
 subst hw0
 clear hc
 have d0:w.cell? ⟨c,0,none⟩=some (Pt s 0):=by rw[hvw.cell?];exact c0
 unfold I6 at hk
 simp only[Array.replicate_succ,Array.replicate_zero,List.push_toArray,List.append_toArray,List.nil_append,List.cons_append]
 refine Ac (Aa _ _) ?_
 unfold Tryd.f50 seq1 opsOf
 simp only[Option.getD_some]
 refine Ae (Aa _ _) ?_
 simp only[List.size_toArray,List.length_cons,List.length_nil,Nat.reduceAdd,Nat.zero_add,List.range,List.range.loop]
 iterate 1
  (refine Ad rfl rfl (by decide) (fun d K hK=>?_)
   go_simp
   refine hK _ _ ⟨Af (fun e he=>?_),GoesI.at ?_ d⟩
   ·have hm:=mem_listed he
    simp[go_sem, *] at hm
    try exact ⟨_,_,hm⟩
    try (rcases hm with rfl|rfl<;>exact ⟨_,_,rfl⟩)
   clear hK K)
 refine Ab (Aa _ _) ?_
 refine Hn (Aa _ _) ?_
 generalize hq:Item.inScope pS=q at hk ⊢
 rw[ePS]
 refine Ac (Aa _ _) ?_
 unfold pO1 pS Bd Tryd.f50 seq1 seq2 opsOf at hk ⊢
 simp only[Option.getD_some] at hk ⊢
 refine Ae (Aa _ _) ?_
 simp only[List.size_toArray,List.length_cons,List.length_nil,Nat.reduceAdd,Nat.zero_add,List.range,List.range.loop]
 iterate 5
  (refine Ad rfl rfl (by decide) (fun d K hK=>?_)
   go_simp
   refine hK _ _ ⟨Af (fun e he=>?_),GoesI.at ?_ d⟩
   ·have hm:=mem_listed he
    simp[go_sem, *] at hm
    try exact ⟨_,_,hm⟩
    try (rcases hm with rfl|rfl<;>exact ⟨_,_,rfl⟩)
   clear hK K)
 refine Ao (f:=25) (fn:=Tryd.f25) (args:=#[Pt s 0,Pt tb 0]) (Aa _ _) rfl rfl (by decide) rfl (by simp[Act.eval]) Tryd.func25 (by decide) rfl ?_
 exact hk _ _ rfl ⟨rfl,rfl,by
  intro p hp
  simp only[List.mem_cons,List.not_mem_nil,or_false] at hp
  rcases hp with rfl|rfl|rfl<;>rfl⟩
theorem push_full {z:Nat->Option Nat}{Ch:Nat->Prop}{Stop:Goroutine->World->Prop}{main:Bool}{v w:World}{c tb:Nat}{x:Int}  {a:Act}(hA:Fl 59 [(0,Pt c 0),(1,Pt tb 0),(2,I x)] a) (cs:List Frame) {bc:Frame}{ac:Act}{ops:Array Oper}{q:Nat}{rest:List Nat}{oc:Oper}{k0:List Item}(hoc:ops[q]? = some oc) (hvw:Rel z v w) (hn:Ah Ch v)
 (hk:∀ w',Rel z v w'->GoesI Tryd.prog main (DT (ScZ z) Ch) Stop (G (bc.at (ac.put oc.dst (I 80)) (.inRegion ops rest :: k0)) cs) w') :
 GoesI Tryd.prog main (DT (ScZ z) Ch) Stop (G (pTook a (.tuple #[I 0,I 80])) (bc.at ac (.inRegion ops (q :: rest) :: k0) :: cs)) w:=by
 obtain ⟨hsz,hd,hpp⟩:=hA
 obtain ⟨u,rfl,hg⟩:=litN hsz hd
 have u0:=(hg 0).symm.trans (hpp (0,Pt c 0) (by simp))
 have u1:=(hg 1).symm.trans (hpp (1,Pt tb 0) (by simp))
 have u2:=(hg 2).symm.trans (hpp (2,I x) (by simp))
 clear hg hpp hsz hd
 unfold pTook pO1 p2 pS Bd Tryd.f50 seq1 seq2 opsOf
 simp only[Option.getD_some,lits,Nat.reduceAdd,u0,u1,u2]
 clear u0 u1 u2
 walk_nrm
 iterate 5
  (refine Ad rfl rfl (by decide) (fun d K hK=>?_)
   go_simp
   refine hK _ _ ⟨Af (fun e he=>?_),GoesI.at ?_ d⟩
   ·have hm:=mem_listed he
    simp[go_sem, *] at hm
    try exact ⟨_,_,hm⟩
    try (rcases hm with rfl|rfl<;>exact ⟨_,_,rfl⟩)
   clear hK K)
 refine Ab (Aa _ _) ?_
 refine Ac (Aa _ _) ?_
 refine Ac (Aa _ _) ?_
 refine Ae (Aa _ _) ?_
 simp only[List.size_toArray,List.length_cons,List.length_nil,Nat.reduceAdd,Nat.zero_add,List.range,List.range.loop]
 iterate 2
  (refine Ad rfl rfl (by decide) (fun d K hK=>?_)
   go_simp
   refine hK _ _ ⟨Af (fun e he=>?_),GoesI.at ?_ d⟩
   ·have hm:=mem_listed he
    simp[go_sem, *] at hm
    try exact ⟨_,_,hm⟩
    try (rcases hm with rfl|rfl<;>exact ⟨_,_,rfl⟩)
   clear hK K)
 refine Ab (Aa _ _) ?_
 refine Ax (Aa _ _) (t:=true) (by simp[Act.eval]) ?_
 simp only[if_true,if_false,Bool.false_eq_true]
 refine Ac (Aa _ _) ?_
 refine Ae (Aa _ _) ?_
 simp only[List.size_toArray,List.length_cons,List.length_nil,Nat.reduceAdd,Nat.zero_add,List.range,List.range.loop]
 iterate 2
  (refine Ad rfl rfl (by decide) (fun d K hK=>?_)
   go_simp
   refine hK _ _ ⟨Af (fun e he=>?_),GoesI.at ?_ d⟩
   ·have hm:=mem_listed he
    simp[go_sem, *] at hm
    try exact ⟨_,_,hm⟩
    try (rcases hm with rfl|rfl<;>exact ⟨_,_,rfl⟩)
   clear hK K)
 refine Ab (Aa _ _) ?_
 refine GoesI.ctl rfl (fun _=>stepG_ret') (Aa _ _) ?_
 exact B7 (f:=50) (fn:=Tryd.f50) (x:=I 80) hvw hn Tryd.func50 rfl hoc (by simp[results,go_sem,Tryd.f50]) (fun w' r'=>hk w' r')
theorem push_val {z:Nat->Option Nat}{Ch:Nat->Prop}{Stop:Goroutine->World->Prop}{h:Nat}{cont:Addr->Value}{S:TS}{K:List (Nat×Int)}{v w:World}{i j cb:Nat}{t:Thr}{y:Int}{c pb n:Nat}{x:Int}(k:Nat) (hkn:k<n) (c1:v.cell? ⟨c,2,none⟩=some (.slice (some ⟨pb,0,none⟩) n n)) (c2:v.cell? ⟨pb,k*2,none⟩=some (Pt cb 0)) {a:Act}(hA:Fl 59 [(0,Pt c 0),(1,Pt t.tb 0),(2,I x)] a) (cs:List Frame) (Hm:Goroutine->Prop)
 (hH:∀ g,(∃ a,Fl 59 [(0,Pt c 0),(1,Pt t.tb 0),(2,I x),(7,I k)] a∧D5 (h==0) i j cb t.tb 2 (Bo (x)) (fun r=>G (pVal a r) cs) g)->Hm g)
 (hvw:Rel z v w) (hn:Ah Ch v) (hm:Mem z S K v) (ht:S.thr[i]? = some t) (hK:K[j]? = some (cb,y)) (hz:z t.tb=some 2) (hcont:cont ⟨t.tb,2,none⟩=.chan (some t.gc))
 (hstop:∀ g w',E5 z cont h S.bk t.gc Hm (Then z Ch S K v (waiting S i t 1 2 j) K) g w'->Stop g w') :
 GoesI Tryd.prog (h==0) (DT (ScZ z) Ch) Stop (G (pTook a (.tuple #[I k,I 0])) cs) w:=by
 have HM:Hid (Mem z S K v):=⟨hm⟩
 clear hm
 unfold pVal pO4 at hH
 obtain ⟨hsz,hd,hpp⟩:=hA
 obtain ⟨u,rfl,hg⟩:=litN hsz hd
 have u0:=(hg 0).symm.trans (hpp (0,Pt c 0) (by simp))
 have u1:=(hg 1).symm.trans (hpp (1,Pt t.tb 0) (by simp))
 have u2:=(hg 2).symm.trans (hpp (2,I x) (by simp))
 clear hg hpp hsz hd
 unfold pTook pO1 p2 pS Bd Tryd.f50 seq1 seq2 opsOf
 simp only[Option.getD_some,lits,Nat.reduceAdd,u0,u1,u2]
 clear u0 u1 u2
 have hkn':(k:Int)<(n:Int):=by omega
 have d1:w.cell? ⟨c,2,none⟩=some (.slice (some ⟨pb,0,none⟩) n n):=by rw[hvw.cell?];exact c1
 have d2:w.cell? ⟨pb,k*2,none⟩=some (Pt cb 0):=by rw[hvw.cell?];exact c2
 walk_nrm
 iterate 5
  (refine Ad rfl rfl (by decide) (fun d K hK=>?_)
   go_simp
   refine hK _ _ ⟨Af (fun e he=>?_),GoesI.at ?_ d⟩
   ·have hm:=mem_listed he
    simp[go_sem, *] at hm
    try exact ⟨_,_,hm⟩
    try (rcases hm with rfl|rfl<;>exact ⟨_,_,rfl⟩)
   clear hK K)
 refine Ab (Aa _ _) ?_
 refine Ac (Aa _ _) ?_
 refine Ac (Aa _ _) ?_
 refine Ae (Aa _ _) ?_
 simp only[List.size_toArray,List.length_cons,List.length_nil,Nat.reduceAdd,Nat.zero_add,List.range,List.range.loop]
 iterate 2
  (refine Ad rfl rfl (by decide) (fun d K hK=>?_)
   go_simp
   refine hK _ _ ⟨Af (fun e he=>?_),GoesI.at ?_ d⟩
   ·have hm:=mem_listed he
    simp[go_sem, *] at hm
    try exact ⟨_,_,hm⟩
    try (rcases hm with rfl|rfl<;>exact ⟨_,_,rfl⟩)
   clear hK K)
 refine Ab (Aa _ _) ?_
 refine Ax (Aa _ _) (t:=false) (by simp[Act.eval]) ?_
 simp only[if_true,if_false,Bool.false_eq_true]
 refine Bh (Aa _ _) ?_
 unfold p4 p2 pS Bd Tryd.f50 seq1 seq2 opsOf at hH
 simp only[Option.getD_some] at hH
 refine Ac (Aa _ _) ?_
 refine Ae (Aa _ _) ?_
 simp only[List.size_toArray,List.length_cons,List.length_nil,Nat.reduceAdd,Nat.zero_add,List.range,List.range.loop]
 iterate 10
  (refine Ad rfl rfl (by decide) (fun d K hK=>?_)
   go_simp
   refine hK _ _ ⟨Af (fun e he=>?_),GoesI.at ?_ d⟩
   ·have hm:=mem_listed he
    simp[go_sem, *] at hm
    try exact ⟨_,_,hm⟩
    try (rcases hm with rfl|rfl<;>exact ⟨_,_,rfl⟩)
   clear hK K)
 refine Ao (f:=47) (fn:=Tryd.f47) (args:=#[Pt cb 0,Pt t.tb 0,I (x)]) (Aa _ _) rfl rfl (by decide) rfl (by simp[Act.eval]) Tryd.func47 (by decide) rfl ?_
 exact store_goes (x) y _ Hm rfl (fun g hg=>hH g ⟨_,⟨rfl,rfl,by
  intro p hp
  simp only[List.mem_cons,List.not_mem_nil,or_false] at hp
  rcases hp with rfl|rfl|rfl|rfl<;>rfl⟩,hg⟩) hvw hn HM.out ht hK hz hcont hstop _ rfl
theorem push_head {z:Nat->Option Nat}{Ch:Nat->Prop}{Stop:Goroutine->World->Prop}{main:Bool}{w:World}{c tb k:Nat}{x:Int}(r:Value) {a:Act}(hA:Fl 59 [(0,Pt c 0),(1,Pt tb 0),(2,I x),(7,I k)] a) (cs:List Frame)
 (hk:∀ a,Fl 59 [(0,Pt c 0),(1,Pt tb 0),(2,I x),(7,I k)] a->GoesI Tryd.prog main (DT (ScZ z) Ch) Stop (G (pHead a) cs) w) :
 GoesI Tryd.prog main (DT (ScZ z) Ch) Stop (G (pVal a r) cs) w:=by
 unfold pHead pE' at hk
 try simp only[Option.getD_some] at hk
 obtain ⟨hsz,hd,hpp⟩:=hA
 obtain ⟨u,rfl,hg⟩:=litN hsz hd
 have u0:=(hg 0).symm.trans (hpp (0,Pt c 0) (by simp))
 have u1:=(hg 1).symm.trans (hpp (1,Pt tb 0) (by simp))
 have u2:=(hg 2).symm.trans (hpp (2,I x) (by simp))
 have u7:=(hg 7).symm.trans (hpp (7,I k) (by simp))
 clear hg hpp hsz hd
 unfold pVal
 simp only[Option.getD_some,lits,Nat.reduceAdd,u0,u1,u2,u7]
 clear u0 u1 u2 u7
 refine Ab (Aa _ _) ?_
 rw[eP5]
 refine Ac (Aa _ _) ?_
 refine Ja (Aa _ _) ?_
 refine Bm (Aa _ _) ?_
 refine Fq (Aa _ _) ?_
 exact hk _ ⟨rfl,rfl,by
  intro p hp
  simp only[List.mem_cons,List.not_mem_nil,or_false] at hp
  rcases hp with rfl|rfl|rfl|rfl<;>rfl⟩
theorem push_look {z:Nat->Option Nat}{Ch:Nat->Prop}{Stop:Goroutine->World->Prop}{h:Nat}{cont:Addr->Value}{S:TS}{K:List (Nat×Int)}{v w:World}{i j cb:Nat}{t:Thr}{y:Int}{c k:Nat}{x:Int}(c0:v.cell? ⟨c,1,none⟩=some (Pt cb 0)) {a:Act}(hA:Fl 59 [(0,Pt c 0),(1,Pt t.tb 0),(2,I x),(7,I k)] a) (cs:List Frame) (Hm:Goroutine->Prop)
 (hH:∀ g,(∃ a,Fl 59 [(0,Pt c 0),(1,Pt t.tb 0),(2,I x),(7,I k)] a∧D5 (h==0) i j cb t.tb 1 Bi (fun r=>G (pSeen a r) cs) g)->Hm g)
 (hvw:Rel z v w) (hn:Ah Ch v) (hm:Mem z S K v) (ht:S.thr[i]? = some t) (hK:K[j]? = some (cb,y)) (hz:z t.tb=some 2) (hcont:cont ⟨t.tb,2,none⟩=.chan (some t.gc))
 (hstop:∀ g w',E5 z cont h S.bk t.gc Hm (Then z Ch S K v (waiting S i t 1 1 j) K) g w'->Stop g w') :
 GoesI Tryd.prog (h==0) (DT (ScZ z) Ch) Stop (G (pHead a) cs) w:=by
 have HM:Hid (Mem z S K v):=⟨hm⟩
 clear hm
 unfold pSeen at hH
 obtain ⟨hsz,hd,hpp⟩:=hA
 obtain ⟨u,rfl,hg⟩:=litN hsz hd
 have u0:=(hg 0).symm.trans (hpp (0,Pt c 0) (by simp))
 have u1:=(hg 1).symm.trans (hpp (1,Pt t.tb 0) (by simp))
 have u2:=(hg 2).symm.trans (hpp (2,I x) (by simp))
 have u7:=(hg 7).symm.trans (hpp (7,I k) (by simp))
 clear hg hpp hsz hd
 unfold pHead
 simp only[Option.getD_some,lits,Nat.reduceAdd,u0,u1,u2,u7]
 clear u0 u1 u2 u7
 have c0w:w.cell? ⟨c,1,none⟩=some (Pt cb 0):=by rw[hvw.cell?];exact c0
 rw[show (Item.code pL :: Item.inLoop pL :: pE')=Item.code (.block 1 pK) :: Item.inLoop pL :: pE' by rw[←ePL]]
 refine Bm (Aa _ _) ?_
 rw[show (Item.inBlock 1 :: Item.inLoop pL :: pE')=pE from rfl,ePK]
 refine Ac (Aa _ _) ?_
 unfold pO5 pK pL p5 p4 p2 pS Bd Tryd.f50 seq1 seq2 Ak Ar opsOf at hH ⊢
 simp only[Option.getD_some] at hH ⊢
 refine Ae (Aa _ _) ?_
 simp only[List.size_toArray,List.length_cons,List.length_nil,Nat.reduceAdd,Nat.zero_add,List.range,List.range.loop]
 iterate 5
  (refine Ad rfl rfl (by decide) (fun d K hK=>?_)
   go_simp
   refine hK _ _ ⟨Af (fun e he=>?_),GoesI.at ?_ d⟩
   ·have hm:=mem_listed he
    simp[go_sem, *] at hm
    try exact ⟨_,_,hm⟩
    try (rcases hm with rfl|rfl<;>exact ⟨_,_,rfl⟩)
   clear hK K)
 refine Ao (f:=44) (fn:=Tryd.f44) (args:=#[Pt cb 0,Pt t.tb 0]) (Aa _ _) rfl rfl (by decide) rfl (by simp[Act.eval]) Tryd.func44 (by decide) rfl ?_
 exact Gy y _ Hm rfl (fun g hg=>hH g ⟨_,⟨rfl,rfl,by
  intro p hp
  simp only[List.mem_cons,List.not_mem_nil,or_false] at hp
  rcases hp with rfl|rfl|rfl|rfl<;>rfl⟩,hg⟩) hvw hn HM.out ht hK hz hcont hstop _ rfl
def val_p6 (c pb n m cb tb:Nat) (x y:Int):Nat->Value
 |0=>Pt c 0
 |1=>Pt c 0
 |2=>Pt c 2
 |3=>.slice (some ⟨pb,0,none⟩) n n
 |4=>I m
 |5=>Pt pb (m*2)
 |6=>Pt pb (m*2+1)
 |7=>Pt cb 0
 |8=>Pt tb 0
 |9=>I y
 |10=>.agg #[I 0,I 32]
 |11=>I (fstI y)
 |_=>undef
theorem reg_p6:regOk pO6 12 39=true:=by kernel_rfl
theorem Iw:((pO6.extract 0 12).all fun o=>Et Tryd.prog true o.op||Hf Da I5 o.op)=true:=by kernel_rfl
theorem p6_pre {z:Nat->Option Nat}{Ch:Nat->Prop}{Stop:Goroutine->World->Prop}{main:Bool}{v w:World}(c pb n m cb tb:Nat) (x y:Int) (hkn:m<n) {a:Act}(hA:Fl 59 [(0,Pt c 0),(1,Pt tb 0),(2,I x),(7,I m),(9,I y)] a) (k:List Item) (cs:List Frame) (hF:R1.Flds v) (h1:v.cell? ⟨c,2,none⟩=some (.slice (some ⟨pb,0,none⟩) n n)) (h2:v.cell? ⟨pb,m*2+1,none⟩=some (Pt cb 0)) (hvw:Rel z v w) (hn:Ah Ch v)
 (hN:∀ v1 w1 a' o,pO6[12]? = some o->(∀ y,Region.wanted o y=true)->Fl 59 [(0,Pt c 0),(1,Pt tb 0),(2,I x),(7,I m),(9,I y),(46,Pt cb 0),(47,Pt tb 0),(50,I (fstI y))] a'->Rel z v1 w1->Ah Ch v1->Grows v v1->GoesI Tryd.prog main (DT (ScZ z) Ch) Stop (G ((base 50).at a' (.inRegion pO6 [12] :: k)) cs) w1) :
 GoesI Tryd.prog main (DT (ScZ z) Ch) Stop (G ((base 50).at a (.code (.region 6 pO6 true) :: k)) cs) w:=by
 refine region_in (val:=val_p6 c pb n m cb tb x y) reg_p6 (by rw[hA.1];decide) hvw hn ?_ ?_
 ·intro i0 o rest a' v1 w1 hi ho hw ev ev0 r1 n1 g1 hk
  match i0,hi,ho,ev,hk with
  |0,_,ho,ev,hk=>have l0:a'.eval (.tmp 0)=Pt c 0:=(ev0 0 (by decide)).trans (hA.at 0 _ (by simp));exact Be ho hw (by simp[base]) (p:=Op.move (Operand.tmp 0)) (by kernel_rfl) (Bf Iw (by decide) ho) r1 n1 (x:=Pt c 0) rfl (fun o' h'=>by unfold execOp;rw[h'];simp only[l0];simp[go_sem]) hk
  |1,_,ho,ev,hk=>have l0:a'.eval (.tmp 39)=Pt c 0:=ev 0 (by decide) (by kernel_rfl);exact Be ho hw (by simp[base]) (p:=Op.nilCheck (Operand.tmp 39)) (by kernel_rfl) (Bf Iw (by decide) ho) r1 n1 (x:=Pt c 0) rfl (fun o' h'=>by unfold execOp;rw[h'];simp only[l0];simp[go_sem]) hk
  |2,_,ho,ev,hk=>have l0:a'.eval (.tmp 40)=Pt c 0:=ev 1 (by decide) (by kernel_rfl);exact Be ho hw (by simp[base]) (p:=Op.fieldAddr 132 (Operand.tmp 40) 2) (by kernel_rfl) (Bf Iw (by decide) ho) r1 n1 (x:=Pt c 2) rfl (fun o' h'=>by unfold execOp;rw[h'];simp only[l0];simp[go_sem]) hk
  |3,_,ho,ev,hk=>have l0:a'.eval (.tmp 41)=Pt c 2:=ev 2 (by decide) (by kernel_rfl);have c0:=g1.cell h1;exact Be ho hw (by simp[base]) (p:=Op.load 130 (Operand.tmp 41)) (by kernel_rfl) (Bf Iw (by decide) ho) r1 n1 (x:=.slice (some ⟨pb,0,none⟩) n n) rfl (fun o' h'=>by unfold execOp;rw[h'];simp only[l0];simp[go_sem,c0]) hk
  |4,_,ho,ev,hk=>have l0:a'.eval (.tmp 7)=I m:=(ev0 7 (by decide)).trans (hA.at 7 _ (by simp));exact Be ho hw (by simp[base]) (p:=Op.move (Operand.tmp 7)) (by kernel_rfl) (Bf Iw (by decide) ho) r1 n1 (x:=I m) rfl (fun o' h'=>by unfold execOp;rw[h'];simp only[l0];simp[go_sem]) hk
  |5,_,ho,ev,hk=>have l0:a'.eval (.tmp 42)=.slice (some ⟨pb,0,none⟩) n n:=ev 3 (by decide) (by kernel_rfl);have l1:a'.eval (.tmp 43)=I m:=ev 4 (by decide) (by kernel_rfl);have hk1:(m:Int)<(n:Int):=Int.ofNat_lt.2 hkn;exact Be ho hw (by simp[base]) (p:=Op.indexAddr 130 (Operand.tmp 42) (Operand.tmp 43)) (by kernel_rfl) (Bf Iw (by decide) ho) r1 n1 (x:=Pt pb (m*2)) rfl (fun o' h'=>by unfold execOp;rw[h'];simp only[l0,l1];simp[go_sem,hk1]) hk
  |6,_,ho,ev,hk=>have l0:a'.eval (.tmp 44)=Pt pb (m*2):=ev 5 (by decide) (by kernel_rfl);exact Be ho hw (by simp[base]) (p:=Op.fieldAddr 134 (Operand.tmp 44) 1) (by kernel_rfl) (Bf Iw (by decide) ho) r1 n1 (x:=Pt pb (m*2+1)) rfl (fun o' h'=>by unfold execOp;rw[h'];simp only[l0];simp[go_sem]) hk
  |7,_,ho,ev,hk=>have l0:a'.eval (.tmp 45)=Pt pb (m*2+1):=ev 6 (by decide) (by kernel_rfl);have c0:=g1.cell h2;exact Be ho hw (by simp[base]) (p:=Op.load 89 (Operand.tmp 45)) (by kernel_rfl) (Bf Iw (by decide) ho) r1 n1 (x:=Pt cb 0) rfl (fun o' h'=>by unfold execOp;rw[h'];simp only[l0];simp[go_sem,c0]) hk
  |8,_,ho,ev,hk=>have l0:a'.eval (.tmp 1)=Pt tb 0:=(ev0 1 (by decide)).trans (hA.at 1 _ (by simp));exact Be ho hw (by simp[base]) (p:=Op.move (Operand.tmp 1)) (by kernel_rfl) (Bf Iw (by decide) ho) r1 n1 (x:=Pt tb 0) rfl (fun o' h'=>by unfold execOp;rw[h'];simp only[l0];simp[go_sem]) hk
  |9,_,ho,ev,hk=>have l0:a'.eval (.tmp 9)=I y:=(ev0 9 (by decide)).trans (hA.at 9 _ (by simp));exact Be ho hw (by simp[base]) (p:=Op.move (Operand.tmp 9)) (by kernel_rfl) (Bf Iw (by decide) ho) r1 n1 (x:=I y) rfl (fun o' h'=>by unfold execOp;rw[h'];simp only[l0];simp[go_sem]) hk
  |10,_,ho,ev,hk=>have c0:=g1.cell hF.c0;have c1:=g1.cell hF.c1;exact Be ho hw (by simp[base]) (p:=Op.load 98 (Operand.global 2)) (by kernel_rfl) (Bf Iw (by decide) ho) r1 n1 (x:=.agg #[I 0,I 32]) rfl (fun o' h'=>by unfold execOp;rw[h'];simp only[Act.eval];simp[go_sem,c0,c1]) hk
  |11,_,ho,ev,hk =>
   have l0:a'.eval (.tmp 48)=I y:=ev 9 (by decide) (by kernel_rfl);have l1:a'.eval (.tmp 49)=.agg #[I 0,I 32]:=ev 10 (by decide) (by kernel_rfl)
   exact Jt (f:=45) (fn:=Tryd.f45) (xs:=#[.tmp 48,.tmp 49]) (ats:=#[3,98]) (args:=#[I y,.agg #[I 0,I 32]]) ho hw (by simp[base]) (by kernel_rfl) (by simp only[List.map_toArray,List.map_cons,List.map_nil,l0,l1]) Tryd.func45 (by kernel_rfl) rfl (Cc Di (by simp[LT,Da]) Tryd.func45 rfl) (fun tmps=>⟨_,fun w=>results_tmp rfl _ _ _,fun w=>by simp[results,go_sem,Tryd.f45]⟩) r1 n1 (x:=I (fstI y)) rfl (fun τ=>wp_mono (R1.Eg y 0 32 (Ap v1 τ 0) (by decide) (by decide) (by decide) _ rfl) (Dh fun r u hq=>⟨hq.1,gtape (Dl hq.2)⟩)) hk
 ·intro v1 w1 o ho hw r1 n1 g1
  refine hN v1 w1 _ o ho hw ⟨(Gx _ _ _ _).trans hA.1,(F4 _ _ _ _).trans hA.2.1,?_⟩ r1 n1 g1
  have hsz:39+12≤a.tmps.size:=by rw[hA.1];decide
  intro p hp
  simp only[List.mem_cons,List.not_mem_nil,or_false] at hp
  rcases hp with rfl|rfl|rfl|rfl|rfl|rfl|rfl|rfl
  ·rw[Array.getD_eq_getD_getElem?,Bl _ _ _ _ _ hsz,if_neg (by simp),←Array.getD_eq_getD_getElem?];exact hA.2.2 (0,Pt c 0) (by simp)
  ·rw[Array.getD_eq_getD_getElem?,Bl _ _ _ _ _ hsz,if_neg (by simp),←Array.getD_eq_getD_getElem?];exact hA.2.2 (1,Pt tb 0) (by simp)
  ·rw[Array.getD_eq_getD_getElem?,Bl _ _ _ _ _ hsz,if_neg (by simp),←Array.getD_eq_getD_getElem?];exact hA.2.2 (2,I x) (by simp)
  ·rw[Array.getD_eq_getD_getElem?,Bl _ _ _ _ _ hsz,if_neg (by simp),←Array.getD_eq_getD_getElem?];exact hA.2.2 (7,I m) (by simp)
  ·rw[Array.getD_eq_getD_getElem?,Bl _ _ _ _ _ hsz,if_neg (by simp),←Array.getD_eq_getD_getElem?];exact hA.2.2 (9,I y) (by simp)
  ·rw[Array.getD_eq_getD_getElem?,Bl _ _ _ _ _ hsz,if_pos (by simp)];rfl
  ·rw[Array.getD_eq_getD_getElem?,Bl _ _ _ _ _ hsz,if_pos (by simp)];rfl
  ·rw[Array.getD_eq_getD_getElem?,Bl _ _ _ _ _ hsz,if_pos (by simp)];rfl
theorem push_link {z:Nat->Option Nat}{Ch:Nat->Prop}{Stop:Goroutine->World->Prop}{h:Nat}{cont:Addr->Value}{S:TS}{K:List (Nat×Int)}{v w:World}{i j cb:Nat}{t:Thr}{y:Int}{c pb n k:Nat}{x:Int}(h0:Int) (hkn:k<n) (hF:R1.Flds v) (h1:v.cell? ⟨c,2,none⟩=some (.slice (some ⟨pb,0,none⟩) n n)) (h2:v.cell? ⟨pb,k*2+1,none⟩=some (Pt cb 0)) {a:Act}(hA:Fl 59 [(0,Pt c 0),(1,Pt t.tb 0),(2,I x),(7,I k)] a) (cs:List Frame) (Hm:Goroutine->Prop)
 (hH:∀ g,(∃ a,Fl 59 [(0,Pt c 0),(1,Pt t.tb 0),(2,I x),(7,I k),(9,I h0)] a∧D5 (h==0) i j cb t.tb 2 (Bo (fstI h0)) (fun r=>G (pLink a r) cs) g)->Hm g)
 (hvw:Rel z v w) (hn:Ah Ch v) (hm:Mem z S K v) (ht:S.thr[i]? = some t) (hK:K[j]? = some (cb,y)) (hz:z t.tb=some 2) (hcont:cont ⟨t.tb,2,none⟩=.chan (some t.gc))
 (hstop:∀ g w',E5 z cont h S.bk t.gc Hm (Then z Ch S K v (waiting S i t 1 2 j) K) g w'->Stop g w') :
 GoesI Tryd.prog (h==0) (DT (ScZ z) Ch) Stop (G (pSeen a (I h0)) cs) w:=by
 have HM:Hid (Mem z S K v):=⟨hm⟩
 clear hm
 obtain ⟨hsz,hd,hpp⟩:=hA
 obtain ⟨u,rfl,hg⟩:=litN hsz hd
 have u0:=(hg 0).symm.trans (hpp (0,Pt c 0) (by simp))
 have u1:=(hg 1).symm.trans (hpp (1,Pt t.tb 0) (by simp))
 have u2:=(hg 2).symm.trans (hpp (2,I x) (by simp))
 have u7:=(hg 7).symm.trans (hpp (7,I k) (by simp))
 clear hg hpp hsz hd
 unfold pSeen
 simp only[Option.getD_some,lits,Nat.reduceAdd,u0,u1,u2,u7]
 clear u0 u1 u2 u7
 unfold pO5 pK pL p5 p4 p2 pS Bd Tryd.f50 seq1 seq2 Ak Ar opsOf
 simp only[Option.getD_some]
 walk_nrm
 iterate 1
  (refine Ad rfl rfl (by decide) (fun d K hK=>?_)
   go_simp
   refine hK _ _ ⟨Af (fun e he=>?_),GoesI.at ?_ d⟩
   ·have hm:=mem_listed he
    simp[go_sem, *] at hm
    try exact ⟨_,_,hm⟩
    try (rcases hm with rfl|rfl<;>exact ⟨_,_,rfl⟩)
   clear hK K)
 refine Ab (Aa _ _) ?_
 rw[eP6]
 refine Ac (Aa _ _) ?_
 refine p6_pre c pb n k cb t.tb x h0 hkn ⟨rfl,rfl,by
  intro p hp
  simp only[List.mem_cons,List.not_mem_nil,or_false] at hp
  rcases hp with rfl|rfl|rfl|rfl|rfl<;>rfl⟩ _ cs hF h1 h2 hvw hn (fun v4 w4 a' o ho hw hA hvw4 hn4 hg4=>?_)
 have hm4:=HM.out.grows hg4
 have e46:a'.eval (.tmp 46)=Pt cb 0:=hA.at 46 _ (by simp)
 have e47:a'.eval (.tmp 47)=Pt t.tb 0:=hA.at 47 _ (by simp)
 have e50:a'.eval (.tmp 50)=I (fstI h0):=hA.at 50 _ (by simp)
 have hop:(pO6[12]?).map (·.op)=some (.call { callee:=.value (.func 47),args:=#[.tmp 46,.tmp 47,.tmp 50],argTypes:=#[89,52,3] }):=by kernel_rfl
 have hds:(pO6[12]?).map (·.dst)=some (some 51):=by kernel_rfl
 rw[ho] at hop hds
 have hop':=Option.some.inj hop
 have hds':o.dst=some 51:=Option.some.inj hds
 refine Ao (f:=47) (fn:=Tryd.f47) (args:=#[Pt cb 0,Pt t.tb 0,I (fstI h0)]) (Aa _ _) ho (hw _) (by simp[base]) hop' (by simp only[List.map_toArray,List.map_cons,List.map_nil,e46,e47,e50]) Tryd.func47 (by decide) rfl ?_
 refine store_goes (fstI h0) y _ Hm ho (fun g hg=>hH g ⟨a',⟨hA.1,hA.2.1,fun p hp=>hA.2.2 p (by simp only[List.mem_cons,List.not_mem_nil,or_false] at hp ⊢;rcases hp with rfl|rfl|rfl|rfl|rfl<;>simp)⟩,?_⟩) hvw4 hn4 hm4.mem ht hK hz hcont (fun g w' hs=>hstop g w' (G1 (fun hT=>by obtain ⟨v',r1,r2,r3⟩:=hT;exact ⟨v',r1,r2,hm4.trans r3⟩) hs)) _ rfl
 rw[hds'] at hg
 exact hg
theorem push_try {z:Nat->Option Nat}{Ch:Nat->Prop}{Stop:Goroutine->World->Prop}{main:Bool}{w:World}{c tb k:Nat}{x h0:Int}(hk3:k<1000) (r:Value) {a:Act}(hA:Fl 59 [(0,Pt c 0),(1,Pt tb 0),(2,I x),(7,I k),(9,I h0)] a) (cs:List Frame)
 (hk:∀ a code,Tryd.f73.body=some code->Fl 59 [(0,Pt c 0),(1,Pt tb 0),(2,I x),(7,I k),(9,I h0)] a->GoesI Tryd.prog main (DT (ScZ z) Ch) Stop (G ((base 73).at { tmps:=#[Pt c 0,Pt tb 0,I h0,I ((k:Int)+1)]++Array.replicate 18 undef,defers:=[] } [.code code]) (pTry a :: cs)) w) :
 GoesI Tryd.prog main (DT (ScZ z) Ch) Stop (G (pLink a r) cs) w:=by
 have hwr:IntKind.i64.wrap ((k:Int)+1)=(k:Int)+1:=by rw[IntKind.wrap_i64];omega
 unfold pTry at hk
 obtain ⟨hsz,hd,hpp⟩:=hA
 obtain ⟨u,rfl,hg⟩:=litN hsz hd
 have u0:=(hg 0).symm.trans (hpp (0,Pt c 0) (by simp))
 have u1:=(hg 1).symm.trans (hpp (1,Pt tb 0) (by simp))
 have u2:=(hg 2).symm.trans (hpp (2,I x) (by simp))
 have u7:=(hg 7).symm.trans (hpp (7,I k) (by simp))
 have u9:=(hg 9).symm.trans (hpp (9,I h0) (by simp))
 clear hg hpp hsz hd
 unfold pLink
 simp only[Option.getD_some,lits,Nat.reduceAdd,u0,u1,u2,u7,u9]
 clear u0 u1 u2 u7 u9
 refine Ab (Aa _ _) ?_
 rw[eP7]
 refine Ac (Aa _ _) ?_
 refine Ac (Aa _ _) ?_
 unfold pO7 p7 p6 pK pL p5 p4 p2 pS Bd Tryd.f50 seq1 seq2 Ak Ar opsOf at hk ⊢
 simp only[Option.getD_some] at hk ⊢
 refine Ae (Aa _ _) ?_
 simp only[List.size_toArray,List.length_cons,List.length_nil,Nat.reduceAdd,Nat.zero_add,List.range,List.range.loop]
 iterate 5
  (refine Ad rfl rfl (by decide) (fun d K hK=>?_)
   go_simp
   refine hK _ _ ⟨Af (fun e he=>?_),GoesI.at ?_ d⟩
   ·have hm:=mem_listed he
    simp[go_sem, *] at hm
    try exact ⟨_,_,hm⟩
    try (rcases hm with rfl|rfl<;>exact ⟨_,_,rfl⟩)
   clear hK K)
 refine Ao (f:=73) (fn:=Tryd.f73) (args:=#[Pt c 0,Pt tb 0,I h0,I ((k:Int)+1)]) (Aa _ _) rfl rfl (by decide) rfl (by simp[Act.eval]) Tryd.func73 (by decide) rfl ?_
 exact hk _ _ rfl ⟨rfl,rfl,by
  intro p hp
  simp only[List.mem_cons,List.not_mem_nil,or_false] at hp
  rcases hp with rfl|rfl|rfl|rfl|rfl<;>rfl⟩
theorem push_again {z:Nat->Option Nat}{Ch:Nat->Prop}{Stop:Goroutine->World->Prop}{main:Bool}{w:World}{c tb k:Nat}{x h0:Int}  {a:Act}(hA:Fl 59 [(0,Pt c 0),(1,Pt tb 0),(2,I x),(7,I k),(9,I h0)] a) (cs:List Frame)
 (hk:∀ a,Fl 59 [(0,Pt c 0),(1,Pt tb 0),(2,I x),(7,I k)] a->GoesI Tryd.prog main (DT (ScZ z) Ch) Stop (G (pHead a) cs) w) :
 GoesI Tryd.prog main (DT (ScZ z) Ch) Stop (G (pTried a (.bool false)) cs) w:=by
 unfold pHead pE' at hk
 try simp only[Option.getD_some] at hk
 obtain ⟨hsz,hd,hpp⟩:=hA
 obtain ⟨u,rfl,hg⟩:=litN hsz hd
 have u0:=(hg 0).symm.trans (hpp (0,Pt c 0) (by simp))
 have u1:=(hg 1).symm.trans (hpp (1,Pt tb 0) (by simp))
 have u2:=(hg 2).symm.trans (hpp (2,I x) (by simp))
 have u7:=(hg 7).symm.trans (hpp (7,I k) (by simp))
 have u9:=(hg 9).symm.trans (hpp (9,I h0) (by simp))
 clear hg hpp hsz hd
 unfold pTried pO7 pC7 p7 p6 pK pL p5 p4 p2 pS Bd Tryd.f50 seq1 seq2 Ak Ar opsOf
 simp only[Option.getD_some,lits,Nat.reduceAdd,u0,u1,u2,u7,u9]
 clear u0 u1 u2 u7 u9
 walk_nrm
 iterate 1
  (refine Ad rfl rfl (by decide) (fun d K hK=>?_)
   go_simp
   refine hK _ _ ⟨Af (fun e he=>?_),GoesI.at ?_ d⟩
   ·have hm:=mem_listed he
    simp[go_sem, *] at hm
    try exact ⟨_,_,hm⟩
    try (rcases hm with rfl|rfl<;>exact ⟨_,_,rfl⟩)
   clear hK K)
 refine Ab (Aa _ _) ?_
 refine Ax (Aa _ _) (t:=true) (by simp[Act.eval]) ?_
 simp only[if_true,if_false,Bool.false_eq_true]
 rw[show pE=Item.inBlock 1 :: .inLoop pL :: [.inBlock 0,.inScope pS] from rfl]
 refine Em (Aa _ _) (k':=[.inLoop pL,.inBlock 0,.inScope pS]) rfl ?_
 refine Dy (Aa _ _) ?_
 exact hk _ ⟨rfl,rfl,by
  intro p hp
  simp only[List.mem_cons,List.not_mem_nil,or_false] at hp
  rcases hp with rfl|rfl|rfl|rfl<;>rfl⟩
theorem push_done {z:Nat->Option Nat}{Ch:Nat->Prop}{Stop:Goroutine->World->Prop}{main:Bool}{v w:World}{c tb k:Nat}{x h0:Int}  {a:Act}(hA:Fl 59 [(0,Pt c 0),(1,Pt tb 0),(2,I x),(7,I k),(9,I h0)] a) (cs:List Frame) {bc:Frame}{ac:Act}{ops:Array Oper}{q:Nat}{rest:List Nat}{oc:Oper}{k0:List Item}(hoc:ops[q]? = some oc) (hvw:Rel z v w) (hn:Ah Ch v)
 (hk:∀ w',Rel z v w'->GoesI Tryd.prog main (DT (ScZ z) Ch) Stop (G (bc.at (ac.put oc.dst (I 0)) (.inRegion ops rest :: k0)) cs) w') :
 GoesI Tryd.prog main (DT (ScZ z) Ch) Stop (G (pTried a (.bool true)) (bc.at ac (.inRegion ops (q :: rest) :: k0) :: cs)) w:=by
 obtain ⟨hsz,hd,hpp⟩:=hA
 obtain ⟨u,rfl,hg⟩:=litN hsz hd
 have u0:=(hg 0).symm.trans (hpp (0,Pt c 0) (by simp))
 have u1:=(hg 1).symm.trans (hpp (1,Pt tb 0) (by simp))
 have u2:=(hg 2).symm.trans (hpp (2,I x) (by simp))
 have u7:=(hg 7).symm.trans (hpp (7,I k) (by simp))
 have u9:=(hg 9).symm.trans (hpp (9,I h0) (by simp))
 clear hg hpp hsz hd
 unfold pTried pO7 pC7 p8 p7 p6 pK pL p5 p4 p2 pS Bd Tryd.f50 seq1 seq2 Ak Ar opsOf
 simp only[Option.getD_some,lits,Nat.reduceAdd,u0,u1,u2,u7,u9]
 clear u0 u1 u2 u7 u9
 walk_nrm
 iterate 1
  (refine Ad rfl rfl (by decide) (fun d K hK=>?_)
   go_simp
   refine hK _ _ ⟨Af (fun e he=>?_),GoesI.at ?_ d⟩
   ·have hm:=mem_listed he
    simp[go_sem, *] at hm
    try exact ⟨_,_,hm⟩
    try (rcases hm with rfl|rfl<;>exact ⟨_,_,rfl⟩)
   clear hK K)
 refine Ab (Aa _ _) ?_
 refine Ax (Aa _ _) (t:=false) (by simp[Act.eval]) ?_
 simp only[if_true,if_false,Bool.false_eq_true]
 refine Bh (Aa _ _) ?_
 refine Ac (Aa _ _) ?_
 refine Ae (Aa _ _) ?_
 simp only[List.size_toArray,List.length_cons,List.length_nil,Nat.reduceAdd,Nat.zero_add,List.range,List.range.loop]
 iterate 1
  (refine Ad rfl rfl (by decide) (fun d K hK=>?_)
   go_simp
   refine hK _ _ ⟨Af (fun e he=>?_),GoesI.at ?_ d⟩
   ·have hm:=mem_listed he
    simp[go_sem, *] at hm
    try exact ⟨_,_,hm⟩
    try (rcases hm with rfl|rfl<;>exact ⟨_,_,rfl⟩)
   clear hK K)
 refine Ab (Aa _ _) ?_
 refine GoesI.ctl rfl (fun _=>stepG_ret') (Aa _ _) ?_
 exact B7 (f:=50) (fn:=Tryd.f50) (x:=I 0) hvw hn Tryd.func50 rfl hoc (by simp[results,go_sem,Tryd.f50]) (fun w' r'=>hk w' r')
noncomputable def oS:Code:=Bd (seq2 (Tryd.f51.body.getD .skip))
noncomputable def oL:Code:=Ar (Ak (seq2 oS))
noncomputable def oK:Code:=Ak oL
noncomputable def o2:Code:=seq2 oK
noncomputable def o3:Code:=seq2 o2
noncomputable def o5:Code:=seq2 o3
noncomputable def o6:Code:=seq2 o5
noncomputable def o7:Code:=seq2 o6
noncomputable def o8:Code:=seq2 o7
noncomputable def o9:Code:=seq2 o8
noncomputable def o10:Code:=seq2 o9
noncomputable def oO1:Array Oper:=opsOf (seq1 oK)
noncomputable def oO6:Array Oper:=opsOf (seq1 o6)
noncomputable def oO7:Array Oper:=opsOf (seq1 (seq1 o7))
noncomputable def oC7:Code:=seq2 (seq1 o7)
noncomputable def oO8:Array Oper:=opsOf (seq1 o8)
noncomputable def oO9:Array Oper:=opsOf (seq1 o9)
noncomputable def oE':List Item:=[.inBlock 0,.inScope oS]
noncomputable def oE:List Item:=.inBlock 1 :: .inLoop oL :: oE'
noncomputable def oHead (a:Act):Frame:=(base 51).at a (.code oL :: .inLoop oL :: oE')
noncomputable def Jv (a:Act) (r:Value):Frame:=(base 51).at (a.put (some 16) r) (.inRegion oO1 [6] :: .code o2 :: oE)
noncomputable def oLink (a:Act) (r:Value):Frame:=(base 51).at (a.put (some 33) r) (.inRegion oO6 [10] :: .code o7 :: oE)
noncomputable def oTry (a:Act):Frame:=(base 51).at a (.inRegion oO7 [4,5] :: .code oC7 :: .code o8 :: oE)
noncomputable def oTried (a:Act) (r:Value):Frame:=(base 51).at (a.put (some 38) r) (.inRegion oO7 [5] :: .code oC7 :: .code o8 :: oE)
noncomputable def oVal (a:Act) (r:Value):Frame:=(base 51).at (a.put (some 49) r) (.inRegion oO8 [10] :: .code o9 :: oE)
noncomputable def oGive (a:Act):Frame:=(base 51).at a (.inRegion oO9 [6] :: .code o10 :: oE)
noncomputable def oGave (a:Act) (r:Value):Frame:=(base 51).at (a.put (some 56) r) (.inRegion oO9 [] :: .code o10 :: oE)
theorem oO7_4:(oO7[4]?).map (·.dst)=some (some 38):=by kernel_rfl
theorem oO9_6:(oO9[6]?).map (·.dst)=some (some 56):=by kernel_rfl
theorem eOB:Tryd.f51.body.getD .skip=.seq (.region 0 (opsOf (seq1 (Tryd.f51.body.getD .skip))) false) (.scope oS):=by kernel_rfl
theorem eOS:oS=.seq (.label 0) (.block 0 (.loop oL)):=by kernel_rfl
theorem eOL:oL=.block 1 oK:=by kernel_rfl
theorem eOK:oK=.seq (.region 1 oO1 false) o2:=by kernel_rfl
theorem eO7:o7=.seq (.seq (.region 7 oO7 false) oC7) o8:=by kernel_rfl
theorem eO8:o8=.seq (.region 8 oO8 false) o9:=by kernel_rfl
theorem eO9:o9=.seq (.region 9 oO9 false) o10:=by kernel_rfl
theorem pop_in {z:Nat->Option Nat}{Ch:Nat->Prop}{Stop:Goroutine->World->Prop}{main:Bool}{w:World}{c tb:Nat}(cs:List Frame)
 (hk:∀ a,Fl 58 [(0,Pt c 0),(1,Pt tb 0)] a->GoesI Tryd.prog main (DT (ScZ z) Ch) Stop (G (oHead a) cs) w) (code:Code) (hc:Tryd.f51.body=some code) :
 GoesI Tryd.prog main (DT (ScZ z) Ch) Stop (G ((base 51).at { tmps:=#[Pt c 0,Pt tb 0]++Array.replicate 56 undef,defers:=[] } [.code code]) cs) w:=by
 have hw0:code=.seq (.region 0 (opsOf (seq1 (Tryd.f51.body.getD .skip))) false) (.scope oS):=by
  rw[show code=Tryd.f51.body.getD .skip by rw[hc];rfl];exact eOB
 subst hw0
 clear hc
 simp only[Array.replicate_succ,Array.replicate_zero,List.push_toArray,List.append_toArray,List.nil_append,List.cons_append]
 unfold oHead oE' at hk
 refine Ac (Aa _ _) ?_
 unfold Tryd.f51 seq1 opsOf
 simp only[Option.getD_some]
 refine Ae (Aa _ _) ?_
 simp only[List.size_toArray,List.length_cons,List.length_nil,Nat.reduceAdd,Nat.zero_add,List.range,List.range.loop]
 iterate 2
  (refine Ad rfl rfl (by decide) (fun d K hK=>?_)
   go_simp
   refine hK _ _ ⟨Af (fun e he=>?_),GoesI.at ?_ d⟩
   ·have hm:=mem_listed he
    simp[go_sem, *] at hm
    try exact ⟨_,_,hm⟩
    try (rcases hm with rfl|rfl<;>exact ⟨_,_,rfl⟩)
   clear hK K)
 refine Ab (Aa _ _) ?_
 refine Hn (Aa _ _) ?_
 generalize hq:Item.inScope oS=q at hk ⊢
 rw[eOS]
 refine Ac (Aa _ _) ?_
 refine Ja (Aa _ _) ?_
 refine Bm (Aa _ _) ?_
 refine Fq (Aa _ _) ?_
 exact hk _ ⟨rfl,rfl,by
  intro p hp
  simp only[List.mem_cons,List.not_mem_nil,or_false] at hp
  rcases hp with rfl|rfl<;>rfl⟩
theorem pop_look {z:Nat->Option Nat}{Ch:Nat->Prop}{Stop:Goroutine->World->Prop}{h:Nat}{cont:Addr->Value}{S:TS}{K:List (Nat×Int)}{v w:World}{i j cb:Nat}{t:Thr}{y:Int}{c:Nat}(c0:v.cell? ⟨c,1,none⟩=some (Pt cb 0)) {a:Act}(hA:Fl 58 [(0,Pt c 0),(1,Pt t.tb 0)] a) (cs:List Frame) (Hm:Goroutine->Prop)
 (hH:∀ g,(∃ a,Fl 58 [(0,Pt c 0),(1,Pt t.tb 0)] a∧D5 (h==0) i j cb t.tb 1 Bi (fun r=>G (Jv a r) cs) g)->Hm g)
 (hvw:Rel z v w) (hn:Ah Ch v) (hm:Mem z S K v) (ht:S.thr[i]? = some t) (hK:K[j]? = some (cb,y)) (hz:z t.tb=some 2) (hcont:cont ⟨t.tb,2,none⟩=.chan (some t.gc))
 (hstop:∀ g w',E5 z cont h S.bk t.gc Hm (Then z Ch S K v (waiting S i t 1 1 j) K) g w'->Stop g w') :
 GoesI Tryd.prog (h==0) (DT (ScZ z) Ch) Stop (G (oHead a) cs) w:=by
 have HM:Hid (Mem z S K v):=⟨hm⟩
 clear hm
 unfold Jv at hH
 obtain ⟨hsz,hd,hpp⟩:=hA
 obtain ⟨u,rfl,hg⟩:=litN hsz hd
 have u0:=(hg 0).symm.trans (hpp (0,Pt c 0) (by simp))
 have u1:=(hg 1).symm.trans (hpp (1,Pt t.tb 0) (by simp))
 clear hg hpp hsz hd
 unfold oHead
 simp only[Option.getD_some,lits,Nat.reduceAdd,u0,u1]
 clear u0 u1
 have c0w:w.cell? ⟨c,1,none⟩=some (Pt cb 0):=by rw[hvw.cell?];exact c0
 rw[show (Item.code oL :: Item.inLoop oL :: oE')=Item.code (.block 1 oK) :: Item.inLoop oL :: oE' by rw[←eOL]]
 refine Bm (Aa _ _) ?_
 rw[show (Item.inBlock 1 :: Item.inLoop oL :: oE')=oE from rfl,eOK]
 refine Ac (Aa _ _) ?_
 unfold oO1 oK oL oS Bd Tryd.f51 seq1 seq2 Ak Ar opsOf at hH ⊢
 simp only[Option.getD_some] at hH ⊢
 refine Ae (Aa _ _) ?_
 simp only[List.size_toArray,List.length_cons,List.length_nil,Nat.reduceAdd,Nat.zero_add,List.range,List.range.loop]
 iterate 5
  (refine Ad rfl rfl (by decide) (fun d K hK=>?_)
   go_simp
   refine hK _ _ ⟨Af (fun e he=>?_),GoesI.at ?_ d⟩
   ·have hm:=mem_listed he
    simp[go_sem, *] at hm
    try exact ⟨_,_,hm⟩
    try (rcases hm with rfl|rfl<;>exact ⟨_,_,rfl⟩)
   clear hK K)
 refine Ao (f:=44) (fn:=Tryd.f44) (args:=#[Pt cb 0,Pt t.tb 0]) (Aa _ _) rfl rfl (by decide) rfl (by simp[Act.eval]) Tryd.func44 (by decide) rfl ?_
 exact Gy y _ Hm rfl (fun g hg=>hH g ⟨_,⟨rfl,rfl,by
  intro p hp
  simp only[List.mem_cons,List.not_mem_nil,or_false] at hp
  rcases hp with rfl|rfl<;>rfl⟩,hg⟩) hvw hn HM.out ht hK hz hcont hstop _ rfl
theorem pop_empty {z:Nat->Option Nat}{Ch:Nat->Prop}{Stop:Goroutine->World->Prop}{main:Bool}{v w:World}{c tb:Nat}(x:Int) (h0:fstI x=0) (hF:R1.Flds v) {a:Act}(hA:Fl 58 [(0,Pt c 0),(1,Pt tb 0)] a) (cs:List Frame) {bc:Frame}{ac:Act}{ops:Array Oper}{q:Nat}{rest:List Nat}{oc:Oper}{k0:List Item}(hoc:ops[q]? = some oc) (hvw:Rel z v w) (hn:Ah Ch v)
 (hk:∀ v' w',Rel z v' w'->Ah Ch v'->Grows v v'->GoesI Tryd.prog main (DT (ScZ z) Ch) Stop (G (bc.at (ac.put oc.dst (.tuple #[I 0,I 90])) (.inRegion ops rest :: k0)) cs) w') :
 GoesI Tryd.prog main (DT (ScZ z) Ch) Stop (G (Jv a (I x)) (bc.at ac (.inRegion ops (q :: rest) :: k0) :: cs)) w:=by
 obtain ⟨hsz,hd,hpp⟩:=hA
 obtain ⟨u,rfl,hg⟩:=litN hsz hd
 have u0:=(hg 0).symm.trans (hpp (0,Pt c 0) (by simp))
 have u1:=(hg 1).symm.trans (hpp (1,Pt tb 0) (by simp))
 clear hg hpp hsz hd
 unfold Jv oO1 o2 oK oL oS Bd Tryd.f51 seq1 seq2 Ak Ar opsOf
 simp only[Option.getD_some,lits,Nat.reduceAdd,u0,u1]
 clear u0 u1
 have g0:w.cell? ⟨2,0,none⟩=some (I 0):=by rw[hvw.cell?];exact hF.c0
 have g1:w.cell? ⟨2,1,none⟩=some (I 32):=by rw[hvw.cell?];exact hF.c1
 walk_nrm
 iterate 1
  (refine Ad rfl rfl (by decide) (fun d K hK=>?_)
   go_simp
   refine hK _ _ ⟨Af (fun e he=>?_),GoesI.at ?_ d⟩
   ·have hm:=mem_listed he
    simp[go_sem, *] at hm
    try exact ⟨_,_,hm⟩
    try (rcases hm with rfl|rfl<;>exact ⟨_,_,rfl⟩)
   clear hK K)
 refine Ab (Aa _ _) ?_
 refine Ac (Aa _ _) ?_
 refine Ae (Aa _ _) ?_
 simp only[List.size_toArray,List.length_cons,List.length_nil,Nat.reduceAdd,Nat.zero_add,List.range,List.range.loop]
 iterate 2
  (refine Ad rfl rfl (by decide) (fun d K hK=>?_)
   go_simp
   refine hK _ _ ⟨Af (fun e he=>?_),GoesI.at ?_ d⟩
   ·have hm:=mem_listed he
    simp[go_sem, *] at hm
    try exact ⟨_,_,hm⟩
    try (rcases hm with rfl|rfl<;>exact ⟨_,_,rfl⟩)
   clear hK K)
 refine D2 (f:=45) (fn:=Tryd.f45) (args:=#[I x,R1.F 0 32]) hE Di rfl rfl (by decide) rfl (by simp[Act.eval,R1.F]) Tryd.func45 (by kernel_rfl) rfl (Cc Di (by simp[LT,Da]) Tryd.func45 rfl) (fun tmps=>⟨_,fun w=>results_tmp rfl _ _ _,fun w=>by simp[results,go_sem,Tryd.f45]⟩) hvw hn
  (R:=fun r v4=>r=I (fstI x)∧Grows v v4) (fun τ=>?_) (fun r v4 w4 hR hvw4 hn4=>?_)
 ·exact wp_mono (R1.Eg x 0 32 (Ap v τ 0) (by decide) (by decide) (by decide) _ rfl) (Dh fun r u hq=>⟨hq.1,gtape (Dl hq.2)⟩)
 obtain ⟨rfl,hg4⟩:=hR
 walk_nrm
 iterate 1
  (refine Ad rfl rfl (by decide) (fun d K hK=>?_)
   go_simp
   refine hK _ _ ⟨Af (fun e he=>?_),GoesI.at ?_ d⟩
   ·have hm:=mem_listed he
    simp[go_sem, *] at hm
    try exact ⟨_,_,hm⟩
    try (rcases hm with rfl|rfl<;>exact ⟨_,_,rfl⟩)
   clear hK K)
 refine Ab (Aa _ _) ?_
 refine Ac (Aa _ _) ?_
 refine Ac (Aa _ _) ?_
 refine Ae (Aa _ _) ?_
 simp only[List.size_toArray,List.length_cons,List.length_nil,Nat.reduceAdd,Nat.zero_add,List.range,List.range.loop]
 iterate 2
  (refine Ad rfl rfl (by decide) (fun d K hK=>?_)
   go_simp
   refine hK _ _ ⟨Af (fun e he=>?_),GoesI.at ?_ d⟩
   ·have hm:=mem_listed he
    simp[go_sem, *] at hm
    try exact ⟨_,_,hm⟩
    try (rcases hm with rfl|rfl<;>exact ⟨_,_,rfl⟩)
   clear hK K)
 refine Ab (Aa _ _) ?_
 refine Ax (Aa _ _) (t:=true) (by simp[Act.eval,h0]) ?_
 simp only[if_true,if_false,Bool.false_eq_true]
 refine Ac (Aa _ _) ?_
 refine Ae (Aa _ _) ?_
 simp only[List.size_toArray,List.length_cons,List.length_nil,Nat.reduceAdd,Nat.zero_add,List.range,List.range.loop]
 iterate 2
  (refine Ad rfl rfl (by decide) (fun d K hK=>?_)
   go_simp
   refine hK _ _ ⟨Af (fun e he=>?_),GoesI.at ?_ d⟩
   ·have hm:=mem_listed he
    simp[go_sem, *] at hm
    try exact ⟨_,_,hm⟩
    try (rcases hm with rfl|rfl<;>exact ⟨_,_,rfl⟩)
   clear hK K)
 refine Ab (Aa _ _) ?_
 refine GoesI.ctl rfl (fun _=>stepG_ret') (Aa _ _) ?_
 exact B7 (f:=51) (fn:=Tryd.f51) (x:=.tuple #[I 0,I 90]) hvw4 hn4 Tryd.func51 rfl hoc (by simp[results,go_sem,Tryd.f51]) (fun w' r'=>hk v4 w' r' hn4 hg4)
theorem pop_link {z:Nat->Option Nat}{Ch:Nat->Prop}{Stop:Goroutine->World->Prop}{h:Nat}{cont:Addr->Value}{S:TS}{K:List (Nat×Int)}{v w:World}{i j cb:Nat}{t:Thr}{y:Int}{c pb n:Nat}{x:Int}(k:Nat) (hk0:fstI x=(k:Int)+1) (hkn:k<n) (hF:R1.Flds v) (c1:v.cell? ⟨c,2,none⟩=some (.slice (some ⟨pb,0,none⟩) n n)) (c2:v.cell? ⟨pb,k*2+1,none⟩=some (Pt cb 0)) {a:Act}(hA:Fl 58 [(0,Pt c 0),(1,Pt t.tb 0)] a) (cs:List Frame) (Hm:Goroutine->Prop)
 (hH:∀ g,(∃ a,Fl 58 [(0,Pt c 0),(1,Pt t.tb 0),(6,I x),(8,I k)] a∧D5 (h==0) i j cb t.tb 1 Bi (fun r=>G (oLink a r) cs) g)->Hm g)
 (hvw:Rel z v w) (hn:Ah Ch v) (hm:Mem z S K v) (ht:S.thr[i]? = some t) (hK:K[j]? = some (cb,y)) (hz:z t.tb=some 2) (hcont:cont ⟨t.tb,2,none⟩=.chan (some t.gc))
 (hstop:∀ g w',E5 z cont h S.bk t.gc Hm (Then z Ch S K v (waiting S i t 1 1 j) K) g w'->Stop g w') :
 GoesI Tryd.prog (h==0) (DT (ScZ z) Ch) Stop (G (Jv a (I x)) cs) w:=by
 have HM:Hid (Mem z S K v):=⟨hm⟩
 clear hm
 unfold oLink at hH
 obtain ⟨hsz,hd,hpp⟩:=hA
 obtain ⟨u,rfl,hg⟩:=litN hsz hd
 have u0:=(hg 0).symm.trans (hpp (0,Pt c 0) (by simp))
 have u1:=(hg 1).symm.trans (hpp (1,Pt t.tb 0) (by simp))
 clear hg hpp hsz hd
 unfold Jv oO1 o2 oK oL oS Bd Tryd.f51 seq1 seq2 Ak Ar opsOf
 simp only[Option.getD_some,lits,Nat.reduceAdd,u0,u1]
 clear u0 u1
 have HK0:Hid (fstI x=(k:Int)+1):=⟨hk0⟩
 clear hk0
 have g0:w.cell? ⟨2,0,none⟩=some (I 0):=by rw[hvw.cell?];exact hF.c0
 have g1:w.cell? ⟨2,1,none⟩=some (I 32):=by rw[hvw.cell?];exact hF.c1
 walk_nrm
 iterate 1
  (refine Ad rfl rfl (by decide) (fun d K hK=>?_)
   go_simp
   refine hK _ _ ⟨Af (fun e he=>?_),GoesI.at ?_ d⟩
   ·have hm:=mem_listed he
    simp[go_sem, *] at hm
    try exact ⟨_,_,hm⟩
    try (rcases hm with rfl|rfl<;>exact ⟨_,_,rfl⟩)
   clear hK K)
 refine Ab (Aa _ _) ?_
 refine Ac (Aa _ _) ?_
 refine Ae (Aa _ _) ?_
 simp only[List.size_toArray,List.length_cons,List.length_nil,Nat.reduceAdd,Nat.zero_add,List.range,List.range.loop]
 iterate 2
  (refine Ad rfl rfl (by decide) (fun d K hK=>?_)
   go_simp
   refine hK _ _ ⟨Af (fun e he=>?_),GoesI.at ?_ d⟩
   ·have hm:=mem_listed he
    simp[go_sem, *] at hm
    try exact ⟨_,_,hm⟩
    try (rcases hm with rfl|rfl<;>exact ⟨_,_,rfl⟩)
   clear hK K)
 refine D2 (f:=45) (fn:=Tryd.f45) (args:=#[I x,R1.F 0 32]) hE Di rfl rfl (by decide) rfl (by simp[Act.eval,R1.F]) Tryd.func45 (by kernel_rfl) rfl (Cc Di (by simp[LT,Da]) Tryd.func45 rfl) (fun tmps=>⟨_,fun w=>results_tmp rfl _ _ _,fun w=>by simp[results,go_sem,Tryd.f45]⟩) hvw hn
  (R:=fun r v4=>r=I (fstI x)∧Grows v v4) (fun τ=>?_) (fun r v4 w4 hR hvw4 hn4=>?_)
 ·exact wp_mono (R1.Eg x 0 32 (Ap v τ 0) (by decide) (by decide) (by decide) _ rfl) (Dh fun r u hq=>⟨hq.1,gtape (Dl hq.2)⟩)
 obtain ⟨rfl,hg4⟩:=hR
 walk_nrm
 have hne:¬ (fstI x=0):=by have:=HK0.out;omega
 have hwr:IntKind.i64.wrap (fstI x - 1)=(k:Int):=by have:=HK0.out;have hx:=R1.Jd x;rw[IntKind.wrap_i64];omega
 have hkn':(k:Int)<(n:Int):=by omega
 have d1:w4.cell? ⟨c,2,none⟩=some (.slice (some ⟨pb,0,none⟩) n n):=by rw[hvw4.cell?];exact hg4.cell c1
 have d2:w4.cell? ⟨pb,k*2+1,none⟩=some (Pt cb 0):=by rw[hvw4.cell?];exact hg4.cell c2
 iterate 1
  (refine Ad rfl rfl (by decide) (fun d K hK=>?_)
   go_simp
   refine hK _ _ ⟨Af (fun e he=>?_),GoesI.at ?_ d⟩
   ·have hm:=mem_listed he
    simp[go_sem, *] at hm
    try exact ⟨_,_,hm⟩
    try (rcases hm with rfl|rfl<;>exact ⟨_,_,rfl⟩)
   clear hK K)
 refine Ab (Aa _ _) ?_
 refine Ac (Aa _ _) ?_
 refine Ac (Aa _ _) ?_
 refine Ae (Aa _ _) ?_
 simp only[List.size_toArray,List.length_cons,List.length_nil,Nat.reduceAdd,Nat.zero_add,List.range,List.range.loop]
 iterate 2
  (refine Ad rfl rfl (by decide) (fun d K hK=>?_)
   go_simp
   refine hK _ _ ⟨Af (fun e he=>?_),GoesI.at ?_ d⟩
   ·have hm:=mem_listed he
    simp[go_sem, *] at hm
    try exact ⟨_,_,hm⟩
    try (rcases hm with rfl|rfl<;>exact ⟨_,_,rfl⟩)
   clear hK K)
 refine Ab (Aa _ _) ?_
 refine Ax (Aa _ _) (t:=false) (by simp[Act.eval,hne]) ?_
 simp only[if_true,if_false,Bool.false_eq_true]
 refine Bh (Aa _ _) ?_
 refine Ac (Aa _ _) ?_
 refine Ae (Aa _ _) ?_
 simp only[List.size_toArray,List.length_cons,List.length_nil,Nat.reduceAdd,Nat.zero_add,List.range,List.range.loop]
 iterate 3
  (refine Ad rfl rfl (by decide) (fun d K hK=>?_)
   go_simp
   refine hK _ _ ⟨Af (fun e he=>?_),GoesI.at ?_ d⟩
   ·have hm:=mem_listed he
    simp[go_sem, *] at hm
    try exact ⟨_,_,hm⟩
    try (rcases hm with rfl|rfl<;>exact ⟨_,_,rfl⟩)
   clear hK K)
 refine Ab (Aa _ _) ?_
 refine Ac (Aa _ _) ?_
 unfold oO6 o6 o5 o3 o2 oK oL oS Bd Tryd.f51 seq1 seq2 Ak Ar opsOf at hH
 simp only[Option.getD_some] at hH
 refine Ae (Aa _ _) ?_
 simp only[List.size_toArray,List.length_cons,List.length_nil,Nat.reduceAdd,Nat.zero_add,List.range,List.range.loop]
 iterate 9
  (refine Ad rfl rfl (by decide) (fun d K hK=>?_)
   go_simp
   refine hK _ _ ⟨Af (fun e he=>?_),GoesI.at ?_ d⟩
   ·have hm:=mem_listed he
    simp[go_sem, *] at hm
    try exact ⟨_,_,hm⟩
    try (rcases hm with rfl|rfl<;>exact ⟨_,_,rfl⟩)
   clear hK K)
 have hm4:=HM.out.grows hg4
 refine Ao (f:=44) (fn:=Tryd.f44) (args:=#[Pt cb 0,Pt t.tb 0]) (Aa _ _) rfl rfl (by decide) rfl (by simp[Act.eval]) Tryd.func44 (by decide) rfl ?_
 exact Gy y _ Hm rfl (fun g hg=>hH g ⟨_,⟨rfl,rfl,by
  intro p hp
  simp only[List.mem_cons,List.not_mem_nil,or_false] at hp
  rcases hp with rfl|rfl|rfl|rfl<;>rfl⟩,hg⟩) hvw4 hn4 hm4.mem ht hK hz hcont (fun g w' hs=>hstop g w' (G1 (fun hT=>by obtain ⟨v',r1,r2,r3⟩:=hT;exact ⟨v',r1,r2,hm4.trans r3⟩) hs)) _ rfl
theorem pop_try {z:Nat->Option Nat}{Ch:Nat->Prop}{Stop:Goroutine->World->Prop}{main:Bool}{w:World}{c tb k:Nat}{x:Int}(f:Int) {a:Act}(hA:Fl 58 [(0,Pt c 0),(1,Pt tb 0),(6,I x),(8,I k)] a) (cs:List Frame)
 (hk:∀ a code,Tryd.f73.body=some code->Fl 58 [(0,Pt c 0),(1,Pt tb 0),(6,I x),(8,I k)] a->GoesI Tryd.prog main (DT (ScZ z) Ch) Stop (G ((base 73).at { tmps:=#[Pt c 0,Pt tb 0,I x,I f]++Array.replicate 18 undef,defers:=[] } [.code code]) (oTry a :: cs)) w) :
 GoesI Tryd.prog main (DT (ScZ z) Ch) Stop (G (oLink a (I f)) cs) w:=by
 unfold oTry at hk
 obtain ⟨hsz,hd,hpp⟩:=hA
 obtain ⟨u,rfl,hg⟩:=litN hsz hd
 have u0:=(hg 0).symm.trans (hpp (0,Pt c 0) (by simp))
 have u1:=(hg 1).symm.trans (hpp (1,Pt tb 0) (by simp))
 have u6:=(hg 6).symm.trans (hpp (6,I x) (by simp))
 have u8:=(hg 8).symm.trans (hpp (8,I k) (by simp))
 clear hg hpp hsz hd
 unfold oLink
 simp only[Option.getD_some,lits,Nat.reduceAdd,u0,u1,u6,u8]
 clear u0 u1 u6 u8
 unfold oO6 o6 o5 o3 o2 oK oL oS Bd Tryd.f51 seq1 seq2 Ak Ar opsOf
 simp only[Option.getD_some]
 walk_nrm
 iterate 1
  (refine Ad rfl rfl (by decide) (fun d K hK=>?_)
   go_simp
   refine hK _ _ ⟨Af (fun e he=>?_),GoesI.at ?_ d⟩
   ·have hm:=mem_listed he
    simp[go_sem, *] at hm
    try exact ⟨_,_,hm⟩
    try (rcases hm with rfl|rfl<;>exact ⟨_,_,rfl⟩)
   clear hK K)
 refine Ab (Aa _ _) ?_
 rw[eO7]
 refine Ac (Aa _ _) ?_
 refine Ac (Aa _ _) ?_
 unfold oO7 o7 o6 o5 o3 o2 oK oL oS Bd Tryd.f51 seq1 seq2 Ak Ar opsOf at hk ⊢
 simp only[Option.getD_some] at hk ⊢
 refine Ae (Aa _ _) ?_
 simp only[List.size_toArray,List.length_cons,List.length_nil,Nat.reduceAdd,Nat.zero_add,List.range,List.range.loop]
 iterate 4
  (refine Ad rfl rfl (by decide) (fun d K hK=>?_)
   go_simp
   refine hK _ _ ⟨Af (fun e he=>?_),GoesI.at ?_ d⟩
   ·have hm:=mem_listed he
    simp[go_sem, *] at hm
    try exact ⟨_,_,hm⟩
    try (rcases hm with rfl|rfl<;>exact ⟨_,_,rfl⟩)
   clear hK K)
 refine Ao (f:=73) (fn:=Tryd.f73) (args:=#[Pt c 0,Pt tb 0,I x,I f]) (Aa _ _) rfl rfl (by decide) rfl (by simp[Act.eval]) Tryd.func73 (by decide) rfl ?_
 exact hk _ _ rfl ⟨rfl,rfl,by
  intro p hp
  simp only[List.mem_cons,List.not_mem_nil,or_false] at hp
  rcases hp with rfl|rfl|rfl|rfl<;>rfl⟩
theorem pop_again {z:Nat->Option Nat}{Ch:Nat->Prop}{Stop:Goroutine->World->Prop}{main:Bool}{w:World}{c tb k:Nat}{x:Int}  {a:Act}(hA:Fl 58 [(0,Pt c 0),(1,Pt tb 0),(6,I x),(8,I k)] a) (cs:List Frame)
 (hk:∀ a,Fl 58 [(0,Pt c 0),(1,Pt tb 0)] a->GoesI Tryd.prog main (DT (ScZ z) Ch) Stop (G (oHead a) cs) w) :
 GoesI Tryd.prog main (DT (ScZ z) Ch) Stop (G (oTried a (.bool false)) cs) w:=by
 unfold oHead oE' at hk
 try simp only[Option.getD_some] at hk
 obtain ⟨hsz,hd,hpp⟩:=hA
 obtain ⟨u,rfl,hg⟩:=litN hsz hd
 have u0:=(hg 0).symm.trans (hpp (0,Pt c 0) (by simp))
 have u1:=(hg 1).symm.trans (hpp (1,Pt tb 0) (by simp))
 have u6:=(hg 6).symm.trans (hpp (6,I x) (by simp))
 have u8:=(hg 8).symm.trans (hpp (8,I k) (by simp))
 clear hg hpp hsz hd
 unfold oTried oO7 oC7 o7 o6 o5 o3 o2 oK oL oS Bd Tryd.f51 seq1 seq2 Ak Ar opsOf
 simp only[Option.getD_some,lits,Nat.reduceAdd,u0,u1,u6,u8]
 clear u0 u1 u6 u8
 walk_nrm
 iterate 1
  (refine Ad rfl rfl (by decide) (fun d K hK=>?_)
   go_simp
   refine hK _ _ ⟨Af (fun e he=>?_),GoesI.at ?_ d⟩
   ·have hm:=mem_listed he
    simp[go_sem, *] at hm
    try exact ⟨_,_,hm⟩
    try (rcases hm with rfl|rfl<;>exact ⟨_,_,rfl⟩)
   clear hK K)
 refine Ab (Aa _ _) ?_
 refine Ax (Aa _ _) (t:=true) (by simp[Act.eval]) ?_
 simp only[if_true,if_false,Bool.false_eq_true]
 rw[show oE=Item.inBlock 1 :: .inLoop oL :: [.inBlock 0,.inScope oS] from rfl]
 refine Em (Aa _ _) (k':=[.inLoop oL,.inBlock 0,.inScope oS]) rfl ?_
 refine Dy (Aa _ _) ?_
 exact hk _ ⟨rfl,rfl,by
  intro p hp
  simp only[List.mem_cons,List.not_mem_nil,or_false] at hp
  rcases hp with rfl|rfl<;>rfl⟩
theorem pop_val {z:Nat->Option Nat}{Ch:Nat->Prop}{Stop:Goroutine->World->Prop}{h:Nat}{cont:Addr->Value}{S:TS}{K:List (Nat×Int)}{v w:World}{i j cb:Nat}{t:Thr}{y:Int}{c pb n k:Nat}{x:Int}(hkn:k<n) (c1:v.cell? ⟨c,2,none⟩=some (.slice (some ⟨pb,0,none⟩) n n)) (c2:v.cell? ⟨pb,k*2,none⟩=some (Pt cb 0)) {a:Act}(hA:Fl 58 [(0,Pt c 0),(1,Pt t.tb 0),(6,I x),(8,I k)] a) (cs:List Frame) (Hm:Goroutine->Prop)
 (hH:∀ g,(∃ a,Fl 58 [(0,Pt c 0),(1,Pt t.tb 0),(8,I k)] a∧D5 (h==0) i j cb t.tb 1 Bi (fun r=>G (oVal a r) cs) g)->Hm g)
 (hvw:Rel z v w) (hn:Ah Ch v) (hm:Mem z S K v) (ht:S.thr[i]? = some t) (hK:K[j]? = some (cb,y)) (hz:z t.tb=some 2) (hcont:cont ⟨t.tb,2,none⟩=.chan (some t.gc))
 (hstop:∀ g w',E5 z cont h S.bk t.gc Hm (Then z Ch S K v (waiting S i t 1 1 j) K) g w'->Stop g w') :
 GoesI Tryd.prog (h==0) (DT (ScZ z) Ch) Stop (G (oTried a (.bool true)) cs) w:=by
 have HM:Hid (Mem z S K v):=⟨hm⟩
 clear hm
 unfold oVal at hH
 obtain ⟨hsz,hd,hpp⟩:=hA
 obtain ⟨u,rfl,hg⟩:=litN hsz hd
 have u0:=(hg 0).symm.trans (hpp (0,Pt c 0) (by simp))
 have u1:=(hg 1).symm.trans (hpp (1,Pt t.tb 0) (by simp))
 have u6:=(hg 6).symm.trans (hpp (6,I x) (by simp))
 have u8:=(hg 8).symm.trans (hpp (8,I k) (by simp))
 clear hg hpp hsz hd
 unfold oTried oO7 oC7 o7 o6 o5 o3 o2 oK oL oS Bd Tryd.f51 seq1 seq2 Ak Ar opsOf
 simp only[Option.getD_some,lits,Nat.reduceAdd,u0,u1,u6,u8]
 clear u0 u1 u6 u8
 have hkn':(k:Int)<(n:Int):=by omega
 have d1:w.cell? ⟨c,2,none⟩=some (.slice (some ⟨pb,0,none⟩) n n):=by rw[hvw.cell?];exact c1
 have d2:w.cell? ⟨pb,k*2,none⟩=some (Pt cb 0):=by rw[hvw.cell?];exact c2
 walk_nrm
 iterate 1
  (refine Ad rfl rfl (by decide) (fun d K hK=>?_)
   go_simp
   refine hK _ _ ⟨Af (fun e he=>?_),GoesI.at ?_ d⟩
   ·have hm:=mem_listed he
    simp[go_sem, *] at hm
    try exact ⟨_,_,hm⟩
    try (rcases hm with rfl|rfl<;>exact ⟨_,_,rfl⟩)
   clear hK K)
 refine Ab (Aa _ _) ?_
 refine Ax (Aa _ _) (t:=false) (by simp[Act.eval]) ?_
 simp only[if_true,if_false,Bool.false_eq_true]
 refine Bh (Aa _ _) ?_
 rw[eO8]
 refine Ac (Aa _ _) ?_
 unfold oO8 o8 o7 o6 o5 o3 o2 oK oL oS Bd Tryd.f51 seq1 seq2 Ak Ar opsOf at hH ⊢
 simp only[Option.getD_some] at hH ⊢
 refine Ae (Aa _ _) ?_
 simp only[List.size_toArray,List.length_cons,List.length_nil,Nat.reduceAdd,Nat.zero_add,List.range,List.range.loop]
 iterate 9
  (refine Ad rfl rfl (by decide) (fun d K hK=>?_)
   go_simp
   refine hK _ _ ⟨Af (fun e he=>?_),GoesI.at ?_ d⟩
   ·have hm:=mem_listed he
    simp[go_sem, *] at hm
    try exact ⟨_,_,hm⟩
    try (rcases hm with rfl|rfl<;>exact ⟨_,_,rfl⟩)
   clear hK K)
 refine Ao (f:=44) (fn:=Tryd.f44) (args:=#[Pt cb 0,Pt t.tb 0]) (Aa _ _) rfl rfl (by decide) rfl (by simp[Act.eval]) Tryd.func44 (by decide) rfl ?_
 exact Gy y _ Hm rfl (fun g hg=>hH g ⟨_,⟨rfl,rfl,by
  intro p hp
  simp only[List.mem_cons,List.not_mem_nil,or_false] at hp
  rcases hp with rfl|rfl|rfl<;>rfl⟩,hg⟩) hvw hn HM.out ht hK hz hcont hstop _ rfl
theorem pop_give {z:Nat->Option Nat}{Ch:Nat->Prop}{Stop:Goroutine->World->Prop}{main:Bool}{v w:World}{c s tb k:Nat}(y:Int) (c0:v.cell? ⟨c,0,none⟩=some (Pt s 0)) {a:Act}(hA:Fl 58 [(0,Pt c 0),(1,Pt tb 0),(8,I k)] a) (cs:List Frame) (hvw:Rel z v w)
 (hk:∀ a code,Tryd.f26.body=some code->Fl 58 [(0,Pt c 0),(1,Pt tb 0),(8,I k),(10,I y)] a->GoesI Tryd.prog main (DT (ScZ z) Ch) Stop (G ((base 26).at { tmps:=#[Pt s 0,Pt tb 0,I k]++Array.replicate 53 undef,defers:=[] } [.code code]) (oGive a :: cs)) w) :
 GoesI Tryd.prog main (DT (ScZ z) Ch) Stop (G (oVal a (I y)) cs) w:=by
 have d0:w.cell? ⟨c,0,none⟩=some (Pt s 0):=by rw[hvw.cell?];exact c0
 unfold oGive at hk
 obtain ⟨hsz,hd,hpp⟩:=hA
 obtain ⟨u,rfl,hg⟩:=litN hsz hd
 have u0:=(hg 0).symm.trans (hpp (0,Pt c 0) (by simp))
 have u1:=(hg 1).symm.trans (hpp (1,Pt tb 0) (by simp))
 have u8:=(hg 8).symm.trans (hpp (8,I k) (by simp))
 clear hg hpp hsz hd
 unfold oVal
 simp only[Option.getD_some,lits,Nat.reduceAdd,u0,u1,u8]
 clear u0 u1 u8
 unfold oO8 o8 o7 o6 o5 o3 o2 oK oL oS Bd Tryd.f51 seq1 seq2 Ak Ar opsOf
 simp only[Option.getD_some]
 walk_nrm
 iterate 1
  (refine Ad rfl rfl (by decide) (fun d K hK=>?_)
   go_simp
   refine hK _ _ ⟨Af (fun e he=>?_),GoesI.at ?_ d⟩
   ·have hm:=mem_listed he
    simp[go_sem, *] at hm
    try exact ⟨_,_,hm⟩
    try (rcases hm with rfl|rfl<;>exact ⟨_,_,rfl⟩)
   clear hK K)
 refine Ab (Aa _ _) ?_
 rw[eO9]
 refine Ac (Aa _ _) ?_
 unfold oO9 o9 o8 o7 o6 o5 o3 o2 oK oL oS Bd Tryd.f51 seq1 seq2 Ak Ar opsOf at hk ⊢
 simp only[Option.getD_some] at hk ⊢
 refine Ae (Aa _ _) ?_
 simp only[List.size_toArray,List.length_cons,List.length_nil,Nat.reduceAdd,Nat.zero_add,List.range,List.range.loop]
 iterate 6
  (refine Ad rfl rfl (by decide) (fun d K hK=>?_)
   go_simp
   refine hK _ _ ⟨Af (fun e he=>?_),GoesI.at ?_ d⟩
   ·have hm:=mem_listed he
    simp[go_sem, *] at hm
    try exact ⟨_,_,hm⟩
    try (rcases hm with rfl|rfl<;>exact ⟨_,_,rfl⟩)
   clear hK K)
 refine Ao (f:=26) (fn:=Tryd.f26) (args:=#[Pt s 0,Pt tb 0,I k]) (Aa _ _) rfl rfl (by decide) rfl (by simp[Act.eval]) Tryd.func26 (by decide) rfl ?_
 exact hk _ _ rfl ⟨rfl,rfl,by
  intro p hp
  simp only[List.mem_cons,List.not_mem_nil,or_false] at hp
  rcases hp with rfl|rfl|rfl|rfl<;>rfl⟩
theorem pop_done {z:Nat->Option Nat}{Ch:Nat->Prop}{Stop:Goroutine->World->Prop}{main:Bool}{v w:World}{c tb k:Nat}{y:Int}(r:Value) {a:Act}(hA:Fl 58 [(0,Pt c 0),(1,Pt tb 0),(8,I k),(10,I y)] a) (cs:List Frame) {bc:Frame}{ac:Act}{ops:Array Oper}{q:Nat}{rest:List Nat}{oc:Oper}{k0:List Item}(hoc:ops[q]? = some oc) (hvw:Rel z v w) (hn:Ah Ch v)
 (hk:∀ w',Rel z v w'->GoesI Tryd.prog main (DT (ScZ z) Ch) Stop (G (bc.at (ac.put oc.dst (.tuple #[I y,I 0])) (.inRegion ops rest :: k0)) cs) w') :
 GoesI Tryd.prog main (DT (ScZ z) Ch) Stop (G (oGave a r) (bc.at ac (.inRegion ops (q :: rest) :: k0) :: cs)) w:=by
 obtain ⟨hsz,hd,hpp⟩:=hA
 obtain ⟨u,rfl,hg⟩:=litN hsz hd
 have u0:=(hg 0).symm.trans (hpp (0,Pt c 0) (by simp))
 have u1:=(hg 1).symm.trans (hpp (1,Pt tb 0) (by simp))
 have u8:=(hg 8).symm.trans (hpp (8,I k) (by simp))
 have u10:=(hg 10).symm.trans (hpp (10,I y) (by simp))
 clear hg hpp hsz hd
 unfold oGave oO9 o10 o9 o8 o7 o6 o5 o3 o2 oK oL oS Bd Tryd.f51 seq1 seq2 Ak Ar opsOf
 simp only[Option.getD_some,lits,Nat.reduceAdd,u0,u1,u8,u10]
 clear u0 u1 u8 u10
 walk_nrm
 refine Ab (Aa _ _) ?_
 refine Ac (Aa _ _) ?_
 refine Ae (Aa _ _) ?_
 simp only[List.size_toArray,List.length_cons,List.length_nil,Nat.reduceAdd,Nat.zero_add,List.range,List.range.loop]
 iterate 3
  (refine Ad rfl rfl (by decide) (fun d K hK=>?_)
   go_simp
   refine hK _ _ ⟨Af (fun e he=>?_),GoesI.at ?_ d⟩
   ·have hm:=mem_listed he
    simp[go_sem, *] at hm
    try exact ⟨_,_,hm⟩
    try (rcases hm with rfl|rfl<;>exact ⟨_,_,rfl⟩)
   clear hK K)
 refine Ab (Aa _ _) ?_
 refine GoesI.ctl rfl (fun _=>stepG_ret') (Aa _ _) ?_
 exact B7 (f:=51) (fn:=Tryd.f51) (x:=.tuple #[I y,I 0]) hvw hn Tryd.func51 rfl hoc (by simp[results,go_sem,Tryd.f51]) (fun w' r'=>hk w' r')
end Go.Proofs.YtbbhahigofeacaaDoor.Gen
