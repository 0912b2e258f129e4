/- Of the proof of StackKeeps. Part 18 of 33. (Joined, by program, and written short, of: StTk, StGv.) -/
import Derived.Test.YtbbhahigofeacaaDoorStackKeeps17
set_option linter.unusedSimpArgs false
set_option linter.unusedVariables false
set_option maxHeartbeats 4000000
set_option maxRecDepth 100000
namespace Go.Proofs.YtbbhahigofeacaaDoor.Gen
open Go Go.Lift Go.Conc Go.RowKit
open R1 (fstI verI hdI)
noncomputable def tS:Code:=Bd (seq2 (Tryd.f25.body.getD .skip))
noncomputable def tL:Code:=Ar (Ak (seq2 tS))
noncomputable def tK:Code:=Ak tL
noncomputable def t2:Code:=seq2 tK
noncomputable def t3:Code:=seq2 t2
noncomputable def t5:Code:=seq2 t3
noncomputable def t6:Code:=seq2 t5
noncomputable def t7:Code:=seq2 t6
noncomputable def t8:Code:=seq2 t7
noncomputable def tO1:Array Oper:=opsOf (seq1 tK)
noncomputable def tO6:Array Oper:=opsOf (seq1 (seq1 t6))
noncomputable def tC6:Code:=seq2 (seq1 t6)
noncomputable def tO7:Array Oper:=opsOf (seq1 t7)
noncomputable def tE:List Item:=[.inBlock 1,.inLoop tL,.inBlock 0,.inScope tS]
noncomputable def tE':List Item:=[.inBlock 0,.inScope tS]
noncomputable def tHead (a:Act):Frame:=(base 25).at a (.code tL :: .inLoop tL :: tE')
noncomputable def Jr (a:Act) (r:Value):Frame:=(base 25).at (a.put (some 14) r) (.inRegion tO1 [6] :: .code t2 :: tE)
noncomputable def tNext (a:Act) (r:Value):Frame:=(base 25).at (a.put (some 34) r) (.inRegion tO6 [13,14] :: .code tC6 :: .code t7 :: tE)
noncomputable def tTry (a:Act):Frame:=(base 25).at a (.inRegion tO6 [13,14] :: .code tC6 :: .code t7 :: tE)
noncomputable def tTried (a:Act) (r:Value):Frame:=(base 25).at (a.put (some 35) r) (.inRegion tO6 [14] :: .code tC6 :: .code t7 :: tE)
noncomputable def tUsed (a:Act) (r:Value):Frame:=(base 25).at (a.put (some 46) r) (.inRegion tO7 [] :: .code t8 :: tE)
theorem tO6_13:(tO6[13]?).map (·.dst)=some (some 35):=by kernel_rfl
theorem eTB:Tryd.f25.body.getD .skip=.seq (.region 0 (opsOf (seq1 (Tryd.f25.body.getD .skip))) false) (.scope tS):=by kernel_rfl
theorem eTS:tS=.seq (.label 0) (.block 0 (.loop tL)):=by kernel_rfl
theorem eTL:tL=.block 1 tK:=by kernel_rfl
theorem take_in {z:Nat->Option Nat}{Ch:Nat->Prop}{Stop:Goroutine->World->Prop}{main:Bool}{w:World}{s tb:Nat}(cs:List Frame)
 (hk:∀ a,Fl 48 [(0,Pt s 0),(1,Pt tb 0)] a->GoesI Tryd.prog main (DT (ScZ z) Ch) Stop (G (tHead a) cs) w) (code:Code) (hc:Tryd.f25.body=some code) :
 GoesI Tryd.prog main (DT (ScZ z) Ch) Stop (G ((base 25).at { tmps:=#[Pt s 0,Pt tb 0]++Array.replicate 46 undef,defers:=[] } [.code code]) cs) w:=by
 have hw0:code=.seq (.region 0 (opsOf (seq1 (Tryd.f25.body.getD .skip))) false) (.scope tS):=by
  rw[show code=Tryd.f25.body.getD .skip by rw[hc];rfl];exact eTB
 subst hw0
 clear hc
 simp only[Array.replicate_succ,Array.replicate_zero,List.push_toArray,List.append_toArray,List.nil_append,List.cons_append]
 unfold tHead tE' at hk
 refine Ac (Aa _ _) ?_
 unfold Tryd.f25 seq1 opsOf
 simp only[Option.getD_some]
 refine Ae (Aa _ _) ?_
 simp only[List.size_toArray,List.length_cons,List.length_nil,Nat.reduceAdd,Nat.zero_add,List.range,List.range.loop]
 iterate 2
  (refine Ad rfl rfl (by decide) (fun d K hK=>?_)
   go_simp
   refine hK _ _ ⟨Af (fun e he=>?_),GoesI.at ?_ d⟩
   ·have hm:=mem_listed he
    simp[go_sem, *] at hm
    try exact ⟨_,_,hm⟩
    try (rcases hm with rfl|rfl<;>exact ⟨_,_,rfl⟩)
   clear hK K)
 refine Ab (Aa _ _) ?_
 refine Hn (Aa _ _) ?_
 generalize hq:Item.inScope tS=q at hk ⊢
 rw[eTS]
 refine Ac (Aa _ _) ?_
 refine Ja (Aa _ _) ?_
 refine Bm (Aa _ _) ?_
 refine Fq (Aa _ _) ?_
 exact hk _ ⟨rfl,rfl,by
  intro p hp
  simp only[List.mem_cons,List.not_mem_nil,or_false] at hp
  rcases hp with rfl|rfl<;>rfl⟩
theorem take_look {z:Nat->Option Nat}{Ch:Nat->Prop}{Stop:Goroutine->World->Prop}{h:Nat}{cont:Addr->Value}{S:TS}{K:List (Nat×Int)}{v w:World}{i j cb:Nat}{t:Thr}{y:Int}{s:Nat}(c0:v.cell? ⟨s,0,none⟩=some (Pt cb 0)) {a:Act}(hA:Fl 48 [(0,Pt s 0),(1,Pt t.tb 0)] a) (cs:List Frame) (Hm:Goroutine->Prop)
 (hH:∀ g,(∃ a,Fl 48 [(0,Pt s 0),(1,Pt t.tb 0)] a∧D5 (h==0) i j cb t.tb 1 Bi (fun r=>G (Jr a r) cs) g)->Hm g)
 (hvw:Rel z v w) (hn:Ah Ch v) (hm:Mem z S K v) (ht:S.thr[i]? = some t) (hK:K[j]? = some (cb,y)) (hz:z t.tb=some 2) (hcont:cont ⟨t.tb,2,none⟩=.chan (some t.gc))
 (hstop:∀ g w',E5 z cont h S.bk t.gc Hm (Then z Ch S K v (waiting S i t 1 1 j) K) g w'->Stop g w') :
 GoesI Tryd.prog (h==0) (DT (ScZ z) Ch) Stop (G (tHead a) cs) w:=by
 have HM:Hid (Mem z S K v):=⟨hm⟩
 clear hm
 unfold Jr tO1 t2 tK tL tS Bd Tryd.f25 seq1 seq2 Ak Ar opsOf at hH
 simp only[Option.getD_some] at hH
 obtain ⟨hsz,hd,hpp⟩:=hA
 obtain ⟨u,rfl,hg⟩:=litN hsz hd
 have u0:=(hg 0).symm.trans (hpp (0,Pt s 0) (by simp))
 have u1:=(hg 1).symm.trans (hpp (1,Pt t.tb 0) (by simp))
 clear hg hpp hsz hd
 unfold tHead
 simp only[Option.getD_some,lits,Nat.reduceAdd,u0,u1]
 clear u0 u1
 have c0w:w.cell? ⟨s,0,none⟩=some (Pt cb 0):=by rw[hvw.cell?];exact c0
 rw[show (Item.code tL :: Item.inLoop tL :: tE')=Item.code (.block 1 tK) :: Item.inLoop tL :: tE' by rw[←eTL]]
 refine Bm (Aa _ _) ?_
 rw[show (Item.inBlock 1 :: Item.inLoop tL :: tE')=tE from rfl]
 unfold tK tL tS Bd Tryd.f25 seq2 Ak Ar
 simp only[Option.getD_some]
 refine Ac (Aa _ _) ?_
 refine Ae (Aa _ _) ?_
 simp only[List.size_toArray,List.length_cons,List.length_nil,Nat.reduceAdd,Nat.zero_add,List.range,List.range.loop]
 iterate 5
  (refine Ad rfl rfl (by decide) (fun d K hK=>?_)
   go_simp
   refine hK _ _ ⟨Af (fun e he=>?_),GoesI.at ?_ d⟩
   ·have hm:=mem_listed he
    simp[go_sem, *] at hm
    try exact ⟨_,_,hm⟩
    try (rcases hm with rfl|rfl<;>exact ⟨_,_,rfl⟩)
   clear hK K)
 refine Ao (f:=44) (fn:=Tryd.f44) (args:=#[Pt cb 0,Pt t.tb 0]) (Aa _ _) rfl rfl (by decide) rfl (by simp[Act.eval]) Tryd.func44 (by decide) rfl ?_
 exact Gy y _ Hm rfl (fun g hg=>hH g ⟨_,⟨rfl,rfl,by
  intro p hp
  simp only[List.mem_cons,List.not_mem_nil,or_false] at hp
  rcases hp with rfl|rfl<;>rfl⟩,hg⟩) hvw hn HM.out ht hK hz hcont hstop _ rfl
theorem take_full {z:Nat->Option Nat}{Ch:Nat->Prop}{Stop:Goroutine->World->Prop}{main:Bool}{v w:World}{s tb:Nat}(x:Int) (h0:fstI x=0) (hF:R1.Flds v) {a:Act}(hA:Fl 48 [(0,Pt s 0),(1,Pt tb 0)] a) (cs:List Frame) {bc:Frame}{ac:Act}{ops:Array Oper}{q:Nat}{rest:List Nat}{oc:Oper}{k0:List Item}(hoc:ops[q]? = some oc) (hvw:Rel z v w) (hn:Ah Ch v)
 (hk:∀ v' w',Rel z v' w'->Ah Ch v'->Grows v v'->GoesI Tryd.prog main (DT (ScZ z) Ch) Stop (G (bc.at (ac.put oc.dst (.tuple #[I 0,I 80])) (.inRegion ops rest :: k0)) cs) w') :
 GoesI Tryd.prog main (DT (ScZ z) Ch) Stop (G (Jr a (I x)) (bc.at ac (.inRegion ops (q :: rest) :: k0) :: cs)) w:=by
 obtain ⟨hsz,hd,hpp⟩:=hA
 obtain ⟨u,rfl,hg⟩:=litN hsz hd
 have u0:=(hg 0).symm.trans (hpp (0,Pt s 0) (by simp))
 have u1:=(hg 1).symm.trans (hpp (1,Pt tb 0) (by simp))
 clear hg hpp hsz hd
 unfold Jr tO1 t2 tK tL tS Bd Tryd.f25 seq1 seq2 Ak Ar opsOf
 simp only[Option.getD_some,lits,Nat.reduceAdd,u0,u1]
 clear u0 u1
 have g0:w.cell? ⟨0,0,none⟩=some (I 0):=by rw[hvw.cell?];exact hF.a0
 have g1:w.cell? ⟨0,1,none⟩=some (I 32):=by rw[hvw.cell?];exact hF.a1
 walk_nrm
 iterate 1
  (refine Ad rfl rfl (by decide) (fun d K hK=>?_)
   go_simp
   refine hK _ _ ⟨Af (fun e he=>?_),GoesI.at ?_ d⟩
   ·have hm:=mem_listed he
    simp[go_sem, *] at hm
    try exact ⟨_,_,hm⟩
    try (rcases hm with rfl|rfl<;>exact ⟨_,_,rfl⟩)
   clear hK K)
 refine Ab (Aa _ _) ?_
 refine Ac (Aa _ _) ?_
 refine Ae (Aa _ _) ?_
 simp only[List.size_toArray,List.length_cons,List.length_nil,Nat.reduceAdd,Nat.zero_add,List.range,List.range.loop]
 iterate 2
  (refine Ad rfl rfl (by decide) (fun d K hK=>?_)
   go_simp
   refine hK _ _ ⟨Af (fun e he=>?_),GoesI.at ?_ d⟩
   ·have hm:=mem_listed he
    simp[go_sem, *] at hm
    try exact ⟨_,_,hm⟩
    try (rcases hm with rfl|rfl<;>exact ⟨_,_,rfl⟩)
   clear hK K)
 refine D2 (f:=45) (fn:=Tryd.f45) (args:=#[I x,R1.F 0 32]) hE Di rfl rfl (by decide) rfl (by simp[Act.eval,R1.F]) Tryd.func45 (by kernel_rfl) rfl (Cc Di (by simp[LT,Da]) Tryd.func45 rfl) (fun tmps=>⟨_,fun w=>results_tmp rfl _ _ _,fun w=>by simp[results,go_sem,Tryd.f45]⟩) hvw hn
  (R:=fun r v4=>r=I (fstI x)∧Grows v v4) (fun τ=>?_) (fun r v4 w4 hR hvw4 hn4=>?_)
 ·exact wp_mono (R1.Eg x 0 32 (Ap v τ 0) (by decide) (by decide) (by decide) _ rfl) (Dh fun r u hq=>⟨hq.1,gtape (Dl hq.2)⟩)
 obtain ⟨rfl,hg4⟩:=hR
 walk_nrm
 iterate 1
  (refine Ad rfl rfl (by decide) (fun d K hK=>?_)
   go_simp
   refine hK _ _ ⟨Af (fun e he=>?_),GoesI.at ?_ d⟩
   ·have hm:=mem_listed he
    simp[go_sem, *] at hm
    try exact ⟨_,_,hm⟩
    try (rcases hm with rfl|rfl<;>exact ⟨_,_,rfl⟩)
   clear hK K)
 refine Ab (Aa _ _) ?_
 refine Ac (Aa _ _) ?_
 refine Ac (Aa _ _) ?_
 refine Ae (Aa _ _) ?_
 simp only[List.size_toArray,List.length_cons,List.length_nil,Nat.reduceAdd,Nat.zero_add,List.range,List.range.loop]
 iterate 2
  (refine Ad rfl rfl (by decide) (fun d K hK=>?_)
   go_simp
   refine hK _ _ ⟨Af (fun e he=>?_),GoesI.at ?_ d⟩
   ·have hm:=mem_listed he
    simp[go_sem, *] at hm
    try exact ⟨_,_,hm⟩
    try (rcases hm with rfl|rfl<;>exact ⟨_,_,rfl⟩)
   clear hK K)
 refine Ab (Aa _ _) ?_
 refine Ax (Aa _ _) (t:=true) (by simp[Act.eval,h0]) ?_
 simp only[if_true,if_false,Bool.false_eq_true]
 refine Ac (Aa _ _) ?_
 refine Ae (Aa _ _) ?_
 simp only[List.size_toArray,List.length_cons,List.length_nil,Nat.reduceAdd,Nat.zero_add,List.range,List.range.loop]
 iterate 2
  (refine Ad rfl rfl (by decide) (fun d K hK=>?_)
   go_simp
   refine hK _ _ ⟨Af (fun e he=>?_),GoesI.at ?_ d⟩
   ·have hm:=mem_listed he
    simp[go_sem, *] at hm
    try exact ⟨_,_,hm⟩
    try (rcases hm with rfl|rfl<;>exact ⟨_,_,rfl⟩)
   clear hK K)
 refine Ab (Aa _ _) ?_
 refine GoesI.ctl rfl (fun _=>stepG_ret') (Aa _ _) ?_
 exact B7 (f:=25) (fn:=Tryd.f25) (x:=.tuple #[I 0,I 80]) hvw4 hn4 Tryd.func25 rfl hoc (by simp[results,go_sem,Tryd.f25]) (fun w' r'=>hk v4 w' r' hn4 hg4)
theorem take_next {z:Nat->Option Nat}{Ch:Nat->Prop}{Stop:Goroutine->World->Prop}{h:Nat}{cont:Addr->Value}{S:TS}{K:List (Nat×Int)}{v w:World}{i j cb:Nat}{t:Thr}{y:Int}{s sb n:Nat}{x:Int}(k:Nat) (hk0:fstI x=(k:Int)+1) (hkn:k<n) (hF:R1.Flds v) (c1:v.cell? ⟨s,1,none⟩=some (.slice (some ⟨sb,0,none⟩) n n)) (c2:v.cell? ⟨sb,k*2,none⟩=some (Pt cb 0)) {a:Act}(hA:Fl 48 [(0,Pt s 0),(1,Pt t.tb 0)] a) (cs:List Frame) (Hm:Goroutine->Prop)
 (hH:∀ g,(∃ a,Fl 48 [(0,Pt s 0),(1,Pt t.tb 0),(6,I x),(8,I k),(22,Pt s 0),(23,Pt t.tb 0),(24,I x)] a∧D5 (h==0) i j cb t.tb 1 Bi (fun r=>G (tNext a r) cs) g)->Hm g)
 (hvw:Rel z v w) (hn:Ah Ch v) (hm:Mem z S K v) (ht:S.thr[i]? = some t) (hK:K[j]? = some (cb,y)) (hz:z t.tb=some 2) (hcont:cont ⟨t.tb,2,none⟩=.chan (some t.gc))
 (hstop:∀ g w',E5 z cont h S.bk t.gc Hm (Then z Ch S K v (waiting S i t 1 1 j) K) g w'->Stop g w') :
 GoesI Tryd.prog (h==0) (DT (ScZ z) Ch) Stop (G (Jr a (I x)) cs) w:=by
 have HM:Hid (Mem z S K v):=⟨hm⟩
 clear hm
 unfold tNext tO6 tC6 t7 t6 t5 t3 t2 tK tL tS Bd Tryd.f25 seq1 seq2 Ak Ar opsOf at hH
 simp only[Option.getD_some] at hH
 obtain ⟨hsz,hd,hpp⟩:=hA
 obtain ⟨u,rfl,hg⟩:=litN hsz hd
 have u0:=(hg 0).symm.trans (hpp (0,Pt s 0) (by simp))
 have u1:=(hg 1).symm.trans (hpp (1,Pt t.tb 0) (by simp))
 clear hg hpp hsz hd
 unfold Jr tO1 t2 tK tL tS Bd Tryd.f25 seq1 seq2 Ak Ar opsOf
 simp only[Option.getD_some,lits,Nat.reduceAdd,u0,u1]
 clear u0 u1
 have HK0:Hid (fstI x=(k:Int)+1):=⟨hk0⟩
 clear hk0
 have g0:w.cell? ⟨0,0,none⟩=some (I 0):=by rw[hvw.cell?];exact hF.a0
 have g1:w.cell? ⟨0,1,none⟩=some (I 32):=by rw[hvw.cell?];exact hF.a1
 walk_nrm
 iterate 1
  (refine Ad rfl rfl (by decide) (fun d K hK=>?_)
   go_simp
   refine hK _ _ ⟨Af (fun e he=>?_),GoesI.at ?_ d⟩
   ·have hm:=mem_listed he
    simp[go_sem, *] at hm
    try exact ⟨_,_,hm⟩
    try (rcases hm with rfl|rfl<;>exact ⟨_,_,rfl⟩)
   clear hK K)
 refine Ab (Aa _ _) ?_
 refine Ac (Aa _ _) ?_
 refine Ae (Aa _ _) ?_
 simp only[List.size_toArray,List.length_cons,List.length_nil,Nat.reduceAdd,Nat.zero_add,List.range,List.range.loop]
 iterate 2
  (refine Ad rfl rfl (by decide) (fun d K hK=>?_)
   go_simp
   refine hK _ _ ⟨Af (fun e he=>?_),GoesI.at ?_ d⟩
   ·have hm:=mem_listed he
    simp[go_sem, *] at hm
    try exact ⟨_,_,hm⟩
    try (rcases hm with rfl|rfl<;>exact ⟨_,_,rfl⟩)
   clear hK K)
 refine D2 (f:=45) (fn:=Tryd.f45) (args:=#[I x,R1.F 0 32]) hE Di rfl rfl (by decide) rfl (by simp[Act.eval,R1.F]) Tryd.func45 (by kernel_rfl) rfl (Cc Di (by simp[LT,Da]) Tryd.func45 rfl) (fun tmps=>⟨_,fun w=>results_tmp rfl _ _ _,fun w=>by simp[results,go_sem,Tryd.f45]⟩) hvw hn
  (R:=fun r v4=>r=I (fstI x)∧Grows v v4) (fun τ=>?_) (fun r v4 w4 hR hvw4 hn4=>?_)
 ·exact wp_mono (R1.Eg x 0 32 (Ap v τ 0) (by decide) (by decide) (by decide) _ rfl) (Dh fun r u hq=>⟨hq.1,gtape (Dl hq.2)⟩)
 obtain ⟨rfl,hg4⟩:=hR
 walk_nrm
 have hne:¬ (fstI x=0):=by have:=HK0.out;omega
 have hwr:IntKind.i64.wrap (fstI x - 1)=(k:Int):=by have:=HK0.out;have hx:=R1.Jd x;rw[IntKind.wrap_i64];omega
 have hkn':(k:Int)<(n:Int):=by omega
 have d1:w4.cell? ⟨s,1,none⟩=some (.slice (some ⟨sb,0,none⟩) n n):=by rw[hvw4.cell?];exact hg4.cell c1
 have d2:w4.cell? ⟨sb,k*2,none⟩=some (Pt cb 0):=by rw[hvw4.cell?];exact hg4.cell c2
 iterate 1
  (refine Ad rfl rfl (by decide) (fun d K hK=>?_)
   go_simp
   refine hK _ _ ⟨Af (fun e he=>?_),GoesI.at ?_ d⟩
   ·have hm:=mem_listed he
    simp[go_sem, *] at hm
    try exact ⟨_,_,hm⟩
    try (rcases hm with rfl|rfl<;>exact ⟨_,_,rfl⟩)
   clear hK K)
 refine Ab (Aa _ _) ?_
 refine Ac (Aa _ _) ?_
 refine Ac (Aa _ _) ?_
 refine Ae (Aa _ _) ?_
 simp only[List.size_toArray,List.length_cons,List.length_nil,Nat.reduceAdd,Nat.zero_add,List.range,List.range.loop]
 iterate 2
  (refine Ad rfl rfl (by decide) (fun d K hK=>?_)
   go_simp
   refine hK _ _ ⟨Af (fun e he=>?_),GoesI.at ?_ d⟩
   ·have hm:=mem_listed he
    simp[go_sem, *] at hm
    try exact ⟨_,_,hm⟩
    try (rcases hm with rfl|rfl<;>exact ⟨_,_,rfl⟩)
   clear hK K)
 refine Ab (Aa _ _) ?_
 refine Ax (Aa _ _) (t:=false) (by simp[Act.eval,hne]) ?_
 simp only[if_true,if_false,Bool.false_eq_true]
 refine Bh (Aa _ _) ?_
 refine Ac (Aa _ _) ?_
 refine Ae (Aa _ _) ?_
 simp only[List.size_toArray,List.length_cons,List.length_nil,Nat.reduceAdd,Nat.zero_add,List.range,List.range.loop]
 iterate 3
  (refine Ad rfl rfl (by decide) (fun d K hK=>?_)
   go_simp
   refine hK _ _ ⟨Af (fun e he=>?_),GoesI.at ?_ d⟩
   ·have hm:=mem_listed he
    simp[go_sem, *] at hm
    try exact ⟨_,_,hm⟩
    try (rcases hm with rfl|rfl<;>exact ⟨_,_,rfl⟩)
   clear hK K)
 refine Ab (Aa _ _) ?_
 refine Ac (Aa _ _) ?_
 refine Ac (Aa _ _) ?_
 refine Ae (Aa _ _) ?_
 simp only[List.size_toArray,List.length_cons,List.length_nil,Nat.reduceAdd,Nat.zero_add,List.range,List.range.loop]
 iterate 12
  (refine Ad rfl rfl (by decide) (fun d K hK=>?_)
   go_simp
   refine hK _ _ ⟨Af (fun e he=>?_),GoesI.at ?_ d⟩
   ·have hm:=mem_listed he
    simp[go_sem, *] at hm
    try exact ⟨_,_,hm⟩
    try (rcases hm with rfl|rfl<;>exact ⟨_,_,rfl⟩)
   clear hK K)
 have hm4:=HM.out.grows hg4
 refine Ao (f:=44) (fn:=Tryd.f44) (args:=#[Pt cb 0,Pt t.tb 0]) (Aa _ _) rfl rfl (by decide) rfl (by simp[Act.eval]) Tryd.func44 (by decide) rfl ?_
 exact Gy y _ Hm rfl (fun g hg=>hH g ⟨_,⟨rfl,rfl,by
  intro p hp
  simp only[List.mem_cons,List.not_mem_nil,or_false] at hp
  rcases hp with rfl|rfl|rfl|rfl|rfl|rfl|rfl<;>rfl⟩,hg⟩) hvw4 hn4 hm4.mem ht hK hz hcont (fun g w' hs=>hstop g w' (G1 (fun hT=>by obtain ⟨v',r1,r2,r3⟩:=hT;exact ⟨v',r1,r2,hm4.trans r3⟩) hs)) _ rfl
theorem take_try {z:Nat->Option Nat}{Ch:Nat->Prop}{Stop:Goroutine->World->Prop}{main:Bool}{w:World}{s tb k:Nat}{x:Int}(f:Int) {a:Act}(hA:Fl 48 [(0,Pt s 0),(1,Pt tb 0),(6,I x),(8,I k),(22,Pt s 0),(23,Pt tb 0),(24,I x)] a) (cs:List Frame)
 (hk:∀ a code,Tryd.f46.body=some code->Fl 48 [(0,Pt s 0),(1,Pt tb 0),(6,I x),(8,I k)] a->GoesI Tryd.prog main (DT (ScZ z) Ch) Stop (G ((base 46).at { tmps:=#[Pt s 0,Pt tb 0,I x,I f]++Array.replicate 18 undef,defers:=[] } [.code code]) (tTry a :: cs)) w) :
 GoesI Tryd.prog main (DT (ScZ z) Ch) Stop (G (tNext a (I f)) cs) w:=by
 unfold tTry tO6 tC6 t7 t6 t5 t3 t2 tK tL tS Bd Tryd.f25 seq1 seq2 Ak Ar opsOf at hk
 simp only[Option.getD_some] at hk
 obtain ⟨hsz,hd,hpp⟩:=hA
 obtain ⟨u,rfl,hg⟩:=litN hsz hd
 have u0:=(hg 0).symm.trans (hpp (0,Pt s 0) (by simp))
 have u1:=(hg 1).symm.trans (hpp (1,Pt tb 0) (by simp))
 have u6:=(hg 6).symm.trans (hpp (6,I x) (by simp))
 have u8:=(hg 8).symm.trans (hpp (8,I k) (by simp))
 have u22:=(hg 22).symm.trans (hpp (22,Pt s 0) (by simp))
 have u23:=(hg 23).symm.trans (hpp (23,Pt tb 0) (by simp))
 have u24:=(hg 24).symm.trans (hpp (24,I x) (by simp))
 clear hg hpp hsz hd
 unfold tNext tO6 tC6 t7 t6 t5 t3 t2 tK tL tS Bd Tryd.f25 seq1 seq2 Ak Ar opsOf
 simp only[Option.getD_some,lits,Nat.reduceAdd,u0,u1,u6,u8,u22,u23,u24]
 clear u0 u1 u6 u8 u22 u23 u24
 walk_nrm
 refine Ao (f:=46) (fn:=Tryd.f46) (args:=#[Pt s 0,Pt tb 0,I x,I f]) (Aa _ _) rfl rfl (by decide) rfl (by simp[Act.eval]) Tryd.func46 (by decide) rfl ?_
 exact hk _ _ rfl ⟨rfl,rfl,by
  intro p hp
  simp only[List.mem_cons,List.not_mem_nil,or_false] at hp
  rcases hp with rfl|rfl|rfl|rfl<;>rfl⟩
theorem take_again {z:Nat->Option Nat}{Ch:Nat->Prop}{Stop:Goroutine->World->Prop}{main:Bool}{w:World}{s tb k:Nat}{x:Int}  {a:Act}(hA:Fl 48 [(0,Pt s 0),(1,Pt tb 0),(6,I x),(8,I k)] a) (cs:List Frame)
 (hk:∀ a,Fl 48 [(0,Pt s 0),(1,Pt tb 0)] a->GoesI Tryd.prog main (DT (ScZ z) Ch) Stop (G (tHead a) cs) w) :
 GoesI Tryd.prog main (DT (ScZ z) Ch) Stop (G (tTried a (.bool false)) cs) w:=by
 unfold tHead tE' at hk
 try simp only[Option.getD_some] at hk
 obtain ⟨hsz,hd,hpp⟩:=hA
 obtain ⟨u,rfl,hg⟩:=litN hsz hd
 have u0:=(hg 0).symm.trans (hpp (0,Pt s 0) (by simp))
 have u1:=(hg 1).symm.trans (hpp (1,Pt tb 0) (by simp))
 have u6:=(hg 6).symm.trans (hpp (6,I x) (by simp))
 have u8:=(hg 8).symm.trans (hpp (8,I k) (by simp))
 clear hg hpp hsz hd
 unfold tTried tO6 tC6 t7 t6 t5 t3 t2 tK tL tS Bd Tryd.f25 seq1 seq2 Ak Ar opsOf
 simp only[Option.getD_some,lits,Nat.reduceAdd,u0,u1,u6,u8]
 clear u0 u1 u6 u8
 walk_nrm
 iterate 1
  (refine Ad rfl rfl (by decide) (fun d K hK=>?_)
   go_simp
   refine hK _ _ ⟨Af (fun e he=>?_),GoesI.at ?_ d⟩
   ·have hm:=mem_listed he
    simp[go_sem, *] at hm
    try exact ⟨_,_,hm⟩
    try (rcases hm with rfl|rfl<;>exact ⟨_,_,rfl⟩)
   clear hK K)
 refine Ab (Aa _ _) ?_
 refine Ax (Aa _ _) (t:=true) (by simp[Act.eval]) ?_
 simp only[if_true,if_false,Bool.false_eq_true]
 rw[show tE=[Item.inBlock 1,.inLoop tL,.inBlock 0,.inScope tS] from rfl]
 refine Em (Aa _ _) (k':=[.inLoop tL,.inBlock 0,.inScope tS]) rfl ?_
 refine Dy (Aa _ _) ?_
 exact hk _ ⟨rfl,rfl,by
  intro p hp
  simp only[List.mem_cons,List.not_mem_nil,or_false] at hp
  rcases hp with rfl|rfl<;>rfl⟩
theorem take_won {z:Nat->Option Nat}{Ch:Nat->Prop}{Stop:Goroutine->World->Prop}{h:Nat}{cont:Addr->Value}{S:TS}{K:List (Nat×Int)}{v w:World}{i j cb:Nat}{t:Thr}{y:Int}{s sb n k:Nat}{x:Int}(hkn:k<n) (c1:v.cell? ⟨s,1,none⟩=some (.slice (some ⟨sb,0,none⟩) n n)) (c2:v.cell? ⟨sb,k*2+1,none⟩=some (Pt cb 0)) {a:Act}(hA:Fl 48 [(0,Pt s 0),(1,Pt t.tb 0),(6,I x),(8,I k)] a) (cs:List Frame) (Hm:Goroutine->Prop)
 (hH:∀ g,(∃ a,Fl 48 [(0,Pt s 0),(1,Pt t.tb 0),(6,I x),(8,I k)] a∧D5 (h==0) i j cb t.tb 2 (Bo (1)) (fun r=>G (tUsed a r) cs) g)->Hm g)
 (hvw:Rel z v w) (hn:Ah Ch v) (hm:Mem z S K v) (ht:S.thr[i]? = some t) (hK:K[j]? = some (cb,y)) (hz:z t.tb=some 2) (hcont:cont ⟨t.tb,2,none⟩=.chan (some t.gc))
 (hstop:∀ g w',E5 z cont h S.bk t.gc Hm (Then z Ch S K v (waiting S i t 1 2 j) K) g w'->Stop g w') :
 GoesI Tryd.prog (h==0) (DT (ScZ z) Ch) Stop (G (tTried a (.bool true)) cs) w:=by
 have HM:Hid (Mem z S K v):=⟨hm⟩
 clear hm
 unfold tUsed tO7 t8 t7 t6 t5 t3 t2 tK tL tS Bd Tryd.f25 seq1 seq2 Ak Ar opsOf at hH
 simp only[Option.getD_some] at hH
 obtain ⟨hsz,hd,hpp⟩:=hA
 obtain ⟨u,rfl,hg⟩:=litN hsz hd
 have u0:=(hg 0).symm.trans (hpp (0,Pt s 0) (by simp))
 have u1:=(hg 1).symm.trans (hpp (1,Pt t.tb 0) (by simp))
 have u6:=(hg 6).symm.trans (hpp (6,I x) (by simp))
 have u8:=(hg 8).symm.trans (hpp (8,I k) (by simp))
 clear hg hpp hsz hd
 unfold tTried tO6 tC6 t7 t6 t5 t3 t2 tK tL tS Bd Tryd.f25 seq1 seq2 Ak Ar opsOf
 simp only[Option.getD_some,lits,Nat.reduceAdd,u0,u1,u6,u8]
 clear u0 u1 u6 u8
 have hkn':(k:Int)<(n:Int):=by omega
 have d1:w.cell? ⟨s,1,none⟩=some (.slice (some ⟨sb,0,none⟩) n n):=by rw[hvw.cell?];exact c1
 have d2:w.cell? ⟨sb,k*2+1,none⟩=some (Pt cb 0):=by rw[hvw.cell?];exact c2
 walk_nrm
 iterate 1
  (refine Ad rfl rfl (by decide) (fun d K hK=>?_)
   go_simp
   refine hK _ _ ⟨Af (fun e he=>?_),GoesI.at ?_ d⟩
   ·have hm:=mem_listed he
    simp[go_sem, *] at hm
    try exact ⟨_,_,hm⟩
    try (rcases hm with rfl|rfl<;>exact ⟨_,_,rfl⟩)
   clear hK K)
 refine Ab (Aa _ _) ?_
 refine Ax (Aa _ _) (t:=false) (by simp[Act.eval]) ?_
 simp only[if_true,if_false,Bool.false_eq_true]
 refine Bh (Aa _ _) ?_
 refine Ac (Aa _ _) ?_
 refine Ae (Aa _ _) ?_
 simp only[List.size_toArray,List.length_cons,List.length_nil,Nat.reduceAdd,Nat.zero_add,List.range,List.range.loop]
 iterate 9
  (refine Ad rfl rfl (by decide) (fun d K hK=>?_)
   go_simp
   refine hK _ _ ⟨Af (fun e he=>?_),GoesI.at ?_ d⟩
   ·have hm:=mem_listed he
    simp[go_sem, *] at hm
    try exact ⟨_,_,hm⟩
    try (rcases hm with rfl|rfl<;>exact ⟨_,_,rfl⟩)
   clear hK K)
 refine Ao (f:=47) (fn:=Tryd.f47) (args:=#[Pt cb 0,Pt t.tb 0,I (1)]) (Aa _ _) rfl rfl (by decide) rfl (by simp[Act.eval]) Tryd.func47 (by decide) rfl ?_
 exact store_goes (1) y _ Hm rfl (fun g hg=>hH g ⟨_,⟨rfl,rfl,by
  intro p hp
  simp only[List.mem_cons,List.not_mem_nil,or_false] at hp
  rcases hp with rfl|rfl|rfl|rfl<;>rfl⟩,hg⟩) hvw hn HM.out ht hK hz hcont hstop _ rfl
theorem take_done {z:Nat->Option Nat}{Ch:Nat->Prop}{Stop:Goroutine->World->Prop}{main:Bool}{v w:World}{s tb k:Nat}{x:Int}(r:Value) {a:Act}(hA:Fl 48 [(0,Pt s 0),(1,Pt tb 0),(6,I x),(8,I k)] a) (cs:List Frame) {bc:Frame}{ac:Act}{ops:Array Oper}{q:Nat}{rest:List Nat}{oc:Oper}{k0:List Item}(hoc:ops[q]? = some oc) (hvw:Rel z v w) (hn:Ah Ch v)
 (hk:∀ w',Rel z v w'->GoesI Tryd.prog main (DT (ScZ z) Ch) Stop (G (bc.at (ac.put oc.dst (.tuple #[I k,I 0])) (.inRegion ops rest :: k0)) cs) w') :
 GoesI Tryd.prog main (DT (ScZ z) Ch) Stop (G (tUsed a r) (bc.at ac (.inRegion ops (q :: rest) :: k0) :: cs)) w:=by
 obtain ⟨hsz,hd,hpp⟩:=hA
 obtain ⟨u,rfl,hg⟩:=litN hsz hd
 have u0:=(hg 0).symm.trans (hpp (0,Pt s 0) (by simp))
 have u1:=(hg 1).symm.trans (hpp (1,Pt tb 0) (by simp))
 have u6:=(hg 6).symm.trans (hpp (6,I x) (by simp))
 have u8:=(hg 8).symm.trans (hpp (8,I k) (by simp))
 clear hg hpp hsz hd
 unfold tUsed tO7 t8 t7 t6 t5 t3 t2 tK tL tS Bd Tryd.f25 seq1 seq2 Ak Ar opsOf
 simp only[Option.getD_some,lits,Nat.reduceAdd,u0,u1,u6,u8]
 clear u0 u1 u6 u8
 walk_nrm
 refine Ab (Aa _ _) ?_
 refine Ac (Aa _ _) ?_
 refine Ae (Aa _ _) ?_
 simp only[List.size_toArray,List.length_cons,List.length_nil,Nat.reduceAdd,Nat.zero_add,List.range,List.range.loop]
 iterate 3
  (refine Ad rfl rfl (by decide) (fun d K hK=>?_)
   go_simp
   refine hK _ _ ⟨Af (fun e he=>?_),GoesI.at ?_ d⟩
   ·have hm:=mem_listed he
    simp[go_sem, *] at hm
    try exact ⟨_,_,hm⟩
    try (rcases hm with rfl|rfl<;>exact ⟨_,_,rfl⟩)
   clear hK K)
 refine Ab (Aa _ _) ?_
 refine GoesI.ctl rfl (fun _=>stepG_ret') (Aa _ _) ?_
 exact B7 (f:=25) (fn:=Tryd.f25) (x:=.tuple #[I k,I 0]) hvw hn Tryd.func25 rfl hoc (by simp[results,go_sem,Tryd.f25]) (fun w' r'=>hk w' r')
noncomputable def gS:Code:=Bd (seq2 (Tryd.f26.body.getD .skip))
noncomputable def g3:Code:=seq2 gS
noncomputable def g4:Code:=seq2 g3
noncomputable def gL:Code:=Ar (Ak (seq2 g4))
noncomputable def gK:Code:=Ak gL
noncomputable def g6:Code:=seq2 gK
noncomputable def g7:Code:=seq2 g6
noncomputable def g8:Code:=seq2 g7
noncomputable def gO3:Array Oper:=opsOf (seq1 (seq1 g3))
noncomputable def gC3:Code:=seq2 (seq1 g3)
noncomputable def gO5:Array Oper:=opsOf (seq1 gK)
noncomputable def gO6:Array Oper:=opsOf (seq1 g6)
noncomputable def gO7:Array Oper:=opsOf (seq1 (seq1 g7))
noncomputable def gC7:Code:=seq2 (seq1 g7)
noncomputable def gE':List Item:=[.inBlock 0,.inScope gS]
noncomputable def gE:List Item:=.inBlock 1 :: .inLoop gL :: gE'
noncomputable def gUsed (a:Act) (r:Value):Frame:=(base 26).at (a.put (some 28) r) (.inRegion gO3 [10] :: .code gC3 :: .code g4 :: [.inScope gS])
noncomputable def gHead (a:Act):Frame:=(base 26).at a (.code gL :: .inLoop gL :: gE')
noncomputable def gSeen (a:Act) (r:Value):Frame:=(base 26).at (a.put (some 35) r) (.inRegion gO5 [6] :: .code g6 :: gE)
noncomputable def gStored (a:Act) (r:Value):Frame:=(base 26).at (a.put (some 48) r) (.inRegion gO6 [] :: .code g7 :: gE)
noncomputable def gTry (a:Act):Frame:=(base 26).at a (.inRegion gO7 [5,6] :: .code gC7 :: .code g8 :: gE)
noncomputable def gTried (a:Act) (r:Value):Frame:=(base 26).at (a.put (some 54) r) (.inRegion gO7 [6] :: .code gC7 :: .code g8 :: gE)
theorem gO7_5:(gO7[5]?).map (·.dst)=some (some 54):=by kernel_rfl
theorem eGB:Tryd.f26.body.getD .skip=.seq (.region 0 (opsOf (seq1 (Tryd.f26.body.getD .skip))) false) (.scope gS):=by kernel_rfl
theorem eGS:gS=.seq (seq1 gS) g3:=by kernel_rfl
theorem eG3:g3=.seq (.seq (.region 3 gO3 false) gC3) g4:=by kernel_rfl
theorem eG4:g4=.seq (.label 0) (.block 0 (.loop gL)):=by kernel_rfl
theorem eGL:gL=.block 1 gK:=by kernel_rfl
theorem eG6:g6=.seq (.region 6 gO6 true) g7:=by kernel_rfl
theorem eG7:g7=.seq (.seq (.region 7 gO7 false) gC7) g8:=by kernel_rfl
theorem give_in {z:Nat->Option Nat}{Ch:Nat->Prop}{Stop:Goroutine->World->Prop}{h:Nat}{cont:Addr->Value}{S:TS}{K:List (Nat×Int)}{v w:World}{i j cb:Nat}{t:Thr}{y:Int}{s sb n k:Nat}(hkn:k<n) (c1:v.cell? ⟨s,1,none⟩=some (.slice (some ⟨sb,0,none⟩) n n)) (c2:v.cell? ⟨sb,k*2+1,none⟩=some (Pt cb 0)) (cs:List Frame) (Hm:Goroutine->Prop)
 (hH:∀ g,(∃ a,Fl 56 [(0,Pt s 0),(1,Pt t.tb 0),(2,I k)] a∧D5 (h==0) i j cb t.tb 4 (Bj 1 0) (fun r=>G (gUsed a r) cs) g)->Hm g)
 (hvw:Rel z v w) (hn:Ah Ch v) (hm:Mem z S K v) (ht:S.thr[i]? = some t) (hK:K[j]? = some (cb,y)) (hz:z t.tb=some 2) (hcont:cont ⟨t.tb,2,none⟩=.chan (some t.gc))
 (hstop:∀ g w',E5 z cont h S.bk t.gc Hm (Then z Ch S K v (waiting S i t 1 4 j) K) g w'->Stop g w') (code:Code) (hc:Tryd.f26.body=some code) :
 GoesI Tryd.prog (h==0) (DT (ScZ z) Ch) Stop (G ((base 26).at { tmps:=#[Pt s 0,Pt t.tb 0,I k]++Array.replicate 53 undef,defers:=[] } [.code code]) cs) w:=by
 have hw0:code=.seq (.region 0 (opsOf (seq1 (Tryd.f26.body.getD .skip))) false) (.scope gS):=by
  rw[show code=Tryd.f26.body.getD .skip by rw[hc];rfl];exact eGB
 subst hw0
 clear hc
 have HM:Hid (Mem z S K v):=⟨hm⟩
 clear hm
 have hkn':(k:Int)<(n:Int):=by omega
 have hkn2:¬ ((k:Int)<0):=by omega
 have hkn3:¬ ((n:Int)≤(k:Int)):=by omega
 have d1:w.cell? ⟨s,1,none⟩=some (.slice (some ⟨sb,0,none⟩) n n):=by rw[hvw.cell?];exact c1
 have d2:w.cell? ⟨sb,k*2+1,none⟩=some (Pt cb 0):=by rw[hvw.cell?];exact c2
 unfold gUsed at hH
 simp only[Array.replicate_succ,Array.replicate_zero,List.push_toArray,List.append_toArray,List.nil_append,List.cons_append]
 refine Ac (Aa _ _) ?_
 unfold Tryd.f26 seq1 opsOf
 simp only[Option.getD_some]
 refine Ae (Aa _ _) ?_
 simp only[List.size_toArray,List.length_cons,List.length_nil,Nat.reduceAdd,Nat.zero_add,List.range,List.range.loop]
 iterate 1
  (refine Ad rfl rfl (by decide) (fun d K hK=>?_)
   go_simp
   refine hK _ _ ⟨Af (fun e he=>?_),GoesI.at ?_ d⟩
   ·have hm:=mem_listed he
    simp[go_sem, *] at hm
    try exact ⟨_,_,hm⟩
    try (rcases hm with rfl|rfl<;>exact ⟨_,_,rfl⟩)
   clear hK K)
 refine Ab (Aa _ _) ?_
 refine Hn (Aa _ _) ?_
 generalize hq:Item.inScope gS=q at hH ⊢
 rw[eGS]
 refine Ac (Aa _ _) ?_
 unfold gS Bd Tryd.f26 seq1 seq2
 simp only[Option.getD_some]
 refine Ac (Aa _ _) ?_
 refine Ae (Aa _ _) ?_
 simp only[List.size_toArray,List.length_cons,List.length_nil,Nat.reduceAdd,Nat.zero_add,List.range,List.range.loop]
 iterate 11
  (refine Ad rfl rfl (by decide) (fun d K hK=>?_)
   go_simp
   refine hK _ _ ⟨Af (fun e he=>?_),GoesI.at ?_ d⟩
   ·have hm:=mem_listed he
    simp[go_sem, *] at hm
    try exact ⟨_,_,hm⟩
    try (rcases hm with rfl|rfl<;>exact ⟨_,_,rfl⟩)
   clear hK K)
 refine Ab (Aa _ _) ?_
 refine Ax (Aa _ _) (t:=false) (by simp[Act.eval,hkn2,hkn3]) ?_
 simp only[if_true,if_false,Bool.false_eq_true]
 refine Bh (Aa _ _) ?_
 rw[eG3]
 refine Ac (Aa _ _) ?_
 refine Ac (Aa _ _) ?_
 unfold gO3 g3 gS Bd Tryd.f26 seq1 seq2 opsOf at hH ⊢
 simp only[Option.getD_some] at hH ⊢
 refine Ae (Aa _ _) ?_
 simp only[List.size_toArray,List.length_cons,List.length_nil,Nat.reduceAdd,Nat.zero_add,List.range,List.range.loop]
 iterate 9
  (refine Ad rfl rfl (by decide) (fun d K hK=>?_)
   go_simp
   refine hK _ _ ⟨Af (fun e he=>?_),GoesI.at ?_ d⟩
   ·have hm:=mem_listed he
    simp[go_sem, *] at hm
    try exact ⟨_,_,hm⟩
    try (rcases hm with rfl|rfl<;>exact ⟨_,_,rfl⟩)
   clear hK K)
 refine Ao (f:=48) (fn:=Tryd.f48) (args:=#[Pt cb 0,Pt t.tb 0,I 1,I 0]) (Aa _ _) rfl rfl (by decide) rfl (by simp[Act.eval]) Tryd.func48 (by decide) rfl ?_
 exact cas_goes 1 0 y _ Hm rfl (fun g hg=>hH g ⟨_,⟨rfl,rfl,by
  intro p hp
  simp only[List.mem_cons,List.not_mem_nil,or_false] at hp
  rcases hp with rfl|rfl|rfl<;>rfl⟩,hg⟩) hvw hn HM.out ht hK hz hcont hstop _ rfl
theorem give_not {z:Nat->Option Nat}{Ch:Nat->Prop}{Stop:Goroutine->World->Prop}{main:Bool}{v w:World}{s tb k:Nat}  {a:Act}(hA:Fl 56 [(0,Pt s 0),(1,Pt tb 0),(2,I k)] a) (cs:List Frame) {bc:Frame}{ac:Act}{ops:Array Oper}{q:Nat}{rest:List Nat}{oc:Oper}{k0:List Item}(hoc:ops[q]? = some oc) (hvw:Rel z v w) (hn:Ah Ch v)
 (hk:∀ w',Rel z v w'->GoesI Tryd.prog main (DT (ScZ z) Ch) Stop (G (bc.at (ac.put oc.dst (I 81)) (.inRegion ops rest :: k0)) cs) w') :
 GoesI Tryd.prog main (DT (ScZ z) Ch) Stop (G (gUsed a (.bool false)) (bc.at ac (.inRegion ops (q :: rest) :: k0) :: cs)) w:=by
 obtain ⟨hsz,hd,hpp⟩:=hA
 obtain ⟨u,rfl,hg⟩:=litN hsz hd
 have u0:=(hg 0).symm.trans (hpp (0,Pt s 0) (by simp))
 have u1:=(hg 1).symm.trans (hpp (1,Pt tb 0) (by simp))
 have u2:=(hg 2).symm.trans (hpp (2,I k) (by simp))
 clear hg hpp hsz hd
 unfold gUsed gO3 gC3 g3 gS Bd Tryd.f26 seq1 seq2 opsOf
 simp only[Option.getD_some,lits,Nat.reduceAdd,u0,u1,u2]
 clear u0 u1 u2
 walk_nrm
 iterate 1
  (refine Ad rfl rfl (by decide) (fun d K hK=>?_)
   go_simp
   refine hK _ _ ⟨Af (fun e he=>?_),GoesI.at ?_ d⟩
   ·have hm:=mem_listed he
    simp[go_sem, *] at hm
    try exact ⟨_,_,hm⟩
    try (rcases hm with rfl|rfl<;>exact ⟨_,_,rfl⟩)
   clear hK K)
 refine Ab (Aa _ _) ?_
 refine Ax (Aa _ _) (t:=true) (by simp[Act.eval]) ?_
 simp only[if_true,if_false,Bool.false_eq_true]
 refine Ac (Aa _ _) ?_
 refine Ae (Aa _ _) ?_
 simp only[List.size_toArray,List.length_cons,List.length_nil,Nat.reduceAdd,Nat.zero_add,List.range,List.range.loop]
 iterate 1
  (refine Ad rfl rfl (by decide) (fun d K hK=>?_)
   go_simp
   refine hK _ _ ⟨Af (fun e he=>?_),GoesI.at ?_ d⟩
   ·have hm:=mem_listed he
    simp[go_sem, *] at hm
    try exact ⟨_,_,hm⟩
    try (rcases hm with rfl|rfl<;>exact ⟨_,_,rfl⟩)
   clear hK K)
 refine Ab (Aa _ _) ?_
 refine GoesI.ctl rfl (fun _=>stepG_ret') (Aa _ _) ?_
 exact B7 (f:=26) (fn:=Tryd.f26) (x:=I 81) hvw hn Tryd.func26 rfl hoc (by simp[results,go_sem,Tryd.f26]) (fun w' r'=>hk w' r')
theorem give_goes {z:Nat->Option Nat}{Ch:Nat->Prop}{Stop:Goroutine->World->Prop}{main:Bool}{w:World}{s tb k:Nat}  {a:Act}(hA:Fl 56 [(0,Pt s 0),(1,Pt tb 0),(2,I k)] a) (cs:List Frame)
 (hk:∀ a,Fl 56 [(0,Pt s 0),(1,Pt tb 0),(2,I k)] a->GoesI Tryd.prog main (DT (ScZ z) Ch) Stop (G (gHead a) cs) w) :
 GoesI Tryd.prog main (DT (ScZ z) Ch) Stop (G (gUsed a (.bool true)) cs) w:=by
 unfold gHead gE' at hk
 try simp only[Option.getD_some] at hk
 obtain ⟨hsz,hd,hpp⟩:=hA
 obtain ⟨u,rfl,hg⟩:=litN hsz hd
 have u0:=(hg 0).symm.trans (hpp (0,Pt s 0) (by simp))
 have u1:=(hg 1).symm.trans (hpp (1,Pt tb 0) (by simp))
 have u2:=(hg 2).symm.trans (hpp (2,I k) (by simp))
 clear hg hpp hsz hd
 unfold gUsed gO3 gC3
 simp only[Option.getD_some,lits,Nat.reduceAdd,u0,u1,u2]
 clear u0 u1 u2
 unfold g3 gS Bd Tryd.f26 seq1 seq2 opsOf
 simp only[Option.getD_some]
 walk_nrm
 iterate 1
  (refine Ad rfl rfl (by decide) (fun d K hK=>?_)
   go_simp
   refine hK _ _ ⟨Af (fun e he=>?_),GoesI.at ?_ d⟩
   ·have hm:=mem_listed he
    simp[go_sem, *] at hm
    try exact ⟨_,_,hm⟩
    try (rcases hm with rfl|rfl<;>exact ⟨_,_,rfl⟩)
   clear hK K)
 refine Ab (Aa _ _) ?_
 refine Ax (Aa _ _) (t:=false) (by simp[Act.eval]) ?_
 simp only[if_true,if_false,Bool.false_eq_true]
 refine Bh (Aa _ _) ?_
 rw[show g4=.seq (.label 0) (.block 0 (.loop gL)) from eG4]
 refine Ac (Aa _ _) ?_
 refine Ja (Aa _ _) ?_
 refine Bm (Aa _ _) ?_
 refine Fq (Aa _ _) ?_
 exact hk _ ⟨rfl,rfl,by
  intro p hp
  simp only[List.mem_cons,List.not_mem_nil,or_false] at hp
  rcases hp with rfl|rfl|rfl<;>rfl⟩
theorem give_look {z:Nat->Option Nat}{Ch:Nat->Prop}{Stop:Goroutine->World->Prop}{h:Nat}{cont:Addr->Value}{S:TS}{K:List (Nat×Int)}{v w:World}{i j cb:Nat}{t:Thr}{y:Int}{s k:Nat}(c0:v.cell? ⟨s,0,none⟩=some (Pt cb 0)) {a:Act}(hA:Fl 56 [(0,Pt s 0),(1,Pt t.tb 0),(2,I k)] a) (cs:List Frame) (Hm:Goroutine->Prop)
 (hH:∀ g,(∃ a,Fl 56 [(0,Pt s 0),(1,Pt t.tb 0),(2,I k)] a∧D5 (h==0) i j cb t.tb 1 Bi (fun r=>G (gSeen a r) cs) g)->Hm g)
 (hvw:Rel z v w) (hn:Ah Ch v) (hm:Mem z S K v) (ht:S.thr[i]? = some t) (hK:K[j]? = some (cb,y)) (hz:z t.tb=some 2) (hcont:cont ⟨t.tb,2,none⟩=.chan (some t.gc))
 (hstop:∀ g w',E5 z cont h S.bk t.gc Hm (Then z Ch S K v (waiting S i t 1 1 j) K) g w'->Stop g w') :
 GoesI Tryd.prog (h==0) (DT (ScZ z) Ch) Stop (G (gHead a) cs) w:=by
 have HM:Hid (Mem z S K v):=⟨hm⟩
 clear hm
 unfold gSeen gO5 at hH
 obtain ⟨hsz,hd,hpp⟩:=hA
 obtain ⟨u,rfl,hg⟩:=litN hsz hd
 have u0:=(hg 0).symm.trans (hpp (0,Pt s 0) (by simp))
 have u1:=(hg 1).symm.trans (hpp (1,Pt t.tb 0) (by simp))
 have u2:=(hg 2).symm.trans (hpp (2,I k) (by simp))
 clear hg hpp hsz hd
 unfold gHead
 simp only[Option.getD_some,lits,Nat.reduceAdd,u0,u1,u2]
 clear u0 u1 u2
 have c0w:w.cell? ⟨s,0,none⟩=some (Pt cb 0):=by rw[hvw.cell?];exact c0
 rw[show (Item.code gL :: Item.inLoop gL :: gE')=Item.code (.block 1 gK) :: Item.inLoop gL :: gE' by rw[←eGL]]
 refine Bm (Aa _ _) ?_
 rw[show (Item.inBlock 1 :: Item.inLoop gL :: gE')=gE from rfl,show gK=.seq (seq1 gK) g6 from by kernel_rfl]
 refine Ac (Aa _ _) ?_
 unfold gK gL g4 g3 gS Bd Tryd.f26 seq1 seq2 Ak Ar opsOf at hH
 unfold gK gL g4 g3 gS Bd Tryd.f26 seq1 seq2 Ak Ar
 simp only[Option.getD_some] at hH ⊢
 refine Ae (Aa _ _) ?_
 simp only[List.size_toArray,List.length_cons,List.length_nil,Nat.reduceAdd,Nat.zero_add,List.range,List.range.loop]
 iterate 5
  (refine Ad rfl rfl (by decide) (fun d K hK=>?_)
   go_simp
   refine hK _ _ ⟨Af (fun e he=>?_),GoesI.at ?_ d⟩
   ·have hm:=mem_listed he
    simp[go_sem, *] at hm
    try exact ⟨_,_,hm⟩
    try (rcases hm with rfl|rfl<;>exact ⟨_,_,rfl⟩)
   clear hK K)
 refine Ao (f:=44) (fn:=Tryd.f44) (args:=#[Pt cb 0,Pt t.tb 0]) (Aa _ _) rfl rfl (by decide) rfl (by simp[Act.eval]) Tryd.func44 (by decide) rfl ?_
 exact Gy y _ Hm rfl (fun g hg=>hH g ⟨_,⟨rfl,rfl,by
  intro p hp
  simp only[List.mem_cons,List.not_mem_nil,or_false] at hp
  rcases hp with rfl|rfl|rfl<;>rfl⟩,hg⟩) hvw hn HM.out ht hK hz hcont hstop _ rfl
def val_g6 (s sb n m cb tb:Nat) (x:Int):Nat->Value
 |0=>Pt s 0
 |1=>Pt s 0
 |2=>Pt s 1
 |3=>.slice (some ⟨sb,0,none⟩) n n
 |4=>I m
 |5=>Pt sb (m*2)
 |6=>Pt sb (m*2)
 |7=>Pt cb 0
 |8=>Pt tb 0
 |9=>I x
 |10=>.agg #[I 0,I 32]
 |11=>I (fstI x)
 |_=>undef
theorem reg_g6:regOk gO6 12 36=true:=by kernel_rfl
theorem Ix:((gO6.extract 0 12).all fun o=>Et Tryd.prog true o.op||Hf Da I5 o.op)=true:=by kernel_rfl
theorem g6_pre {z:Nat->Option Nat}{Ch:Nat->Prop}{Stop:Goroutine->World->Prop}{main:Bool}{v w:World}(s sb n m cb tb:Nat) (x:Int) (hkn:m<n) {a:Act}(hA:Fl 56 [(0,Pt s 0),(1,Pt tb 0),(2,I m),(7,I x)] a) (k:List Item) (cs:List Frame) (hF:R1.Flds v) (h1:v.cell? ⟨s,1,none⟩=some (.slice (some ⟨sb,0,none⟩) n n)) (h2:v.cell? ⟨sb,m*2,none⟩=some (Pt cb 0)) (hvw:Rel z v w) (hn:Ah Ch v)
 (hN:∀ v1 w1 a' o,gO6[12]? = some o->(∀ y,Region.wanted o y=true)->Fl 56 [(0,Pt s 0),(1,Pt tb 0),(2,I m),(7,I x),(43,Pt cb 0),(44,Pt tb 0),(47,I (fstI x))] a'->Rel z v1 w1->Ah Ch v1->Grows v v1->GoesI Tryd.prog main (DT (ScZ z) Ch) Stop (G ((base 26).at a' (.inRegion gO6 [12] :: k)) cs) w1) :
 GoesI Tryd.prog main (DT (ScZ z) Ch) Stop (G ((base 26).at a (.code (.region 6 gO6 true) :: k)) cs) w:=by
 refine region_in (val:=val_g6 s sb n m cb tb x) reg_g6 (by rw[hA.1];decide) hvw hn ?_ ?_
 ·intro i0 o rest a' v1 w1 hi ho hw ev ev0 r1 n1 g1 hk
  match i0,hi,ho,ev,hk with
  |0,_,ho,ev,hk=>have l0:a'.eval (.tmp 0)=Pt s 0:=(ev0 0 (by decide)).trans (hA.at 0 _ (by simp));exact Be ho hw (by simp[base]) (p:=Op.move (Operand.tmp 0)) (by kernel_rfl) (Bf Ix (by decide) ho) r1 n1 (x:=Pt s 0) rfl (fun o' h'=>by unfold execOp;rw[h'];simp only[l0];simp[go_sem]) hk
  |1,_,ho,ev,hk=>have l0:a'.eval (.tmp 36)=Pt s 0:=ev 0 (by decide) (by kernel_rfl);exact Be ho hw (by simp[base]) (p:=Op.nilCheck (Operand.tmp 36)) (by kernel_rfl) (Bf Ix (by decide) ho) r1 n1 (x:=Pt s 0) rfl (fun o' h'=>by unfold execOp;rw[h'];simp only[l0];simp[go_sem]) hk
  |2,_,ho,ev,hk=>have l0:a'.eval (.tmp 37)=Pt s 0:=ev 1 (by decide) (by kernel_rfl);exact Be ho hw (by simp[base]) (p:=Op.fieldAddr 91 (Operand.tmp 37) 1) (by kernel_rfl) (Bf Ix (by decide) ho) r1 n1 (x:=Pt s 1) rfl (fun o' h'=>by unfold execOp;rw[h'];simp only[l0];simp[go_sem]) hk
  |3,_,ho,ev,hk=>have l0:a'.eval (.tmp 38)=Pt s 1:=ev 2 (by decide) (by kernel_rfl);have c0:=g1.cell h1;exact Be ho hw (by simp[base]) (p:=Op.load 88 (Operand.tmp 38)) (by kernel_rfl) (Bf Ix (by decide) ho) r1 n1 (x:=.slice (some ⟨sb,0,none⟩) n n) rfl (fun o' h'=>by unfold execOp;rw[h'];simp only[l0];simp[go_sem,c0]) hk
  |4,_,ho,ev,hk=>have l0:a'.eval (.tmp 2)=I m:=(ev0 2 (by decide)).trans (hA.at 2 _ (by simp));exact Be ho hw (by simp[base]) (p:=Op.move (Operand.tmp 2)) (by kernel_rfl) (Bf Ix (by decide) ho) r1 n1 (x:=I m) rfl (fun o' h'=>by unfold execOp;rw[h'];simp only[l0];simp[go_sem]) hk
  |5,_,ho,ev,hk=>have l0:a'.eval (.tmp 39)=.slice (some ⟨sb,0,none⟩) n n:=ev 3 (by decide) (by kernel_rfl);have l1:a'.eval (.tmp 40)=I m:=ev 4 (by decide) (by kernel_rfl);have hk1:(m:Int)<(n:Int):=Int.ofNat_lt.2 hkn;exact Be ho hw (by simp[base]) (p:=Op.indexAddr 88 (Operand.tmp 39) (Operand.tmp 40)) (by kernel_rfl) (Bf Ix (by decide) ho) r1 n1 (x:=Pt sb (m*2)) rfl (fun o' h'=>by unfold execOp;rw[h'];simp only[l0,l1];simp[go_sem,hk1]) hk
  |6,_,ho,ev,hk=>have l0:a'.eval (.tmp 41)=Pt sb (m*2):=ev 5 (by decide) (by kernel_rfl);exact Be ho hw (by simp[base]) (p:=Op.fieldAddr 94 (Operand.tmp 41) 0) (by kernel_rfl) (Bf Ix (by decide) ho) r1 n1 (x:=Pt sb (m*2)) rfl (fun o' h'=>by unfold execOp;rw[h'];simp only[l0];simp[go_sem]) hk
  |7,_,ho,ev,hk=>have l0:a'.eval (.tmp 42)=Pt sb (m*2):=ev 6 (by decide) (by kernel_rfl);have c0:=g1.cell h2;exact Be ho hw (by simp[base]) (p:=Op.load 89 (Operand.tmp 42)) (by kernel_rfl) (Bf Ix (by decide) ho) r1 n1 (x:=Pt cb 0) rfl (fun o' h'=>by unfold execOp;rw[h'];simp only[l0];simp[go_sem,c0]) hk
  |8,_,ho,ev,hk=>have l0:a'.eval (.tmp 1)=Pt tb 0:=(ev0 1 (by decide)).trans (hA.at 1 _ (by simp));exact Be ho hw (by simp[base]) (p:=Op.move (Operand.tmp 1)) (by kernel_rfl) (Bf Ix (by decide) ho) r1 n1 (x:=Pt tb 0) rfl (fun o' h'=>by unfold execOp;rw[h'];simp only[l0];simp[go_sem]) hk
  |9,_,ho,ev,hk=>have l0:a'.eval (.tmp 7)=I x:=(ev0 7 (by decide)).trans (hA.at 7 _ (by simp));exact Be ho hw (by simp[base]) (p:=Op.move (Operand.tmp 7)) (by kernel_rfl) (Bf Ix (by decide) ho) r1 n1 (x:=I x) rfl (fun o' h'=>by unfold execOp;rw[h'];simp only[l0];simp[go_sem]) hk
  |10,_,ho,ev,hk=>have c0:=g1.cell hF.a0;have c1:=g1.cell hF.a1;exact Be ho hw (by simp[base]) (p:=Op.load 98 (Operand.global 0)) (by kernel_rfl) (Bf Ix (by decide) ho) r1 n1 (x:=.agg #[I 0,I 32]) rfl (fun o' h'=>by unfold execOp;rw[h'];simp only[Act.eval];simp[go_sem,c0,c1]) hk
  |11,_,ho,ev,hk =>
   have l0:a'.eval (.tmp 45)=I x:=ev 9 (by decide) (by kernel_rfl);have l1:a'.eval (.tmp 46)=.agg #[I 0,I 32]:=ev 10 (by decide) (by kernel_rfl)
   exact Jt (f:=45) (fn:=Tryd.f45) (xs:=#[.tmp 45,.tmp 46]) (ats:=#[3,98]) (args:=#[I x,.agg #[I 0,I 32]]) ho hw (by simp[base]) (by kernel_rfl) (by simp only[List.map_toArray,List.map_cons,List.map_nil,l0,l1]) Tryd.func45 (by kernel_rfl) rfl (Cc Di (by simp[LT,Da]) Tryd.func45 rfl) (fun tmps=>⟨_,fun w=>results_tmp rfl _ _ _,fun w=>by simp[results,go_sem,Tryd.f45]⟩) r1 n1 (x:=I (fstI x)) rfl (fun τ=>wp_mono (R1.Eg x 0 32 (Ap v1 τ 0) (by decide) (by decide) (by decide) _ rfl) (Dh fun r u hq=>⟨hq.1,gtape (Dl hq.2)⟩)) hk
 ·intro v1 w1 o ho hw r1 n1 g1
  refine hN v1 w1 _ o ho hw ⟨(Gx _ _ _ _).trans hA.1,(F4 _ _ _ _).trans hA.2.1,?_⟩ r1 n1 g1
  have hsz:36+12≤a.tmps.size:=by rw[hA.1];decide
  intro p hp
  simp only[List.mem_cons,List.not_mem_nil,or_false] at hp
  rcases hp with rfl|rfl|rfl|rfl|rfl|rfl|rfl
  ·rw[Array.getD_eq_getD_getElem?,Bl _ _ _ _ _ hsz,if_neg (by simp),←Array.getD_eq_getD_getElem?];exact hA.2.2 (0,Pt s 0) (by simp)
  ·rw[Array.getD_eq_getD_getElem?,Bl _ _ _ _ _ hsz,if_neg (by simp),←Array.getD_eq_getD_getElem?];exact hA.2.2 (1,Pt tb 0) (by simp)
  ·rw[Array.getD_eq_getD_getElem?,Bl _ _ _ _ _ hsz,if_neg (by simp),←Array.getD_eq_getD_getElem?];exact hA.2.2 (2,I m) (by simp)
  ·rw[Array.getD_eq_getD_getElem?,Bl _ _ _ _ _ hsz,if_neg (by simp),←Array.getD_eq_getD_getElem?];exact hA.2.2 (7,I x) (by simp)
  ·rw[Array.getD_eq_getD_getElem?,Bl _ _ _ _ _ hsz,if_pos (by simp)];rfl
  ·rw[Array.getD_eq_getD_getElem?,Bl _ _ _ _ _ hsz,if_pos (by simp)];rfl
  ·rw[Array.getD_eq_getD_getElem?,Bl _ _ _ _ _ hsz,if_pos (by simp)];rfl
theorem give_next {z:Nat->Option Nat}{Ch:Nat->Prop}{Stop:Goroutine->World->Prop}{h:Nat}{cont:Addr->Value}{S:TS}{K:List (Nat×Int)}{v w:World}{i j cb:Nat}{t:Thr}{y:Int}{s sb n k:Nat}{x:Int}(hkn:k<n) (hF:R1.Flds v) (h1:v.cell? ⟨s,1,none⟩=some (.slice (some ⟨sb,0,none⟩) n n)) (h2:v.cell? ⟨sb,k*2,none⟩=some (Pt cb 0)) {a:Act}(hA:Fl 56 [(0,Pt s 0),(1,Pt t.tb 0),(2,I k)] a) (cs:List Frame) (Hm:Goroutine->Prop)
 (hH:∀ g,(∃ a,Fl 56 [(0,Pt s 0),(1,Pt t.tb 0),(2,I k),(7,I x)] a∧D5 (h==0) i j cb t.tb 2 (Bo (fstI x)) (fun r=>G (gStored a r) cs) g)->Hm g)
 (hvw:Rel z v w) (hn:Ah Ch v) (hm:Mem z S K v) (ht:S.thr[i]? = some t) (hK:K[j]? = some (cb,y)) (hz:z t.tb=some 2) (hcont:cont ⟨t.tb,2,none⟩=.chan (some t.gc))
 (hstop:∀ g w',E5 z cont h S.bk t.gc Hm (Then z Ch S K v (waiting S i t 1 2 j) K) g w'->Stop g w') :
 GoesI Tryd.prog (h==0) (DT (ScZ z) Ch) Stop (G (gSeen a (I x)) cs) w:=by
 have HM:Hid (Mem z S K v):=⟨hm⟩
 clear hm
 obtain ⟨hsz,hd,hpp⟩:=hA
 obtain ⟨u,rfl,hg⟩:=litN hsz hd
 have u0:=(hg 0).symm.trans (hpp (0,Pt s 0) (by simp))
 have u1:=(hg 1).symm.trans (hpp (1,Pt t.tb 0) (by simp))
 have u2:=(hg 2).symm.trans (hpp (2,I k) (by simp))
 clear hg hpp hsz hd
 unfold gSeen
 simp only[Option.getD_some,lits,Nat.reduceAdd,u0,u1,u2]
 clear u0 u1 u2
 unfold gO5 gK gL g4 g3 gS Bd Tryd.f26 seq1 seq2 Ak Ar opsOf
 simp only[Option.getD_some]
 walk_nrm
 iterate 1
  (refine Ad rfl rfl (by decide) (fun d K hK=>?_)
   go_simp
   refine hK _ _ ⟨Af (fun e he=>?_),GoesI.at ?_ d⟩
   ·have hm:=mem_listed he
    simp[go_sem, *] at hm
    try exact ⟨_,_,hm⟩
    try (rcases hm with rfl|rfl<;>exact ⟨_,_,rfl⟩)
   clear hK K)
 refine Ab (Aa _ _) ?_
 rw[eG6]
 refine Ac (Aa _ _) ?_
 refine g6_pre s sb n k cb t.tb x hkn ⟨rfl,rfl,by
  intro p hp
  simp only[List.mem_cons,List.not_mem_nil,or_false] at hp
  rcases hp with rfl|rfl|rfl|rfl<;>rfl⟩ _ cs hF h1 h2 hvw hn (fun v4 w4 a' o ho hw hA hvw4 hn4 hg4=>?_)
 have hm4:=HM.out.grows hg4
 have e43:a'.eval (.tmp 43)=Pt cb 0:=hA.at 43 _ (by simp)
 have e44:a'.eval (.tmp 44)=Pt t.tb 0:=hA.at 44 _ (by simp)
 have e47:a'.eval (.tmp 47)=I (fstI x):=hA.at 47 _ (by simp)
 have hop:(gO6[12]?).map (·.op)=some (.call { callee:=.value (.func 47),args:=#[.tmp 43,.tmp 44,.tmp 47],argTypes:=#[89,52,3] }):=by kernel_rfl
 have hds:(gO6[12]?).map (·.dst)=some (some 48):=by kernel_rfl
 rw[ho] at hop hds
 have hop':=Option.some.inj hop
 have hds':o.dst=some 48:=Option.some.inj hds
 refine Ao (f:=47) (fn:=Tryd.f47) (args:=#[Pt cb 0,Pt t.tb 0,I (fstI x)]) (Aa _ _) ho (hw _) (by simp[base]) hop' (by simp only[List.map_toArray,List.map_cons,List.map_nil,e43,e44,e47]) Tryd.func47 (by decide) rfl ?_
 refine store_goes (fstI x) y _ Hm ho (fun g hg=>hH g ⟨a',⟨hA.1,hA.2.1,fun p hp=>hA.2.2 p (by simp only[List.mem_cons,List.not_mem_nil,or_false] at hp ⊢;rcases hp with rfl|rfl|rfl|rfl<;>simp)⟩,?_⟩) hvw4 hn4 hm4.mem ht hK hz hcont (fun g w' hs=>hstop g w' (G1 (fun hT=>by obtain ⟨v',r1,r2,r3⟩:=hT;exact ⟨v',r1,r2,hm4.trans r3⟩) hs)) _ rfl
 rw[hds'] at hg
 exact hg
theorem give_try {z:Nat->Option Nat}{Ch:Nat->Prop}{Stop:Goroutine->World->Prop}{main:Bool}{w:World}{s tb k:Nat}{x:Int}(hk3:k<1000) (r:Value) {a:Act}(hA:Fl 56 [(0,Pt s 0),(1,Pt tb 0),(2,I k),(7,I x)] a) (cs:List Frame)
 (hk:∀ a code,Tryd.f46.body=some code->Fl 56 [(0,Pt s 0),(1,Pt tb 0),(2,I k),(7,I x)] a->GoesI Tryd.prog main (DT (ScZ z) Ch) Stop (G ((base 46).at { tmps:=#[Pt s 0,Pt tb 0,I x,I ((k:Int)+1)]++Array.replicate 18 undef,defers:=[] } [.code code]) (gTry a :: cs)) w) :
 GoesI Tryd.prog main (DT (ScZ z) Ch) Stop (G (gStored a r) cs) w:=by
 have hwr:IntKind.i64.wrap ((k:Int)+1)=(k:Int)+1:=by rw[IntKind.wrap_i64];omega
 unfold gTry at hk
 obtain ⟨hsz,hd,hpp⟩:=hA
 obtain ⟨u,rfl,hg⟩:=litN hsz hd
 have u0:=(hg 0).symm.trans (hpp (0,Pt s 0) (by simp))
 have u1:=(hg 1).symm.trans (hpp (1,Pt tb 0) (by simp))
 have u2:=(hg 2).symm.trans (hpp (2,I k) (by simp))
 have u7:=(hg 7).symm.trans (hpp (7,I x) (by simp))
 clear hg hpp hsz hd
 unfold gStored
 simp only[Option.getD_some,lits,Nat.reduceAdd,u0,u1,u2,u7]
 clear u0 u1 u2 u7
 refine Ab (Aa _ _) ?_
 rw[eG7]
 refine Ac (Aa _ _) ?_
 refine Ac (Aa _ _) ?_
 unfold gO7 g7 g6 gK gL g4 g3 gS Bd Tryd.f26 seq1 seq2 Ak Ar opsOf at hk ⊢
 simp only[Option.getD_some] at hk ⊢
 refine Ae (Aa _ _) ?_
 simp only[List.size_toArray,List.length_cons,List.length_nil,Nat.reduceAdd,Nat.zero_add,List.range,List.range.loop]
 iterate 5
  (refine Ad rfl rfl (by decide) (fun d K hK=>?_)
   go_simp
   refine hK _ _ ⟨Af (fun e he=>?_),GoesI.at ?_ d⟩
   ·have hm:=mem_listed he
    simp[go_sem, *] at hm
    try exact ⟨_,_,hm⟩
    try (rcases hm with rfl|rfl<;>exact ⟨_,_,rfl⟩)
   clear hK K)
 refine Ao (f:=46) (fn:=Tryd.f46) (args:=#[Pt s 0,Pt tb 0,I x,I ((k:Int)+1)]) (Aa _ _) rfl rfl (by decide) rfl (by simp[Act.eval]) Tryd.func46 (by decide) rfl ?_
 exact hk _ _ rfl ⟨rfl,rfl,by
  intro p hp
  simp only[List.mem_cons,List.not_mem_nil,or_false] at hp
  rcases hp with rfl|rfl|rfl|rfl<;>rfl⟩
theorem give_again {z:Nat->Option Nat}{Ch:Nat->Prop}{Stop:Goroutine->World->Prop}{main:Bool}{w:World}{s tb k:Nat}{x:Int}  {a:Act}(hA:Fl 56 [(0,Pt s 0),(1,Pt tb 0),(2,I k),(7,I x)] a) (cs:List Frame)
 (hk:∀ a,Fl 56 [(0,Pt s 0),(1,Pt tb 0),(2,I k)] a->GoesI Tryd.prog main (DT (ScZ z) Ch) Stop (G (gHead a) cs) w) :
 GoesI Tryd.prog main (DT (ScZ z) Ch) Stop (G (gTried a (.bool false)) cs) w:=by
 unfold gHead gE' at hk
 try simp only[Option.getD_some] at hk
 obtain ⟨hsz,hd,hpp⟩:=hA
 obtain ⟨u,rfl,hg⟩:=litN hsz hd
 have u0:=(hg 0).symm.trans (hpp (0,Pt s 0) (by simp))
 have u1:=(hg 1).symm.trans (hpp (1,Pt tb 0) (by simp))
 have u2:=(hg 2).symm.trans (hpp (2,I k) (by simp))
 have u7:=(hg 7).symm.trans (hpp (7,I x) (by simp))
 clear hg hpp hsz hd
 unfold gTried gO7 gC7 g7 g6 gK gL g4 g3 gS Bd Tryd.f26 seq1 seq2 Ak Ar opsOf
 simp only[Option.getD_some,lits,Nat.reduceAdd,u0,u1,u2,u7]
 clear u0 u1 u2 u7
 walk_nrm
 iterate 1
  (refine Ad rfl rfl (by decide) (fun d K hK=>?_)
   go_simp
   refine hK _ _ ⟨Af (fun e he=>?_),GoesI.at ?_ d⟩
   ·have hm:=mem_listed he
    simp[go_sem, *] at hm
    try exact ⟨_,_,hm⟩
    try (rcases hm with rfl|rfl<;>exact ⟨_,_,rfl⟩)
   clear hK K)
 refine Ab (Aa _ _) ?_
 refine Ax (Aa _ _) (t:=true) (by simp[Act.eval]) ?_
 simp only[if_true,if_false,Bool.false_eq_true]
 rw[show gE=Item.inBlock 1 :: .inLoop gL :: [.inBlock 0,.inScope gS] from rfl]
 refine Em (Aa _ _) (k':=[.inLoop gL,.inBlock 0,.inScope gS]) rfl ?_
 refine Dy (Aa _ _) ?_
 exact hk _ ⟨rfl,rfl,by
  intro p hp
  simp only[List.mem_cons,List.not_mem_nil,or_false] at hp
  rcases hp with rfl|rfl|rfl<;>rfl⟩
theorem give_done {z:Nat->Option Nat}{Ch:Nat->Prop}{Stop:Goroutine->World->Prop}{main:Bool}{v w:World}{s tb k:Nat}{x:Int}  {a:Act}(hA:Fl 56 [(0,Pt s 0),(1,Pt tb 0),(2,I k),(7,I x)] a) (cs:List Frame) {bc:Frame}{ac:Act}{ops:Array Oper}{q:Nat}{rest:List Nat}{oc:Oper}{k0:List Item}(hoc:ops[q]? = some oc) (hvw:Rel z v w) (hn:Ah Ch v)
 (hk:∀ w',Rel z v w'->GoesI Tryd.prog main (DT (ScZ z) Ch) Stop (G (bc.at (ac.put oc.dst (I 0)) (.inRegion ops rest :: k0)) cs) w') :
 GoesI Tryd.prog main (DT (ScZ z) Ch) Stop (G (gTried a (.bool true)) (bc.at ac (.inRegion ops (q :: rest) :: k0) :: cs)) w:=by
 obtain ⟨hsz,hd,hpp⟩:=hA
 obtain ⟨u,rfl,hg⟩:=litN hsz hd
 have u0:=(hg 0).symm.trans (hpp (0,Pt s 0) (by simp))
 have u1:=(hg 1).symm.trans (hpp (1,Pt tb 0) (by simp))
 have u2:=(hg 2).symm.trans (hpp (2,I k) (by simp))
 have u7:=(hg 7).symm.trans (hpp (7,I x) (by simp))
 clear hg hpp hsz hd
 unfold gTried gO7 gC7 g8 g7 g6 gK gL g4 g3 gS Bd Tryd.f26 seq1 seq2 Ak Ar opsOf
 simp only[Option.getD_some,lits,Nat.reduceAdd,u0,u1,u2,u7]
 clear u0 u1 u2 u7
 walk_nrm
 iterate 1
  (refine Ad rfl rfl (by decide) (fun d K hK=>?_)
   go_simp
   refine hK _ _ ⟨Af (fun e he=>?_),GoesI.at ?_ d⟩
   ·have hm:=mem_listed he
    simp[go_sem, *] at hm
    try exact ⟨_,_,hm⟩
    try (rcases hm with rfl|rfl<;>exact ⟨_,_,rfl⟩)
   clear hK K)
 refine Ab (Aa _ _) ?_
 refine Ax (Aa _ _) (t:=false) (by simp[Act.eval]) ?_
 simp only[if_true,if_false,Bool.false_eq_true]
 refine Bh (Aa _ _) ?_
 refine Ac (Aa _ _) ?_
 refine Ae (Aa _ _) ?_
 simp only[List.size_toArray,List.length_cons,List.length_nil,Nat.reduceAdd,Nat.zero_add,List.range,List.range.loop]
 iterate 1
  (refine Ad rfl rfl (by decide) (fun d K hK=>?_)
   go_simp
   refine hK _ _ ⟨Af (fun e he=>?_),GoesI.at ?_ d⟩
   ·have hm:=mem_listed he
    simp[go_sem, *] at hm
    try exact ⟨_,_,hm⟩
    try (rcases hm with rfl|rfl<;>exact ⟨_,_,rfl⟩)
   clear hK K)
 refine Ab (Aa _ _) ?_
 refine GoesI.ctl rfl (fun _=>stepG_ret') (Aa _ _) ?_
 exact B7 (f:=26) (fn:=Tryd.f26) (x:=I 0) hvw hn Tryd.func26 rfl hoc (by simp[results,go_sem,Tryd.f26]) (fun w' r'=>hk w' r')
end Go.Proofs.YtbbhahigofeacaaDoor.Gen
