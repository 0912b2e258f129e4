/- Of the proof of StackKeeps. Part 30 of 33. (Joined, by program, and written short, of: StF, StF2.) -/
import Derived.Test.YtbbhahigofeacaaDoorStackKeeps13
import Derived.Test.YtbbhahigofeacaaDoorStackKeeps19
import Derived.Test.YtbbhahigofeacaaDoorStackKeeps21
import Derived.Test.YtbbhahigofeacaaDoorStackKeeps29
set_option linter.unusedSimpArgs false
set_option linter.unusedVariables false
set_option maxHeartbeats 4000000
set_option maxRecDepth 100000
namespace Go.Proofs.YtbbhahigofeacaaDoor.Gen
open Go Go.Lift Go.Conc Go.RowKit
open R1 (fstI verI hdI)
theorem Fm.grow {tb cb:Nat}{x:Int}{v v':World}(h:Fm tb cb x v) (g:Grows v v'):Fm tb cb x v':=⟨g.cell h.thr,h.ne,by rw[g.old _ (Array.getElem?_eq_some_iff.1 h.cel).1];exact h.cel⟩
theorem ch46_goF {Ch:Nat->Prop}{Stop:Goroutine->World->Prop}{main:Bool}{v w:World}{tb cb s:Nat}{y:Int}(x f:Int) (hF:R1.Flds v) (h0:v.cell? ⟨s,0,none⟩=some (Pt cb 0)) (cs:List Frame)
 (hk:∀ a u v' w',Fl 22 [] a->Rel zn v' w'->Ah Ch v'->Grows v u->Fto tb cb ((Bj x (hdI f (verI x+1))) y).2.1 u v'->GoesI Tryd.prog main (DT (ScZ zn) Ch) Stop (G (ch46T a ((Bj x (hdI f (verI x+1))) y).2.2) cs) w')
 (hvw:Rel zn v w) (hn:Ah Ch v) (hm:Fm tb cb y v) (code:Code) (hc:Tryd.f46.body=some code) :
 GoesI Tryd.prog main (DT (ScZ zn) Ch) Stop (G ((base 46).at { tmps:=#[Pt s 0,Pt tb 0,I x,I f]++Array.replicate 18 undef,defers:=[] } [.code code]) cs) w:=by
 have hw0:code=.seq (.region 0 (opsOf (seq1 Jh)) false) (.seq (.region 1 Jg true) .ret):=by
  rw[show code=Jh by unfold Jh;rw[hc];rfl,←ch46E0];exact ch46E
 subst hw0
 clear hc
 have HM:Hid (Fm tb cb y v):=⟨hm⟩
 clear hm
 simp only[Array.replicate_succ,Array.replicate_zero,List.push_toArray,List.append_toArray,List.nil_append,List.cons_append]
 refine Ac (Aa _ _) ?_
 unfold Jh Tryd.f46 seq1 opsOf
 simp only[Option.getD_some]
 refine Ae (Aa _ _) ?_
 simp only[List.size_toArray,List.length_cons,List.length_nil,Nat.reduceAdd,Nat.zero_add,List.range,List.range.loop]
 iterate 1
  (refine Ad rfl rfl (by decide) (fun d K hK=>?_)
   go_simp
   refine hK _ _ ⟨Af (fun e he=>?_),GoesI.at ?_ d⟩
   ·have hm:=mem_listed he
    simp[go_sem, *] at hm
    try exact ⟨_,_,hm⟩
    try (rcases hm with rfl|rfl<;>exact ⟨_,_,rfl⟩)
   clear hK K)
 refine Ab (Aa _ _) ?_
 refine Ac (Aa _ _) ?_
 refine ch46_pre s cb tb x f ⟨rfl,rfl,by
  intro p hp
  simp only[List.mem_cons,List.not_mem_nil,or_false] at hp
  rcases hp with rfl|rfl|rfl|rfl<;>rfl⟩ _ cs hF h0 hvw hn (fun v4 w4 a' o ho hw hA hvw4 hn4 hg4=>?_)
 have e12:a'.eval (.tmp 12)=Pt cb 0:=hA.at 12 _ (by simp)
 have e13:a'.eval (.tmp 13)=Pt tb 0:=hA.at 13 _ (by simp)
 have e14:a'.eval (.tmp 14)=I x:=hA.at 14 _ (by simp)
 have e20:a'.eval (.tmp 20)=I (hdI f (verI x+1)):=hA.at 20 _ (by simp)
 have hop:(Jg[12]?).map (·.op)=some (.call { callee:=.value (.func 48),args:=#[.tmp 12,.tmp 13,.tmp 14,.tmp 20],argTypes:=#[89,52,3,3] }):=by kernel_rfl
 have hds:(Jg[12]?).map (·.dst)=some (some 21):=by kernel_rfl
 rw[ho] at hop hds
 have hop':=Option.some.inj hop
 have hds':o.dst=some 21:=Option.some.inj hds
 refine Ao (f:=48) (fn:=Tryd.f48) (args:=#[Pt cb 0,Pt tb 0,I x,I (hdI f (verI x+1))]) (Aa _ _) ho (hw _) (by simp[base]) hop' (by simp only[List.map_toArray,List.map_cons,List.map_nil,e12,e13,e14,e20]) Tryd.func48 (by decide) rfl ?_
 refine free14 x (hdI f (verI x+1)) y _ ho hvw4 hn4 (HM.out.grow hg4) (fun v' w' r nn f=>?_) _ rfl
 rw[hds']
 exact hk a' v4 v' w' ⟨hA.1,hA.2.1,fun p hp=>by cases hp⟩ r nn hg4 f
theorem ch73_goF {Ch:Nat->Prop}{Stop:Goroutine->World->Prop}{main:Bool}{v w:World}{tb cb s:Nat}{y:Int}(x f:Int) (hF:R1.Flds v) (h0:v.cell? ⟨s,1,none⟩=some (Pt cb 0)) (cs:List Frame)
 (hk:∀ a u v' w',Fl 22 [] a->Rel zn v' w'->Ah Ch v'->Grows v u->Fto tb cb ((Bj x (hdI f (verI x+1))) y).2.1 u v'->GoesI Tryd.prog main (DT (ScZ zn) Ch) Stop (G (ch73T a ((Bj x (hdI f (verI x+1))) y).2.2) cs) w')
 (hvw:Rel zn v w) (hn:Ah Ch v) (hm:Fm tb cb y v) (code:Code) (hc:Tryd.f73.body=some code) :
 GoesI Tryd.prog main (DT (ScZ zn) Ch) Stop (G ((base 73).at { tmps:=#[Pt s 0,Pt tb 0,I x,I f]++Array.replicate 18 undef,defers:=[] } [.code code]) cs) w:=by
 have hw0:code=.seq (.region 0 (opsOf (seq1 Jf)) false) (.seq (.region 1 Je true) .ret):=by
  rw[show code=Jf by unfold Jf;rw[hc];rfl,←ch73E0];exact ch73E
 subst hw0
 clear hc
 have HM:Hid (Fm tb cb y v):=⟨hm⟩
 clear hm
 simp only[Array.replicate_succ,Array.replicate_zero,List.push_toArray,List.append_toArray,List.nil_append,List.cons_append]
 refine Ac (Aa _ _) ?_
 unfold Jf Tryd.f73 seq1 opsOf
 simp only[Option.getD_some]
 refine Ae (Aa _ _) ?_
 simp only[List.size_toArray,List.length_cons,List.length_nil,Nat.reduceAdd,Nat.zero_add,List.range,List.range.loop]
 iterate 1
  (refine Ad rfl rfl (by decide) (fun d K hK=>?_)
   go_simp
   refine hK _ _ ⟨Af (fun e he=>?_),GoesI.at ?_ d⟩
   ·have hm:=mem_listed he
    simp[go_sem, *] at hm
    try exact ⟨_,_,hm⟩
    try (rcases hm with rfl|rfl<;>exact ⟨_,_,rfl⟩)
   clear hK K)
 refine Ab (Aa _ _) ?_
 refine Ac (Aa _ _) ?_
 refine ch73_pre s cb tb x f ⟨rfl,rfl,by
  intro p hp
  simp only[List.mem_cons,List.not_mem_nil,or_false] at hp
  rcases hp with rfl|rfl|rfl|rfl<;>rfl⟩ _ cs hF h0 hvw hn (fun v4 w4 a' o ho hw hA hvw4 hn4 hg4=>?_)
 have e12:a'.eval (.tmp 12)=Pt cb 0:=hA.at 12 _ (by simp)
 have e13:a'.eval (.tmp 13)=Pt tb 0:=hA.at 13 _ (by simp)
 have e14:a'.eval (.tmp 14)=I x:=hA.at 14 _ (by simp)
 have e20:a'.eval (.tmp 20)=I (hdI f (verI x+1)):=hA.at 20 _ (by simp)
 have hop:(Je[12]?).map (·.op)=some (.call { callee:=.value (.func 48),args:=#[.tmp 12,.tmp 13,.tmp 14,.tmp 20],argTypes:=#[89,52,3,3] }):=by kernel_rfl
 have hds:(Je[12]?).map (·.dst)=some (some 21):=by kernel_rfl
 rw[ho] at hop hds
 have hop':=Option.some.inj hop
 have hds':o.dst=some 21:=Option.some.inj hds
 refine Ao (f:=48) (fn:=Tryd.f48) (args:=#[Pt cb 0,Pt tb 0,I x,I (hdI f (verI x+1))]) (Aa _ _) ho (hw _) (by simp[base]) hop' (by simp only[List.map_toArray,List.map_cons,List.map_nil,e12,e13,e14,e20]) Tryd.func48 (by decide) rfl ?_
 refine free14 x (hdI f (verI x+1)) y _ ho hvw4 hn4 (HM.out.grow hg4) (fun v' w' r nn f=>?_) _ rfl
 rw[hds']
 exact hk a' v4 v' w' ⟨hA.1,hA.2.1,fun p hp=>by cases hp⟩ r nn hg4 f
theorem take_lookF {Ch:Nat->Prop}{Stop:Goroutine->World->Prop}{main:Bool}{v w:World}{tb cb:Nat}{y:Int}{s:Nat}(c0:v.cell? ⟨s,0,none⟩=some (Pt cb 0)) {a:Act}(hA:Fl 48 [(0,Pt s 0),(1,Pt tb 0)] a) (cs:List Frame)
 (hk:∀ a u v' w',Fl 48 [(0,Pt s 0),(1,Pt tb 0)] a->Rel zn v' w'->Ah Ch v'->Grows v u->Fto tb cb (Bi y).2.1 u v'->GoesI Tryd.prog main (DT (ScZ zn) Ch) Stop (G (Jr a (Bi y).2.2) cs) w')
 (hvw:Rel zn v w) (hn:Ah Ch v) (hm:Fm tb cb y v) :
 GoesI Tryd.prog main (DT (ScZ zn) Ch) Stop (G (tHead a) cs) w:=by
 have HM:Hid (Fm tb cb y v):=⟨hm⟩
 clear hm
 unfold Jr tO1 t2 tK tL tS Bd Tryd.f25 seq1 seq2 Ak Ar opsOf at hk
 simp only[Option.getD_some] at hk
 obtain ⟨hsz,hd,hpp⟩:=hA
 obtain ⟨u,rfl,hg⟩:=litN hsz hd
 have u0:=(hg 0).symm.trans (hpp (0,Pt s 0) (by simp))
 have u1:=(hg 1).symm.trans (hpp (1,Pt tb 0) (by simp))
 clear hg hpp hsz hd
 unfold tHead
 simp only[Option.getD_some,lits,Nat.reduceAdd,u0,u1]
 clear u0 u1
 have c0w:w.cell? ⟨s,0,none⟩=some (Pt cb 0):=by rw[hvw.cell?];exact c0
 rw[show (Item.code tL :: Item.inLoop tL :: tE')=Item.code (.block 1 tK) :: Item.inLoop tL :: tE' by rw[←eTL]]
 refine Bm (Aa _ _) ?_
 rw[show (Item.inBlock 1 :: Item.inLoop tL :: tE')=tE from rfl]
 unfold tK tL tS Bd Tryd.f25 seq2 Ak Ar
 simp only[Option.getD_some]
 refine Ac (Aa _ _) ?_
 refine Ae (Aa _ _) ?_
 simp only[List.size_toArray,List.length_cons,List.length_nil,Nat.reduceAdd,Nat.zero_add,List.range,List.range.loop]
 iterate 5
  (refine Ad rfl rfl (by decide) (fun d K hK=>?_)
   go_simp
   refine hK _ _ ⟨Af (fun e he=>?_),GoesI.at ?_ d⟩
   ·have hm:=mem_listed he
    simp[go_sem, *] at hm
    try exact ⟨_,_,hm⟩
    try (rcases hm with rfl|rfl<;>exact ⟨_,_,rfl⟩)
   clear hK K)
 refine Ao (f:=44) (fn:=Tryd.f44) (args:=#[Pt cb 0,Pt tb 0]) (Aa _ _) rfl rfl (by decide) rfl (by simp[Act.eval]) Tryd.func44 (by decide) rfl ?_
 exact free17 y _ rfl hvw hn HM.out (fun v' w' r nn f=>hk _ v v' w' ⟨rfl,rfl,by
  intro p hp
  simp only[List.mem_cons,List.not_mem_nil,or_false] at hp
  rcases hp with rfl|rfl<;>rfl⟩ r nn (grefl v) f) _ rfl
theorem take_nextF {Ch:Nat->Prop}{Stop:Goroutine->World->Prop}{main:Bool}{v w:World}{tb cb:Nat}{y:Int}{s sb n:Nat}{x:Int}(k:Nat) (hk0:fstI x=(k:Int)+1) (hkn:k<n) (hF:R1.Flds v) (c1:v.cell? ⟨s,1,none⟩=some (.slice (some ⟨sb,0,none⟩) n n)) (c2:v.cell? ⟨sb,k*2,none⟩=some (Pt cb 0)) {a:Act}(hA:Fl 48 [(0,Pt s 0),(1,Pt tb 0)] a) (cs:List Frame)
 (hk:∀ a u v' w',Fl 48 [(0,Pt s 0),(1,Pt tb 0),(6,I x),(8,I k),(22,Pt s 0),(23,Pt tb 0),(24,I x)] a->Rel zn v' w'->Ah Ch v'->Grows v u->Fto tb cb (Bi y).2.1 u v'->GoesI Tryd.prog main (DT (ScZ zn) Ch) Stop (G (tNext a (Bi y).2.2) cs) w')
 (hvw:Rel zn v w) (hn:Ah Ch v) (hm:Fm tb cb y v) :
 GoesI Tryd.prog main (DT (ScZ zn) Ch) Stop (G (Jr a (I x)) cs) w:=by
 have HM:Hid (Fm tb cb y v):=⟨hm⟩
 clear hm
 unfold tNext tO6 tC6 t7 t6 t5 t3 t2 tK tL tS Bd Tryd.f25 seq1 seq2 Ak Ar opsOf at hk
 simp only[Option.getD_some] at hk
 obtain ⟨hsz,hd,hpp⟩:=hA
 obtain ⟨u,rfl,hg⟩:=litN hsz hd
 have u0:=(hg 0).symm.trans (hpp (0,Pt s 0) (by simp))
 have u1:=(hg 1).symm.trans (hpp (1,Pt tb 0) (by simp))
 clear hg hpp hsz hd
 unfold Jr tO1 t2 tK tL tS Bd Tryd.f25 seq1 seq2 Ak Ar opsOf
 simp only[Option.getD_some,lits,Nat.reduceAdd,u0,u1]
 clear u0 u1
 have HK0:Hid (fstI x=(k:Int)+1):=⟨hk0⟩
 clear hk0
 have g0:w.cell? ⟨0,0,none⟩=some (I 0):=by rw[hvw.cell?];exact hF.a0
 have g1:w.cell? ⟨0,1,none⟩=some (I 32):=by rw[hvw.cell?];exact hF.a1
 walk_nrm
 iterate 1
  (refine Ad rfl rfl (by decide) (fun d K hK=>?_)
   go_simp
   refine hK _ _ ⟨Af (fun e he=>?_),GoesI.at ?_ d⟩
   ·have hm:=mem_listed he
    simp[go_sem, *] at hm
    try exact ⟨_,_,hm⟩
    try (rcases hm with rfl|rfl<;>exact ⟨_,_,rfl⟩)
   clear hK K)
 refine Ab (Aa _ _) ?_
 refine Ac (Aa _ _) ?_
 refine Ae (Aa _ _) ?_
 simp only[List.size_toArray,List.length_cons,List.length_nil,Nat.reduceAdd,Nat.zero_add,List.range,List.range.loop]
 iterate 2
  (refine Ad rfl rfl (by decide) (fun d K hK=>?_)
   go_simp
   refine hK _ _ ⟨Af (fun e he=>?_),GoesI.at ?_ d⟩
   ·have hm:=mem_listed he
    simp[go_sem, *] at hm
    try exact ⟨_,_,hm⟩
    try (rcases hm with rfl|rfl<;>exact ⟨_,_,rfl⟩)
   clear hK K)
 refine D2 (f:=45) (fn:=Tryd.f45) (args:=#[I x,R1.F 0 32]) hE Di rfl rfl (by decide) rfl (by simp[Act.eval,R1.F]) Tryd.func45 (by kernel_rfl) rfl (Cc Di (by simp[LT,Da]) Tryd.func45 rfl) (fun tmps=>⟨_,fun w=>results_tmp rfl _ _ _,fun w=>by simp[results,go_sem,Tryd.f45]⟩) hvw hn
  (R:=fun r v4=>r=I (fstI x)∧Grows v v4) (fun τ=>?_) (fun r v4 w4 hR hvw4 hn4=>?_)
 ·exact wp_mono (R1.Eg x 0 32 (Ap v τ 0) (by decide) (by decide) (by decide) _ rfl) (Dh fun r u hq=>⟨hq.1,gtape (Dl hq.2)⟩)
 obtain ⟨rfl,hg4⟩:=hR
 walk_nrm
 have hne:¬ (fstI x=0):=by have:=HK0.out;omega
 have hwr:IntKind.i64.wrap (fstI x - 1)=(k:Int):=by have:=HK0.out;have hx:=R1.Jd x;rw[IntKind.wrap_i64];omega
 have hkn':(k:Int)<(n:Int):=by omega
 have d1:w4.cell? ⟨s,1,none⟩=some (.slice (some ⟨sb,0,none⟩) n n):=by rw[hvw4.cell?];exact hg4.cell c1
 have d2:w4.cell? ⟨sb,k*2,none⟩=some (Pt cb 0):=by rw[hvw4.cell?];exact hg4.cell c2
 iterate 1
  (refine Ad rfl rfl (by decide) (fun d K hK=>?_)
   go_simp
   refine hK _ _ ⟨Af (fun e he=>?_),GoesI.at ?_ d⟩
   ·have hm:=mem_listed he
    simp[go_sem, *] at hm
    try exact ⟨_,_,hm⟩
    try (rcases hm with rfl|rfl<;>exact ⟨_,_,rfl⟩)
   clear hK K)
 refine Ab (Aa _ _) ?_
 refine Ac (Aa _ _) ?_
 refine Ac (Aa _ _) ?_
 refine Ae (Aa _ _) ?_
 simp only[List.size_toArray,List.length_cons,List.length_nil,Nat.reduceAdd,Nat.zero_add,List.range,List.range.loop]
 iterate 2
  (refine Ad rfl rfl (by decide) (fun d K hK=>?_)
   go_simp
   refine hK _ _ ⟨Af (fun e he=>?_),GoesI.at ?_ d⟩
   ·have hm:=mem_listed he
    simp[go_sem, *] at hm
    try exact ⟨_,_,hm⟩
    try (rcases hm with rfl|rfl<;>exact ⟨_,_,rfl⟩)
   clear hK K)
 refine Ab (Aa _ _) ?_
 refine Ax (Aa _ _) (t:=false) (by simp[Act.eval,hne]) ?_
 simp only[if_true,if_false,Bool.false_eq_true]
 refine Bh (Aa _ _) ?_
 refine Ac (Aa _ _) ?_
 refine Ae (Aa _ _) ?_
 simp only[List.size_toArray,List.length_cons,List.length_nil,Nat.reduceAdd,Nat.zero_add,List.range,List.range.loop]
 iterate 3
  (refine Ad rfl rfl (by decide) (fun d K hK=>?_)
   go_simp
   refine hK _ _ ⟨Af (fun e he=>?_),GoesI.at ?_ d⟩
   ·have hm:=mem_listed he
    simp[go_sem, *] at hm
    try exact ⟨_,_,hm⟩
    try (rcases hm with rfl|rfl<;>exact ⟨_,_,rfl⟩)
   clear hK K)
 refine Ab (Aa _ _) ?_
 refine Ac (Aa _ _) ?_
 refine Ac (Aa _ _) ?_
 refine Ae (Aa _ _) ?_
 simp only[List.size_toArray,List.length_cons,List.length_nil,Nat.reduceAdd,Nat.zero_add,List.range,List.range.loop]
 iterate 12
  (refine Ad rfl rfl (by decide) (fun d K hK=>?_)
   go_simp
   refine hK _ _ ⟨Af (fun e he=>?_),GoesI.at ?_ d⟩
   ·have hm:=mem_listed he
    simp[go_sem, *] at hm
    try exact ⟨_,_,hm⟩
    try (rcases hm with rfl|rfl<;>exact ⟨_,_,rfl⟩)
   clear hK K)
 refine Ao (f:=44) (fn:=Tryd.f44) (args:=#[Pt cb 0,Pt tb 0]) (Aa _ _) rfl rfl (by decide) rfl (by simp[Act.eval]) Tryd.func44 (by decide) rfl ?_
 exact free17 y _ rfl hvw4 hn4 (HM.out.grow hg4) (fun v' w' r nn f=>hk _ v4 v' w' ⟨rfl,rfl,by
  intro p hp
  simp only[List.mem_cons,List.not_mem_nil,or_false] at hp
  rcases hp with rfl|rfl|rfl|rfl|rfl|rfl|rfl<;>rfl⟩ r nn hg4 f) _ rfl
theorem take_wonF {Ch:Nat->Prop}{Stop:Goroutine->World->Prop}{main:Bool}{v w:World}{tb cb:Nat}{y:Int}{s sb n k:Nat}{x:Int}(hkn:k<n) (c1:v.cell? ⟨s,1,none⟩=some (.slice (some ⟨sb,0,none⟩) n n)) (c2:v.cell? ⟨sb,k*2+1,none⟩=some (Pt cb 0)) {a:Act}(hA:Fl 48 [(0,Pt s 0),(1,Pt tb 0),(6,I x),(8,I k)] a) (cs:List Frame)
 (hk:∀ a u v' w',Fl 48 [(0,Pt s 0),(1,Pt tb 0),(6,I x),(8,I k)] a->Rel zn v' w'->Ah Ch v'->Grows v u->Fto tb cb ((Bo (1)) y).2.1 u v'->GoesI Tryd.prog main (DT (ScZ zn) Ch) Stop (G (tUsed a ((Bo (1)) y).2.2) cs) w')
 (hvw:Rel zn v w) (hn:Ah Ch v) (hm:Fm tb cb y v) :
 GoesI Tryd.prog main (DT (ScZ zn) Ch) Stop (G (tTried a (.bool true)) cs) w:=by
 have HM:Hid (Fm tb cb y v):=⟨hm⟩
 clear hm
 unfold tUsed tO7 t8 t7 t6 t5 t3 t2 tK tL tS Bd Tryd.f25 seq1 seq2 Ak Ar opsOf at hk
 simp only[Option.getD_some] at hk
 obtain ⟨hsz,hd,hpp⟩:=hA
 obtain ⟨u,rfl,hg⟩:=litN hsz hd
 have u0:=(hg 0).symm.trans (hpp (0,Pt s 0) (by simp))
 have u1:=(hg 1).symm.trans (hpp (1,Pt tb 0) (by simp))
 have u6:=(hg 6).symm.trans (hpp (6,I x) (by simp))
 have u8:=(hg 8).symm.trans (hpp (8,I k) (by simp))
 clear hg hpp hsz hd
 unfold tTried tO6 tC6 t7 t6 t5 t3 t2 tK tL tS Bd Tryd.f25 seq1 seq2 Ak Ar opsOf
 simp only[Option.getD_some,lits,Nat.reduceAdd,u0,u1,u6,u8]
 clear u0 u1 u6 u8
 have hkn':(k:Int)<(n:Int):=by omega
 have d1:w.cell? ⟨s,1,none⟩=some (.slice (some ⟨sb,0,none⟩) n n):=by rw[hvw.cell?];exact c1
 have d2:w.cell? ⟨sb,k*2+1,none⟩=some (Pt cb 0):=by rw[hvw.cell?];exact c2
 walk_nrm
 iterate 1
  (refine Ad rfl rfl (by decide) (fun d K hK=>?_)
   go_simp
   refine hK _ _ ⟨Af (fun e he=>?_),GoesI.at ?_ d⟩
   ·have hm:=mem_listed he
    simp[go_sem, *] at hm
    try exact ⟨_,_,hm⟩
    try (rcases hm with rfl|rfl<;>exact ⟨_,_,rfl⟩)
   clear hK K)
 refine Ab (Aa _ _) ?_
 refine Ax (Aa _ _) (t:=false) (by simp[Act.eval]) ?_
 simp only[if_true,if_false,Bool.false_eq_true]
 refine Bh (Aa _ _) ?_
 refine Ac (Aa _ _) ?_
 refine Ae (Aa _ _) ?_
 simp only[List.size_toArray,List.length_cons,List.length_nil,Nat.reduceAdd,Nat.zero_add,List.range,List.range.loop]
 iterate 9
  (refine Ad rfl rfl (by decide) (fun d K hK=>?_)
   go_simp
   refine hK _ _ ⟨Af (fun e he=>?_),GoesI.at ?_ d⟩
   ·have hm:=mem_listed he
    simp[go_sem, *] at hm
    try exact ⟨_,_,hm⟩
    try (rcases hm with rfl|rfl<;>exact ⟨_,_,rfl⟩)
   clear hK K)
 refine Ao (f:=47) (fn:=Tryd.f47) (args:=#[Pt cb 0,Pt tb 0,I (1)]) (Aa _ _) rfl rfl (by decide) rfl (by simp[Act.eval]) Tryd.func47 (by decide) rfl ?_
 exact free12 (1) y _ rfl hvw hn HM.out (fun v' w' r nn f=>hk _ v v' w' ⟨rfl,rfl,by
  intro p hp
  simp only[List.mem_cons,List.not_mem_nil,or_false] at hp
  rcases hp with rfl|rfl|rfl|rfl<;>rfl⟩ r nn (grefl v) f) _ rfl
theorem give_inF {Ch:Nat->Prop}{Stop:Goroutine->World->Prop}{main:Bool}{v w:World}{tb cb:Nat}{y:Int}{s sb n k:Nat}(hkn:k<n) (c1:v.cell? ⟨s,1,none⟩=some (.slice (some ⟨sb,0,none⟩) n n)) (c2:v.cell? ⟨sb,k*2+1,none⟩=some (Pt cb 0)) (cs:List Frame)
 (hk:∀ a u v' w',Fl 56 [(0,Pt s 0),(1,Pt tb 0),(2,I k)] a->Rel zn v' w'->Ah Ch v'->Grows v u->Fto tb cb ((Bj 1 0) y).2.1 u v'->GoesI Tryd.prog main (DT (ScZ zn) Ch) Stop (G (gUsed a ((Bj 1 0) y).2.2) cs) w')
 (hvw:Rel zn v w) (hn:Ah Ch v) (hm:Fm tb cb y v) (code:Code) (hc:Tryd.f26.body=some code) :
 GoesI Tryd.prog main (DT (ScZ zn) Ch) Stop (G ((base 26).at { tmps:=#[Pt s 0,Pt tb 0,I k]++Array.replicate 53 undef,defers:=[] } [.code code]) cs) w:=by
 have hw0:code=.seq (.region 0 (opsOf (seq1 (Tryd.f26.body.getD .skip))) false) (.scope gS):=by
  rw[show code=Tryd.f26.body.getD .skip by rw[hc];rfl];exact eGB
 subst hw0
 clear hc
 have HM:Hid (Fm tb cb y v):=⟨hm⟩
 clear hm
 have hkn':(k:Int)<(n:Int):=by omega
 have hkn2:¬ ((k:Int)<0):=by omega
 have hkn3:¬ ((n:Int)≤(k:Int)):=by omega
 have d1:w.cell? ⟨s,1,none⟩=some (.slice (some ⟨sb,0,none⟩) n n):=by rw[hvw.cell?];exact c1
 have d2:w.cell? ⟨sb,k*2+1,none⟩=some (Pt cb 0):=by rw[hvw.cell?];exact c2
 unfold gUsed at hk
 simp only[Array.replicate_succ,Array.replicate_zero,List.push_toArray,List.append_toArray,List.nil_append,List.cons_append]
 refine Ac (Aa _ _) ?_
 unfold Tryd.f26 seq1 opsOf
 simp only[Option.getD_some]
 refine Ae (Aa _ _) ?_
 simp only[List.size_toArray,List.length_cons,List.length_nil,Nat.reduceAdd,Nat.zero_add,List.range,List.range.loop]
 iterate 1
  (refine Ad rfl rfl (by decide) (fun d K hK=>?_)
   go_simp
   refine hK _ _ ⟨Af (fun e he=>?_),GoesI.at ?_ d⟩
   ·have hm:=mem_listed he
    simp[go_sem, *] at hm
    try exact ⟨_,_,hm⟩
    try (rcases hm with rfl|rfl<;>exact ⟨_,_,rfl⟩)
   clear hK K)
 refine Ab (Aa _ _) ?_
 refine Hn (Aa _ _) ?_
 generalize hq:Item.inScope gS=q at hk ⊢
 rw[eGS]
 refine Ac (Aa _ _) ?_
 unfold gS Bd Tryd.f26 seq1 seq2
 simp only[Option.getD_some]
 refine Ac (Aa _ _) ?_
 refine Ae (Aa _ _) ?_
 simp only[List.size_toArray,List.length_cons,List.length_nil,Nat.reduceAdd,Nat.zero_add,List.range,List.range.loop]
 iterate 11
  (refine Ad rfl rfl (by decide) (fun d K hK=>?_)
   go_simp
   refine hK _ _ ⟨Af (fun e he=>?_),GoesI.at ?_ d⟩
   ·have hm:=mem_listed he
    simp[go_sem, *] at hm
    try exact ⟨_,_,hm⟩
    try (rcases hm with rfl|rfl<;>exact ⟨_,_,rfl⟩)
   clear hK K)
 refine Ab (Aa _ _) ?_
 refine Ax (Aa _ _) (t:=false) (by simp[Act.eval,hkn2,hkn3]) ?_
 simp only[if_true,if_false,Bool.false_eq_true]
 refine Bh (Aa _ _) ?_
 rw[eG3]
 refine Ac (Aa _ _) ?_
 refine Ac (Aa _ _) ?_
 unfold gO3 g3 gS Bd Tryd.f26 seq1 seq2 opsOf at hk ⊢
 simp only[Option.getD_some] at hk ⊢
 refine Ae (Aa _ _) ?_
 simp only[List.size_toArray,List.length_cons,List.length_nil,Nat.reduceAdd,Nat.zero_add,List.range,List.range.loop]
 iterate 9
  (refine Ad rfl rfl (by decide) (fun d K hK=>?_)
   go_simp
   refine hK _ _ ⟨Af (fun e he=>?_),GoesI.at ?_ d⟩
   ·have hm:=mem_listed he
    simp[go_sem, *] at hm
    try exact ⟨_,_,hm⟩
    try (rcases hm with rfl|rfl<;>exact ⟨_,_,rfl⟩)
   clear hK K)
 refine Ao (f:=48) (fn:=Tryd.f48) (args:=#[Pt cb 0,Pt tb 0,I 1,I 0]) (Aa _ _) rfl rfl (by decide) rfl (by simp[Act.eval]) Tryd.func48 (by decide) rfl ?_
 exact free14 1 0 y _ rfl hvw hn HM.out (fun v' w' r nn f=>hk _ v v' w' ⟨rfl,rfl,by
  intro p hp
  simp only[List.mem_cons,List.not_mem_nil,or_false] at hp
  rcases hp with rfl|rfl|rfl<;>rfl⟩ r nn (grefl v) f) _ rfl
theorem give_lookF {Ch:Nat->Prop}{Stop:Goroutine->World->Prop}{main:Bool}{v w:World}{tb cb:Nat}{y:Int}{s k:Nat}(c0:v.cell? ⟨s,0,none⟩=some (Pt cb 0)) {a:Act}(hA:Fl 56 [(0,Pt s 0),(1,Pt tb 0),(2,I k)] a) (cs:List Frame)
 (hk:∀ a u v' w',Fl 56 [(0,Pt s 0),(1,Pt tb 0),(2,I k)] a->Rel zn v' w'->Ah Ch v'->Grows v u->Fto tb cb (Bi y).2.1 u v'->GoesI Tryd.prog main (DT (ScZ zn) Ch) Stop (G (gSeen a (Bi y).2.2) cs) w')
 (hvw:Rel zn v w) (hn:Ah Ch v) (hm:Fm tb cb y v) :
 GoesI Tryd.prog main (DT (ScZ zn) Ch) Stop (G (gHead a) cs) w:=by
 have HM:Hid (Fm tb cb y v):=⟨hm⟩
 clear hm
 unfold gSeen gO5 at hk
 obtain ⟨hsz,hd,hpp⟩:=hA
 obtain ⟨u,rfl,hg⟩:=litN hsz hd
 have u0:=(hg 0).symm.trans (hpp (0,Pt s 0) (by simp))
 have u1:=(hg 1).symm.trans (hpp (1,Pt tb 0) (by simp))
 have u2:=(hg 2).symm.trans (hpp (2,I k) (by simp))
 clear hg hpp hsz hd
 unfold gHead
 simp only[Option.getD_some,lits,Nat.reduceAdd,u0,u1,u2]
 clear u0 u1 u2
 have c0w:w.cell? ⟨s,0,none⟩=some (Pt cb 0):=by rw[hvw.cell?];exact c0
 rw[show (Item.code gL :: Item.inLoop gL :: gE')=Item.code (.block 1 gK) :: Item.inLoop gL :: gE' by rw[←eGL]]
 refine Bm (Aa _ _) ?_
 rw[show (Item.inBlock 1 :: Item.inLoop gL :: gE')=gE from rfl,show gK=.seq (seq1 gK) g6 from by kernel_rfl]
 refine Ac (Aa _ _) ?_
 unfold gK gL g4 g3 gS Bd Tryd.f26 seq1 seq2 Ak Ar opsOf at hk
 unfold gK gL g4 g3 gS Bd Tryd.f26 seq1 seq2 Ak Ar
 simp only[Option.getD_some] at hk ⊢
 refine Ae (Aa _ _) ?_
 simp only[List.size_toArray,List.length_cons,List.length_nil,Nat.reduceAdd,Nat.zero_add,List.range,List.range.loop]
 iterate 5
  (refine Ad rfl rfl (by decide) (fun d K hK=>?_)
   go_simp
   refine hK _ _ ⟨Af (fun e he=>?_),GoesI.at ?_ d⟩
   ·have hm:=mem_listed he
    simp[go_sem, *] at hm
    try exact ⟨_,_,hm⟩
    try (rcases hm with rfl|rfl<;>exact ⟨_,_,rfl⟩)
   clear hK K)
 refine Ao (f:=44) (fn:=Tryd.f44) (args:=#[Pt cb 0,Pt tb 0]) (Aa _ _) rfl rfl (by decide) rfl (by simp[Act.eval]) Tryd.func44 (by decide) rfl ?_
 exact free17 y _ rfl hvw hn HM.out (fun v' w' r nn f=>hk _ v v' w' ⟨rfl,rfl,by
  intro p hp
  simp only[List.mem_cons,List.not_mem_nil,or_false] at hp
  rcases hp with rfl|rfl|rfl<;>rfl⟩ r nn (grefl v) f) _ rfl
theorem give_nextF {Ch:Nat->Prop}{Stop:Goroutine->World->Prop}{main:Bool}{v w:World}{tb cb:Nat}{y:Int}{s sb n k:Nat}{x:Int}(hkn:k<n) (hF:R1.Flds v) (h1:v.cell? ⟨s,1,none⟩=some (.slice (some ⟨sb,0,none⟩) n n)) (h2:v.cell? ⟨sb,k*2,none⟩=some (Pt cb 0)) {a:Act}(hA:Fl 56 [(0,Pt s 0),(1,Pt tb 0),(2,I k)] a) (cs:List Frame)
 (hk:∀ a u v' w',Fl 56 [(0,Pt s 0),(1,Pt tb 0),(2,I k),(7,I x)] a->Rel zn v' w'->Ah Ch v'->Grows v u->Fto tb cb ((Bo (fstI x)) y).2.1 u v'->GoesI Tryd.prog main (DT (ScZ zn) Ch) Stop (G (gStored a ((Bo (fstI x)) y).2.2) cs) w')
 (hvw:Rel zn v w) (hn:Ah Ch v) (hm:Fm tb cb y v) :
 GoesI Tryd.prog main (DT (ScZ zn) Ch) Stop (G (gSeen a (I x)) cs) w:=by
 have HM:Hid (Fm tb cb y v):=⟨hm⟩
 clear hm
 obtain ⟨hsz,hd,hpp⟩:=hA
 obtain ⟨u,rfl,hg⟩:=litN hsz hd
 have u0:=(hg 0).symm.trans (hpp (0,Pt s 0) (by simp))
 have u1:=(hg 1).symm.trans (hpp (1,Pt tb 0) (by simp))
 have u2:=(hg 2).symm.trans (hpp (2,I k) (by simp))
 clear hg hpp hsz hd
 unfold gSeen
 simp only[Option.getD_some,lits,Nat.reduceAdd,u0,u1,u2]
 clear u0 u1 u2
 unfold gO5 gK gL g4 g3 gS Bd Tryd.f26 seq1 seq2 Ak Ar opsOf
 simp only[Option.getD_some]
 walk_nrm
 iterate 1
  (refine Ad rfl rfl (by decide) (fun d K hK=>?_)
   go_simp
   refine hK _ _ ⟨Af (fun e he=>?_),GoesI.at ?_ d⟩
   ·have hm:=mem_listed he
    simp[go_sem, *] at hm
    try exact ⟨_,_,hm⟩
    try (rcases hm with rfl|rfl<;>exact ⟨_,_,rfl⟩)
   clear hK K)
 refine Ab (Aa _ _) ?_
 rw[eG6]
 refine Ac (Aa _ _) ?_
 refine g6_pre s sb n k cb tb x hkn ⟨rfl,rfl,by
  intro p hp
  simp only[List.mem_cons,List.not_mem_nil,or_false] at hp
  rcases hp with rfl|rfl|rfl|rfl<;>rfl⟩ _ cs hF h1 h2 hvw hn (fun v4 w4 a' o ho hw hA hvw4 hn4 hg4=>?_)
 have e43:a'.eval (.tmp 43)=Pt cb 0:=hA.at 43 _ (by simp)
 have e44:a'.eval (.tmp 44)=Pt tb 0:=hA.at 44 _ (by simp)
 have e47:a'.eval (.tmp 47)=I (fstI x):=hA.at 47 _ (by simp)
 have hop:(gO6[12]?).map (·.op)=some (.call { callee:=.value (.func 47),args:=#[.tmp 43,.tmp 44,.tmp 47],argTypes:=#[89,52,3] }):=by kernel_rfl
 have hds:(gO6[12]?).map (·.dst)=some (some 48):=by kernel_rfl
 rw[ho] at hop hds
 have hop':=Option.some.inj hop
 have hds':o.dst=some 48:=Option.some.inj hds
 refine Ao (f:=47) (fn:=Tryd.f47) (args:=#[Pt cb 0,Pt tb 0,I (fstI x)]) (Aa _ _) ho (hw _) (by simp[base]) hop' (by simp only[List.map_toArray,List.map_cons,List.map_nil,e43,e44,e47]) Tryd.func47 (by decide) rfl ?_
 refine free12 (fstI x) y _ ho hvw4 hn4 (HM.out.grow hg4) (fun v' w' r nn f=>?_) _ rfl
 rw[hds']
 exact hk a' v4 v' w' ⟨hA.1,hA.2.1,fun p hp=>hA.2.2 p (by simp only[List.mem_cons,List.not_mem_nil,or_false] at hp ⊢;rcases hp with rfl|rfl|rfl|rfl<;>simp)⟩ r nn hg4 f
theorem push_valF {Ch:Nat->Prop}{Stop:Goroutine->World->Prop}{main:Bool}{v w:World}{tb cb:Nat}{y:Int}{c pb n:Nat}{x:Int}(k:Nat) (hkn:k<n) (c1:v.cell? ⟨c,2,none⟩=some (.slice (some ⟨pb,0,none⟩) n n)) (c2:v.cell? ⟨pb,k*2,none⟩=some (Pt cb 0)) {a:Act}(hA:Fl 59 [(0,Pt c 0),(1,Pt tb 0),(2,I x)] a) (cs:List Frame)
 (hk:∀ a u v' w',Fl 59 [(0,Pt c 0),(1,Pt tb 0),(2,I x),(7,I k)] a->Rel zn v' w'->Ah Ch v'->Grows v u->Fto tb cb ((Bo (x)) y).2.1 u v'->GoesI Tryd.prog main (DT (ScZ zn) Ch) Stop (G (pVal a ((Bo (x)) y).2.2) cs) w')
 (hvw:Rel zn v w) (hn:Ah Ch v) (hm:Fm tb cb y v) :
 GoesI Tryd.prog main (DT (ScZ zn) Ch) Stop (G (pTook a (.tuple #[I k,I 0])) cs) w:=by
 have HM:Hid (Fm tb cb y v):=⟨hm⟩
 clear hm
 unfold pVal pO4 at hk
 obtain ⟨hsz,hd,hpp⟩:=hA
 obtain ⟨u,rfl,hg⟩:=litN hsz hd
 have u0:=(hg 0).symm.trans (hpp (0,Pt c 0) (by simp))
 have u1:=(hg 1).symm.trans (hpp (1,Pt tb 0) (by simp))
 have u2:=(hg 2).symm.trans (hpp (2,I x) (by simp))
 clear hg hpp hsz hd
 unfold pTook pO1 p2 pS Bd Tryd.f50 seq1 seq2 opsOf
 simp only[Option.getD_some,lits,Nat.reduceAdd,u0,u1,u2]
 clear u0 u1 u2
 have hkn':(k:Int)<(n:Int):=by omega
 have d1:w.cell? ⟨c,2,none⟩=some (.slice (some ⟨pb,0,none⟩) n n):=by rw[hvw.cell?];exact c1
 have d2:w.cell? ⟨pb,k*2,none⟩=some (Pt cb 0):=by rw[hvw.cell?];exact c2
 walk_nrm
 iterate 5
  (refine Ad rfl rfl (by decide) (fun d K hK=>?_)
   go_simp
   refine hK _ _ ⟨Af (fun e he=>?_),GoesI.at ?_ d⟩
   ·have hm:=mem_listed he
    simp[go_sem, *] at hm
    try exact ⟨_,_,hm⟩
    try (rcases hm with rfl|rfl<;>exact ⟨_,_,rfl⟩)
   clear hK K)
 refine Ab (Aa _ _) ?_
 refine Ac (Aa _ _) ?_
 refine Ac (Aa _ _) ?_
 refine Ae (Aa _ _) ?_
 simp only[List.size_toArray,List.length_cons,List.length_nil,Nat.reduceAdd,Nat.zero_add,List.range,List.range.loop]
 iterate 2
  (refine Ad rfl rfl (by decide) (fun d K hK=>?_)
   go_simp
   refine hK _ _ ⟨Af (fun e he=>?_),GoesI.at ?_ d⟩
   ·have hm:=mem_listed he
    simp[go_sem, *] at hm
    try exact ⟨_,_,hm⟩
    try (rcases hm with rfl|rfl<;>exact ⟨_,_,rfl⟩)
   clear hK K)
 refine Ab (Aa _ _) ?_
 refine Ax (Aa _ _) (t:=false) (by simp[Act.eval]) ?_
 simp only[if_true,if_false,Bool.false_eq_true]
 refine Bh (Aa _ _) ?_
 unfold p4 p2 pS Bd Tryd.f50 seq1 seq2 opsOf at hk
 simp only[Option.getD_some] at hk
 refine Ac (Aa _ _) ?_
 refine Ae (Aa _ _) ?_
 simp only[List.size_toArray,List.length_cons,List.length_nil,Nat.reduceAdd,Nat.zero_add,List.range,List.range.loop]
 iterate 10
  (refine Ad rfl rfl (by decide) (fun d K hK=>?_)
   go_simp
   refine hK _ _ ⟨Af (fun e he=>?_),GoesI.at ?_ d⟩
   ·have hm:=mem_listed he
    simp[go_sem, *] at hm
    try exact ⟨_,_,hm⟩
    try (rcases hm with rfl|rfl<;>exact ⟨_,_,rfl⟩)
   clear hK K)
 refine Ao (f:=47) (fn:=Tryd.f47) (args:=#[Pt cb 0,Pt tb 0,I (x)]) (Aa _ _) rfl rfl (by decide) rfl (by simp[Act.eval]) Tryd.func47 (by decide) rfl ?_
 exact free12 (x) y _ rfl hvw hn HM.out (fun v' w' r nn f=>hk _ v v' w' ⟨rfl,rfl,by
  intro p hp
  simp only[List.mem_cons,List.not_mem_nil,or_false] at hp
  rcases hp with rfl|rfl|rfl|rfl<;>rfl⟩ r nn (grefl v) f) _ rfl
theorem push_lookF {Ch:Nat->Prop}{Stop:Goroutine->World->Prop}{main:Bool}{v w:World}{tb cb:Nat}{y:Int}{c k:Nat}{x:Int}(c0:v.cell? ⟨c,1,none⟩=some (Pt cb 0)) {a:Act}(hA:Fl 59 [(0,Pt c 0),(1,Pt tb 0),(2,I x),(7,I k)] a) (cs:List Frame)
 (hk:∀ a u v' w',Fl 59 [(0,Pt c 0),(1,Pt tb 0),(2,I x),(7,I k)] a->Rel zn v' w'->Ah Ch v'->Grows v u->Fto tb cb (Bi y).2.1 u v'->GoesI Tryd.prog main (DT (ScZ zn) Ch) Stop (G (pSeen a (Bi y).2.2) cs) w')
 (hvw:Rel zn v w) (hn:Ah Ch v) (hm:Fm tb cb y v) :
 GoesI Tryd.prog main (DT (ScZ zn) Ch) Stop (G (pHead a) cs) w:=by
 have HM:Hid (Fm tb cb y v):=⟨hm⟩
 clear hm
 unfold pSeen at hk
 obtain ⟨hsz,hd,hpp⟩:=hA
 obtain ⟨u,rfl,hg⟩:=litN hsz hd
 have u0:=(hg 0).symm.trans (hpp (0,Pt c 0) (by simp))
 have u1:=(hg 1).symm.trans (hpp (1,Pt tb 0) (by simp))
 have u2:=(hg 2).symm.trans (hpp (2,I x) (by simp))
 have u7:=(hg 7).symm.trans (hpp (7,I k) (by simp))
 clear hg hpp hsz hd
 unfold pHead
 simp only[Option.getD_some,lits,Nat.reduceAdd,u0,u1,u2,u7]
 clear u0 u1 u2 u7
 have c0w:w.cell? ⟨c,1,none⟩=some (Pt cb 0):=by rw[hvw.cell?];exact c0
 rw[show (Item.code pL :: Item.inLoop pL :: pE')=Item.code (.block 1 pK) :: Item.inLoop pL :: pE' by rw[←ePL]]
 refine Bm (Aa _ _) ?_
 rw[show (Item.inBlock 1 :: Item.inLoop pL :: pE')=pE from rfl,ePK]
 refine Ac (Aa _ _) ?_
 unfold pO5 pK pL p5 p4 p2 pS Bd Tryd.f50 seq1 seq2 Ak Ar opsOf at hk ⊢
 simp only[Option.getD_some] at hk ⊢
 refine Ae (Aa _ _) ?_
 simp only[List.size_toArray,List.length_cons,List.length_nil,Nat.reduceAdd,Nat.zero_add,List.range,List.range.loop]
 iterate 5
  (refine Ad rfl rfl (by decide) (fun d K hK=>?_)
   go_simp
   refine hK _ _ ⟨Af (fun e he=>?_),GoesI.at ?_ d⟩
   ·have hm:=mem_listed he
    simp[go_sem, *] at hm
    try exact ⟨_,_,hm⟩
    try (rcases hm with rfl|rfl<;>exact ⟨_,_,rfl⟩)
   clear hK K)
 refine Ao (f:=44) (fn:=Tryd.f44) (args:=#[Pt cb 0,Pt tb 0]) (Aa _ _) rfl rfl (by decide) rfl (by simp[Act.eval]) Tryd.func44 (by decide) rfl ?_
 exact free17 y _ rfl hvw hn HM.out (fun v' w' r nn f=>hk _ v v' w' ⟨rfl,rfl,by
  intro p hp
  simp only[List.mem_cons,List.not_mem_nil,or_false] at hp
  rcases hp with rfl|rfl|rfl|rfl<;>rfl⟩ r nn (grefl v) f) _ rfl
theorem push_linkF {Ch:Nat->Prop}{Stop:Goroutine->World->Prop}{main:Bool}{v w:World}{tb cb:Nat}{y:Int}{c pb n k:Nat}{x:Int}(h0:Int) (hkn:k<n) (hF:R1.Flds v) (h1:v.cell? ⟨c,2,none⟩=some (.slice (some ⟨pb,0,none⟩) n n)) (h2:v.cell? ⟨pb,k*2+1,none⟩=some (Pt cb 0)) {a:Act}(hA:Fl 59 [(0,Pt c 0),(1,Pt tb 0),(2,I x),(7,I k)] a) (cs:List Frame)
 (hk:∀ a u v' w',Fl 59 [(0,Pt c 0),(1,Pt tb 0),(2,I x),(7,I k),(9,I h0)] a->Rel zn v' w'->Ah Ch v'->Grows v u->Fto tb cb ((Bo (fstI h0)) y).2.1 u v'->GoesI Tryd.prog main (DT (ScZ zn) Ch) Stop (G (pLink a ((Bo (fstI h0)) y).2.2) cs) w')
 (hvw:Rel zn v w) (hn:Ah Ch v) (hm:Fm tb cb y v) :
 GoesI Tryd.prog main (DT (ScZ zn) Ch) Stop (G (pSeen a (I h0)) cs) w:=by
 have HM:Hid (Fm tb cb y v):=⟨hm⟩
 clear hm
 obtain ⟨hsz,hd,hpp⟩:=hA
 obtain ⟨u,rfl,hg⟩:=litN hsz hd
 have u0:=(hg 0).symm.trans (hpp (0,Pt c 0) (by simp))
 have u1:=(hg 1).symm.trans (hpp (1,Pt tb 0) (by simp))
 have u2:=(hg 2).symm.trans (hpp (2,I x) (by simp))
 have u7:=(hg 7).symm.trans (hpp (7,I k) (by simp))
 clear hg hpp hsz hd
 unfold pSeen
 simp only[Option.getD_some,lits,Nat.reduceAdd,u0,u1,u2,u7]
 clear u0 u1 u2 u7
 unfold pO5 pK pL p5 p4 p2 pS Bd Tryd.f50 seq1 seq2 Ak Ar opsOf
 simp only[Option.getD_some]
 walk_nrm
 iterate 1
  (refine Ad rfl rfl (by decide) (fun d K hK=>?_)
   go_simp
   refine hK _ _ ⟨Af (fun e he=>?_),GoesI.at ?_ d⟩
   ·have hm:=mem_listed he
    simp[go_sem, *] at hm
    try exact ⟨_,_,hm⟩
    try (rcases hm with rfl|rfl<;>exact ⟨_,_,rfl⟩)
   clear hK K)
 refine Ab (Aa _ _) ?_
 rw[eP6]
 refine Ac (Aa _ _) ?_
 refine p6_pre c pb n k cb tb x h0 hkn ⟨rfl,rfl,by
  intro p hp
  simp only[List.mem_cons,List.not_mem_nil,or_false] at hp
  rcases hp with rfl|rfl|rfl|rfl|rfl<;>rfl⟩ _ cs hF h1 h2 hvw hn (fun v4 w4 a' o ho hw hA hvw4 hn4 hg4=>?_)
 have e46:a'.eval (.tmp 46)=Pt cb 0:=hA.at 46 _ (by simp)
 have e47:a'.eval (.tmp 47)=Pt tb 0:=hA.at 47 _ (by simp)
 have e50:a'.eval (.tmp 50)=I (fstI h0):=hA.at 50 _ (by simp)
 have hop:(pO6[12]?).map (·.op)=some (.call { callee:=.value (.func 47),args:=#[.tmp 46,.tmp 47,.tmp 50],argTypes:=#[89,52,3] }):=by kernel_rfl
 have hds:(pO6[12]?).map (·.dst)=some (some 51):=by kernel_rfl
 rw[ho] at hop hds
 have hop':=Option.some.inj hop
 have hds':o.dst=some 51:=Option.some.inj hds
 refine Ao (f:=47) (fn:=Tryd.f47) (args:=#[Pt cb 0,Pt tb 0,I (fstI h0)]) (Aa _ _) ho (hw _) (by simp[base]) hop' (by simp only[List.map_toArray,List.map_cons,List.map_nil,e46,e47,e50]) Tryd.func47 (by decide) rfl ?_
 refine free12 (fstI h0) y _ ho hvw4 hn4 (HM.out.grow hg4) (fun v' w' r nn f=>?_) _ rfl
 rw[hds']
 exact hk a' v4 v' w' ⟨hA.1,hA.2.1,fun p hp=>hA.2.2 p (by simp only[List.mem_cons,List.not_mem_nil,or_false] at hp ⊢;rcases hp with rfl|rfl|rfl|rfl|rfl<;>simp)⟩ r nn hg4 f
theorem pop_lookF {Ch:Nat->Prop}{Stop:Goroutine->World->Prop}{main:Bool}{v w:World}{tb cb:Nat}{y:Int}{c:Nat}(c0:v.cell? ⟨c,1,none⟩=some (Pt cb 0)) {a:Act}(hA:Fl 58 [(0,Pt c 0),(1,Pt tb 0)] a) (cs:List Frame)
 (hk:∀ a u v' w',Fl 58 [(0,Pt c 0),(1,Pt tb 0)] a->Rel zn v' w'->Ah Ch v'->Grows v u->Fto tb cb (Bi y).2.1 u v'->GoesI Tryd.prog main (DT (ScZ zn) Ch) Stop (G (Jv a (Bi y).2.2) cs) w')
 (hvw:Rel zn v w) (hn:Ah Ch v) (hm:Fm tb cb y v) :
 GoesI Tryd.prog main (DT (ScZ zn) Ch) Stop (G (oHead a) cs) w:=by
 have HM:Hid (Fm tb cb y v):=⟨hm⟩
 clear hm
 unfold Jv at hk
 obtain ⟨hsz,hd,hpp⟩:=hA
 obtain ⟨u,rfl,hg⟩:=litN hsz hd
 have u0:=(hg 0).symm.trans (hpp (0,Pt c 0) (by simp))
 have u1:=(hg 1).symm.trans (hpp (1,Pt tb 0) (by simp))
 clear hg hpp hsz hd
 unfold oHead
 simp only[Option.getD_some,lits,Nat.reduceAdd,u0,u1]
 clear u0 u1
 have c0w:w.cell? ⟨c,1,none⟩=some (Pt cb 0):=by rw[hvw.cell?];exact c0
 rw[show (Item.code oL :: Item.inLoop oL :: oE')=Item.code (.block 1 oK) :: Item.inLoop oL :: oE' by rw[←eOL]]
 refine Bm (Aa _ _) ?_
 rw[show (Item.inBlock 1 :: Item.inLoop oL :: oE')=oE from rfl,eOK]
 refine Ac (Aa _ _) ?_
 unfold oO1 oK oL oS Bd Tryd.f51 seq1 seq2 Ak Ar opsOf at hk ⊢
 simp only[Option.getD_some] at hk ⊢
 refine Ae (Aa _ _) ?_
 simp only[List.size_toArray,List.length_cons,List.length_nil,Nat.reduceAdd,Nat.zero_add,List.range,List.range.loop]
 iterate 5
  (refine Ad rfl rfl (by decide) (fun d K hK=>?_)
   go_simp
   refine hK _ _ ⟨Af (fun e he=>?_),GoesI.at ?_ d⟩
   ·have hm:=mem_listed he
    simp[go_sem, *] at hm
    try exact ⟨_,_,hm⟩
    try (rcases hm with rfl|rfl<;>exact ⟨_,_,rfl⟩)
   clear hK K)
 refine Ao (f:=44) (fn:=Tryd.f44) (args:=#[Pt cb 0,Pt tb 0]) (Aa _ _) rfl rfl (by decide) rfl (by simp[Act.eval]) Tryd.func44 (by decide) rfl ?_
 exact free17 y _ rfl hvw hn HM.out (fun v' w' r nn f=>hk _ v v' w' ⟨rfl,rfl,by
  intro p hp
  simp only[List.mem_cons,List.not_mem_nil,or_false] at hp
  rcases hp with rfl|rfl<;>rfl⟩ r nn (grefl v) f) _ rfl
theorem pop_linkF {Ch:Nat->Prop}{Stop:Goroutine->World->Prop}{main:Bool}{v w:World}{tb cb:Nat}{y:Int}{c pb n:Nat}{x:Int}(k:Nat) (hk0:fstI x=(k:Int)+1) (hkn:k<n) (hF:R1.Flds v) (c1:v.cell? ⟨c,2,none⟩=some (.slice (some ⟨pb,0,none⟩) n n)) (c2:v.cell? ⟨pb,k*2+1,none⟩=some (Pt cb 0)) {a:Act}(hA:Fl 58 [(0,Pt c 0),(1,Pt tb 0)] a) (cs:List Frame)
 (hk:∀ a u v' w',Fl 58 [(0,Pt c 0),(1,Pt tb 0),(6,I x),(8,I k)] a->Rel zn v' w'->Ah Ch v'->Grows v u->Fto tb cb (Bi y).2.1 u v'->GoesI Tryd.prog main (DT (ScZ zn) Ch) Stop (G (oLink a (Bi y).2.2) cs) w')
 (hvw:Rel zn v w) (hn:Ah Ch v) (hm:Fm tb cb y v) :
 GoesI Tryd.prog main (DT (ScZ zn) Ch) Stop (G (Jv a (I x)) cs) w:=by
 have HM:Hid (Fm tb cb y v):=⟨hm⟩
 clear hm
 unfold oLink at hk
 obtain ⟨hsz,hd,hpp⟩:=hA
 obtain ⟨u,rfl,hg⟩:=litN hsz hd
 have u0:=(hg 0).symm.trans (hpp (0,Pt c 0) (by simp))
 have u1:=(hg 1).symm.trans (hpp (1,Pt tb 0) (by simp))
 clear hg hpp hsz hd
 unfold Jv oO1 o2 oK oL oS Bd Tryd.f51 seq1 seq2 Ak Ar opsOf
 simp only[Option.getD_some,lits,Nat.reduceAdd,u0,u1]
 clear u0 u1
 have HK0:Hid (fstI x=(k:Int)+1):=⟨hk0⟩
 clear hk0
 have g0:w.cell? ⟨2,0,none⟩=some (I 0):=by rw[hvw.cell?];exact hF.c0
 have g1:w.cell? ⟨2,1,none⟩=some (I 32):=by rw[hvw.cell?];exact hF.c1
 walk_nrm
 iterate 1
  (refine Ad rfl rfl (by decide) (fun d K hK=>?_)
   go_simp
   refine hK _ _ ⟨Af (fun e he=>?_),GoesI.at ?_ d⟩
   ·have hm:=mem_listed he
    simp[go_sem, *] at hm
    try exact ⟨_,_,hm⟩
    try (rcases hm with rfl|rfl<;>exact ⟨_,_,rfl⟩)
   clear hK K)
 refine Ab (Aa _ _) ?_
 refine Ac (Aa _ _) ?_
 refine Ae (Aa _ _) ?_
 simp only[List.size_toArray,List.length_cons,List.length_nil,Nat.reduceAdd,Nat.zero_add,List.range,List.range.loop]
 iterate 2
  (refine Ad rfl rfl (by decide) (fun d K hK=>?_)
   go_simp
   refine hK _ _ ⟨Af (fun e he=>?_),GoesI.at ?_ d⟩
   ·have hm:=mem_listed he
    simp[go_sem, *] at hm
    try exact ⟨_,_,hm⟩
    try (rcases hm with rfl|rfl<;>exact ⟨_,_,rfl⟩)
   clear hK K)
 refine D2 (f:=45) (fn:=Tryd.f45) (args:=#[I x,R1.F 0 32]) hE Di rfl rfl (by decide) rfl (by simp[Act.eval,R1.F]) Tryd.func45 (by kernel_rfl) rfl (Cc Di (by simp[LT,Da]) Tryd.func45 rfl) (fun tmps=>⟨_,fun w=>results_tmp rfl _ _ _,fun w=>by simp[results,go_sem,Tryd.f45]⟩) hvw hn
  (R:=fun r v4=>r=I (fstI x)∧Grows v v4) (fun τ=>?_) (fun r v4 w4 hR hvw4 hn4=>?_)
 ·exact wp_mono (R1.Eg x 0 32 (Ap v τ 0) (by decide) (by decide) (by decide) _ rfl) (Dh fun r u hq=>⟨hq.1,gtape (Dl hq.2)⟩)
 obtain ⟨rfl,hg4⟩:=hR
 walk_nrm
 have hne:¬ (fstI x=0):=by have:=HK0.out;omega
 have hwr:IntKind.i64.wrap (fstI x - 1)=(k:Int):=by have:=HK0.out;have hx:=R1.Jd x;rw[IntKind.wrap_i64];omega
 have hkn':(k:Int)<(n:Int):=by omega
 have d1:w4.cell? ⟨c,2,none⟩=some (.slice (some ⟨pb,0,none⟩) n n):=by rw[hvw4.cell?];exact hg4.cell c1
 have d2:w4.cell? ⟨pb,k*2+1,none⟩=some (Pt cb 0):=by rw[hvw4.cell?];exact hg4.cell c2
 iterate 1
  (refine Ad rfl rfl (by decide) (fun d K hK=>?_)
   go_simp
   refine hK _ _ ⟨Af (fun e he=>?_),GoesI.at ?_ d⟩
   ·have hm:=mem_listed he
    simp[go_sem, *] at hm
    try exact ⟨_,_,hm⟩
    try (rcases hm with rfl|rfl<;>exact ⟨_,_,rfl⟩)
   clear hK K)
 refine Ab (Aa _ _) ?_
 refine Ac (Aa _ _) ?_
 refine Ac (Aa _ _) ?_
 refine Ae (Aa _ _) ?_
 simp only[List.size_toArray,List.length_cons,List.length_nil,Nat.reduceAdd,Nat.zero_add,List.range,List.range.loop]
 iterate 2
  (refine Ad rfl rfl (by decide) (fun d K hK=>?_)
   go_simp
   refine hK _ _ ⟨Af (fun e he=>?_),GoesI.at ?_ d⟩
   ·have hm:=mem_listed he
    simp[go_sem, *] at hm
    try exact ⟨_,_,hm⟩
    try (rcases hm with rfl|rfl<;>exact ⟨_,_,rfl⟩)
   clear hK K)
 refine Ab (Aa _ _) ?_
 refine Ax (Aa _ _) (t:=false) (by simp[Act.eval,hne]) ?_
 simp only[if_true,if_false,Bool.false_eq_true]
 refine Bh (Aa _ _) ?_
 refine Ac (Aa _ _) ?_
 refine Ae (Aa _ _) ?_
 simp only[List.size_toArray,List.length_cons,List.length_nil,Nat.reduceAdd,Nat.zero_add,List.range,List.range.loop]
 iterate 3
  (refine Ad rfl rfl (by decide) (fun d K hK=>?_)
   go_simp
   refine hK _ _ ⟨Af (fun e he=>?_),GoesI.at ?_ d⟩
   ·have hm:=mem_listed he
    simp[go_sem, *] at hm
    try exact ⟨_,_,hm⟩
    try (rcases hm with rfl|rfl<;>exact ⟨_,_,rfl⟩)
   clear hK K)
 refine Ab (Aa _ _) ?_
 refine Ac (Aa _ _) ?_
 unfold oO6 o6 o5 o3 o2 oK oL oS Bd Tryd.f51 seq1 seq2 Ak Ar opsOf at hk
 simp only[Option.getD_some] at hk
 refine Ae (Aa _ _) ?_
 simp only[List.size_toArray,List.length_cons,List.length_nil,Nat.reduceAdd,Nat.zero_add,List.range,List.range.loop]
 iterate 9
  (refine Ad rfl rfl (by decide) (fun d K hK=>?_)
   go_simp
   refine hK _ _ ⟨Af (fun e he=>?_),GoesI.at ?_ d⟩
   ·have hm:=mem_listed he
    simp[go_sem, *] at hm
    try exact ⟨_,_,hm⟩
    try (rcases hm with rfl|rfl<;>exact ⟨_,_,rfl⟩)
   clear hK K)
 refine Ao (f:=44) (fn:=Tryd.f44) (args:=#[Pt cb 0,Pt tb 0]) (Aa _ _) rfl rfl (by decide) rfl (by simp[Act.eval]) Tryd.func44 (by decide) rfl ?_
 exact free17 y _ rfl hvw4 hn4 (HM.out.grow hg4) (fun v' w' r nn f=>hk _ v4 v' w' ⟨rfl,rfl,by
  intro p hp
  simp only[List.mem_cons,List.not_mem_nil,or_false] at hp
  rcases hp with rfl|rfl|rfl|rfl<;>rfl⟩ r nn hg4 f) _ rfl
theorem pop_valF {Ch:Nat->Prop}{Stop:Goroutine->World->Prop}{main:Bool}{v w:World}{tb cb:Nat}{y:Int}{c pb n k:Nat}{x:Int}(hkn:k<n) (c1:v.cell? ⟨c,2,none⟩=some (.slice (some ⟨pb,0,none⟩) n n)) (c2:v.cell? ⟨pb,k*2,none⟩=some (Pt cb 0)) {a:Act}(hA:Fl 58 [(0,Pt c 0),(1,Pt tb 0),(6,I x),(8,I k)] a) (cs:List Frame)
 (hk:∀ a u v' w',Fl 58 [(0,Pt c 0),(1,Pt tb 0),(8,I k)] a->Rel zn v' w'->Ah Ch v'->Grows v u->Fto tb cb (Bi y).2.1 u v'->GoesI Tryd.prog main (DT (ScZ zn) Ch) Stop (G (oVal a (Bi y).2.2) cs) w')
 (hvw:Rel zn v w) (hn:Ah Ch v) (hm:Fm tb cb y v) :
 GoesI Tryd.prog main (DT (ScZ zn) Ch) Stop (G (oTried a (.bool true)) cs) w:=by
 have HM:Hid (Fm tb cb y v):=⟨hm⟩
 clear hm
 unfold oVal at hk
 obtain ⟨hsz,hd,hpp⟩:=hA
 obtain ⟨u,rfl,hg⟩:=litN hsz hd
 have u0:=(hg 0).symm.trans (hpp (0,Pt c 0) (by simp))
 have u1:=(hg 1).symm.trans (hpp (1,Pt tb 0) (by simp))
 have u6:=(hg 6).symm.trans (hpp (6,I x) (by simp))
 have u8:=(hg 8).symm.trans (hpp (8,I k) (by simp))
 clear hg hpp hsz hd
 unfold oTried oO7 oC7 o7 o6 o5 o3 o2 oK oL oS Bd Tryd.f51 seq1 seq2 Ak Ar opsOf
 simp only[Option.getD_some,lits,Nat.reduceAdd,u0,u1,u6,u8]
 clear u0 u1 u6 u8
 have hkn':(k:Int)<(n:Int):=by omega
 have d1:w.cell? ⟨c,2,none⟩=some (.slice (some ⟨pb,0,none⟩) n n):=by rw[hvw.cell?];exact c1
 have d2:w.cell? ⟨pb,k*2,none⟩=some (Pt cb 0):=by rw[hvw.cell?];exact c2
 walk_nrm
 iterate 1
  (refine Ad rfl rfl (by decide) (fun d K hK=>?_)
   go_simp
   refine hK _ _ ⟨Af (fun e he=>?_),GoesI.at ?_ d⟩
   ·have hm:=mem_listed he
    simp[go_sem, *] at hm
    try exact ⟨_,_,hm⟩
    try (rcases hm with rfl|rfl<;>exact ⟨_,_,rfl⟩)
   clear hK K)
 refine Ab (Aa _ _) ?_
 refine Ax (Aa _ _) (t:=false) (by simp[Act.eval]) ?_
 simp only[if_true,if_false,Bool.false_eq_true]
 refine Bh (Aa _ _) ?_
 rw[eO8]
 refine Ac (Aa _ _) ?_
 unfold oO8 o8 o7 o6 o5 o3 o2 oK oL oS Bd Tryd.f51 seq1 seq2 Ak Ar opsOf at hk ⊢
 simp only[Option.getD_some] at hk ⊢
 refine Ae (Aa _ _) ?_
 simp only[List.size_toArray,List.length_cons,List.length_nil,Nat.reduceAdd,Nat.zero_add,List.range,List.range.loop]
 iterate 9
  (refine Ad rfl rfl (by decide) (fun d K hK=>?_)
   go_simp
   refine hK _ _ ⟨Af (fun e he=>?_),GoesI.at ?_ d⟩
   ·have hm:=mem_listed he
    simp[go_sem, *] at hm
    try exact ⟨_,_,hm⟩
    try (rcases hm with rfl|rfl<;>exact ⟨_,_,rfl⟩)
   clear hK K)
 refine Ao (f:=44) (fn:=Tryd.f44) (args:=#[Pt cb 0,Pt tb 0]) (Aa _ _) rfl rfl (by decide) rfl (by simp[Act.eval]) Tryd.func44 (by decide) rfl ?_
 exact free17 y _ rfl hvw hn HM.out (fun v' w' r nn f=>hk _ v v' w' ⟨rfl,rfl,by
  intro p hp
  simp only[List.mem_cons,List.not_mem_nil,or_false] at hp
  rcases hp with rfl|rfl|rfl<;>rfl⟩ r nn (grefl v) f) _ rfl
structure Fk (B:Nat) (v v':World):Prop where
 size:v.heap.size≤v'.heap.size
 old:∀ b,b<B->v'.heap[b]? = v.heap[b]?
 os:v'.os=v.os
 out:v'.output=v.output
theorem Fk.refl (B:Nat) (v:World):Fk B v v:=⟨Nat.le_refl _,fun _ _=>rfl,rfl,rfl⟩
theorem Fk.trans {B:Nat}{v v' v'':World}(h:Fk B v v') (k:Fk B v' v''):Fk B v v'':=⟨Nat.le_trans h.size k.size,fun b hb=>(k.old b hb).trans (h.old b hb),k.os.trans h.os,k.out.trans h.out⟩
structure Fst (n c s sb rb tb:Nat) (kb:List Nat) (B:Nat) (xs:List Int) (v:World):Prop where
 stk:Stk v c s sb rb n kb
 fld:R1.Flds v
 thr:v.cell? ⟨tb,0,none⟩=some (.pointer none)
 cel:∀ (j cb:Nat) (x:Int),kb[j]? = some cb->xs[j]? = some x->v.heap[cb]? = some (.cells #[I 0,I x] 123 (0,0))
 nd:kb.Nodup
 far:∀ cb∈kb,4≤cb∧cb≠c∧cb≠s∧cb≠sb∧cb≠rb∧cb≠tb∧B≤cb
section
variable {n c s sb rb tb B:Nat}{kb:List Nat}{xs:List Int}{v u v' w:World}
theorem Fst.fm (h:Fst n c s sb rb tb kb B xs v) {j cb:Nat}{x:Int}(hj:kb[j]? = some cb) (hx:xs[j]? = some x):Fm tb cb x v:=⟨h.thr,fun e=>(h.far cb (List.mem_of_getElem? hj)).2.2.2.2.2.1 e.symm,h.cel j cb x hj hx⟩
theorem Stk.of {v v':World}(h:Stk v c s sb rb n kb) (k:∀ a:Addr,a.block=c∨a.block=s∨a.block=sb∨a.block=rb->∀ x,v.cell? a=some x->v'.cell? a=some x):Stk v' c s sb rb n kb:=by
 have k1:∀ o x,v.cell? ⟨c,o,none⟩=some x->v'.cell? ⟨c,o,none⟩=some x:=fun o x h=>k _ (.inl rfl) x h
 have k2:∀ o x,v.cell? ⟨s,o,none⟩=some x->v'.cell? ⟨s,o,none⟩=some x:=fun o x h=>k _ (.inr (.inl rfl)) x h
 have k3:∀ o x,v.cell? ⟨sb,o,none⟩=some x->v'.cell? ⟨sb,o,none⟩=some x:=fun o x h=>k _ (.inr (.inr (.inl rfl))) x h
 have k4:∀ o x,v.cell? ⟨rb,o,none⟩=some x->v'.cell? ⟨rb,o,none⟩=some x:=fun o x h=>k _ (.inr (.inr (.inr rfl))) x h
 refine ⟨⟨?_,k2 _ _ h.slt.row,fun i hi=>?_,fun i hi=>?_⟩,k1 _ _ h.slots,?_,k1 _ _ h.row,fun i hi=>?_,fun i hi=>?_,h.n1⟩
 ·obtain ⟨b,h1,h2⟩:=h.slt.head;exact ⟨b,h1,k2 _ _ h2⟩
 ·obtain ⟨b,h1,h2⟩:=h.slt.next i hi;exact ⟨b,h1,k3 _ _ h2⟩
 ·obtain ⟨b,h1,h2⟩:=h.slt.used i hi;exact ⟨b,h1,k3 _ _ h2⟩
 ·obtain ⟨b,h1,h2⟩:=h.head;exact ⟨b,h1,k1 _ _ h2⟩
 ·obtain ⟨b,h1,h2⟩:=h.value i hi;exact ⟨b,h1,k4 _ _ h2⟩
 ·obtain ⟨b,h1,h2⟩:=h.link i hi;exact ⟨b,h1,k4 _ _ h2⟩
theorem Fst.step (h:Fst n c s sb rb tb kb B xs v) {j cb:Nat}{y:Int}(hj:kb[j]? = some cb) (g:Grows v u) (f:Fto tb cb y u v') (hB:B≤v.heap.size):Fst n c s sb rb tb kb B (xs.set j y) v'∧Fk B v v':=by
 have hf:=h.far cb (List.mem_of_getElem? hj)
 have kc:∀ a:Addr,a.block≠cb->∀ x,v.cell? a=some x->v'.cell? a=some x:=fun a ha x hx=>by
  rw[World.cell?_of_block (w:=u) (f.old _ ha)]
  exact g.cell hx
 refine ⟨⟨h.stk.of (fun a ha x hx=>kc a (by omega) x hx),?_,f.fm.thr,fun i ci x hi hx=>?_,h.nd,h.far⟩,⟨by rw[f.size];exact g.size,fun b hb=>?_,f.os.trans g.os,f.out.trans g.output⟩⟩
 ·have q:∀ (b o:Nat) (x:Value),b<4->v.cell? ⟨b,o,none⟩=some x->v'.cell? ⟨b,o,none⟩=some x:=fun b o x hb hx=>kc _ (by show b≠cb;omega) x hx
  have F:=h.fld
  exact ⟨q _ _ _ (by omega) F.a0,q _ _ _ (by omega) F.a1,q _ _ _ (by omega) F.b0,q _ _ _ (by omega) F.b1,q _ _ _ (by omega) F.c0,q _ _ _ (by omega) F.c1,q _ _ _ (by omega) F.d0,q _ _ _ (by omega) F.d1⟩
 ·rw[List.getElem?_set] at hx
  by_cases e:j=i
  ·subst e
   rw[hj] at hi
   cases hi
   split at hx
   ·split at hx
    ·cases hx;exact f.fm.cel
    ·cases hx
   ·rename_i hne;exact absurd rfl hne
  ·rw[if_neg e] at hx
   have hne:ci≠cb:=fun e2=>by
    subst e2
    exact e ((List.getElem?_inj (List.getElem?_eq_some_iff.1 hj).1 h.nd).1 (hj.trans hi.symm))
   have hc:=h.cel i ci x hi hx
   rw[f.old ci hne,g.old ci (Array.getElem?_eq_some_iff.1 hc).1]
   exact hc
 ·rw[f.old b (by omega),g.old b (by omega)]
end
theorem Fst.grow {n c s sb rb tb B:Nat}{kb:List Nat}{xs:List Int}{v v1:World}(h:Fst n c s sb rb tb kb B xs v) (g:Grows v v1):Fst n c s sb rb tb kb B xs v1:=⟨h.stk.of (fun a _ x hx=>g.cell hx),flds_grows h.fld g,g.cell h.thr,fun j cb x hj hx=>by have hc:=h.cel j cb x hj hx;rw[g.old cb (Array.getElem?_eq_some_iff.1 hc).1];exact hc,h.nd,h.far⟩
theorem Fk.grow {B:Nat}{v v1:World}(g:Grows v v1) (hB:B≤v.heap.size):Fk B v v1:=⟨g.size,fun b hb=>g.old b (by omega),g.os,g.output⟩
theorem fpush {Ch:Nat->Prop}{Stop:Goroutine->World->Prop}{main:Bool}{c s sb rb tb B:Nat}{kb:List Nat}{h0 nx us hd vl lk:Int}{v w:World}(x:Int) (hx:fstI h0=((0:Nat):Int)+1) (h:Fst 1 c s sb rb tb kb B [h0,nx,us,hd,vl,lk] v) (hB:B≤v.heap.size) (cs:List Frame) {bc:Frame}{ac:Act}{ops:Array Oper}{q:Nat}{rest:List Nat}{oc:Oper}{k0:List Item}(hoc:ops[q]? = some oc) (hvw:Rel zn v w) (hn:Ah Ch v)
 (hk:∀ v' w',Rel zn v' w'->Ah Ch v'->Fst 1 c s sb rb tb kb B [hdI nx (verI h0+1),nx,1,hdI 1 (verI hd+1),x,fstI hd] v'->Fk B v v'->GoesI Tryd.prog main (DT (ScZ zn) Ch) Stop (G (bc.at (ac.put oc.dst (I 0)) (.inRegion ops rest :: k0)) cs) w') (code:Code) (hc:Tryd.f50.body=some code) :
 GoesI Tryd.prog main (DT (ScZ zn) Ch) Stop (G ((base 50).at { tmps:=#[Pt c 0,Pt tb 0,I x]++Array.replicate 56 undef,defers:=[] } [.code code]) (bc.at ac (.inRegion ops (q :: rest) :: k0) :: cs)) w:=by
 refine push_in h.stk.slots _ hvw (fun ap code hc hP=>?_) code hc
 refine take_in _ (fun a hA=>?_) code hc
 obtain ⟨cb1,jb1,cc1⟩:=h.stk.slt.head
 refine take_lookF cc1 hA _ (fun a1 u1 v1 w1 hA1 r1 n1 gg1 f1=>?_) hvw hn (h.fm jb1 rfl)
 obtain ⟨h1,k1⟩:=h.step jb1 gg1 f1 hB
 have b1:=Nat.le_trans hB k1.size
 have h1:Fst 1 c s sb rb tb kb B [h0,nx,us,hd,vl,lk] v1:=h1
 obtain ⟨cb2,jb2,cc2⟩:=h1.stk.slt.next 0 (by decide)
 refine take_nextF 0 hx (by decide) h1.fld h1.stk.slt.row cc2 hA1 _ (fun a2 u2 v2 w2 hA2 r2 n2 gg2 f2=>?_) r1 n1 (h1.fm jb2 rfl)
 obtain ⟨h2,k2⟩:=h1.step jb2 gg2 f2 b1
 have b2:=Nat.le_trans b1 k2.size
 have h2:Fst 1 c s sb rb tb kb B [h0,nx,us,hd,vl,lk] v2:=h2
 refine take_try nx hA2 _ (fun a3 code3 hc3 hA3=>?_)
 obtain ⟨cb4,jb4,cc4⟩:=h2.stk.slt.head
 refine ch46_goF h0 nx h2.fld cc4 _ (fun a4 u4 v4 w4 hA4 r4 n4 gg4 f4=>?_) r2 n2 (h2.fm jb4 rfl) code3 hc3
 rw[G8]
 obtain ⟨h4,k4⟩:=h2.step jb4 gg4 f4 b2
 have b4:=Nat.le_trans b2 k4.size
 rw[show (Bj h0 (hdI nx (verI h0+1)) h0).2.1=hdI nx (verI h0+1) by unfold Bj;rw[if_pos rfl]] at h4
 have h4:Fst 1 c s sb rb tb kb B [hdI nx (verI h0+1),nx,us,hd,vl,lk] v4:=h4
 obtain ⟨oc1,ho1,ho2⟩:=Gi tO6_13
 refine Il (bc:=base 25) (ac:=a3) (ops:=tO6) (q:=13) (rest:=[14]) (oc:=oc1) (k0:=(.code tC6 :: .code t7 :: tE)) true hA4 _ ho1 r4 n4 (fun x1 rx1=>?_)
 rw[ho2]
 clear ho1 ho2 oc1
 obtain ⟨cb5,jb5,cc5⟩:=h4.stk.slt.used 0 (by decide)
 refine take_wonF (by decide) h4.stk.slt.row cc5 hA3 _ (fun a5 u5 v5 w5 hA5 r5 n5 gg5 f5=>?_) rx1 n4 (h4.fm jb5 rfl)
 obtain ⟨h5,k5⟩:=h4.step jb5 gg5 f5 b4
 have b5:=Nat.le_trans b4 k5.size
 have h5:Fst 1 c s sb rb tb kb B [hdI nx (verI h0+1),nx,1,hd,vl,lk] v5:=h5
 obtain ⟨oc1,ho1,ho2⟩:=Gi pO1_5
 refine take_done (bc:=base 50) (ac:=ap) (ops:=pO1) (q:=5) (rest:=[6,7,8,9,10]) (oc:=oc1) (k0:=(.code p2 :: [.inScope pS])) _ hA5 _ ho1 r5 n5 (fun x2 rx2=>?_)
 rw[ho2]
 clear ho1 ho2 oc1
 obtain ⟨cb6,jb6,cc6⟩:=h5.stk.value 0 (by decide)
 refine push_valF 0 (by decide) h5.stk.row cc6 hP _ (fun a6 u6 v6 w6 hA6 r6 n6 gg6 f6=>?_) rx2 n5 (h5.fm jb6 rfl)
 obtain ⟨h6,k6⟩:=h5.step jb6 gg6 f6 b5
 have b6:=Nat.le_trans b5 k6.size
 have h6:Fst 1 c s sb rb tb kb B [hdI nx (verI h0+1),nx,1,hd,x,lk] v6:=h6
 refine push_head _ hA6 _ (fun a7 hA7p=>?_)
 obtain ⟨cb7,jb7,cc7⟩:=h6.stk.head
 refine push_lookF cc7 hA7p _ (fun a8 u7 v7 w7 hA7 r7 n7 gg7 f7=>?_) r6 n6 (h6.fm jb7 rfl)
 obtain ⟨h7,k7⟩:=h6.step jb7 gg7 f7 b6
 have b7:=Nat.le_trans b6 k7.size
 have h7:Fst 1 c s sb rb tb kb B [hdI nx (verI h0+1),nx,1,hd,x,lk] v7:=h7
 obtain ⟨cb8,jb8,cc8⟩:=h7.stk.link 0 (by decide)
 refine push_linkF hd (by decide) h7.fld h7.stk.row cc8 hA7 _ (fun a9 u8 v8 w8 hA8 r8 n8 gg8 f8=>?_) r7 n7 (h7.fm jb8 rfl)
 obtain ⟨h8,k8⟩:=h7.step jb8 gg8 f8 b7
 have b8:=Nat.le_trans b7 k8.size
 have h8:Fst 1 c s sb rb tb kb B [hdI nx (verI h0+1),nx,1,hd,x,fstI hd] v8:=h8
 refine push_try (by decide) _ hA8 _ (fun a10 code4 hc4 hA10=>?_)
 obtain ⟨cb9,jb9,cc9⟩:=h8.stk.head
 refine ch73_goF hd (((0:Nat):Int)+1) h8.fld cc9 _ (fun a9 u9 v9 w9 hA9 r9 n9 gg9 f9=>?_) r8 n8 (h8.fm jb9 rfl) code4 hc4
 rw[G8]
 obtain ⟨h9,k9⟩:=h8.step jb9 gg9 f9 b8
 rw[show (Bj hd (hdI (((0:Nat):Int)+1) (verI hd+1)) hd).2.1=hdI 1 (verI hd+1) by unfold Bj;rw[if_pos rfl];rfl] at h9
 have h9:Fst 1 c s sb rb tb kb B [hdI nx (verI h0+1),nx,1,hdI 1 (verI hd+1),x,fstI hd] v9:=h9
 obtain ⟨oc1,ho1,ho2⟩:=Gi pO7_5
 refine Ik (bc:=base 50) (ac:=a10) (ops:=pO7) (q:=5) (rest:=[6]) (oc:=oc1) (k0:=(.code pC7 :: .code p8 :: pE)) true hA9 _ ho1 r9 n9 (fun x3 rx3=>?_)
 rw[ho2]
 clear ho1 ho2 oc1
 exact push_done (bc:=bc) (ac:=ac) (ops:=ops) (q:=q) (rest:=rest) (oc:=oc) (k0:=k0) hA10 cs hoc rx3 n9 (fun w' r'=>hk v9 w' r' n9 h9 (((((((k1.trans k2).trans k4).trans k5).trans k6).trans k7).trans k8).trans k9))
theorem fpush_full {Ch:Nat->Prop}{Stop:Goroutine->World->Prop}{main:Bool}{c s sb rb tb B:Nat}{kb:List Nat}{h0 nx us hd vl lk:Int}{v w:World}(x:Int) (hx:fstI h0=0) (h:Fst 1 c s sb rb tb kb B [h0,nx,us,hd,vl,lk] v) (hB:B≤v.heap.size) (cs:List Frame) {bc:Frame}{ac:Act}{ops:Array Oper}{q:Nat}{rest:List Nat}{oc:Oper}{k0:List Item}(hoc:ops[q]? = some oc) (hvw:Rel zn v w) (hn:Ah Ch v)
 (hk:∀ v' w',Rel zn v' w'->Ah Ch v'->Fst 1 c s sb rb tb kb B [h0,nx,us,hd,vl,lk] v'->Fk B v v'->GoesI Tryd.prog main (DT (ScZ zn) Ch) Stop (G (bc.at (ac.put oc.dst (I 80)) (.inRegion ops rest :: k0)) cs) w') (code:Code) (hc:Tryd.f50.body=some code) :
 GoesI Tryd.prog main (DT (ScZ zn) Ch) Stop (G ((base 50).at { tmps:=#[Pt c 0,Pt tb 0,I x]++Array.replicate 56 undef,defers:=[] } [.code code]) (bc.at ac (.inRegion ops (q :: rest) :: k0) :: cs)) w:=by
 refine push_in h.stk.slots _ hvw (fun ap code hc hP=>?_) code hc
 refine take_in _ (fun a hA=>?_) code hc
 obtain ⟨cb1,jb1,cc1⟩:=h.stk.slt.head
 refine take_lookF cc1 hA _ (fun a1 u1 v1 w1 hA1 r1 n1 gg1 f1=>?_) hvw hn (h.fm jb1 rfl)
 obtain ⟨h1,k1⟩:=h.step jb1 gg1 f1 hB
 have b1:=Nat.le_trans hB k1.size
 have h1:Fst 1 c s sb rb tb kb B [h0,nx,us,hd,vl,lk] v1:=h1
 obtain ⟨oc1,ho1,ho2⟩:=Gi pO1_5
 refine take_full (bc:=base 50) (ac:=ap) (ops:=pO1) (q:=5) (rest:=[6,7,8,9,10]) (oc:=oc1) (k0:=(.code p2 :: [.inScope pS])) h0 hx h1.fld hA1 _ ho1 r1 n1 (fun v2 w2 r2 n2 g2=>?_)
 rw[ho2]
 clear ho1 ho2 oc1
 exact push_full (bc:=bc) (ac:=ac) (ops:=ops) (q:=q) (rest:=rest) (oc:=oc) (k0:=k0) hP cs hoc r2 n2 (fun w' r'=>hk v2 w' r' n2 (h1.grow g2) (k1.trans (.grow g2 b1)))
theorem fpop_empty {Ch:Nat->Prop}{Stop:Goroutine->World->Prop}{main:Bool}{c s sb rb tb B:Nat}{kb:List Nat}{h0 nx us hd vl lk:Int}{v w:World}(hx:fstI hd=0) (h:Fst 1 c s sb rb tb kb B [h0,nx,us,hd,vl,lk] v) (hB:B≤v.heap.size) (cs:List Frame) {bc:Frame}{ac:Act}{ops:Array Oper}{q:Nat}{rest:List Nat}{oc:Oper}{k0:List Item}(hoc:ops[q]? = some oc) (hvw:Rel zn v w) (hn:Ah Ch v)
 (hk:∀ v' w',Rel zn v' w'->Ah Ch v'->Fst 1 c s sb rb tb kb B [h0,nx,us,hd,vl,lk] v'->Fk B v v'->GoesI Tryd.prog main (DT (ScZ zn) Ch) Stop (G (bc.at (ac.put oc.dst (.tuple #[I 0,I 90])) (.inRegion ops rest :: k0)) cs) w') (code:Code) (hc:Tryd.f51.body=some code) :
 GoesI Tryd.prog main (DT (ScZ zn) Ch) Stop (G ((base 51).at { tmps:=#[Pt c 0,Pt tb 0]++Array.replicate 56 undef,defers:=[] } [.code code]) (bc.at ac (.inRegion ops (q :: rest) :: k0) :: cs)) w:=by
 refine pop_in _ (fun a hA=>?_) code hc
 obtain ⟨cb1,jb1,cc1⟩:=h.stk.head
 refine pop_lookF cc1 hA _ (fun a1 u1 v1 w1 hA1 r1 n1 gg1 f1=>?_) hvw hn (h.fm jb1 rfl)
 obtain ⟨h1,k1⟩:=h.step jb1 gg1 f1 hB
 have b1:=Nat.le_trans hB k1.size
 have h1:Fst 1 c s sb rb tb kb B [h0,nx,us,hd,vl,lk] v1:=h1
 exact pop_empty (bc:=bc) (ac:=ac) (ops:=ops) (q:=q) (rest:=rest) (oc:=oc) (k0:=k0) hd hx h1.fld hA1 cs hoc r1 n1 (fun v2 w2 r2 n2 g2=>hk v2 w2 r2 n2 (h1.grow g2) (k1.trans (.grow g2 b1)))
theorem fpop {Ch:Nat->Prop}{Stop:Goroutine->World->Prop}{main:Bool}{c s sb rb tb B:Nat}{kb:List Nat}{h0 nx us hd vl lk:Int}{v w:World}(hx:fstI hd=((0:Nat):Int)+1) (hus:us=1) (h:Fst 1 c s sb rb tb kb B [h0,nx,us,hd,vl,lk] v) (hB:B≤v.heap.size) (cs:List Frame) {bc:Frame}{ac:Act}{ops:Array Oper}{q:Nat}{rest:List Nat}{oc:Oper}{k0:List Item}(hoc:ops[q]? = some oc) (hvw:Rel zn v w) (hn:Ah Ch v)
 (hk:∀ v' w',Rel zn v' w'->Ah Ch v'->Fst 1 c s sb rb tb kb B [hdI 1 (verI h0+1),fstI h0,0,hdI lk (verI hd+1),vl,lk] v'->Fk B v v'->GoesI Tryd.prog main (DT (ScZ zn) Ch) Stop (G (bc.at (ac.put oc.dst (.tuple #[I vl,I 0])) (.inRegion ops rest :: k0)) cs) w') (code:Code) (hc:Tryd.f51.body=some code) :
 GoesI Tryd.prog main (DT (ScZ zn) Ch) Stop (G ((base 51).at { tmps:=#[Pt c 0,Pt tb 0]++Array.replicate 56 undef,defers:=[] } [.code code]) (bc.at ac (.inRegion ops (q :: rest) :: k0) :: cs)) w:=by
 refine pop_in _ (fun a hA=>?_) code hc
 obtain ⟨cb1,jb1,cc1⟩:=h.stk.head
 refine pop_lookF cc1 hA _ (fun a1 u1 v1 w1 hA1 r1 n1 gg1 f1=>?_) hvw hn (h.fm jb1 rfl)
 obtain ⟨h1,k1⟩:=h.step jb1 gg1 f1 hB
 have b1:=Nat.le_trans hB k1.size
 have h1:Fst 1 c s sb rb tb kb B [h0,nx,us,hd,vl,lk] v1:=h1
 obtain ⟨cb2,jb2,cc2⟩:=h1.stk.link 0 (by decide)
 refine pop_linkF 0 hx (by decide) h1.fld h1.stk.row cc2 hA1 _ (fun a2 u2 v2 w2 hA2 r2 n2 gg2 f2=>?_) r1 n1 (h1.fm jb2 rfl)
 obtain ⟨h2,k2⟩:=h1.step jb2 gg2 f2 b1
 have b2:=Nat.le_trans b1 k2.size
 have h2:Fst 1 c s sb rb tb kb B [h0,nx,us,hd,vl,lk] v2:=h2
 refine pop_try lk hA2 _ (fun a3 code3 hc3 hA3=>?_)
 obtain ⟨cb4,jb4,cc4⟩:=h2.stk.head
 refine ch73_goF hd lk h2.fld cc4 _ (fun a4 u4 v4 w4 hA4 r4 n4 gg4 f4=>?_) r2 n2 (h2.fm jb4 rfl) code3 hc3
 rw[G8]
 obtain ⟨h4,k4⟩:=h2.step jb4 gg4 f4 b2
 have b4:=Nat.le_trans b2 k4.size
 rw[show (Bj hd (hdI lk (verI hd+1)) hd).2.1=hdI lk (verI hd+1) by unfold Bj;rw[if_pos rfl]] at h4
 have h4:Fst 1 c s sb rb tb kb B [h0,nx,us,hdI lk (verI hd+1),vl,lk] v4:=h4
 obtain ⟨oc1,ho1,ho2⟩:=Gi oO7_4
 refine Ik (bc:=base 51) (ac:=a3) (ops:=oO7) (q:=4) (rest:=[5]) (oc:=oc1) (k0:=(.code oC7 :: .code o8 :: oE)) true hA4 _ ho1 r4 n4 (fun x1 rx1=>?_)
 rw[ho2]
 clear ho1 ho2 oc1
 obtain ⟨cb5,jb5,cc5⟩:=h4.stk.value 0 (by decide)
 refine pop_valF (by decide) h4.stk.row cc5 hA3 _ (fun a5 u5 v5 w5 hA5 r5 n5 gg5 f5=>?_) rx1 n4 (h4.fm jb5 rfl)
 obtain ⟨h5,k5⟩:=h4.step jb5 gg5 f5 b4
 have b5:=Nat.le_trans b4 k5.size
 have h5:Fst 1 c s sb rb tb kb B [h0,nx,us,hdI lk (verI hd+1),vl,lk] v5:=h5
 refine pop_give vl h5.stk.slots hA5 _ r5 (fun ao code4 hc4 hO=>?_)
 obtain ⟨cb6,jb6,cc6⟩:=h5.stk.slt.used 0 (by decide)
 refine give_inF (by decide) h5.stk.slt.row cc6 _ (fun a6 u6 v6 w6 hA6 r6 n6 gg6 f6=>?_) r5 n5 (h5.fm jb6 rfl) code4 hc4
 subst hus
 rw[G8]
 obtain ⟨h6,k6⟩:=h5.step jb6 gg6 f6 b5
 have b6:=Nat.le_trans b5 k6.size
 rw[show (Bj 1 0 1).2.1=0 by unfold Bj;rw[if_pos rfl]] at h6
 have h6:Fst 1 c s sb rb tb kb B [h0,nx,0,hdI lk (verI hd+1),vl,lk] v6:=h6
 refine give_goes hA6 _ (fun a7 hA7=>?_)
 obtain ⟨cb8,jb8,cc8⟩:=h6.stk.slt.head
 refine give_lookF cc8 hA7 _ (fun a8 u8 v8 w8 hA8 r8 n8 gg8 f8=>?_) r6 n6 (h6.fm jb8 rfl)
 obtain ⟨h8,k8⟩:=h6.step jb8 gg8 f8 b6
 have b8:=Nat.le_trans b6 k8.size
 have h8:Fst 1 c s sb rb tb kb B [h0,nx,0,hdI lk (verI hd+1),vl,lk] v8:=h8
 obtain ⟨cb9,jb9,cc9⟩:=h8.stk.slt.next 0 (by decide)
 refine give_nextF (by decide) h8.fld h8.stk.slt.row cc9 hA8 _ (fun a9 u9 v9 w9 hA9 r9 n9 gg9 f9=>?_) r8 n8 (h8.fm jb9 rfl)
 obtain ⟨h9,k9⟩:=h8.step jb9 gg9 f9 b8
 have b9:=Nat.le_trans b8 k9.size
 have h9:Fst 1 c s sb rb tb kb B [h0,fstI h0,0,hdI lk (verI hd+1),vl,lk] v9:=h9
 refine give_try (by decide) _ hA9 _ (fun a10 code5 hc5 hA10=>?_)
 obtain ⟨cb11,jb11,cc11⟩:=h9.stk.slt.head
 refine ch46_goF h0 (((0:Nat):Int)+1) h9.fld cc11 _ (fun a11 u11 v11 w11 hA11 r11 n11 gg11 f11=>?_) r9 n9 (h9.fm jb11 rfl) code5 hc5
 rw[G8]
 obtain ⟨h11,k11⟩:=h9.step jb11 gg11 f11 b9
 rw[show (Bj h0 (hdI (((0:Nat):Int)+1) (verI h0+1)) h0).2.1=hdI 1 (verI h0+1) by unfold Bj;rw[if_pos rfl];rfl] at h11
 have h11:Fst 1 c s sb rb tb kb B [hdI 1 (verI h0+1),fstI h0,0,hdI lk (verI hd+1),vl,lk] v11:=h11
 obtain ⟨oc1,ho1,ho2⟩:=Gi gO7_5
 refine Il (bc:=base 26) (ac:=a10) (ops:=gO7) (q:=5) (rest:=[6]) (oc:=oc1) (k0:=(.code gC7 :: .code g8 :: gE)) true hA11 _ ho1 r11 n11 (fun x3 rx3=>?_)
 rw[ho2]
 clear ho1 ho2 oc1
 obtain ⟨oc1,ho1,ho2⟩:=Gi oO9_6
 refine give_done (bc:=base 51) (ac:=ao) (ops:=oO9) (q:=6) (rest:=[]) (oc:=oc1) (k0:=(.code o10 :: oE)) hA10 _ ho1 rx3 n11 (fun x4 rx4=>?_)
 rw[ho2]
 clear ho1 ho2 oc1
 exact pop_done (bc:=bc) (ac:=ac) (ops:=ops) (q:=q) (rest:=rest) (oc:=oc) (k0:=k0) _ hO cs hoc rx4 n11 (fun w' r'=>hk v11 w' r' n11 h11 ((((((((k1).trans k2).trans k4).trans k5).trans k6).trans k8).trans k9).trans k11))
end Go.Proofs.YtbbhahigofeacaaDoor.Gen
