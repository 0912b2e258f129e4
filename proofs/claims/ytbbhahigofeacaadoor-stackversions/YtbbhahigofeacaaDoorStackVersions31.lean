/- Of the proof of StackVersions. Part 31 of 34. (Joined, by program, and written short, of: StF.) -/
import Derived.Test.YtbbhahigofeacaaDoorStackVersions14
import Derived.Test.YtbbhahigofeacaaDoorStackVersions20
import Derived.Test.YtbbhahigofeacaaDoorStackVersions21
import Derived.Test.YtbbhahigofeacaaDoorStackVersions30
set_option linter.unusedSimpArgs false
set_option linter.unusedVariables false
set_option maxHeartbeats 4000000
set_option maxRecDepth 100000
namespace Go.Proofs.YtbbhahigofeacaaDoor.Gen
open Go Go.Lift Go.Conc Go.RowKit
open R1 (fstI verI hdI)
theorem Fm.grow {tb cb:Nat} {x:Int} {v v':World} (h:Fm tb cb x v) (g:Grows v v'):Fm tb cb x v':=⟨g.cell h.thr,h.ne,by rw [g.old _ (Array.getElem?_eq_some_iff.1 h.cel).1];exact h.cel⟩
theorem ch46_goF {Ch:Nat→Prop} {Stop:Goroutine→World→Prop} {main:Bool} {v w:World} {tb cb s:Nat} {y:Int} (x f:Int) (hF:R1.Flds v) (h0:v.cell? ⟨s,0,none⟩=some (Pt cb 0)) (cs:List Frame)
 (hk:∀ a u v' w',Fl 22 [] a→Rel zn v' w'→NoRow Ch v'→Grows v u→Fto tb cb ((effCas x (hdI f (verI x+1))) y).2.1 u v'→GoesI Tryd.prog main (DT (ScZ zn) Ch) Stop (G (ch46T a ((effCas x (hdI f (verI x+1))) y).2.2) cs) w')
 (hvw:Rel zn v w) (hn:NoRow Ch v) (hm:Fm tb cb y v) (code:Code) (hc:Tryd.f46.body=some code) :
 GoesI Tryd.prog main (DT (ScZ zn) Ch) Stop (G ((base 46).at { tmps:=#[Pt s 0,Pt tb 0,I x,I f]++Array.replicate 18 undef,defers:=[] } [.code code]) cs) w:=by
 have hw0:code=.seq (.region 0 (opsOf (seq1 ch46B)) false) (.seq (.region 1 ch46O true) .ret):=by
  rw [show code=ch46B by unfold ch46B;rw [hc];rfl,←ch46E0];exact ch46E
 subst hw0
 clear hc
 have HM:Hid (Fm tb cb y v):=⟨hm⟩
 clear hm
 simp only [Array.replicate_succ,Array.replicate_zero,List.push_toArray,List.append_toArray,List.nil_append,List.cons_append]
 refine goesI_seq (dt_idle _ _) ?_
 unfold ch46B Tryd.f46 seq1 opsOf
 simp only [Option.getD_some]
 refine goesI_region (dt_idle _ _) ?_
 simp only [List.size_toArray,List.length_cons,List.length_nil,Nat.reduceAdd,Nat.zero_add,List.range,List.range.loop]
 iterate 1
  (refine goesI_oper rfl rfl (by decide) (fun d K hK=>?_)
   go_simp
   refine hK _ _ ⟨dt_reads (fun e he=>?_),GoesI.at ?_ d⟩
   ·have hm:=mem_listed he
    simp [go_sem, *] at hm
    try exact ⟨_,_,hm⟩
    try (rcases hm with rfl|rfl<;>exact ⟨_,_,rfl⟩)
   clear hK K)
 refine goesI_regionEnd (dt_idle _ _) ?_
 refine goesI_seq (dt_idle _ _) ?_
 refine ch46_pre s cb tb x f ⟨rfl,rfl,by
  intro p hp
  simp only [List.mem_cons,List.not_mem_nil,or_false] at hp
  rcases hp with rfl|rfl|rfl|rfl<;>rfl⟩ _ cs hF h0 hvw hn (fun v4 w4 a' o ho hw hA hvw4 hn4 hg4=>?_)
 have e12:a'.eval (.tmp 12)=Pt cb 0:=hA.at 12 _ (by simp)
 have e13:a'.eval (.tmp 13)=Pt tb 0:=hA.at 13 _ (by simp)
 have e14:a'.eval (.tmp 14)=I x:=hA.at 14 _ (by simp)
 have e20:a'.eval (.tmp 20)=I (hdI f (verI x+1)):=hA.at 20 _ (by simp)
 have hop:(ch46O[12]?).map (·.op)=some (.call { callee:=.value (.func 48),args:=#[.tmp 12,.tmp 13,.tmp 14,.tmp 20],argTypes:=#[89,52,3,3] }):=by kernel_rfl
 have hds:(ch46O[12]?).map (·.dst)=some (some 21):=by kernel_rfl
 rw [ho] at hop hds
 have hop':=Option.some.inj hop
 have hds':o.dst=some 21:=Option.some.inj hds
 refine goesI_into (f:=48) (fn:=Tryd.f48) (args:=#[Pt cb 0,Pt tb 0,I x,I (hdI f (verI x+1))]) (dt_idle _ _) ho (hw _) (by simp [base]) hop' (by simp only [List.map_toArray,List.map_cons,List.map_nil,e12,e13,e14,e20]) Tryd.func48 (by decide) rfl ?_
 refine free14 x (hdI f (verI x+1)) y _ ho hvw4 hn4 (HM.out.grow hg4) (fun v' w' r nn f=>?_) _ rfl
 rw [hds']
 exact hk a' v4 v' w' ⟨hA.1,hA.2.1,fun p hp=>by cases hp⟩ r nn hg4 f
theorem ch73_goF {Ch:Nat→Prop} {Stop:Goroutine→World→Prop} {main:Bool} {v w:World} {tb cb s:Nat} {y:Int} (x f:Int) (hF:R1.Flds v) (h0:v.cell? ⟨s,1,none⟩=some (Pt cb 0)) (cs:List Frame)
 (hk:∀ a u v' w',Fl 22 [] a→Rel zn v' w'→NoRow Ch v'→Grows v u→Fto tb cb ((effCas x (hdI f (verI x+1))) y).2.1 u v'→GoesI Tryd.prog main (DT (ScZ zn) Ch) Stop (G (ch73T a ((effCas x (hdI f (verI x+1))) y).2.2) cs) w')
 (hvw:Rel zn v w) (hn:NoRow Ch v) (hm:Fm tb cb y v) (code:Code) (hc:Tryd.f73.body=some code) :
 GoesI Tryd.prog main (DT (ScZ zn) Ch) Stop (G ((base 73).at { tmps:=#[Pt s 0,Pt tb 0,I x,I f]++Array.replicate 18 undef,defers:=[] } [.code code]) cs) w:=by
 have hw0:code=.seq (.region 0 (opsOf (seq1 ch73B)) false) (.seq (.region 1 ch73O true) .ret):=by
  rw [show code=ch73B by unfold ch73B;rw [hc];rfl,←ch73E0];exact ch73E
 subst hw0
 clear hc
 have HM:Hid (Fm tb cb y v):=⟨hm⟩
 clear hm
 simp only [Array.replicate_succ,Array.replicate_zero,List.push_toArray,List.append_toArray,List.nil_append,List.cons_append]
 refine goesI_seq (dt_idle _ _) ?_
 unfold ch73B Tryd.f73 seq1 opsOf
 simp only [Option.getD_some]
 refine goesI_region (dt_idle _ _) ?_
 simp only [List.size_toArray,List.length_cons,List.length_nil,Nat.reduceAdd,Nat.zero_add,List.range,List.range.loop]
 iterate 1
  (refine goesI_oper rfl rfl (by decide) (fun d K hK=>?_)
   go_simp
   refine hK _ _ ⟨dt_reads (fun e he=>?_),GoesI.at ?_ d⟩
   ·have hm:=mem_listed he
    simp [go_sem, *] at hm
    try exact ⟨_,_,hm⟩
    try (rcases hm with rfl|rfl<;>exact ⟨_,_,rfl⟩)
   clear hK K)
 refine goesI_regionEnd (dt_idle _ _) ?_
 refine goesI_seq (dt_idle _ _) ?_
 refine ch73_pre s cb tb x f ⟨rfl,rfl,by
  intro p hp
  simp only [List.mem_cons,List.not_mem_nil,or_false] at hp
  rcases hp with rfl|rfl|rfl|rfl<;>rfl⟩ _ cs hF h0 hvw hn (fun v4 w4 a' o ho hw hA hvw4 hn4 hg4=>?_)
 have e12:a'.eval (.tmp 12)=Pt cb 0:=hA.at 12 _ (by simp)
 have e13:a'.eval (.tmp 13)=Pt tb 0:=hA.at 13 _ (by simp)
 have e14:a'.eval (.tmp 14)=I x:=hA.at 14 _ (by simp)
 have e20:a'.eval (.tmp 20)=I (hdI f (verI x+1)):=hA.at 20 _ (by simp)
 have hop:(ch73O[12]?).map (·.op)=some (.call { callee:=.value (.func 48),args:=#[.tmp 12,.tmp 13,.tmp 14,.tmp 20],argTypes:=#[89,52,3,3] }):=by kernel_rfl
 have hds:(ch73O[12]?).map (·.dst)=some (some 21):=by kernel_rfl
 rw [ho] at hop hds
 have hop':=Option.some.inj hop
 have hds':o.dst=some 21:=Option.some.inj hds
 refine goesI_into (f:=48) (fn:=Tryd.f48) (args:=#[Pt cb 0,Pt tb 0,I x,I (hdI f (verI x+1))]) (dt_idle _ _) ho (hw _) (by simp [base]) hop' (by simp only [List.map_toArray,List.map_cons,List.map_nil,e12,e13,e14,e20]) Tryd.func48 (by decide) rfl ?_
 refine free14 x (hdI f (verI x+1)) y _ ho hvw4 hn4 (HM.out.grow hg4) (fun v' w' r nn f=>?_) _ rfl
 rw [hds']
 exact hk a' v4 v' w' ⟨hA.1,hA.2.1,fun p hp=>by cases hp⟩ r nn hg4 f
theorem take_lookF {Ch:Nat→Prop} {Stop:Goroutine→World→Prop} {main:Bool} {v w:World} {tb cb:Nat} {y:Int} {s:Nat} (c0:v.cell? ⟨s,0,none⟩=some (Pt cb 0)) {a:Act} (hA:Fl 48 [(0,Pt s 0),(1,Pt tb 0)] a) (cs:List Frame)
 (hk:∀ a u v' w',Fl 48 [(0,Pt s 0),(1,Pt tb 0)] a→Rel zn v' w'→NoRow Ch v'→Grows v u→Fto tb cb (effLoad y).2.1 u v'→GoesI Tryd.prog main (DT (ScZ zn) Ch) Stop (G (tSeen a (effLoad y).2.2) cs) w')
 (hvw:Rel zn v w) (hn:NoRow Ch v) (hm:Fm tb cb y v) :
 GoesI Tryd.prog main (DT (ScZ zn) Ch) Stop (G (tHead a) cs) w:=by
 have HM:Hid (Fm tb cb y v):=⟨hm⟩
 clear hm
 unfold tSeen tO1 t2 tK tL tS scopeC Tryd.f25 seq1 seq2 blockC loopC opsOf at hk
 simp only [Option.getD_some] at hk
 obtain ⟨hsz,hd,hpp⟩:=hA
 obtain ⟨u,rfl,hg⟩:=litN hsz hd
 have u0:=(hg 0).symm.trans (hpp (0,Pt s 0) (by simp))
 have u1:=(hg 1).symm.trans (hpp (1,Pt tb 0) (by simp))
 clear hg hpp hsz hd
 unfold tHead
 simp only [Option.getD_some,lits,Nat.reduceAdd,u0,u1]
 clear u0 u1
 have c0w:w.cell? ⟨s,0,none⟩=some (Pt cb 0):=by rw [hvw.cell?];exact c0
 rw [show (Item.code tL :: Item.inLoop tL :: tE')=Item.code (.block 1 tK) :: Item.inLoop tL :: tE' by rw [←eTL]]
 refine goesI_block (dt_idle _ _) ?_
 rw [show (Item.inBlock 1 :: Item.inLoop tL :: tE')=tE from rfl]
 unfold tK tL tS scopeC Tryd.f25 seq2 blockC loopC
 simp only [Option.getD_some]
 refine goesI_seq (dt_idle _ _) ?_
 refine goesI_region (dt_idle _ _) ?_
 simp only [List.size_toArray,List.length_cons,List.length_nil,Nat.reduceAdd,Nat.zero_add,List.range,List.range.loop]
 iterate 5
  (refine goesI_oper rfl rfl (by decide) (fun d K hK=>?_)
   go_simp
   refine hK _ _ ⟨dt_reads (fun e he=>?_),GoesI.at ?_ d⟩
   ·have hm:=mem_listed he
    simp [go_sem, *] at hm
    try exact ⟨_,_,hm⟩
    try (rcases hm with rfl|rfl<;>exact ⟨_,_,rfl⟩)
   clear hK K)
 refine goesI_into (f:=44) (fn:=Tryd.f44) (args:=#[Pt cb 0,Pt tb 0]) (dt_idle _ _) rfl rfl (by decide) rfl (by simp [Act.eval]) Tryd.func44 (by decide) rfl ?_
 exact free17 y _ rfl hvw hn HM.out (fun v' w' r nn f=>hk _ v v' w' ⟨rfl,rfl,by
  intro p hp
  simp only [List.mem_cons,List.not_mem_nil,or_false] at hp
  rcases hp with rfl|rfl<;>rfl⟩ r nn (grefl v) f) _ rfl
theorem take_nextF {Ch:Nat→Prop} {Stop:Goroutine→World→Prop} {main:Bool} {v w:World} {tb cb:Nat} {y:Int} {s sb n:Nat} {x:Int} (k:Nat) (hk0:fstI x=(k:Int)+1) (hkn:k<n) (hF:R1.Flds v) (c1:v.cell? ⟨s,1,none⟩=some (.slice (some ⟨sb,0,none⟩) n n)) (c2:v.cell? ⟨sb,k*2,none⟩=some (Pt cb 0)) {a:Act} (hA:Fl 48 [(0,Pt s 0),(1,Pt tb 0)] a) (cs:List Frame)
 (hk:∀ a u v' w',Fl 48 [(0,Pt s 0),(1,Pt tb 0),(6,I x),(8,I k),(22,Pt s 0),(23,Pt tb 0),(24,I x)] a→Rel zn v' w'→NoRow Ch v'→Grows v u→Fto tb cb (effLoad y).2.1 u v'→GoesI Tryd.prog main (DT (ScZ zn) Ch) Stop (G (tNext a (effLoad y).2.2) cs) w')
 (hvw:Rel zn v w) (hn:NoRow Ch v) (hm:Fm tb cb y v) :
 GoesI Tryd.prog main (DT (ScZ zn) Ch) Stop (G (tSeen a (I x)) cs) w:=by
 have HM:Hid (Fm tb cb y v):=⟨hm⟩
 clear hm
 unfold tNext tO6 tC6 t7 t6 t5 t3 t2 tK tL tS scopeC Tryd.f25 seq1 seq2 blockC loopC opsOf at hk
 simp only [Option.getD_some] at hk
 obtain ⟨hsz,hd,hpp⟩:=hA
 obtain ⟨u,rfl,hg⟩:=litN hsz hd
 have u0:=(hg 0).symm.trans (hpp (0,Pt s 0) (by simp))
 have u1:=(hg 1).symm.trans (hpp (1,Pt tb 0) (by simp))
 clear hg hpp hsz hd
 unfold tSeen tO1 t2 tK tL tS scopeC Tryd.f25 seq1 seq2 blockC loopC opsOf
 simp only [Option.getD_some,lits,Nat.reduceAdd,u0,u1]
 clear u0 u1
 have HK0:Hid (fstI x=(k:Int)+1):=⟨hk0⟩
 clear hk0
 have g0:w.cell? ⟨0,0,none⟩=some (I 0):=by rw [hvw.cell?];exact hF.a0
 have g1:w.cell? ⟨0,1,none⟩=some (I 32):=by rw [hvw.cell?];exact hF.a1
 walk_nrm
 iterate 1
  (refine goesI_oper rfl rfl (by decide) (fun d K hK=>?_)
   go_simp
   refine hK _ _ ⟨dt_reads (fun e he=>?_),GoesI.at ?_ d⟩
   ·have hm:=mem_listed he
    simp [go_sem, *] at hm
    try exact ⟨_,_,hm⟩
    try (rcases hm with rfl|rfl<;>exact ⟨_,_,rfl⟩)
   clear hK K)
 refine goesI_regionEnd (dt_idle _ _) ?_
 refine goesI_seq (dt_idle _ _) ?_
 refine goesI_region (dt_idle _ _) ?_
 simp only [List.size_toArray,List.length_cons,List.length_nil,Nat.reduceAdd,Nat.zero_add,List.range,List.range.loop]
 iterate 2
  (refine goesI_oper rfl rfl (by decide) (fun d K hK=>?_)
   go_simp
   refine hK _ _ ⟨dt_reads (fun e he=>?_),GoesI.at ?_ d⟩
   ·have hm:=mem_listed he
    simp [go_sem, *] at hm
    try exact ⟨_,_,hm⟩
    try (rcases hm with rfl|rfl<;>exact ⟨_,_,rfl⟩)
   clear hK K)
 refine goesI_call (f:=45) (fn:=Tryd.f45) (args:=#[I x,R1.F 0 32]) hE fineT rfl rfl (by decide) rfl (by simp [Act.eval,R1.F]) Tryd.func45 (by kernel_rfl) rfl (fineFn_body fineT (by simp [LT,plainFs]) Tryd.func45 rfl) (fun tmps=>⟨_,fun w=>results_tmp rfl _ _ _,fun w=>by simp [results,go_sem,Tryd.f45]⟩) hvw hn
  (R:=fun r v4=>r=I (fstI x)∧Grows v v4) (fun τ=>?_) (fun r v4 w4 hR hvw4 hn4=>?_)
 ·exact wp_mono (R1.wget_body x 0 32 (onTape v τ 0) (by decide) (by decide) (by decide) _ rfl) (bp_mono fun r u hq=>⟨hq.1,gtape (blw_grows hq.2)⟩)
 obtain ⟨rfl,hg4⟩:=hR
 walk_nrm
 have hne:¬ (fstI x=0):=by have:=HK0.out;omega
 have hwr:IntKind.i64.wrap (fstI x - 1)=(k:Int):=by have:=HK0.out;have hx:=R1.fstI_in x;rw [IntKind.wrap_i64];omega
 have hkn':(k:Int)<(n:Int):=by omega
 have d1:w4.cell? ⟨s,1,none⟩=some (.slice (some ⟨sb,0,none⟩) n n):=by rw [hvw4.cell?];exact hg4.cell c1
 have d2:w4.cell? ⟨sb,k*2,none⟩=some (Pt cb 0):=by rw [hvw4.cell?];exact hg4.cell c2
 iterate 1
  (refine goesI_oper rfl rfl (by decide) (fun d K hK=>?_)
   go_simp
   refine hK _ _ ⟨dt_reads (fun e he=>?_),GoesI.at ?_ d⟩
   ·have hm:=mem_listed he
    simp [go_sem, *] at hm
    try exact ⟨_,_,hm⟩
    try (rcases hm with rfl|rfl<;>exact ⟨_,_,rfl⟩)
   clear hK K)
 refine goesI_regionEnd (dt_idle _ _) ?_
 refine goesI_seq (dt_idle _ _) ?_
 refine goesI_seq (dt_idle _ _) ?_
 refine goesI_region (dt_idle _ _) ?_
 simp only [List.size_toArray,List.length_cons,List.length_nil,Nat.reduceAdd,Nat.zero_add,List.range,List.range.loop]
 iterate 2
  (refine goesI_oper rfl rfl (by decide) (fun d K hK=>?_)
   go_simp
   refine hK _ _ ⟨dt_reads (fun e he=>?_),GoesI.at ?_ d⟩
   ·have hm:=mem_listed he
    simp [go_sem, *] at hm
    try exact ⟨_,_,hm⟩
    try (rcases hm with rfl|rfl<;>exact ⟨_,_,rfl⟩)
   clear hK K)
 refine goesI_regionEnd (dt_idle _ _) ?_
 refine goesI_cond (dt_idle _ _) (t:=false) (by simp [Act.eval,hne]) ?_
 simp only [if_true,if_false,Bool.false_eq_true]
 refine goesI_skip (dt_idle _ _) ?_
 refine goesI_seq (dt_idle _ _) ?_
 refine goesI_region (dt_idle _ _) ?_
 simp only [List.size_toArray,List.length_cons,List.length_nil,Nat.reduceAdd,Nat.zero_add,List.range,List.range.loop]
 iterate 3
  (refine goesI_oper rfl rfl (by decide) (fun d K hK=>?_)
   go_simp
   refine hK _ _ ⟨dt_reads (fun e he=>?_),GoesI.at ?_ d⟩
   ·have hm:=mem_listed he
    simp [go_sem, *] at hm
    try exact ⟨_,_,hm⟩
    try (rcases hm with rfl|rfl<;>exact ⟨_,_,rfl⟩)
   clear hK K)
 refine goesI_regionEnd (dt_idle _ _) ?_
 refine goesI_seq (dt_idle _ _) ?_
 refine goesI_seq (dt_idle _ _) ?_
 refine goesI_region (dt_idle _ _) ?_
 simp only [List.size_toArray,List.length_cons,List.length_nil,Nat.reduceAdd,Nat.zero_add,List.range,List.range.loop]
 iterate 12
  (refine goesI_oper rfl rfl (by decide) (fun d K hK=>?_)
   go_simp
   refine hK _ _ ⟨dt_reads (fun e he=>?_),GoesI.at ?_ d⟩
   ·have hm:=mem_listed he
    simp [go_sem, *] at hm
    try exact ⟨_,_,hm⟩
    try (rcases hm with rfl|rfl<;>exact ⟨_,_,rfl⟩)
   clear hK K)
 refine goesI_into (f:=44) (fn:=Tryd.f44) (args:=#[Pt cb 0,Pt tb 0]) (dt_idle _ _) rfl rfl (by decide) rfl (by simp [Act.eval]) Tryd.func44 (by decide) rfl ?_
 exact free17 y _ rfl hvw4 hn4 (HM.out.grow hg4) (fun v' w' r nn f=>hk _ v4 v' w' ⟨rfl,rfl,by
  intro p hp
  simp only [List.mem_cons,List.not_mem_nil,or_false] at hp
  rcases hp with rfl|rfl|rfl|rfl|rfl|rfl|rfl<;>rfl⟩ r nn hg4 f) _ rfl
theorem take_wonF {Ch:Nat→Prop} {Stop:Goroutine→World→Prop} {main:Bool} {v w:World} {tb cb:Nat} {y:Int} {s sb n k:Nat} {x:Int} (hkn:k<n) (c1:v.cell? ⟨s,1,none⟩=some (.slice (some ⟨sb,0,none⟩) n n)) (c2:v.cell? ⟨sb,k*2+1,none⟩=some (Pt cb 0)) {a:Act} (hA:Fl 48 [(0,Pt s 0),(1,Pt tb 0),(6,I x),(8,I k)] a) (cs:List Frame)
 (hk:∀ a u v' w',Fl 48 [(0,Pt s 0),(1,Pt tb 0),(6,I x),(8,I k)] a→Rel zn v' w'→NoRow Ch v'→Grows v u→Fto tb cb ((effStore (1)) y).2.1 u v'→GoesI Tryd.prog main (DT (ScZ zn) Ch) Stop (G (tUsed a ((effStore (1)) y).2.2) cs) w')
 (hvw:Rel zn v w) (hn:NoRow Ch v) (hm:Fm tb cb y v) :
 GoesI Tryd.prog main (DT (ScZ zn) Ch) Stop (G (tTried a (.bool true)) cs) w:=by
 have HM:Hid (Fm tb cb y v):=⟨hm⟩
 clear hm
 unfold tUsed tO7 t8 t7 t6 t5 t3 t2 tK tL tS scopeC Tryd.f25 seq1 seq2 blockC loopC opsOf at hk
 simp only [Option.getD_some] at hk
 obtain ⟨hsz,hd,hpp⟩:=hA
 obtain ⟨u,rfl,hg⟩:=litN hsz hd
 have u0:=(hg 0).symm.trans (hpp (0,Pt s 0) (by simp))
 have u1:=(hg 1).symm.trans (hpp (1,Pt tb 0) (by simp))
 have u6:=(hg 6).symm.trans (hpp (6,I x) (by simp))
 have u8:=(hg 8).symm.trans (hpp (8,I k) (by simp))
 clear hg hpp hsz hd
 unfold tTried tO6 tC6 t7 t6 t5 t3 t2 tK tL tS scopeC Tryd.f25 seq1 seq2 blockC loopC opsOf
 simp only [Option.getD_some,lits,Nat.reduceAdd,u0,u1,u6,u8]
 clear u0 u1 u6 u8
 have hkn':(k:Int)<(n:Int):=by omega
 have d1:w.cell? ⟨s,1,none⟩=some (.slice (some ⟨sb,0,none⟩) n n):=by rw [hvw.cell?];exact c1
 have d2:w.cell? ⟨sb,k*2+1,none⟩=some (Pt cb 0):=by rw [hvw.cell?];exact c2
 walk_nrm
 iterate 1
  (refine goesI_oper rfl rfl (by decide) (fun d K hK=>?_)
   go_simp
   refine hK _ _ ⟨dt_reads (fun e he=>?_),GoesI.at ?_ d⟩
   ·have hm:=mem_listed he
    simp [go_sem, *] at hm
    try exact ⟨_,_,hm⟩
    try (rcases hm with rfl|rfl<;>exact ⟨_,_,rfl⟩)
   clear hK K)
 refine goesI_regionEnd (dt_idle _ _) ?_
 refine goesI_cond (dt_idle _ _) (t:=false) (by simp [Act.eval]) ?_
 simp only [if_true,if_false,Bool.false_eq_true]
 refine goesI_skip (dt_idle _ _) ?_
 refine goesI_seq (dt_idle _ _) ?_
 refine goesI_region (dt_idle _ _) ?_
 simp only [List.size_toArray,List.length_cons,List.length_nil,Nat.reduceAdd,Nat.zero_add,List.range,List.range.loop]
 iterate 9
  (refine goesI_oper rfl rfl (by decide) (fun d K hK=>?_)
   go_simp
   refine hK _ _ ⟨dt_reads (fun e he=>?_),GoesI.at ?_ d⟩
   ·have hm:=mem_listed he
    simp [go_sem, *] at hm
    try exact ⟨_,_,hm⟩
    try (rcases hm with rfl|rfl<;>exact ⟨_,_,rfl⟩)
   clear hK K)
 refine goesI_into (f:=47) (fn:=Tryd.f47) (args:=#[Pt cb 0,Pt tb 0,I (1)]) (dt_idle _ _) rfl rfl (by decide) rfl (by simp [Act.eval]) Tryd.func47 (by decide) rfl ?_
 exact free12 (1) y _ rfl hvw hn HM.out (fun v' w' r nn f=>hk _ v v' w' ⟨rfl,rfl,by
  intro p hp
  simp only [List.mem_cons,List.not_mem_nil,or_false] at hp
  rcases hp with rfl|rfl|rfl|rfl<;>rfl⟩ r nn (grefl v) f) _ rfl
theorem give_inF {Ch:Nat→Prop} {Stop:Goroutine→World→Prop} {main:Bool} {v w:World} {tb cb:Nat} {y:Int} {s sb n k:Nat} (hkn:k<n) (c1:v.cell? ⟨s,1,none⟩=some (.slice (some ⟨sb,0,none⟩) n n)) (c2:v.cell? ⟨sb,k*2+1,none⟩=some (Pt cb 0)) (cs:List Frame)
 (hk:∀ a u v' w',Fl 56 [(0,Pt s 0),(1,Pt tb 0),(2,I k)] a→Rel zn v' w'→NoRow Ch v'→Grows v u→Fto tb cb ((effCas 1 0) y).2.1 u v'→GoesI Tryd.prog main (DT (ScZ zn) Ch) Stop (G (gUsed a ((effCas 1 0) y).2.2) cs) w')
 (hvw:Rel zn v w) (hn:NoRow Ch v) (hm:Fm tb cb y v) (code:Code) (hc:Tryd.f26.body=some code) :
 GoesI Tryd.prog main (DT (ScZ zn) Ch) Stop (G ((base 26).at { tmps:=#[Pt s 0,Pt tb 0,I k]++Array.replicate 53 undef,defers:=[] } [.code code]) cs) w:=by
 have hw0:code=.seq (.region 0 (opsOf (seq1 (Tryd.f26.body.getD .skip))) false) (.scope gS):=by
  rw [show code=Tryd.f26.body.getD .skip by rw [hc];rfl];exact eGB
 subst hw0
 clear hc
 have HM:Hid (Fm tb cb y v):=⟨hm⟩
 clear hm
 have hkn':(k:Int)<(n:Int):=by omega
 have hkn2:¬ ((k:Int)<0):=by omega
 have hkn3:¬ ((n:Int)≤(k:Int)):=by omega
 have d1:w.cell? ⟨s,1,none⟩=some (.slice (some ⟨sb,0,none⟩) n n):=by rw [hvw.cell?];exact c1
 have d2:w.cell? ⟨sb,k*2+1,none⟩=some (Pt cb 0):=by rw [hvw.cell?];exact c2
 unfold gUsed at hk
 simp only [Array.replicate_succ,Array.replicate_zero,List.push_toArray,List.append_toArray,List.nil_append,List.cons_append]
 refine goesI_seq (dt_idle _ _) ?_
 unfold Tryd.f26 seq1 opsOf
 simp only [Option.getD_some]
 refine goesI_region (dt_idle _ _) ?_
 simp only [List.size_toArray,List.length_cons,List.length_nil,Nat.reduceAdd,Nat.zero_add,List.range,List.range.loop]
 iterate 1
  (refine goesI_oper rfl rfl (by decide) (fun d K hK=>?_)
   go_simp
   refine hK _ _ ⟨dt_reads (fun e he=>?_),GoesI.at ?_ d⟩
   ·have hm:=mem_listed he
    simp [go_sem, *] at hm
    try exact ⟨_,_,hm⟩
    try (rcases hm with rfl|rfl<;>exact ⟨_,_,rfl⟩)
   clear hK K)
 refine goesI_regionEnd (dt_idle _ _) ?_
 refine goesI_scope (dt_idle _ _) ?_
 generalize hq:Item.inScope gS=q at hk ⊢
 rw [eGS]
 refine goesI_seq (dt_idle _ _) ?_
 unfold gS scopeC Tryd.f26 seq1 seq2
 simp only [Option.getD_some]
 refine goesI_seq (dt_idle _ _) ?_
 refine goesI_region (dt_idle _ _) ?_
 simp only [List.size_toArray,List.length_cons,List.length_nil,Nat.reduceAdd,Nat.zero_add,List.range,List.range.loop]
 iterate 11
  (refine goesI_oper rfl rfl (by decide) (fun d K hK=>?_)
   go_simp
   refine hK _ _ ⟨dt_reads (fun e he=>?_),GoesI.at ?_ d⟩
   ·have hm:=mem_listed he
    simp [go_sem, *] at hm
    try exact ⟨_,_,hm⟩
    try (rcases hm with rfl|rfl<;>exact ⟨_,_,rfl⟩)
   clear hK K)
 refine goesI_regionEnd (dt_idle _ _) ?_
 refine goesI_cond (dt_idle _ _) (t:=false) (by simp [Act.eval,hkn2,hkn3]) ?_
 simp only [if_true,if_false,Bool.false_eq_true]
 refine goesI_skip (dt_idle _ _) ?_
 rw [eG3]
 refine goesI_seq (dt_idle _ _) ?_
 refine goesI_seq (dt_idle _ _) ?_
 unfold gO3 g3 gS scopeC Tryd.f26 seq1 seq2 opsOf at hk ⊢
 simp only [Option.getD_some] at hk ⊢
 refine goesI_region (dt_idle _ _) ?_
 simp only [List.size_toArray,List.length_cons,List.length_nil,Nat.reduceAdd,Nat.zero_add,List.range,List.range.loop]
 iterate 9
  (refine goesI_oper rfl rfl (by decide) (fun d K hK=>?_)
   go_simp
   refine hK _ _ ⟨dt_reads (fun e he=>?_),GoesI.at ?_ d⟩
   ·have hm:=mem_listed he
    simp [go_sem, *] at hm
    try exact ⟨_,_,hm⟩
    try (rcases hm with rfl|rfl<;>exact ⟨_,_,rfl⟩)
   clear hK K)
 refine goesI_into (f:=48) (fn:=Tryd.f48) (args:=#[Pt cb 0,Pt tb 0,I 1,I 0]) (dt_idle _ _) rfl rfl (by decide) rfl (by simp [Act.eval]) Tryd.func48 (by decide) rfl ?_
 exact free14 1 0 y _ rfl hvw hn HM.out (fun v' w' r nn f=>hk _ v v' w' ⟨rfl,rfl,by
  intro p hp
  simp only [List.mem_cons,List.not_mem_nil,or_false] at hp
  rcases hp with rfl|rfl|rfl<;>rfl⟩ r nn (grefl v) f) _ rfl
theorem give_lookF {Ch:Nat→Prop} {Stop:Goroutine→World→Prop} {main:Bool} {v w:World} {tb cb:Nat} {y:Int} {s k:Nat} (c0:v.cell? ⟨s,0,none⟩=some (Pt cb 0)) {a:Act} (hA:Fl 56 [(0,Pt s 0),(1,Pt tb 0),(2,I k)] a) (cs:List Frame)
 (hk:∀ a u v' w',Fl 56 [(0,Pt s 0),(1,Pt tb 0),(2,I k)] a→Rel zn v' w'→NoRow Ch v'→Grows v u→Fto tb cb (effLoad y).2.1 u v'→GoesI Tryd.prog main (DT (ScZ zn) Ch) Stop (G (gSeen a (effLoad y).2.2) cs) w')
 (hvw:Rel zn v w) (hn:NoRow Ch v) (hm:Fm tb cb y v) :
 GoesI Tryd.prog main (DT (ScZ zn) Ch) Stop (G (gHead a) cs) w:=by
 have HM:Hid (Fm tb cb y v):=⟨hm⟩
 clear hm
 unfold gSeen gO5 at hk
 obtain ⟨hsz,hd,hpp⟩:=hA
 obtain ⟨u,rfl,hg⟩:=litN hsz hd
 have u0:=(hg 0).symm.trans (hpp (0,Pt s 0) (by simp))
 have u1:=(hg 1).symm.trans (hpp (1,Pt tb 0) (by simp))
 have u2:=(hg 2).symm.trans (hpp (2,I k) (by simp))
 clear hg hpp hsz hd
 unfold gHead
 simp only [Option.getD_some,lits,Nat.reduceAdd,u0,u1,u2]
 clear u0 u1 u2
 have c0w:w.cell? ⟨s,0,none⟩=some (Pt cb 0):=by rw [hvw.cell?];exact c0
 rw [show (Item.code gL :: Item.inLoop gL :: gE')=Item.code (.block 1 gK) :: Item.inLoop gL :: gE' by rw [←eGL]]
 refine goesI_block (dt_idle _ _) ?_
 rw [show (Item.inBlock 1 :: Item.inLoop gL :: gE')=gE from rfl,show gK=.seq (seq1 gK) g6 from by kernel_rfl]
 refine goesI_seq (dt_idle _ _) ?_
 unfold gK gL g4 g3 gS scopeC Tryd.f26 seq1 seq2 blockC loopC opsOf at hk
 unfold gK gL g4 g3 gS scopeC Tryd.f26 seq1 seq2 blockC loopC
 simp only [Option.getD_some] at hk ⊢
 refine goesI_region (dt_idle _ _) ?_
 simp only [List.size_toArray,List.length_cons,List.length_nil,Nat.reduceAdd,Nat.zero_add,List.range,List.range.loop]
 iterate 5
  (refine goesI_oper rfl rfl (by decide) (fun d K hK=>?_)
   go_simp
   refine hK _ _ ⟨dt_reads (fun e he=>?_),GoesI.at ?_ d⟩
   ·have hm:=mem_listed he
    simp [go_sem, *] at hm
    try exact ⟨_,_,hm⟩
    try (rcases hm with rfl|rfl<;>exact ⟨_,_,rfl⟩)
   clear hK K)
 refine goesI_into (f:=44) (fn:=Tryd.f44) (args:=#[Pt cb 0,Pt tb 0]) (dt_idle _ _) rfl rfl (by decide) rfl (by simp [Act.eval]) Tryd.func44 (by decide) rfl ?_
 exact free17 y _ rfl hvw hn HM.out (fun v' w' r nn f=>hk _ v v' w' ⟨rfl,rfl,by
  intro p hp
  simp only [List.mem_cons,List.not_mem_nil,or_false] at hp
  rcases hp with rfl|rfl|rfl<;>rfl⟩ r nn (grefl v) f) _ rfl
theorem give_nextF {Ch:Nat→Prop} {Stop:Goroutine→World→Prop} {main:Bool} {v w:World} {tb cb:Nat} {y:Int} {s sb n k:Nat} {x:Int} (hkn:k<n) (hF:R1.Flds v) (h1:v.cell? ⟨s,1,none⟩=some (.slice (some ⟨sb,0,none⟩) n n)) (h2:v.cell? ⟨sb,k*2,none⟩=some (Pt cb 0)) {a:Act} (hA:Fl 56 [(0,Pt s 0),(1,Pt tb 0),(2,I k)] a) (cs:List Frame)
 (hk:∀ a u v' w',Fl 56 [(0,Pt s 0),(1,Pt tb 0),(2,I k),(7,I x)] a→Rel zn v' w'→NoRow Ch v'→Grows v u→Fto tb cb ((effStore (fstI x)) y).2.1 u v'→GoesI Tryd.prog main (DT (ScZ zn) Ch) Stop (G (gStored a ((effStore (fstI x)) y).2.2) cs) w')
 (hvw:Rel zn v w) (hn:NoRow Ch v) (hm:Fm tb cb y v) :
 GoesI Tryd.prog main (DT (ScZ zn) Ch) Stop (G (gSeen a (I x)) cs) w:=by
 have HM:Hid (Fm tb cb y v):=⟨hm⟩
 clear hm
 obtain ⟨hsz,hd,hpp⟩:=hA
 obtain ⟨u,rfl,hg⟩:=litN hsz hd
 have u0:=(hg 0).symm.trans (hpp (0,Pt s 0) (by simp))
 have u1:=(hg 1).symm.trans (hpp (1,Pt tb 0) (by simp))
 have u2:=(hg 2).symm.trans (hpp (2,I k) (by simp))
 clear hg hpp hsz hd
 unfold gSeen
 simp only [Option.getD_some,lits,Nat.reduceAdd,u0,u1,u2]
 clear u0 u1 u2
 unfold gO5 gK gL g4 g3 gS scopeC Tryd.f26 seq1 seq2 blockC loopC opsOf
 simp only [Option.getD_some]
 walk_nrm
 iterate 1
  (refine goesI_oper rfl rfl (by decide) (fun d K hK=>?_)
   go_simp
   refine hK _ _ ⟨dt_reads (fun e he=>?_),GoesI.at ?_ d⟩
   ·have hm:=mem_listed he
    simp [go_sem, *] at hm
    try exact ⟨_,_,hm⟩
    try (rcases hm with rfl|rfl<;>exact ⟨_,_,rfl⟩)
   clear hK K)
 refine goesI_regionEnd (dt_idle _ _) ?_
 rw [eG6]
 refine goesI_seq (dt_idle _ _) ?_
 refine g6_pre s sb n k cb tb x hkn ⟨rfl,rfl,by
  intro p hp
  simp only [List.mem_cons,List.not_mem_nil,or_false] at hp
  rcases hp with rfl|rfl|rfl|rfl<;>rfl⟩ _ cs hF h1 h2 hvw hn (fun v4 w4 a' o ho hw hA hvw4 hn4 hg4=>?_)
 have e43:a'.eval (.tmp 43)=Pt cb 0:=hA.at 43 _ (by simp)
 have e44:a'.eval (.tmp 44)=Pt tb 0:=hA.at 44 _ (by simp)
 have e47:a'.eval (.tmp 47)=I (fstI x):=hA.at 47 _ (by simp)
 have hop:(gO6[12]?).map (·.op)=some (.call { callee:=.value (.func 47),args:=#[.tmp 43,.tmp 44,.tmp 47],argTypes:=#[89,52,3] }):=by kernel_rfl
 have hds:(gO6[12]?).map (·.dst)=some (some 48):=by kernel_rfl
 rw [ho] at hop hds
 have hop':=Option.some.inj hop
 have hds':o.dst=some 48:=Option.some.inj hds
 refine goesI_into (f:=47) (fn:=Tryd.f47) (args:=#[Pt cb 0,Pt tb 0,I (fstI x)]) (dt_idle _ _) ho (hw _) (by simp [base]) hop' (by simp only [List.map_toArray,List.map_cons,List.map_nil,e43,e44,e47]) Tryd.func47 (by decide) rfl ?_
 refine free12 (fstI x) y _ ho hvw4 hn4 (HM.out.grow hg4) (fun v' w' r nn f=>?_) _ rfl
 rw [hds']
 exact hk a' v4 v' w' ⟨hA.1,hA.2.1,fun p hp=>hA.2.2 p (by simp only [List.mem_cons,List.not_mem_nil,or_false] at hp ⊢;rcases hp with rfl|rfl|rfl|rfl<;>simp)⟩ r nn hg4 f
theorem push_valF {Ch:Nat→Prop} {Stop:Goroutine→World→Prop} {main:Bool} {v w:World} {tb cb:Nat} {y:Int} {c pb n:Nat} {x:Int} (k:Nat) (hkn:k<n) (c1:v.cell? ⟨c,2,none⟩=some (.slice (some ⟨pb,0,none⟩) n n)) (c2:v.cell? ⟨pb,k*2,none⟩=some (Pt cb 0)) {a:Act} (hA:Fl 59 [(0,Pt c 0),(1,Pt tb 0),(2,I x)] a) (cs:List Frame)
 (hk:∀ a u v' w',Fl 59 [(0,Pt c 0),(1,Pt tb 0),(2,I x),(7,I k)] a→Rel zn v' w'→NoRow Ch v'→Grows v u→Fto tb cb ((effStore (x)) y).2.1 u v'→GoesI Tryd.prog main (DT (ScZ zn) Ch) Stop (G (pVal a ((effStore (x)) y).2.2) cs) w')
 (hvw:Rel zn v w) (hn:NoRow Ch v) (hm:Fm tb cb y v) :
 GoesI Tryd.prog main (DT (ScZ zn) Ch) Stop (G (pTook a (.tuple #[I k,I 0])) cs) w:=by
 have HM:Hid (Fm tb cb y v):=⟨hm⟩
 clear hm
 unfold pVal pO4 at hk
 obtain ⟨hsz,hd,hpp⟩:=hA
 obtain ⟨u,rfl,hg⟩:=litN hsz hd
 have u0:=(hg 0).symm.trans (hpp (0,Pt c 0) (by simp))
 have u1:=(hg 1).symm.trans (hpp (1,Pt tb 0) (by simp))
 have u2:=(hg 2).symm.trans (hpp (2,I x) (by simp))
 clear hg hpp hsz hd
 unfold pTook pO1 p2 pS scopeC Tryd.f50 seq1 seq2 opsOf
 simp only [Option.getD_some,lits,Nat.reduceAdd,u0,u1,u2]
 clear u0 u1 u2
 have hkn':(k:Int)<(n:Int):=by omega
 have d1:w.cell? ⟨c,2,none⟩=some (.slice (some ⟨pb,0,none⟩) n n):=by rw [hvw.cell?];exact c1
 have d2:w.cell? ⟨pb,k*2,none⟩=some (Pt cb 0):=by rw [hvw.cell?];exact c2
 walk_nrm
 iterate 5
  (refine goesI_oper rfl rfl (by decide) (fun d K hK=>?_)
   go_simp
   refine hK _ _ ⟨dt_reads (fun e he=>?_),GoesI.at ?_ d⟩
   ·have hm:=mem_listed he
    simp [go_sem, *] at hm
    try exact ⟨_,_,hm⟩
    try (rcases hm with rfl|rfl<;>exact ⟨_,_,rfl⟩)
   clear hK K)
 refine goesI_regionEnd (dt_idle _ _) ?_
 refine goesI_seq (dt_idle _ _) ?_
 refine goesI_seq (dt_idle _ _) ?_
 refine goesI_region (dt_idle _ _) ?_
 simp only [List.size_toArray,List.length_cons,List.length_nil,Nat.reduceAdd,Nat.zero_add,List.range,List.range.loop]
 iterate 2
  (refine goesI_oper rfl rfl (by decide) (fun d K hK=>?_)
   go_simp
   refine hK _ _ ⟨dt_reads (fun e he=>?_),GoesI.at ?_ d⟩
   ·have hm:=mem_listed he
    simp [go_sem, *] at hm
    try exact ⟨_,_,hm⟩
    try (rcases hm with rfl|rfl<;>exact ⟨_,_,rfl⟩)
   clear hK K)
 refine goesI_regionEnd (dt_idle _ _) ?_
 refine goesI_cond (dt_idle _ _) (t:=false) (by simp [Act.eval]) ?_
 simp only [if_true,if_false,Bool.false_eq_true]
 refine goesI_skip (dt_idle _ _) ?_
 unfold p4 p2 pS scopeC Tryd.f50 seq1 seq2 opsOf at hk
 simp only [Option.getD_some] at hk
 refine goesI_seq (dt_idle _ _) ?_
 refine goesI_region (dt_idle _ _) ?_
 simp only [List.size_toArray,List.length_cons,List.length_nil,Nat.reduceAdd,Nat.zero_add,List.range,List.range.loop]
 iterate 10
  (refine goesI_oper rfl rfl (by decide) (fun d K hK=>?_)
   go_simp
   refine hK _ _ ⟨dt_reads (fun e he=>?_),GoesI.at ?_ d⟩
   ·have hm:=mem_listed he
    simp [go_sem, *] at hm
    try exact ⟨_,_,hm⟩
    try (rcases hm with rfl|rfl<;>exact ⟨_,_,rfl⟩)
   clear hK K)
 refine goesI_into (f:=47) (fn:=Tryd.f47) (args:=#[Pt cb 0,Pt tb 0,I (x)]) (dt_idle _ _) rfl rfl (by decide) rfl (by simp [Act.eval]) Tryd.func47 (by decide) rfl ?_
 exact free12 (x) y _ rfl hvw hn HM.out (fun v' w' r nn f=>hk _ v v' w' ⟨rfl,rfl,by
  intro p hp
  simp only [List.mem_cons,List.not_mem_nil,or_false] at hp
  rcases hp with rfl|rfl|rfl|rfl<;>rfl⟩ r nn (grefl v) f) _ rfl
theorem push_lookF {Ch:Nat→Prop} {Stop:Goroutine→World→Prop} {main:Bool} {v w:World} {tb cb:Nat} {y:Int} {c k:Nat} {x:Int} (c0:v.cell? ⟨c,1,none⟩=some (Pt cb 0)) {a:Act} (hA:Fl 59 [(0,Pt c 0),(1,Pt tb 0),(2,I x),(7,I k)] a) (cs:List Frame)
 (hk:∀ a u v' w',Fl 59 [(0,Pt c 0),(1,Pt tb 0),(2,I x),(7,I k)] a→Rel zn v' w'→NoRow Ch v'→Grows v u→Fto tb cb (effLoad y).2.1 u v'→GoesI Tryd.prog main (DT (ScZ zn) Ch) Stop (G (pSeen a (effLoad y).2.2) cs) w')
 (hvw:Rel zn v w) (hn:NoRow Ch v) (hm:Fm tb cb y v) :
 GoesI Tryd.prog main (DT (ScZ zn) Ch) Stop (G (pHead a) cs) w:=by
 have HM:Hid (Fm tb cb y v):=⟨hm⟩
 clear hm
 unfold pSeen at hk
 obtain ⟨hsz,hd,hpp⟩:=hA
 obtain ⟨u,rfl,hg⟩:=litN hsz hd
 have u0:=(hg 0).symm.trans (hpp (0,Pt c 0) (by simp))
 have u1:=(hg 1).symm.trans (hpp (1,Pt tb 0) (by simp))
 have u2:=(hg 2).symm.trans (hpp (2,I x) (by simp))
 have u7:=(hg 7).symm.trans (hpp (7,I k) (by simp))
 clear hg hpp hsz hd
 unfold pHead
 simp only [Option.getD_some,lits,Nat.reduceAdd,u0,u1,u2,u7]
 clear u0 u1 u2 u7
 have c0w:w.cell? ⟨c,1,none⟩=some (Pt cb 0):=by rw [hvw.cell?];exact c0
 rw [show (Item.code pL :: Item.inLoop pL :: pE')=Item.code (.block 1 pK) :: Item.inLoop pL :: pE' by rw [←ePL]]
 refine goesI_block (dt_idle _ _) ?_
 rw [show (Item.inBlock 1 :: Item.inLoop pL :: pE')=pE from rfl,ePK]
 refine goesI_seq (dt_idle _ _) ?_
 unfold pO5 pK pL p5 p4 p2 pS scopeC Tryd.f50 seq1 seq2 blockC loopC opsOf at hk ⊢
 simp only [Option.getD_some] at hk ⊢
 refine goesI_region (dt_idle _ _) ?_
 simp only [List.size_toArray,List.length_cons,List.length_nil,Nat.reduceAdd,Nat.zero_add,List.range,List.range.loop]
 iterate 5
  (refine goesI_oper rfl rfl (by decide) (fun d K hK=>?_)
   go_simp
   refine hK _ _ ⟨dt_reads (fun e he=>?_),GoesI.at ?_ d⟩
   ·have hm:=mem_listed he
    simp [go_sem, *] at hm
    try exact ⟨_,_,hm⟩
    try (rcases hm with rfl|rfl<;>exact ⟨_,_,rfl⟩)
   clear hK K)
 refine goesI_into (f:=44) (fn:=Tryd.f44) (args:=#[Pt cb 0,Pt tb 0]) (dt_idle _ _) rfl rfl (by decide) rfl (by simp [Act.eval]) Tryd.func44 (by decide) rfl ?_
 exact free17 y _ rfl hvw hn HM.out (fun v' w' r nn f=>hk _ v v' w' ⟨rfl,rfl,by
  intro p hp
  simp only [List.mem_cons,List.not_mem_nil,or_false] at hp
  rcases hp with rfl|rfl|rfl|rfl<;>rfl⟩ r nn (grefl v) f) _ rfl
theorem push_linkF {Ch:Nat→Prop} {Stop:Goroutine→World→Prop} {main:Bool} {v w:World} {tb cb:Nat} {y:Int} {c pb n k:Nat} {x:Int} (h0:Int) (hkn:k<n) (hF:R1.Flds v) (h1:v.cell? ⟨c,2,none⟩=some (.slice (some ⟨pb,0,none⟩) n n)) (h2:v.cell? ⟨pb,k*2+1,none⟩=some (Pt cb 0)) {a:Act} (hA:Fl 59 [(0,Pt c 0),(1,Pt tb 0),(2,I x),(7,I k)] a) (cs:List Frame)
 (hk:∀ a u v' w',Fl 59 [(0,Pt c 0),(1,Pt tb 0),(2,I x),(7,I k),(9,I h0)] a→Rel zn v' w'→NoRow Ch v'→Grows v u→Fto tb cb ((effStore (fstI h0)) y).2.1 u v'→GoesI Tryd.prog main (DT (ScZ zn) Ch) Stop (G (pLink a ((effStore (fstI h0)) y).2.2) cs) w')
 (hvw:Rel zn v w) (hn:NoRow Ch v) (hm:Fm tb cb y v) :
 GoesI Tryd.prog main (DT (ScZ zn) Ch) Stop (G (pSeen a (I h0)) cs) w:=by
 have HM:Hid (Fm tb cb y v):=⟨hm⟩
 clear hm
 obtain ⟨hsz,hd,hpp⟩:=hA
 obtain ⟨u,rfl,hg⟩:=litN hsz hd
 have u0:=(hg 0).symm.trans (hpp (0,Pt c 0) (by simp))
 have u1:=(hg 1).symm.trans (hpp (1,Pt tb 0) (by simp))
 have u2:=(hg 2).symm.trans (hpp (2,I x) (by simp))
 have u7:=(hg 7).symm.trans (hpp (7,I k) (by simp))
 clear hg hpp hsz hd
 unfold pSeen
 simp only [Option.getD_some,lits,Nat.reduceAdd,u0,u1,u2,u7]
 clear u0 u1 u2 u7
 unfold pO5 pK pL p5 p4 p2 pS scopeC Tryd.f50 seq1 seq2 blockC loopC opsOf
 simp only [Option.getD_some]
 walk_nrm
 iterate 1
  (refine goesI_oper rfl rfl (by decide) (fun d K hK=>?_)
   go_simp
   refine hK _ _ ⟨dt_reads (fun e he=>?_),GoesI.at ?_ d⟩
   ·have hm:=mem_listed he
    simp [go_sem, *] at hm
    try exact ⟨_,_,hm⟩
    try (rcases hm with rfl|rfl<;>exact ⟨_,_,rfl⟩)
   clear hK K)
 refine goesI_regionEnd (dt_idle _ _) ?_
 rw [eP6]
 refine goesI_seq (dt_idle _ _) ?_
 refine p6_pre c pb n k cb tb x h0 hkn ⟨rfl,rfl,by
  intro p hp
  simp only [List.mem_cons,List.not_mem_nil,or_false] at hp
  rcases hp with rfl|rfl|rfl|rfl|rfl<;>rfl⟩ _ cs hF h1 h2 hvw hn (fun v4 w4 a' o ho hw hA hvw4 hn4 hg4=>?_)
 have e46:a'.eval (.tmp 46)=Pt cb 0:=hA.at 46 _ (by simp)
 have e47:a'.eval (.tmp 47)=Pt tb 0:=hA.at 47 _ (by simp)
 have e50:a'.eval (.tmp 50)=I (fstI h0):=hA.at 50 _ (by simp)
 have hop:(pO6[12]?).map (·.op)=some (.call { callee:=.value (.func 47),args:=#[.tmp 46,.tmp 47,.tmp 50],argTypes:=#[89,52,3] }):=by kernel_rfl
 have hds:(pO6[12]?).map (·.dst)=some (some 51):=by kernel_rfl
 rw [ho] at hop hds
 have hop':=Option.some.inj hop
 have hds':o.dst=some 51:=Option.some.inj hds
 refine goesI_into (f:=47) (fn:=Tryd.f47) (args:=#[Pt cb 0,Pt tb 0,I (fstI h0)]) (dt_idle _ _) ho (hw _) (by simp [base]) hop' (by simp only [List.map_toArray,List.map_cons,List.map_nil,e46,e47,e50]) Tryd.func47 (by decide) rfl ?_
 refine free12 (fstI h0) y _ ho hvw4 hn4 (HM.out.grow hg4) (fun v' w' r nn f=>?_) _ rfl
 rw [hds']
 exact hk a' v4 v' w' ⟨hA.1,hA.2.1,fun p hp=>hA.2.2 p (by simp only [List.mem_cons,List.not_mem_nil,or_false] at hp ⊢;rcases hp with rfl|rfl|rfl|rfl|rfl<;>simp)⟩ r nn hg4 f
theorem pop_lookF {Ch:Nat→Prop} {Stop:Goroutine→World→Prop} {main:Bool} {v w:World} {tb cb:Nat} {y:Int} {c:Nat} (c0:v.cell? ⟨c,1,none⟩=some (Pt cb 0)) {a:Act} (hA:Fl 58 [(0,Pt c 0),(1,Pt tb 0)] a) (cs:List Frame)
 (hk:∀ a u v' w',Fl 58 [(0,Pt c 0),(1,Pt tb 0)] a→Rel zn v' w'→NoRow Ch v'→Grows v u→Fto tb cb (effLoad y).2.1 u v'→GoesI Tryd.prog main (DT (ScZ zn) Ch) Stop (G (oSeen a (effLoad y).2.2) cs) w')
 (hvw:Rel zn v w) (hn:NoRow Ch v) (hm:Fm tb cb y v) :
 GoesI Tryd.prog main (DT (ScZ zn) Ch) Stop (G (oHead a) cs) w:=by
 have HM:Hid (Fm tb cb y v):=⟨hm⟩
 clear hm
 unfold oSeen at hk
 obtain ⟨hsz,hd,hpp⟩:=hA
 obtain ⟨u,rfl,hg⟩:=litN hsz hd
 have u0:=(hg 0).symm.trans (hpp (0,Pt c 0) (by simp))
 have u1:=(hg 1).symm.trans (hpp (1,Pt tb 0) (by simp))
 clear hg hpp hsz hd
 unfold oHead
 simp only [Option.getD_some,lits,Nat.reduceAdd,u0,u1]
 clear u0 u1
 have c0w:w.cell? ⟨c,1,none⟩=some (Pt cb 0):=by rw [hvw.cell?];exact c0
 rw [show (Item.code oL :: Item.inLoop oL :: oE')=Item.code (.block 1 oK) :: Item.inLoop oL :: oE' by rw [←eOL]]
 refine goesI_block (dt_idle _ _) ?_
 rw [show (Item.inBlock 1 :: Item.inLoop oL :: oE')=oE from rfl,eOK]
 refine goesI_seq (dt_idle _ _) ?_
 unfold oO1 oK oL oS scopeC Tryd.f51 seq1 seq2 blockC loopC opsOf at hk ⊢
 simp only [Option.getD_some] at hk ⊢
 refine goesI_region (dt_idle _ _) ?_
 simp only [List.size_toArray,List.length_cons,List.length_nil,Nat.reduceAdd,Nat.zero_add,List.range,List.range.loop]
 iterate 5
  (refine goesI_oper rfl rfl (by decide) (fun d K hK=>?_)
   go_simp
   refine hK _ _ ⟨dt_reads (fun e he=>?_),GoesI.at ?_ d⟩
   ·have hm:=mem_listed he
    simp [go_sem, *] at hm
    try exact ⟨_,_,hm⟩
    try (rcases hm with rfl|rfl<;>exact ⟨_,_,rfl⟩)
   clear hK K)
 refine goesI_into (f:=44) (fn:=Tryd.f44) (args:=#[Pt cb 0,Pt tb 0]) (dt_idle _ _) rfl rfl (by decide) rfl (by simp [Act.eval]) Tryd.func44 (by decide) rfl ?_
 exact free17 y _ rfl hvw hn HM.out (fun v' w' r nn f=>hk _ v v' w' ⟨rfl,rfl,by
  intro p hp
  simp only [List.mem_cons,List.not_mem_nil,or_false] at hp
  rcases hp with rfl|rfl<;>rfl⟩ r nn (grefl v) f) _ rfl
theorem pop_linkF {Ch:Nat→Prop} {Stop:Goroutine→World→Prop} {main:Bool} {v w:World} {tb cb:Nat} {y:Int} {c pb n:Nat} {x:Int} (k:Nat) (hk0:fstI x=(k:Int)+1) (hkn:k<n) (hF:R1.Flds v) (c1:v.cell? ⟨c,2,none⟩=some (.slice (some ⟨pb,0,none⟩) n n)) (c2:v.cell? ⟨pb,k*2+1,none⟩=some (Pt cb 0)) {a:Act} (hA:Fl 58 [(0,Pt c 0),(1,Pt tb 0)] a) (cs:List Frame)
 (hk:∀ a u v' w',Fl 58 [(0,Pt c 0),(1,Pt tb 0),(6,I x),(8,I k)] a→Rel zn v' w'→NoRow Ch v'→Grows v u→Fto tb cb (effLoad y).2.1 u v'→GoesI Tryd.prog main (DT (ScZ zn) Ch) Stop (G (oLink a (effLoad y).2.2) cs) w')
 (hvw:Rel zn v w) (hn:NoRow Ch v) (hm:Fm tb cb y v) :
 GoesI Tryd.prog main (DT (ScZ zn) Ch) Stop (G (oSeen a (I x)) cs) w:=by
 have HM:Hid (Fm tb cb y v):=⟨hm⟩
 clear hm
 unfold oLink at hk
 obtain ⟨hsz,hd,hpp⟩:=hA
 obtain ⟨u,rfl,hg⟩:=litN hsz hd
 have u0:=(hg 0).symm.trans (hpp (0,Pt c 0) (by simp))
 have u1:=(hg 1).symm.trans (hpp (1,Pt tb 0) (by simp))
 clear hg hpp hsz hd
 unfold oSeen oO1 o2 oK oL oS scopeC Tryd.f51 seq1 seq2 blockC loopC opsOf
 simp only [Option.getD_some,lits,Nat.reduceAdd,u0,u1]
 clear u0 u1
 have HK0:Hid (fstI x=(k:Int)+1):=⟨hk0⟩
 clear hk0
 have g0:w.cell? ⟨2,0,none⟩=some (I 0):=by rw [hvw.cell?];exact hF.c0
 have g1:w.cell? ⟨2,1,none⟩=some (I 32):=by rw [hvw.cell?];exact hF.c1
 walk_nrm
 iterate 1
  (refine goesI_oper rfl rfl (by decide) (fun d K hK=>?_)
   go_simp
   refine hK _ _ ⟨dt_reads (fun e he=>?_),GoesI.at ?_ d⟩
   ·have hm:=mem_listed he
    simp [go_sem, *] at hm
    try exact ⟨_,_,hm⟩
    try (rcases hm with rfl|rfl<;>exact ⟨_,_,rfl⟩)
   clear hK K)
 refine goesI_regionEnd (dt_idle _ _) ?_
 refine goesI_seq (dt_idle _ _) ?_
 refine goesI_region (dt_idle _ _) ?_
 simp only [List.size_toArray,List.length_cons,List.length_nil,Nat.reduceAdd,Nat.zero_add,List.range,List.range.loop]
 iterate 2
  (refine goesI_oper rfl rfl (by decide) (fun d K hK=>?_)
   go_simp
   refine hK _ _ ⟨dt_reads (fun e he=>?_),GoesI.at ?_ d⟩
   ·have hm:=mem_listed he
    simp [go_sem, *] at hm
    try exact ⟨_,_,hm⟩
    try (rcases hm with rfl|rfl<;>exact ⟨_,_,rfl⟩)
   clear hK K)
 refine goesI_call (f:=45) (fn:=Tryd.f45) (args:=#[I x,R1.F 0 32]) hE fineT rfl rfl (by decide) rfl (by simp [Act.eval,R1.F]) Tryd.func45 (by kernel_rfl) rfl (fineFn_body fineT (by simp [LT,plainFs]) Tryd.func45 rfl) (fun tmps=>⟨_,fun w=>results_tmp rfl _ _ _,fun w=>by simp [results,go_sem,Tryd.f45]⟩) hvw hn
  (R:=fun r v4=>r=I (fstI x)∧Grows v v4) (fun τ=>?_) (fun r v4 w4 hR hvw4 hn4=>?_)
 ·exact wp_mono (R1.wget_body x 0 32 (onTape v τ 0) (by decide) (by decide) (by decide) _ rfl) (bp_mono fun r u hq=>⟨hq.1,gtape (blw_grows hq.2)⟩)
 obtain ⟨rfl,hg4⟩:=hR
 walk_nrm
 have hne:¬ (fstI x=0):=by have:=HK0.out;omega
 have hwr:IntKind.i64.wrap (fstI x - 1)=(k:Int):=by have:=HK0.out;have hx:=R1.fstI_in x;rw [IntKind.wrap_i64];omega
 have hkn':(k:Int)<(n:Int):=by omega
 have d1:w4.cell? ⟨c,2,none⟩=some (.slice (some ⟨pb,0,none⟩) n n):=by rw [hvw4.cell?];exact hg4.cell c1
 have d2:w4.cell? ⟨pb,k*2+1,none⟩=some (Pt cb 0):=by rw [hvw4.cell?];exact hg4.cell c2
 iterate 1
  (refine goesI_oper rfl rfl (by decide) (fun d K hK=>?_)
   go_simp
   refine hK _ _ ⟨dt_reads (fun e he=>?_),GoesI.at ?_ d⟩
   ·have hm:=mem_listed he
    simp [go_sem, *] at hm
    try exact ⟨_,_,hm⟩
    try (rcases hm with rfl|rfl<;>exact ⟨_,_,rfl⟩)
   clear hK K)
 refine goesI_regionEnd (dt_idle _ _) ?_
 refine goesI_seq (dt_idle _ _) ?_
 refine goesI_seq (dt_idle _ _) ?_
 refine goesI_region (dt_idle _ _) ?_
 simp only [List.size_toArray,List.length_cons,List.length_nil,Nat.reduceAdd,Nat.zero_add,List.range,List.range.loop]
 iterate 2
  (refine goesI_oper rfl rfl (by decide) (fun d K hK=>?_)
   go_simp
   refine hK _ _ ⟨dt_reads (fun e he=>?_),GoesI.at ?_ d⟩
   ·have hm:=mem_listed he
    simp [go_sem, *] at hm
    try exact ⟨_,_,hm⟩
    try (rcases hm with rfl|rfl<;>exact ⟨_,_,rfl⟩)
   clear hK K)
 refine goesI_regionEnd (dt_idle _ _) ?_
 refine goesI_cond (dt_idle _ _) (t:=false) (by simp [Act.eval,hne]) ?_
 simp only [if_true,if_false,Bool.false_eq_true]
 refine goesI_skip (dt_idle _ _) ?_
 refine goesI_seq (dt_idle _ _) ?_
 refine goesI_region (dt_idle _ _) ?_
 simp only [List.size_toArray,List.length_cons,List.length_nil,Nat.reduceAdd,Nat.zero_add,List.range,List.range.loop]
 iterate 3
  (refine goesI_oper rfl rfl (by decide) (fun d K hK=>?_)
   go_simp
   refine hK _ _ ⟨dt_reads (fun e he=>?_),GoesI.at ?_ d⟩
   ·have hm:=mem_listed he
    simp [go_sem, *] at hm
    try exact ⟨_,_,hm⟩
    try (rcases hm with rfl|rfl<;>exact ⟨_,_,rfl⟩)
   clear hK K)
 refine goesI_regionEnd (dt_idle _ _) ?_
 refine goesI_seq (dt_idle _ _) ?_
 unfold oO6 o6 o5 o3 o2 oK oL oS scopeC Tryd.f51 seq1 seq2 blockC loopC opsOf at hk
 simp only [Option.getD_some] at hk
 refine goesI_region (dt_idle _ _) ?_
 simp only [List.size_toArray,List.length_cons,List.length_nil,Nat.reduceAdd,Nat.zero_add,List.range,List.range.loop]
 iterate 9
  (refine goesI_oper rfl rfl (by decide) (fun d K hK=>?_)
   go_simp
   refine hK _ _ ⟨dt_reads (fun e he=>?_),GoesI.at ?_ d⟩
   ·have hm:=mem_listed he
    simp [go_sem, *] at hm
    try exact ⟨_,_,hm⟩
    try (rcases hm with rfl|rfl<;>exact ⟨_,_,rfl⟩)
   clear hK K)
 refine goesI_into (f:=44) (fn:=Tryd.f44) (args:=#[Pt cb 0,Pt tb 0]) (dt_idle _ _) rfl rfl (by decide) rfl (by simp [Act.eval]) Tryd.func44 (by decide) rfl ?_
 exact free17 y _ rfl hvw4 hn4 (HM.out.grow hg4) (fun v' w' r nn f=>hk _ v4 v' w' ⟨rfl,rfl,by
  intro p hp
  simp only [List.mem_cons,List.not_mem_nil,or_false] at hp
  rcases hp with rfl|rfl|rfl|rfl<;>rfl⟩ r nn hg4 f) _ rfl
theorem pop_valF {Ch:Nat→Prop} {Stop:Goroutine→World→Prop} {main:Bool} {v w:World} {tb cb:Nat} {y:Int} {c pb n k:Nat} {x:Int} (hkn:k<n) (c1:v.cell? ⟨c,2,none⟩=some (.slice (some ⟨pb,0,none⟩) n n)) (c2:v.cell? ⟨pb,k*2,none⟩=some (Pt cb 0)) {a:Act} (hA:Fl 58 [(0,Pt c 0),(1,Pt tb 0),(6,I x),(8,I k)] a) (cs:List Frame)
 (hk:∀ a u v' w',Fl 58 [(0,Pt c 0),(1,Pt tb 0),(8,I k)] a→Rel zn v' w'→NoRow Ch v'→Grows v u→Fto tb cb (effLoad y).2.1 u v'→GoesI Tryd.prog main (DT (ScZ zn) Ch) Stop (G (oVal a (effLoad y).2.2) cs) w')
 (hvw:Rel zn v w) (hn:NoRow Ch v) (hm:Fm tb cb y v) :
 GoesI Tryd.prog main (DT (ScZ zn) Ch) Stop (G (oTried a (.bool true)) cs) w:=by
 have HM:Hid (Fm tb cb y v):=⟨hm⟩
 clear hm
 unfold oVal at hk
 obtain ⟨hsz,hd,hpp⟩:=hA
 obtain ⟨u,rfl,hg⟩:=litN hsz hd
 have u0:=(hg 0).symm.trans (hpp (0,Pt c 0) (by simp))
 have u1:=(hg 1).symm.trans (hpp (1,Pt tb 0) (by simp))
 have u6:=(hg 6).symm.trans (hpp (6,I x) (by simp))
 have u8:=(hg 8).symm.trans (hpp (8,I k) (by simp))
 clear hg hpp hsz hd
 unfold oTried oO7 oC7 o7 o6 o5 o3 o2 oK oL oS scopeC Tryd.f51 seq1 seq2 blockC loopC opsOf
 simp only [Option.getD_some,lits,Nat.reduceAdd,u0,u1,u6,u8]
 clear u0 u1 u6 u8
 have hkn':(k:Int)<(n:Int):=by omega
 have d1:w.cell? ⟨c,2,none⟩=some (.slice (some ⟨pb,0,none⟩) n n):=by rw [hvw.cell?];exact c1
 have d2:w.cell? ⟨pb,k*2,none⟩=some (Pt cb 0):=by rw [hvw.cell?];exact c2
 walk_nrm
 iterate 1
  (refine goesI_oper rfl rfl (by decide) (fun d K hK=>?_)
   go_simp
   refine hK _ _ ⟨dt_reads (fun e he=>?_),GoesI.at ?_ d⟩
   ·have hm:=mem_listed he
    simp [go_sem, *] at hm
    try exact ⟨_,_,hm⟩
    try (rcases hm with rfl|rfl<;>exact ⟨_,_,rfl⟩)
   clear hK K)
 refine goesI_regionEnd (dt_idle _ _) ?_
 refine goesI_cond (dt_idle _ _) (t:=false) (by simp [Act.eval]) ?_
 simp only [if_true,if_false,Bool.false_eq_true]
 refine goesI_skip (dt_idle _ _) ?_
 rw [eO8]
 refine goesI_seq (dt_idle _ _) ?_
 unfold oO8 o8 o7 o6 o5 o3 o2 oK oL oS scopeC Tryd.f51 seq1 seq2 blockC loopC opsOf at hk ⊢
 simp only [Option.getD_some] at hk ⊢
 refine goesI_region (dt_idle _ _) ?_
 simp only [List.size_toArray,List.length_cons,List.length_nil,Nat.reduceAdd,Nat.zero_add,List.range,List.range.loop]
 iterate 9
  (refine goesI_oper rfl rfl (by decide) (fun d K hK=>?_)
   go_simp
   refine hK _ _ ⟨dt_reads (fun e he=>?_),GoesI.at ?_ d⟩
   ·have hm:=mem_listed he
    simp [go_sem, *] at hm
    try exact ⟨_,_,hm⟩
    try (rcases hm with rfl|rfl<;>exact ⟨_,_,rfl⟩)
   clear hK K)
 refine goesI_into (f:=44) (fn:=Tryd.f44) (args:=#[Pt cb 0,Pt tb 0]) (dt_idle _ _) rfl rfl (by decide) rfl (by simp [Act.eval]) Tryd.func44 (by decide) rfl ?_
 exact free17 y _ rfl hvw hn HM.out (fun v' w' r nn f=>hk _ v v' w' ⟨rfl,rfl,by
  intro p hp
  simp only [List.mem_cons,List.not_mem_nil,or_false] at hp
  rcases hp with rfl|rfl|rfl<;>rfl⟩ r nn (grefl v) f) _ rfl
end Go.Proofs.YtbbhahigofeacaaDoor.Gen
