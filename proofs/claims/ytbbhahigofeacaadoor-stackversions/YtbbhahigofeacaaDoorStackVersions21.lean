/- Of the proof of StackVersions. Part 21 of 34. (Joined, by program, and written short, of: StPo, GNow, KpB.) -/
import Derived.Test.YtbbhahigofeacaaDoorStackVersions05
import Derived.Test.YtbbhahigofeacaaDoorStackVersions10
import Derived.Test.YtbbhahigofeacaaDoorStackVersions17
import Derived.Test.YtbbhahigofeacaaDoorStackVersions18
import Derived.Test.YtbbhahigofeacaaDoorStackVersions19
set_option linter.unusedSimpArgs false
set_option linter.unusedVariables false
set_option maxHeartbeats 4000000
set_option maxRecDepth 100000
namespace Go.Proofs.YtbbhahigofeacaaDoor.Gen
open Go Go.Lift Go.Conc Go.RowKit
open R1 (fstI verI hdI)
noncomputable def oS:Code:=scopeC (seq2 (Tryd.f51.body.getD .skip))
noncomputable def oL:Code:=loopC (blockC (seq2 oS))
noncomputable def oK:Code:=blockC oL
noncomputable def o2:Code:=seq2 oK
noncomputable def o3:Code:=seq2 o2
noncomputable def o5:Code:=seq2 o3
noncomputable def o6:Code:=seq2 o5
noncomputable def o7:Code:=seq2 o6
noncomputable def o8:Code:=seq2 o7
noncomputable def o9:Code:=seq2 o8
noncomputable def o10:Code:=seq2 o9
noncomputable def oO1:Array Oper:=opsOf (seq1 oK)
noncomputable def oO6:Array Oper:=opsOf (seq1 o6)
noncomputable def oO7:Array Oper:=opsOf (seq1 (seq1 o7))
noncomputable def oC7:Code:=seq2 (seq1 o7)
noncomputable def oO8:Array Oper:=opsOf (seq1 o8)
noncomputable def oO9:Array Oper:=opsOf (seq1 o9)
noncomputable def oE':List Item:=[.inBlock 0,.inScope oS]
noncomputable def oE:List Item:=.inBlock 1 :: .inLoop oL :: oE'
noncomputable def oHead (a:Act):Frame:=(base 51).at a (.code oL :: .inLoop oL :: oE')
noncomputable def oSeen (a:Act) (r:Value):Frame:=(base 51).at (a.put (some 16) r) (.inRegion oO1 [6] :: .code o2 :: oE)
noncomputable def oLink (a:Act) (r:Value):Frame:=(base 51).at (a.put (some 33) r) (.inRegion oO6 [10] :: .code o7 :: oE)
noncomputable def oTry (a:Act):Frame:=(base 51).at a (.inRegion oO7 [4,5] :: .code oC7 :: .code o8 :: oE)
noncomputable def oTried (a:Act) (r:Value):Frame:=(base 51).at (a.put (some 38) r) (.inRegion oO7 [5] :: .code oC7 :: .code o8 :: oE)
noncomputable def oVal (a:Act) (r:Value):Frame:=(base 51).at (a.put (some 49) r) (.inRegion oO8 [10] :: .code o9 :: oE)
noncomputable def oGive (a:Act):Frame:=(base 51).at a (.inRegion oO9 [6] :: .code o10 :: oE)
noncomputable def oGave (a:Act) (r:Value):Frame:=(base 51).at (a.put (some 56) r) (.inRegion oO9 [] :: .code o10 :: oE)
theorem oO7_4:(oO7[4]?).map (·.dst)=some (some 38):=by kernel_rfl
theorem oO9_6:(oO9[6]?).map (·.dst)=some (some 56):=by kernel_rfl
theorem eOB:Tryd.f51.body.getD .skip=.seq (.region 0 (opsOf (seq1 (Tryd.f51.body.getD .skip))) false) (.scope oS):=by kernel_rfl
theorem eOS:oS=.seq (.label 0) (.block 0 (.loop oL)):=by kernel_rfl
theorem eOL:oL=.block 1 oK:=by kernel_rfl
theorem eOK:oK=.seq (.region 1 oO1 false) o2:=by kernel_rfl
theorem eO7:o7=.seq (.seq (.region 7 oO7 false) oC7) o8:=by kernel_rfl
theorem eO8:o8=.seq (.region 8 oO8 false) o9:=by kernel_rfl
theorem eO9:o9=.seq (.region 9 oO9 false) o10:=by kernel_rfl
theorem pop_in {z:Nat→Option Nat} {Ch:Nat→Prop} {Stop:Goroutine→World→Prop} {main:Bool} {w:World} {c tb:Nat} (cs:List Frame)
 (hk:∀ a,Fl 58 [(0,Pt c 0),(1,Pt tb 0)] a→GoesI Tryd.prog main (DT (ScZ z) Ch) Stop (G (oHead a) cs) w) (code:Code) (hc:Tryd.f51.body=some code) :
 GoesI Tryd.prog main (DT (ScZ z) Ch) Stop (G ((base 51).at { tmps:=#[Pt c 0,Pt tb 0]++Array.replicate 56 undef,defers:=[] } [.code code]) cs) w:=by
 have hw0:code=.seq (.region 0 (opsOf (seq1 (Tryd.f51.body.getD .skip))) false) (.scope oS):=by
  rw [show code=Tryd.f51.body.getD .skip by rw [hc];rfl];exact eOB
 subst hw0
 clear hc
 simp only [Array.replicate_succ,Array.replicate_zero,List.push_toArray,List.append_toArray,List.nil_append,List.cons_append]
 unfold oHead oE' at hk
 refine goesI_seq (dt_idle _ _) ?_
 unfold Tryd.f51 seq1 opsOf
 simp only [Option.getD_some]
 refine goesI_region (dt_idle _ _) ?_
 simp only [List.size_toArray,List.length_cons,List.length_nil,Nat.reduceAdd,Nat.zero_add,List.range,List.range.loop]
 iterate 2
  (refine goesI_oper rfl rfl (by decide) (fun d K hK=>?_)
   go_simp
   refine hK _ _ ⟨dt_reads (fun e he=>?_),GoesI.at ?_ d⟩
   ·have hm:=mem_listed he
    simp [go_sem, *] at hm
    try exact ⟨_,_,hm⟩
    try (rcases hm with rfl|rfl<;>exact ⟨_,_,rfl⟩)
   clear hK K)
 refine goesI_regionEnd (dt_idle _ _) ?_
 refine goesI_scope (dt_idle _ _) ?_
 generalize hq:Item.inScope oS=q at hk ⊢
 rw [eOS]
 refine goesI_seq (dt_idle _ _) ?_
 refine goesI_label (dt_idle _ _) ?_
 refine goesI_block (dt_idle _ _) ?_
 refine goesI_loop (dt_idle _ _) ?_
 exact hk _ ⟨rfl,rfl,by
  intro p hp
  simp only [List.mem_cons,List.not_mem_nil,or_false] at hp
  rcases hp with rfl|rfl<;>rfl⟩
theorem pop_look {z:Nat→Option Nat} {Ch:Nat→Prop} {Stop:Goroutine→World→Prop} {h:Nat} {cont:Addr→Value} {S:TS} {K:List (Nat×Int)} {v w:World} {i j cb:Nat} {t:Thr} {y:Int} {c:Nat} (c0:v.cell? ⟨c,1,none⟩=some (Pt cb 0)) {a:Act} (hA:Fl 58 [(0,Pt c 0),(1,Pt t.tb 0)] a) (cs:List Frame) (Hm:Goroutine→Prop)
 (hH:∀ g,(∃ a,Fl 58 [(0,Pt c 0),(1,Pt t.tb 0)] a∧OpBack (h==0) i j cb t.tb 1 effLoad (fun r=>G (oSeen a r) cs) g)→Hm g)
 (hvw:Rel z v w) (hn:NoRow Ch v) (hm:Mem z S K v) (ht:S.thr[i]? = some t) (hK:K[j]? = some (cb,y)) (hz:z t.tb=some 2) (hcont:cont ⟨t.tb,2,none⟩=.chan (some t.gc))
 (hstop:∀ g w',GiveT z cont h S.bk t.gc Hm (Then z Ch S K v (waiting S i t 1 1 j) K) g w'→Stop g w') :
 GoesI Tryd.prog (h==0) (DT (ScZ z) Ch) Stop (G (oHead a) cs) w:=by
 have HM:Hid (Mem z S K v):=⟨hm⟩
 clear hm
 unfold oSeen at hH
 obtain ⟨hsz,hd,hpp⟩:=hA
 obtain ⟨u,rfl,hg⟩:=litN hsz hd
 have u0:=(hg 0).symm.trans (hpp (0,Pt c 0) (by simp))
 have u1:=(hg 1).symm.trans (hpp (1,Pt t.tb 0) (by simp))
 clear hg hpp hsz hd
 unfold oHead
 simp only [Option.getD_some,lits,Nat.reduceAdd,u0,u1]
 clear u0 u1
 have c0w:w.cell? ⟨c,1,none⟩=some (Pt cb 0):=by rw [hvw.cell?];exact c0
 rw [show (Item.code oL :: Item.inLoop oL :: oE')=Item.code (.block 1 oK) :: Item.inLoop oL :: oE' by rw [←eOL]]
 refine goesI_block (dt_idle _ _) ?_
 rw [show (Item.inBlock 1 :: Item.inLoop oL :: oE')=oE from rfl,eOK]
 refine goesI_seq (dt_idle _ _) ?_
 unfold oO1 oK oL oS scopeC Tryd.f51 seq1 seq2 blockC loopC opsOf at hH ⊢
 simp only [Option.getD_some] at hH ⊢
 refine goesI_region (dt_idle _ _) ?_
 simp only [List.size_toArray,List.length_cons,List.length_nil,Nat.reduceAdd,Nat.zero_add,List.range,List.range.loop]
 iterate 5
  (refine goesI_oper rfl rfl (by decide) (fun d K hK=>?_)
   go_simp
   refine hK _ _ ⟨dt_reads (fun e he=>?_),GoesI.at ?_ d⟩
   ·have hm:=mem_listed he
    simp [go_sem, *] at hm
    try exact ⟨_,_,hm⟩
    try (rcases hm with rfl|rfl<;>exact ⟨_,_,rfl⟩)
   clear hK K)
 refine goesI_into (f:=44) (fn:=Tryd.f44) (args:=#[Pt cb 0,Pt t.tb 0]) (dt_idle _ _) rfl rfl (by decide) rfl (by simp [Act.eval]) Tryd.func44 (by decide) rfl ?_
 exact load_goes y _ Hm rfl (fun g hg=>hH g ⟨_,⟨rfl,rfl,by
  intro p hp
  simp only [List.mem_cons,List.not_mem_nil,or_false] at hp
  rcases hp with rfl|rfl<;>rfl⟩,hg⟩) hvw hn HM.out ht hK hz hcont hstop _ rfl
theorem pop_empty {z:Nat→Option Nat} {Ch:Nat→Prop} {Stop:Goroutine→World→Prop} {main:Bool} {v w:World} {c tb:Nat} (x:Int) (h0:fstI x=0) (hF:R1.Flds v) {a:Act} (hA:Fl 58 [(0,Pt c 0),(1,Pt tb 0)] a) (cs:List Frame) {bc:Frame} {ac:Act} {ops:Array Oper} {q:Nat} {rest:List Nat} {oc:Oper} {k0:List Item} (hoc:ops[q]? = some oc) (hvw:Rel z v w) (hn:NoRow Ch v)
 (hk:∀ v' w',Rel z v' w'→NoRow Ch v'→Grows v v'→GoesI Tryd.prog main (DT (ScZ z) Ch) Stop (G (bc.at (ac.put oc.dst (.tuple #[I 0,I 90])) (.inRegion ops rest :: k0)) cs) w') :
 GoesI Tryd.prog main (DT (ScZ z) Ch) Stop (G (oSeen a (I x)) (bc.at ac (.inRegion ops (q :: rest) :: k0) :: cs)) w:=by
 obtain ⟨hsz,hd,hpp⟩:=hA
 obtain ⟨u,rfl,hg⟩:=litN hsz hd
 have u0:=(hg 0).symm.trans (hpp (0,Pt c 0) (by simp))
 have u1:=(hg 1).symm.trans (hpp (1,Pt tb 0) (by simp))
 clear hg hpp hsz hd
 unfold oSeen oO1 o2 oK oL oS scopeC Tryd.f51 seq1 seq2 blockC loopC opsOf
 simp only [Option.getD_some,lits,Nat.reduceAdd,u0,u1]
 clear u0 u1
 have g0:w.cell? ⟨2,0,none⟩=some (I 0):=by rw [hvw.cell?];exact hF.c0
 have g1:w.cell? ⟨2,1,none⟩=some (I 32):=by rw [hvw.cell?];exact hF.c1
 walk_nrm
 iterate 1
  (refine goesI_oper rfl rfl (by decide) (fun d K hK=>?_)
   go_simp
   refine hK _ _ ⟨dt_reads (fun e he=>?_),GoesI.at ?_ d⟩
   ·have hm:=mem_listed he
    simp [go_sem, *] at hm
    try exact ⟨_,_,hm⟩
    try (rcases hm with rfl|rfl<;>exact ⟨_,_,rfl⟩)
   clear hK K)
 refine goesI_regionEnd (dt_idle _ _) ?_
 refine goesI_seq (dt_idle _ _) ?_
 refine goesI_region (dt_idle _ _) ?_
 simp only [List.size_toArray,List.length_cons,List.length_nil,Nat.reduceAdd,Nat.zero_add,List.range,List.range.loop]
 iterate 2
  (refine goesI_oper rfl rfl (by decide) (fun d K hK=>?_)
   go_simp
   refine hK _ _ ⟨dt_reads (fun e he=>?_),GoesI.at ?_ d⟩
   ·have hm:=mem_listed he
    simp [go_sem, *] at hm
    try exact ⟨_,_,hm⟩
    try (rcases hm with rfl|rfl<;>exact ⟨_,_,rfl⟩)
   clear hK K)
 refine goesI_call (f:=45) (fn:=Tryd.f45) (args:=#[I x,R1.F 0 32]) hE fineT rfl rfl (by decide) rfl (by simp [Act.eval,R1.F]) Tryd.func45 (by kernel_rfl) rfl (fineFn_body fineT (by simp [LT,plainFs]) Tryd.func45 rfl) (fun tmps=>⟨_,fun w=>results_tmp rfl _ _ _,fun w=>by simp [results,go_sem,Tryd.f45]⟩) hvw hn
  (R:=fun r v4=>r=I (fstI x)∧Grows v v4) (fun τ=>?_) (fun r v4 w4 hR hvw4 hn4=>?_)
 ·exact wp_mono (R1.wget_body x 0 32 (onTape v τ 0) (by decide) (by decide) (by decide) _ rfl) (bp_mono fun r u hq=>⟨hq.1,gtape (blw_grows hq.2)⟩)
 obtain ⟨rfl,hg4⟩:=hR
 walk_nrm
 iterate 1
  (refine goesI_oper rfl rfl (by decide) (fun d K hK=>?_)
   go_simp
   refine hK _ _ ⟨dt_reads (fun e he=>?_),GoesI.at ?_ d⟩
   ·have hm:=mem_listed he
    simp [go_sem, *] at hm
    try exact ⟨_,_,hm⟩
    try (rcases hm with rfl|rfl<;>exact ⟨_,_,rfl⟩)
   clear hK K)
 refine goesI_regionEnd (dt_idle _ _) ?_
 refine goesI_seq (dt_idle _ _) ?_
 refine goesI_seq (dt_idle _ _) ?_
 refine goesI_region (dt_idle _ _) ?_
 simp only [List.size_toArray,List.length_cons,List.length_nil,Nat.reduceAdd,Nat.zero_add,List.range,List.range.loop]
 iterate 2
  (refine goesI_oper rfl rfl (by decide) (fun d K hK=>?_)
   go_simp
   refine hK _ _ ⟨dt_reads (fun e he=>?_),GoesI.at ?_ d⟩
   ·have hm:=mem_listed he
    simp [go_sem, *] at hm
    try exact ⟨_,_,hm⟩
    try (rcases hm with rfl|rfl<;>exact ⟨_,_,rfl⟩)
   clear hK K)
 refine goesI_regionEnd (dt_idle _ _) ?_
 refine goesI_cond (dt_idle _ _) (t:=true) (by simp [Act.eval,h0]) ?_
 simp only [if_true,if_false,Bool.false_eq_true]
 refine goesI_seq (dt_idle _ _) ?_
 refine goesI_region (dt_idle _ _) ?_
 simp only [List.size_toArray,List.length_cons,List.length_nil,Nat.reduceAdd,Nat.zero_add,List.range,List.range.loop]
 iterate 2
  (refine goesI_oper rfl rfl (by decide) (fun d K hK=>?_)
   go_simp
   refine hK _ _ ⟨dt_reads (fun e he=>?_),GoesI.at ?_ d⟩
   ·have hm:=mem_listed he
    simp [go_sem, *] at hm
    try exact ⟨_,_,hm⟩
    try (rcases hm with rfl|rfl<;>exact ⟨_,_,rfl⟩)
   clear hK K)
 refine goesI_regionEnd (dt_idle _ _) ?_
 refine GoesI.ctl rfl (fun _=>stepG_ret') (dt_idle _ _) ?_
 exact goesI_leaveZ (f:=51) (fn:=Tryd.f51) (x:=.tuple #[I 0,I 90]) hvw4 hn4 Tryd.func51 rfl hoc (by simp [results,go_sem,Tryd.f51]) (fun w' r'=>hk v4 w' r' hn4 hg4)
theorem pop_link {z:Nat→Option Nat} {Ch:Nat→Prop} {Stop:Goroutine→World→Prop} {h:Nat} {cont:Addr→Value} {S:TS} {K:List (Nat×Int)} {v w:World} {i j cb:Nat} {t:Thr} {y:Int} {c pb n:Nat} {x:Int} (k:Nat) (hk0:fstI x=(k:Int)+1) (hkn:k<n) (hF:R1.Flds v) (c1:v.cell? ⟨c,2,none⟩=some (.slice (some ⟨pb,0,none⟩) n n)) (c2:v.cell? ⟨pb,k*2+1,none⟩=some (Pt cb 0)) {a:Act} (hA:Fl 58 [(0,Pt c 0),(1,Pt t.tb 0)] a) (cs:List Frame) (Hm:Goroutine→Prop)
 (hH:∀ g,(∃ a,Fl 58 [(0,Pt c 0),(1,Pt t.tb 0),(6,I x),(8,I k)] a∧OpBack (h==0) i j cb t.tb 1 effLoad (fun r=>G (oLink a r) cs) g)→Hm g)
 (hvw:Rel z v w) (hn:NoRow Ch v) (hm:Mem z S K v) (ht:S.thr[i]? = some t) (hK:K[j]? = some (cb,y)) (hz:z t.tb=some 2) (hcont:cont ⟨t.tb,2,none⟩=.chan (some t.gc))
 (hstop:∀ g w',GiveT z cont h S.bk t.gc Hm (Then z Ch S K v (waiting S i t 1 1 j) K) g w'→Stop g w') :
 GoesI Tryd.prog (h==0) (DT (ScZ z) Ch) Stop (G (oSeen a (I x)) cs) w:=by
 have HM:Hid (Mem z S K v):=⟨hm⟩
 clear hm
 unfold oLink at hH
 obtain ⟨hsz,hd,hpp⟩:=hA
 obtain ⟨u,rfl,hg⟩:=litN hsz hd
 have u0:=(hg 0).symm.trans (hpp (0,Pt c 0) (by simp))
 have u1:=(hg 1).symm.trans (hpp (1,Pt t.tb 0) (by simp))
 clear hg hpp hsz hd
 unfold oSeen oO1 o2 oK oL oS scopeC Tryd.f51 seq1 seq2 blockC loopC opsOf
 simp only [Option.getD_some,lits,Nat.reduceAdd,u0,u1]
 clear u0 u1
 have HK0:Hid (fstI x=(k:Int)+1):=⟨hk0⟩
 clear hk0
 have g0:w.cell? ⟨2,0,none⟩=some (I 0):=by rw [hvw.cell?];exact hF.c0
 have g1:w.cell? ⟨2,1,none⟩=some (I 32):=by rw [hvw.cell?];exact hF.c1
 walk_nrm
 iterate 1
  (refine goesI_oper rfl rfl (by decide) (fun d K hK=>?_)
   go_simp
   refine hK _ _ ⟨dt_reads (fun e he=>?_),GoesI.at ?_ d⟩
   ·have hm:=mem_listed he
    simp [go_sem, *] at hm
    try exact ⟨_,_,hm⟩
    try (rcases hm with rfl|rfl<;>exact ⟨_,_,rfl⟩)
   clear hK K)
 refine goesI_regionEnd (dt_idle _ _) ?_
 refine goesI_seq (dt_idle _ _) ?_
 refine goesI_region (dt_idle _ _) ?_
 simp only [List.size_toArray,List.length_cons,List.length_nil,Nat.reduceAdd,Nat.zero_add,List.range,List.range.loop]
 iterate 2
  (refine goesI_oper rfl rfl (by decide) (fun d K hK=>?_)
   go_simp
   refine hK _ _ ⟨dt_reads (fun e he=>?_),GoesI.at ?_ d⟩
   ·have hm:=mem_listed he
    simp [go_sem, *] at hm
    try exact ⟨_,_,hm⟩
    try (rcases hm with rfl|rfl<;>exact ⟨_,_,rfl⟩)
   clear hK K)
 refine goesI_call (f:=45) (fn:=Tryd.f45) (args:=#[I x,R1.F 0 32]) hE fineT rfl rfl (by decide) rfl (by simp [Act.eval,R1.F]) Tryd.func45 (by kernel_rfl) rfl (fineFn_body fineT (by simp [LT,plainFs]) Tryd.func45 rfl) (fun tmps=>⟨_,fun w=>results_tmp rfl _ _ _,fun w=>by simp [results,go_sem,Tryd.f45]⟩) hvw hn
  (R:=fun r v4=>r=I (fstI x)∧Grows v v4) (fun τ=>?_) (fun r v4 w4 hR hvw4 hn4=>?_)
 ·exact wp_mono (R1.wget_body x 0 32 (onTape v τ 0) (by decide) (by decide) (by decide) _ rfl) (bp_mono fun r u hq=>⟨hq.1,gtape (blw_grows hq.2)⟩)
 obtain ⟨rfl,hg4⟩:=hR
 walk_nrm
 have hne:¬ (fstI x=0):=by have:=HK0.out;omega
 have hwr:IntKind.i64.wrap (fstI x - 1)=(k:Int):=by have:=HK0.out;have hx:=R1.fstI_in x;rw [IntKind.wrap_i64];omega
 have hkn':(k:Int)<(n:Int):=by omega
 have d1:w4.cell? ⟨c,2,none⟩=some (.slice (some ⟨pb,0,none⟩) n n):=by rw [hvw4.cell?];exact hg4.cell c1
 have d2:w4.cell? ⟨pb,k*2+1,none⟩=some (Pt cb 0):=by rw [hvw4.cell?];exact hg4.cell c2
 iterate 1
  (refine goesI_oper rfl rfl (by decide) (fun d K hK=>?_)
   go_simp
   refine hK _ _ ⟨dt_reads (fun e he=>?_),GoesI.at ?_ d⟩
   ·have hm:=mem_listed he
    simp [go_sem, *] at hm
    try exact ⟨_,_,hm⟩
    try (rcases hm with rfl|rfl<;>exact ⟨_,_,rfl⟩)
   clear hK K)
 refine goesI_regionEnd (dt_idle _ _) ?_
 refine goesI_seq (dt_idle _ _) ?_
 refine goesI_seq (dt_idle _ _) ?_
 refine goesI_region (dt_idle _ _) ?_
 simp only [List.size_toArray,List.length_cons,List.length_nil,Nat.reduceAdd,Nat.zero_add,List.range,List.range.loop]
 iterate 2
  (refine goesI_oper rfl rfl (by decide) (fun d K hK=>?_)
   go_simp
   refine hK _ _ ⟨dt_reads (fun e he=>?_),GoesI.at ?_ d⟩
   ·have hm:=mem_listed he
    simp [go_sem, *] at hm
    try exact ⟨_,_,hm⟩
    try (rcases hm with rfl|rfl<;>exact ⟨_,_,rfl⟩)
   clear hK K)
 refine goesI_regionEnd (dt_idle _ _) ?_
 refine goesI_cond (dt_idle _ _) (t:=false) (by simp [Act.eval,hne]) ?_
 simp only [if_true,if_false,Bool.false_eq_true]
 refine goesI_skip (dt_idle _ _) ?_
 refine goesI_seq (dt_idle _ _) ?_
 refine goesI_region (dt_idle _ _) ?_
 simp only [List.size_toArray,List.length_cons,List.length_nil,Nat.reduceAdd,Nat.zero_add,List.range,List.range.loop]
 iterate 3
  (refine goesI_oper rfl rfl (by decide) (fun d K hK=>?_)
   go_simp
   refine hK _ _ ⟨dt_reads (fun e he=>?_),GoesI.at ?_ d⟩
   ·have hm:=mem_listed he
    simp [go_sem, *] at hm
    try exact ⟨_,_,hm⟩
    try (rcases hm with rfl|rfl<;>exact ⟨_,_,rfl⟩)
   clear hK K)
 refine goesI_regionEnd (dt_idle _ _) ?_
 refine goesI_seq (dt_idle _ _) ?_
 unfold oO6 o6 o5 o3 o2 oK oL oS scopeC Tryd.f51 seq1 seq2 blockC loopC opsOf at hH
 simp only [Option.getD_some] at hH
 refine goesI_region (dt_idle _ _) ?_
 simp only [List.size_toArray,List.length_cons,List.length_nil,Nat.reduceAdd,Nat.zero_add,List.range,List.range.loop]
 iterate 9
  (refine goesI_oper rfl rfl (by decide) (fun d K hK=>?_)
   go_simp
   refine hK _ _ ⟨dt_reads (fun e he=>?_),GoesI.at ?_ d⟩
   ·have hm:=mem_listed he
    simp [go_sem, *] at hm
    try exact ⟨_,_,hm⟩
    try (rcases hm with rfl|rfl<;>exact ⟨_,_,rfl⟩)
   clear hK K)
 have hm4:=HM.out.grows hg4
 refine goesI_into (f:=44) (fn:=Tryd.f44) (args:=#[Pt cb 0,Pt t.tb 0]) (dt_idle _ _) rfl rfl (by decide) rfl (by simp [Act.eval]) Tryd.func44 (by decide) rfl ?_
 exact load_goes y _ Hm rfl (fun g hg=>hH g ⟨_,⟨rfl,rfl,by
  intro p hp
  simp only [List.mem_cons,List.not_mem_nil,or_false] at hp
  rcases hp with rfl|rfl|rfl|rfl<;>rfl⟩,hg⟩) hvw4 hn4 hm4.mem ht hK hz hcont (fun g w' hs=>hstop g w' (give_mono (fun hT=>by obtain ⟨v',r1,r2,r3⟩:=hT;exact ⟨v',r1,r2,hm4.trans r3⟩) hs)) _ rfl
theorem pop_try {z:Nat→Option Nat} {Ch:Nat→Prop} {Stop:Goroutine→World→Prop} {main:Bool} {w:World} {c tb k:Nat} {x:Int} (f:Int) {a:Act} (hA:Fl 58 [(0,Pt c 0),(1,Pt tb 0),(6,I x),(8,I k)] a) (cs:List Frame)
 (hk:∀ a code,Tryd.f73.body=some code→Fl 58 [(0,Pt c 0),(1,Pt tb 0),(6,I x),(8,I k)] a→GoesI Tryd.prog main (DT (ScZ z) Ch) Stop (G ((base 73).at { tmps:=#[Pt c 0,Pt tb 0,I x,I f]++Array.replicate 18 undef,defers:=[] } [.code code]) (oTry a :: cs)) w) :
 GoesI Tryd.prog main (DT (ScZ z) Ch) Stop (G (oLink a (I f)) cs) w:=by
 unfold oTry at hk
 obtain ⟨hsz,hd,hpp⟩:=hA
 obtain ⟨u,rfl,hg⟩:=litN hsz hd
 have u0:=(hg 0).symm.trans (hpp (0,Pt c 0) (by simp))
 have u1:=(hg 1).symm.trans (hpp (1,Pt tb 0) (by simp))
 have u6:=(hg 6).symm.trans (hpp (6,I x) (by simp))
 have u8:=(hg 8).symm.trans (hpp (8,I k) (by simp))
 clear hg hpp hsz hd
 unfold oLink
 simp only [Option.getD_some,lits,Nat.reduceAdd,u0,u1,u6,u8]
 clear u0 u1 u6 u8
 unfold oO6 o6 o5 o3 o2 oK oL oS scopeC Tryd.f51 seq1 seq2 blockC loopC opsOf
 simp only [Option.getD_some]
 walk_nrm
 iterate 1
  (refine goesI_oper rfl rfl (by decide) (fun d K hK=>?_)
   go_simp
   refine hK _ _ ⟨dt_reads (fun e he=>?_),GoesI.at ?_ d⟩
   ·have hm:=mem_listed he
    simp [go_sem, *] at hm
    try exact ⟨_,_,hm⟩
    try (rcases hm with rfl|rfl<;>exact ⟨_,_,rfl⟩)
   clear hK K)
 refine goesI_regionEnd (dt_idle _ _) ?_
 rw [eO7]
 refine goesI_seq (dt_idle _ _) ?_
 refine goesI_seq (dt_idle _ _) ?_
 unfold oO7 o7 o6 o5 o3 o2 oK oL oS scopeC Tryd.f51 seq1 seq2 blockC loopC opsOf at hk ⊢
 simp only [Option.getD_some] at hk ⊢
 refine goesI_region (dt_idle _ _) ?_
 simp only [List.size_toArray,List.length_cons,List.length_nil,Nat.reduceAdd,Nat.zero_add,List.range,List.range.loop]
 iterate 4
  (refine goesI_oper rfl rfl (by decide) (fun d K hK=>?_)
   go_simp
   refine hK _ _ ⟨dt_reads (fun e he=>?_),GoesI.at ?_ d⟩
   ·have hm:=mem_listed he
    simp [go_sem, *] at hm
    try exact ⟨_,_,hm⟩
    try (rcases hm with rfl|rfl<;>exact ⟨_,_,rfl⟩)
   clear hK K)
 refine goesI_into (f:=73) (fn:=Tryd.f73) (args:=#[Pt c 0,Pt tb 0,I x,I f]) (dt_idle _ _) rfl rfl (by decide) rfl (by simp [Act.eval]) Tryd.func73 (by decide) rfl ?_
 exact hk _ _ rfl ⟨rfl,rfl,by
  intro p hp
  simp only [List.mem_cons,List.not_mem_nil,or_false] at hp
  rcases hp with rfl|rfl|rfl|rfl<;>rfl⟩
theorem pop_again {z:Nat→Option Nat} {Ch:Nat→Prop} {Stop:Goroutine→World→Prop} {main:Bool} {w:World} {c tb k:Nat} {x:Int}  {a:Act} (hA:Fl 58 [(0,Pt c 0),(1,Pt tb 0),(6,I x),(8,I k)] a) (cs:List Frame)
 (hk:∀ a,Fl 58 [(0,Pt c 0),(1,Pt tb 0)] a→GoesI Tryd.prog main (DT (ScZ z) Ch) Stop (G (oHead a) cs) w) :
 GoesI Tryd.prog main (DT (ScZ z) Ch) Stop (G (oTried a (.bool false)) cs) w:=by
 unfold oHead oE' at hk
 try simp only [Option.getD_some] at hk
 obtain ⟨hsz,hd,hpp⟩:=hA
 obtain ⟨u,rfl,hg⟩:=litN hsz hd
 have u0:=(hg 0).symm.trans (hpp (0,Pt c 0) (by simp))
 have u1:=(hg 1).symm.trans (hpp (1,Pt tb 0) (by simp))
 have u6:=(hg 6).symm.trans (hpp (6,I x) (by simp))
 have u8:=(hg 8).symm.trans (hpp (8,I k) (by simp))
 clear hg hpp hsz hd
 unfold oTried oO7 oC7 o7 o6 o5 o3 o2 oK oL oS scopeC Tryd.f51 seq1 seq2 blockC loopC opsOf
 simp only [Option.getD_some,lits,Nat.reduceAdd,u0,u1,u6,u8]
 clear u0 u1 u6 u8
 walk_nrm
 iterate 1
  (refine goesI_oper rfl rfl (by decide) (fun d K hK=>?_)
   go_simp
   refine hK _ _ ⟨dt_reads (fun e he=>?_),GoesI.at ?_ d⟩
   ·have hm:=mem_listed he
    simp [go_sem, *] at hm
    try exact ⟨_,_,hm⟩
    try (rcases hm with rfl|rfl<;>exact ⟨_,_,rfl⟩)
   clear hK K)
 refine goesI_regionEnd (dt_idle _ _) ?_
 refine goesI_cond (dt_idle _ _) (t:=true) (by simp [Act.eval]) ?_
 simp only [if_true,if_false,Bool.false_eq_true]
 rw [show oE=Item.inBlock 1 :: .inLoop oL :: [.inBlock 0,.inScope oS] from rfl]
 refine goesI_exit (dt_idle _ _) (k':=[.inLoop oL,.inBlock 0,.inScope oS]) rfl ?_
 refine goesI_inLoop (dt_idle _ _) ?_
 exact hk _ ⟨rfl,rfl,by
  intro p hp
  simp only [List.mem_cons,List.not_mem_nil,or_false] at hp
  rcases hp with rfl|rfl<;>rfl⟩
theorem pop_val {z:Nat→Option Nat} {Ch:Nat→Prop} {Stop:Goroutine→World→Prop} {h:Nat} {cont:Addr→Value} {S:TS} {K:List (Nat×Int)} {v w:World} {i j cb:Nat} {t:Thr} {y:Int} {c pb n k:Nat} {x:Int} (hkn:k<n) (c1:v.cell? ⟨c,2,none⟩=some (.slice (some ⟨pb,0,none⟩) n n)) (c2:v.cell? ⟨pb,k*2,none⟩=some (Pt cb 0)) {a:Act} (hA:Fl 58 [(0,Pt c 0),(1,Pt t.tb 0),(6,I x),(8,I k)] a) (cs:List Frame) (Hm:Goroutine→Prop)
 (hH:∀ g,(∃ a,Fl 58 [(0,Pt c 0),(1,Pt t.tb 0),(8,I k)] a∧OpBack (h==0) i j cb t.tb 1 effLoad (fun r=>G (oVal a r) cs) g)→Hm g)
 (hvw:Rel z v w) (hn:NoRow Ch v) (hm:Mem z S K v) (ht:S.thr[i]? = some t) (hK:K[j]? = some (cb,y)) (hz:z t.tb=some 2) (hcont:cont ⟨t.tb,2,none⟩=.chan (some t.gc))
 (hstop:∀ g w',GiveT z cont h S.bk t.gc Hm (Then z Ch S K v (waiting S i t 1 1 j) K) g w'→Stop g w') :
 GoesI Tryd.prog (h==0) (DT (ScZ z) Ch) Stop (G (oTried a (.bool true)) cs) w:=by
 have HM:Hid (Mem z S K v):=⟨hm⟩
 clear hm
 unfold oVal at hH
 obtain ⟨hsz,hd,hpp⟩:=hA
 obtain ⟨u,rfl,hg⟩:=litN hsz hd
 have u0:=(hg 0).symm.trans (hpp (0,Pt c 0) (by simp))
 have u1:=(hg 1).symm.trans (hpp (1,Pt t.tb 0) (by simp))
 have u6:=(hg 6).symm.trans (hpp (6,I x) (by simp))
 have u8:=(hg 8).symm.trans (hpp (8,I k) (by simp))
 clear hg hpp hsz hd
 unfold oTried oO7 oC7 o7 o6 o5 o3 o2 oK oL oS scopeC Tryd.f51 seq1 seq2 blockC loopC opsOf
 simp only [Option.getD_some,lits,Nat.reduceAdd,u0,u1,u6,u8]
 clear u0 u1 u6 u8
 have hkn':(k:Int)<(n:Int):=by omega
 have d1:w.cell? ⟨c,2,none⟩=some (.slice (some ⟨pb,0,none⟩) n n):=by rw [hvw.cell?];exact c1
 have d2:w.cell? ⟨pb,k*2,none⟩=some (Pt cb 0):=by rw [hvw.cell?];exact c2
 walk_nrm
 iterate 1
  (refine goesI_oper rfl rfl (by decide) (fun d K hK=>?_)
   go_simp
   refine hK _ _ ⟨dt_reads (fun e he=>?_),GoesI.at ?_ d⟩
   ·have hm:=mem_listed he
    simp [go_sem, *] at hm
    try exact ⟨_,_,hm⟩
    try (rcases hm with rfl|rfl<;>exact ⟨_,_,rfl⟩)
   clear hK K)
 refine goesI_regionEnd (dt_idle _ _) ?_
 refine goesI_cond (dt_idle _ _) (t:=false) (by simp [Act.eval]) ?_
 simp only [if_true,if_false,Bool.false_eq_true]
 refine goesI_skip (dt_idle _ _) ?_
 rw [eO8]
 refine goesI_seq (dt_idle _ _) ?_
 unfold oO8 o8 o7 o6 o5 o3 o2 oK oL oS scopeC Tryd.f51 seq1 seq2 blockC loopC opsOf at hH ⊢
 simp only [Option.getD_some] at hH ⊢
 refine goesI_region (dt_idle _ _) ?_
 simp only [List.size_toArray,List.length_cons,List.length_nil,Nat.reduceAdd,Nat.zero_add,List.range,List.range.loop]
 iterate 9
  (refine goesI_oper rfl rfl (by decide) (fun d K hK=>?_)
   go_simp
   refine hK _ _ ⟨dt_reads (fun e he=>?_),GoesI.at ?_ d⟩
   ·have hm:=mem_listed he
    simp [go_sem, *] at hm
    try exact ⟨_,_,hm⟩
    try (rcases hm with rfl|rfl<;>exact ⟨_,_,rfl⟩)
   clear hK K)
 refine goesI_into (f:=44) (fn:=Tryd.f44) (args:=#[Pt cb 0,Pt t.tb 0]) (dt_idle _ _) rfl rfl (by decide) rfl (by simp [Act.eval]) Tryd.func44 (by decide) rfl ?_
 exact load_goes y _ Hm rfl (fun g hg=>hH g ⟨_,⟨rfl,rfl,by
  intro p hp
  simp only [List.mem_cons,List.not_mem_nil,or_false] at hp
  rcases hp with rfl|rfl|rfl<;>rfl⟩,hg⟩) hvw hn HM.out ht hK hz hcont hstop _ rfl
theorem pop_give {z:Nat→Option Nat} {Ch:Nat→Prop} {Stop:Goroutine→World→Prop} {main:Bool} {v w:World} {c s tb k:Nat} (y:Int) (c0:v.cell? ⟨c,0,none⟩=some (Pt s 0)) {a:Act} (hA:Fl 58 [(0,Pt c 0),(1,Pt tb 0),(8,I k)] a) (cs:List Frame) (hvw:Rel z v w)
 (hk:∀ a code,Tryd.f26.body=some code→Fl 58 [(0,Pt c 0),(1,Pt tb 0),(8,I k),(10,I y)] a→GoesI Tryd.prog main (DT (ScZ z) Ch) Stop (G ((base 26).at { tmps:=#[Pt s 0,Pt tb 0,I k]++Array.replicate 53 undef,defers:=[] } [.code code]) (oGive a :: cs)) w) :
 GoesI Tryd.prog main (DT (ScZ z) Ch) Stop (G (oVal a (I y)) cs) w:=by
 have d0:w.cell? ⟨c,0,none⟩=some (Pt s 0):=by rw [hvw.cell?];exact c0
 unfold oGive at hk
 obtain ⟨hsz,hd,hpp⟩:=hA
 obtain ⟨u,rfl,hg⟩:=litN hsz hd
 have u0:=(hg 0).symm.trans (hpp (0,Pt c 0) (by simp))
 have u1:=(hg 1).symm.trans (hpp (1,Pt tb 0) (by simp))
 have u8:=(hg 8).symm.trans (hpp (8,I k) (by simp))
 clear hg hpp hsz hd
 unfold oVal
 simp only [Option.getD_some,lits,Nat.reduceAdd,u0,u1,u8]
 clear u0 u1 u8
 unfold oO8 o8 o7 o6 o5 o3 o2 oK oL oS scopeC Tryd.f51 seq1 seq2 blockC loopC opsOf
 simp only [Option.getD_some]
 walk_nrm
 iterate 1
  (refine goesI_oper rfl rfl (by decide) (fun d K hK=>?_)
   go_simp
   refine hK _ _ ⟨dt_reads (fun e he=>?_),GoesI.at ?_ d⟩
   ·have hm:=mem_listed he
    simp [go_sem, *] at hm
    try exact ⟨_,_,hm⟩
    try (rcases hm with rfl|rfl<;>exact ⟨_,_,rfl⟩)
   clear hK K)
 refine goesI_regionEnd (dt_idle _ _) ?_
 rw [eO9]
 refine goesI_seq (dt_idle _ _) ?_
 unfold oO9 o9 o8 o7 o6 o5 o3 o2 oK oL oS scopeC Tryd.f51 seq1 seq2 blockC loopC opsOf at hk ⊢
 simp only [Option.getD_some] at hk ⊢
 refine goesI_region (dt_idle _ _) ?_
 simp only [List.size_toArray,List.length_cons,List.length_nil,Nat.reduceAdd,Nat.zero_add,List.range,List.range.loop]
 iterate 6
  (refine goesI_oper rfl rfl (by decide) (fun d K hK=>?_)
   go_simp
   refine hK _ _ ⟨dt_reads (fun e he=>?_),GoesI.at ?_ d⟩
   ·have hm:=mem_listed he
    simp [go_sem, *] at hm
    try exact ⟨_,_,hm⟩
    try (rcases hm with rfl|rfl<;>exact ⟨_,_,rfl⟩)
   clear hK K)
 refine goesI_into (f:=26) (fn:=Tryd.f26) (args:=#[Pt s 0,Pt tb 0,I k]) (dt_idle _ _) rfl rfl (by decide) rfl (by simp [Act.eval]) Tryd.func26 (by decide) rfl ?_
 exact hk _ _ rfl ⟨rfl,rfl,by
  intro p hp
  simp only [List.mem_cons,List.not_mem_nil,or_false] at hp
  rcases hp with rfl|rfl|rfl|rfl<;>rfl⟩
theorem pop_done {z:Nat→Option Nat} {Ch:Nat→Prop} {Stop:Goroutine→World→Prop} {main:Bool} {v w:World} {c tb k:Nat} {y:Int} (r:Value) {a:Act} (hA:Fl 58 [(0,Pt c 0),(1,Pt tb 0),(8,I k),(10,I y)] a) (cs:List Frame) {bc:Frame} {ac:Act} {ops:Array Oper} {q:Nat} {rest:List Nat} {oc:Oper} {k0:List Item} (hoc:ops[q]? = some oc) (hvw:Rel z v w) (hn:NoRow Ch v)
 (hk:∀ w',Rel z v w'→GoesI Tryd.prog main (DT (ScZ z) Ch) Stop (G (bc.at (ac.put oc.dst (.tuple #[I y,I 0])) (.inRegion ops rest :: k0)) cs) w') :
 GoesI Tryd.prog main (DT (ScZ z) Ch) Stop (G (oGave a r) (bc.at ac (.inRegion ops (q :: rest) :: k0) :: cs)) w:=by
 obtain ⟨hsz,hd,hpp⟩:=hA
 obtain ⟨u,rfl,hg⟩:=litN hsz hd
 have u0:=(hg 0).symm.trans (hpp (0,Pt c 0) (by simp))
 have u1:=(hg 1).symm.trans (hpp (1,Pt tb 0) (by simp))
 have u8:=(hg 8).symm.trans (hpp (8,I k) (by simp))
 have u10:=(hg 10).symm.trans (hpp (10,I y) (by simp))
 clear hg hpp hsz hd
 unfold oGave oO9 o10 o9 o8 o7 o6 o5 o3 o2 oK oL oS scopeC Tryd.f51 seq1 seq2 blockC loopC opsOf
 simp only [Option.getD_some,lits,Nat.reduceAdd,u0,u1,u8,u10]
 clear u0 u1 u8 u10
 walk_nrm
 refine goesI_regionEnd (dt_idle _ _) ?_
 refine goesI_seq (dt_idle _ _) ?_
 refine goesI_region (dt_idle _ _) ?_
 simp only [List.size_toArray,List.length_cons,List.length_nil,Nat.reduceAdd,Nat.zero_add,List.range,List.range.loop]
 iterate 3
  (refine goesI_oper rfl rfl (by decide) (fun d K hK=>?_)
   go_simp
   refine hK _ _ ⟨dt_reads (fun e he=>?_),GoesI.at ?_ d⟩
   ·have hm:=mem_listed he
    simp [go_sem, *] at hm
    try exact ⟨_,_,hm⟩
    try (rcases hm with rfl|rfl<;>exact ⟨_,_,rfl⟩)
   clear hK K)
 refine goesI_regionEnd (dt_idle _ _) ?_
 refine GoesI.ctl rfl (fun _=>stepG_ret') (dt_idle _ _) ?_
 exact goesI_leaveZ (f:=51) (fn:=Tryd.f51) (x:=.tuple #[I y,I 0]) hvw hn Tryd.func51 rfl hoc (by simp [results,go_sem,Tryd.f51]) (fun w' r'=>hk w' r')
end Go.Proofs.YtbbhahigofeacaaDoor.Gen
namespace Go.Proofs.YtbbhahigofeacaaDoor.Gen
open Go Go.Lift Go.Conc Go.RowKit
variable {mc:Mc}
structure Now (X:Fix mc) (z:Nat→Option Nat) (cont:Addr→Value) (Ch:Nat→Prop) (S0:TS) (K0:List (Nat×Int)) (v0:World) (Mo0 Mo:Nat→Option Obj) (σ:TS) (κ:List (Nat×Int)) (S:TS) (v w:World) (t:Thr):Prop where
 at_:At X z cont Ch S κ v w t
 evo:EvoP (fun b=>Mo0 b≠none) z S0 K0 v0 S κ v
 nv:nv S=σ
 bk:S.bk=S0.bk
 mo:Has Mo v
 far:∀ b,Mo b≠none→¬ Own S κ b
 new:∀ b,Mo b≠none→Mo0 b≠none∨v0.heap.size≤b
 row:∀ b o,Mo b=some o→∃ c e f,o=.cells c e f
section
variable {X:Fix mc} {z:Nat→Option Nat} {cont:Addr→Value} {Ch:Nat→Prop} {Stop:Goroutine→World→Prop} {cu:Value→Goroutine} {S0:TS} {K0:List (Nat×Int)} {v0:World} {Mo0 Mo:Nat→Option Obj} {σ:TS} {κ:List (Nat×Int)} {S:TS} {v w:World} {t:Thr} {H:Nx→(Nat→Option Obj)→Goroutine→Prop}
theorem Now.good (N:Now X z cont Ch S0 K0 v0 Mo0 Mo σ κ S v w t) {x:Nx} (hx:∀ e y,x≠.ans e y):Good v0 Mo0 x Mo:=⟨hx,N.new,N.row⟩
theorem Now.on (N:Now X z cont Ch S0 K0 v0 Mo0 Mo σ κ S v w t) {S' σ':TS} {κ':List (Nat×Int)} {v' w':World} {t':Thr} (e:Evo z S κ v S' κ' v') (r:Rel z v' w') (n:NoRow Ch v') (hS:Gen.nv S'=σ') (ht:S'.thr[X.i]? = some t') (htb:t'.tb=X.tb) (hgc:t'.gc=X.gc) (hbk:S'.bk=S.bk) (hok:KOk mc κ'):Now X z cont Ch S0 K0 v0 Mo0 Mo σ' κ' S' v' w' t':=by
 have kp:∀ b,b<v.heap.size→¬ Own S κ b→v'.heap[b]? = v.heap[b]?∧¬ Own S' κ' b:=fun b hb ho=>(Evo.toP (Pr:=fun _=>False) e).keeps hb ho (fun h=>h)
 have km:∀ (M:Nat→Option Obj),Has M v→(∀ b,M b≠none→¬ Own S κ b)→Has M v'∧∀ b,M b≠none→¬ Own S' κ' b:=fun M hM hf=>by
  have h1:∀ b o,M b=some o→v'.heap[b]? = v.heap[b]?∧¬ Own S' κ' b:=fun b o hb=>kp b (Array.getElem?_eq_some_iff.1 (hM b o hb)).1 (hf b (by rw [hb];simp))
  refine ⟨fun b o hb=>by rw [(h1 b o hb).1];exact hM b o hb,fun b hb=>?_⟩
  obtain ⟨o,ho⟩:=Option.ne_none_iff_exists'.1 hb
  exact (h1 b o ho).2
 have k1:=km X.pk N.at_.pk N.at_.far
 have k2:=km Mo N.mo N.far
 exact ⟨⟨r,n,e.mem,ht,htb,hgc,⟨e.blks.trans N.at_.kb.1,hok⟩,N.at_.z,N.at_.cont,k1.1,k1.2⟩,N.evo.trans (Evo.toP e),hS,hbk.trans N.bk,k2.1,k2.2,N.new,N.row⟩
theorem Now.same (N:Now X z cont Ch S0 K0 v0 Mo0 Mo σ κ S v w t) {v' w':World} (r:Rel z v' w') (n:NoRow Ch v') (e1:v'.heap=v.heap) (e2:v'.os=v.os) (e3:v'.output=v.output):Now X z cont Ch S0 K0 v0 Mo0 Mo σ κ S v' w' t :=
 N.on (N.at_.mem.grows ⟨by rw [e1];exact Nat.le_refl _,fun b _=>by rw [e1],e2,e3⟩) r n N.nv N.at_.thr N.at_.tb N.at_.gc rfl N.at_.kb.2
theorem Now.here (A:At X z cont Ch S κ v w t) (hm:Has Mo v) (hf:∀ b,Mo b≠none→¬ Own S κ b) (hr:∀ b o,Mo b=some o→∃ c e f,o=.cells c e f):Now X z cont Ch S κ v Mo Mo (Gen.nv S) κ S v w t :=
 ⟨A,Evo.toP (A.mem.grows ⟨Nat.le_refl _,fun _ _=>rfl,rfl,rfl⟩),rfl,rfl,hm,hf,fun b hb=>.inl hb,hr⟩
theorem Now.cell (N:Now X z cont Ch S0 K0 v0 Mo0 Mo σ κ S v w t) {j cb:Nat} (h:X.kb[j]? = some cb):κ[j]? = some (cb,(cellAt κ j).2)∧cellAt κ j=(cb,(cellAt κ j).2):=by
 rw [←N.at_.kb.1,List.getElem?_map,Option.map_eq_some_iff] at h
 obtain ⟨p,h1,rfl⟩:=h
 have:cellAt κ j=p:=by unfold cellAt;rw [h1];rfl
 rw [this]
 exact ⟨h1,rfl⟩
theorem ob_turn {op:Int} {j:Nat} {q:Q} (hob:Ob X H z cont Ch Stop cu S0 K0 v0 Mo0 σ κ (.turn op j q)) (N:Now X z cont Ch S0 K0 v0 Mo0 Mo σ κ S v w t) (g:Goroutine) (w':World) (hg:GiveT z cont X.h S.bk t.gc (H (.turn op j q) Mo) (Then z Ch S κ v (waiting S X.i t 1 op j) κ) g w'):Stop g w':=by
 refine hob.seat 1 op j (.inl ⟨⟨q,rfl⟩,rfl⟩) g w' Mo (N.good (fun _ _ h=>by cases h)) ?_
 rw [N.at_.gc,N.bk] at hg
 refine atGive_mono (fun hF=>?_) hg
 obtain ⟨v',r,n,e⟩:=hF
 have N':=N.on e r n rfl (t':={ t with st:=1,op:=op,ce:=j,se:=_ }) (List.getElem?_set_self (List.getElem?_eq_some_iff.1 N.at_.thr).1) N.at_.tb N.at_.gc rfl N.at_.kb.2
 refine ⟨v',_,r,n,?_,N'.evo,N'.mo,N'.far⟩
 rw [←N.nv,show thrI (Gen.nv S) X.i=t from thrI_of N.at_.thr]
 rfl
end
def uni (M1 M2:Nat→Option Obj) (b:Nat):Option Obj:=(M1 b).orElse fun _=>M2 b
theorem uni_ne {M1 M2:Nat→Option Obj} {b:Nat}:uni M1 M2 b≠none↔M1 b≠none∨M2 b≠none:=by
 unfold uni
 cases M1 b<;>simp
theorem uni_left {M1 M2:Nat→Option Obj} {b:Nat} {o:Obj} (h:M1 b=some o):uni M1 M2 b=some o:=by unfold uni;rw [h];rfl
theorem uni_right {M1 M2:Nat→Option Obj} {b:Nat} {o:Obj} (h0:M1 b=none) (h:M2 b=some o):uni M1 M2 b=some o:=by unfold uni;rw [h0];exact h
def apartM (M1 M2:Nat→Option Obj):Prop:=∀ b,M1 b≠none→M2 b=none
theorem has_uni {M1 M2:Nat→Option Obj} {v:World} (h:Has (uni M1 M2) v) (ha:apartM M1 M2):Has M1 v∧Has M2 v:=by
 refine ⟨fun b o hb=>h b o (uni_left hb),fun b o hb=>h b o ?_⟩
 cases h1:M1 b with
 |none=>exact uni_right h1 hb
 |some o'=>rw [ha b (by rw [h1];simp)] at hb;cases hb
structure Frs where
 bd:Frame
 ad:Act
 od:Array Oper
 qd:Nat
 rd:List Nat
 oe:Oper
 kd:List Item
 fs:List Frame
def Frs.stack (f:Frs):List Frame:=f.bd.at f.ad (.inRegion f.od (f.qd :: f.rd) :: f.kd) :: f.fs
def Frs.ret (f:Frs) (r:Value):Goroutine:=G (f.bd.at (f.ad.put f.oe.dst r) (.inRegion f.od f.rd :: f.kd)) f.fs
def Frs.Ok (f:Frs):Prop:=f.od[f.qd]? = some f.oe
def KBack (main:Bool) (Mo:Nat→Option Obj) (f:Int×Int→Int×Int) (c cu:Value→Goroutine):Prop :=
 ∀ (z:Nat→Option Nat) (Ch:Nat→Prop) (Stop:Goroutine→World→Prop) (w v:World) (S:TS) (K:List (Nat×Int)) (a:Int×Int),Rel z v w→NoRow Ch v→Mem z S K v→Has Mo v→(∀ b,Mo b≠none→¬ Own S K b) →
   (∀ v' w',Rel z v' w'→NoRow Ch v'→EvoP (fun b=>Mo b≠none) z S K v S K v'→GoesI Tryd.prog main (DT (ScZ z) Ch) Stop (cu (.agg #[I (f a).1,I (f a).2])) w') →
   GoesI Tryd.prog main (DT (ScZ z) Ch) Stop (c (.agg #[I a.1,I a.2])) w
theorem KBack.trans {main:Bool} {M1 M2:Nat→Option Obj} {f1 f2:Int×Int→Int×Int} {c1 c2 cu:Value→Goroutine} (h1:KBack main M1 f1 c1 c2) (h2:KBack main M2 f2 c2 cu) (ha:apartM M1 M2):KBack main (uni M1 M2) (fun a=>f2 (f1 a)) c1 cu:=by
 intro z Ch Stop w v S K a hvw hn hm hM hf hk
 obtain ⟨k1,k2⟩:=has_uni hM ha
 refine h1 z Ch Stop w v S K a hvw hn hm k1 (fun b hb=>hf b (uni_ne.2 (.inl hb))) (fun v' w' r' n' e'=>?_)
 have kp:∀ b o,M2 b=some o→v'.heap[b]? = some o∧¬ Own S K b:=fun b o hb=>by
  have hv:=k2 b o hb
  have:=e'.keeps (Array.getElem?_eq_some_iff.1 hv).1 (hf b (uni_ne.2 (.inr (by rw [hb];simp)))) (fun hp=>by
   have hp:M1 b≠none:=hp
   rw [ha b hp] at hb;cases hb)
  exact ⟨by rw [this.1];exact hv,this.2⟩
 refine h2 z Ch Stop w' v' S K (f1 a) r' n' e'.mem (fun b o hb=>(kp b o hb).1) (fun b hb=>?_) (fun v2 w2 r2 n2 e2=>hk v2 w2 r2 n2 ?_)
 ·obtain ⟨o,ho⟩:=Option.ne_none_iff_exists'.1 hb
  exact (kp b o ho).2
 ·exact (e'.wider (Pr':=fun b=>uni M1 M2 b≠none) (fun b _ hb=>uni_ne.2 (.inl hb))).trans (e2.wider (Pr':=fun b=>uni M1 M2 b≠none) (fun b _ hb=>uni_ne.2 (.inr hb)))
theorem KBack.more {main:Bool} {M1 M2:Nat→Option Obj} {f:Int×Int→Int×Int} {c cu:Value→Goroutine} (h:KBack main M1 f c cu) (hs:∀ b o,M1 b=some o→M2 b=some o):KBack main M2 f c cu:=by
 intro z Ch Stop w v S K a hvw hn hm hM hf hk
 refine h z Ch Stop w v S K a hvw hn hm (fun b o hb=>hM b o (hs b o hb)) (fun b hb=>?_) (fun v' w' r' n' e'=>hk v' w' r' n' (e'.wider (fun b _ hb=>?_)))
 ·obtain ⟨o,ho⟩:=Option.ne_none_iff_exists'.1 hb
  exact hf b (by rw [hs b o ho];simp)
 ·obtain ⟨o,ho⟩:=Option.ne_none_iff_exists'.1 hb
  rw [hs b o ho];simp
end Go.Proofs.YtbbhahigofeacaaDoor.Gen
