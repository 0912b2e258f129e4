/- Of the proof of CounterAlone. Part 17 of 21. (Joined, by program, and written short, of: GLit, CtA, CtS, CtT, CtF.) -/
import Derived.Test.YtfjjoohflcchnaaDoorCounterAlone05
import Derived.Test.YtfjjoohflcchnaaDoorCounterAlone13
import Derived.Test.YtfjjoohflcchnaaDoorCounterAlone14
import Derived.Test.YtfjjoohflcchnaaDoorCounterAlone16
import Derived.RegionTactic
import Derived.Laws.CopyRow
set_option linter.unusedSimpArgs false
set_option linter.unusedVariables false
set_option maxHeartbeats 4000000
set_option maxRecDepth 100000
namespace Go.Proofs.YtfjjoohflcchnaaDoor.Gen
open Go Go.Lift Go.Conc Go.RowKit
def lits (u:Nat→Value):Nat→Nat→List Value
 |_,0=>[]
 |s,n+1=>u s :: lits u (s+1) n
theorem lits_get (u:Nat→Value):∀ (n s i:Nat),(lits u s n)[i]? = if i<n then some (u (s+i)) else none
 |0,s,i=>by simp [lits]
 |n+1,s,0=>by simp [lits]
 |n+1,s,i+1=>by
  have:=lits_get u n (s+1) i
  simp only [lits,List.getElem?_cons_succ,this,Nat.add_lt_add_iff_right]
  rw [show s+1+i=s+(i+1) by omega]
theorem litN {n:Nat} {a:Act} (h:a.tmps.size=n) (hd:a.defers=[]):∃ u:Nat→Value,a={ tmps:=(lits u 0 n).toArray,defers:=[] }∧∀ i,a.tmps.getD i undef=u i:=by
 obtain ⟨⟨l⟩,ds⟩:=a
 simp only at hd h
 subst hd
 refine ⟨fun i=>(Array.mk l).getD i undef,?_,fun i=>rfl⟩
 have e:l=lits (fun i=>(Array.mk l).getD i undef) 0 n:=by
  apply List.ext_getElem?
  intro i
  rw [lits_get]
  have hl:l.length=n:=h
  by_cases hi:i<n
  ·rw [if_pos hi,List.getElem?_eq_getElem (by omega)]
   simp [Array.getD,hl,hi]
  ·rw [if_neg hi,List.getElem?_eq_none (by omega)]
 exact congrArg (fun x=>({ tmps:=x.toArray,defers:=[] }:Act)) e
def Fl (n:Nat) (l:List (Nat×Value)) (a:Act):Prop:=a.tmps.size=n∧a.defers=[]∧∀ p∈l,a.tmps.getD p.1 undef=p.2
theorem Fl.sub {n:Nat} {l l':List (Nat×Value)} {a:Act} (h:Fl n l a) (hs:∀ p∈l',p∈l):Fl n l' a:=⟨h.1,h.2.1,fun p hp=>h.2.2 p (hs p hp)⟩
theorem Fl.at {n:Nat} {l:List (Nat×Value)} {a:Act} (h:Fl n l a) (k:Nat) (v:Value) (hs:(k,v)∈l):a.eval (.tmp k)=v:=h.2.2 (k,v) hs
theorem id_any (tb i:Nat) (w:World) (h:w.cell? ⟨tb,1,none⟩=some (I i)):Calls Tryd.prog 68 #[Pt tb 0] w fun e w'=>e=.returned (I i)∧w'=w:=by
 go_enter Tryd.func68,Tryd.ntmps68
 go_wp2_with fail
 go_ret
 exact ⟨rfl,rfl⟩
theorem which_any (i s j:Nat) (hj:i % s=j) (hs:0<s) (w:World):Calls Tryd.prog 62 #[I i,I s] w fun e w'=>e=.returned (I j)∧w'=w:=by
 subst hj
 have h2:((s:Int)==0)=false:=by simp;omega
 have h3:¬ ((s:Int)=0):=by omega
 have h4:0≤((i:Int) % (s:Int)):=Int.emod_nonneg _ h3
 have h5:decide ((i:Int) % (s:Int)<0)=false:=decide_eq_false (by omega)
 go_enter Tryd.func62,Tryd.ntmps62
 go_wp2_with fail
 go_ret
 exact ⟨by rw [Int.natCast_emod];rfl,rfl⟩
noncomputable def a55:Code:=seq1 (Tryd.f55.body.getD .skip)
noncomputable def L55:Code:=loopC (blockC (seq2 (Tryd.f55.body.getD .skip)))
noncomputable def B55:Code:=blockC L55
noncomputable def ops551:Array Oper:=opsOf (seq1 B55)
noncomputable def ops552:Array Oper:=opsOf (seq1 (seq2 B55))
theorem fine_a55:fineCode Tryd.prog true LT a55:=fineCode_ask callT extT (by kernel_rfl)
noncomputable def aFr (a:Act):Frame:=(base 55).at a [.code L55,.inLoop L55,.inBlock 0]
noncomputable def aSeen (a:Act) (r:Value):Frame:=(base 55).at (a.put (some 24) r) [.inRegion ops551 [3],.code (seq2 B55),.inBlock 1,.inLoop L55,.inBlock 0]
noncomputable def aTried (a:Act) (r:Value):Frame:=(base 55).at (a.put (some 31) r) [.inRegion ops552 [],.code (seq2 (seq2 B55)),.inBlock 1,.inLoop L55,.inBlock 0]
structure Ctr (v:World) (c sb s:Nat) (kb:List Nat):Prop where
 row:v.cell? ⟨c,0,none⟩=some (.slice (some ⟨sb,0,none⟩) s s)
 cel:∀ j,j<s→∃ cb,kb[j]? = some cb∧v.cell? ⟨sb,j,none⟩=some (Pt cb 0)
 s0:0<s
 s1:s≤16
theorem a55_wp (v:World) (c sb s tb i cb:Nat) (n:Int) (h0:v.cell? ⟨c,0,none⟩=some (.slice (some ⟨sb,0,none⟩) s s)) (h1:v.cell? ⟨tb,1,none⟩=some (I i)) (h2:v.cell? ⟨sb,i % s,none⟩=some (Pt cb 0)) (hs:0<s) :
 a55.wp Tryd.prog (fun e a w'=>e=.normal∧Fl 32 [(0,Pt c 0),(1,Pt tb 0),(2,I n),(6,Pt cb 0)] a∧w'.heap=v.heap∧w'.os=v.os∧w'.output=v.output) { tmps:=#[Pt c 0,Pt tb 0,I n]++Array.replicate 29 undef,defers:=[] } v:=by
 have hlt:i % s<s:=Nat.mod_lt _ hs
 have hlt2:((i % s:Nat):Int)<(s:Int):=by omega
 have hge:¬ ((i % s:Nat):Int)<0:=by omega
 generalize hj:i % s=j at h2 hlt hlt2 hge
 have HJ:Hid (i % s=j):=⟨hj⟩
 clear hj
 unfold a55 Tryd.f55 seq1
 simp only [Option.getD_some,Array.replicate_succ,Array.replicate_zero,List.push_toArray,List.append_toArray,List.nil_append,List.cons_append]
 go_wp2_with fail
 go_quiet ((first
  |(go_at_call 68;exact Calls.quiet_of_same (id_any tb i _ (by simpa using h1)))
  |(go_at_call 62;exact Calls.quiet_of_same (which_any i s j HJ.out hs _))))
 exact ⟨rfl,⟨rfl,rfl,by
  intro p hp
  simp only [List.mem_cons,List.not_mem_nil,or_false] at hp
  rcases hp with rfl|rfl|rfl|rfl<;>rfl⟩,rfl,rfl,rfl⟩
theorem add_in {z:Nat→Option Nat} {Ch:Nat→Prop} {Stop:Goroutine→World→Prop} {main:Bool} {v w:World} {c sb s tb i cb:Nat} {kb:List Nat} (n:Int) (hC:Ctr v c sb s kb) (h1:v.cell? ⟨tb,1,none⟩=some (I i)) (hcb:kb[i % s]? = some cb) (cs:List Frame) (hvw:Rel z v w) (hn:NoRow Ch v)
 (hk:∀ a v' w',Fl 32 [(0,Pt c 0),(1,Pt tb 0),(2,I n),(6,Pt cb 0)] a→Rel z v' w'→NoRow Ch v'→v'.heap=v.heap→v'.os=v.os→v'.output=v.output→GoesI Tryd.prog main (DT (ScZ z) Ch) Stop (G (aFr a) cs) w') (code:Code) (hc:Tryd.f55.body=some code) :
 GoesI Tryd.prog main (DT (ScZ z) Ch) Stop (G ((base 55).at { tmps:=#[Pt c 0,Pt tb 0,I n]++Array.replicate 29 undef,defers:=[] } [.code code]) cs) w:=by
 have hw0:code=.seq a55 (.block 0 (.loop L55)):=by
  rw [show code=Tryd.f55.body.getD .skip by rw [hc];rfl];rfl
 subst hw0
 clear hc
 obtain ⟨cb',e1,e2⟩:=hC.cel (i % s) (Nat.mod_lt _ hC.s0)
 have e3:cb'=cb:=by rw [hcb] at e1;exact (Option.some.inj e1).symm
 rw [e3] at e2
 refine goesI_seq (dt_idle _ _) ?_
 refine goesI_plain (z:=z) (wr:=true) (L:=LT) (I:=NoRow Ch) hE fineT noRow_keeps (fun v v' w w' es hi hr ho he=>dt_of_z v v' w w' es hi hr ho he) hvw fine_a55 rfl (by simp [base]) hn
  (Q:=fun a w'=>Fl 32 [(0,Pt c 0),(1,Pt tb 0),(2,I n),(6,Pt cb 0)] a∧w'.heap=v.heap∧w'.os=v.os∧w'.output=v.output) (fun τ=>a55_wp (onTape v τ 0) c sb s tb i cb n hC.row h1 e2 hC.s0) ?_
 rintro a' v' w' ⟨hA,q1,q2,q3⟩ hr' hn' -
 refine goesI_block (dt_idle _ _) ?_
 refine goesI_loop (dt_idle _ _) ?_
 exact hk a' v' w' hA hr' hn' q1 q2 q3
theorem add_loop {z:Nat→Option Nat} {Ch:Nat→Prop} {Stop:Goroutine→World→Prop} {h:Nat} {cont:Addr→Value} {S:TS} {K:List (Nat×Int)} {v w:World} {i j cb c:Nat} {t:Thr} {n:Int} (x:Int) {a:Act} (hA:Fl 32 [(0,Pt c 0),(1,Pt t.tb 0),(2,I n),(6,Pt cb 0)] a) (cs:List Frame) (Hm:Goroutine→Prop)
 (hH:∀ g,(∃ a,Fl 32 [(0,Pt c 0),(1,Pt t.tb 0),(2,I n),(6,Pt cb 0)] a∧OpBack (h==0) i j cb t.tb 1 effLoad (fun r=>G (aSeen a r) cs) g)→Hm g)
 (hvw:Rel z v w) (hn:NoRow Ch v) (hm:Mem z S K v) (ht:S.thr[i]? = some t) (hK:K[j]? = some (cb,x)) (hz:z t.tb=some 2) (hcont:cont ⟨t.tb,2,none⟩=.chan (some t.gc))
 (hstop:∀ g w',GiveT z cont h S.bk t.gc Hm (Then z Ch S K v (waiting S i t 1 1 j) K) g w'→Stop g w') :
 GoesI Tryd.prog (h==0) (DT (ScZ z) Ch) Stop (G (aFr a) cs) w:=by
 have HM:Hid (Mem z S K v):=⟨hm⟩
 clear hm
 unfold aSeen ops551 B55 L55 Tryd.f55 seq1 seq2 blockC loopC opsOf at hH
 simp only [Option.getD_some] at hH
 obtain ⟨hsz,hd,hpp⟩:=hA
 obtain ⟨u,rfl,hg⟩:=litN hsz hd
 have u0:=(hg 0).symm.trans (hpp (0,Pt c 0) (by simp))
 have u1:=(hg 1).symm.trans (hpp (1,Pt t.tb 0) (by simp))
 have u2:=(hg 2).symm.trans (hpp (2,I n) (by simp))
 have u6:=(hg 6).symm.trans (hpp (6,Pt cb 0) (by simp))
 clear hg hpp hsz hd
 unfold aFr L55 Tryd.f55 seq2 blockC loopC
 simp only [Option.getD_some,lits,Nat.reduceAdd,u0,u1,u2,u6]
 clear u0 u1 u2 u6
 refine goesI_block (dt_idle _ _) ?_
 refine goesI_seq (dt_idle _ _) ?_
 refine goesI_region (dt_idle _ _) ?_
 simp only [List.size_toArray,List.length_cons,List.length_nil,Nat.reduceAdd,Nat.zero_add,List.range,List.range.loop]
 iterate 2
  (refine goesI_oper rfl rfl (by decide) (fun d K hK=>?_)
   go_simp
   refine hK _ _ ⟨dt_reads (fun e he=>?_),GoesI.at ?_ d⟩
   ·have hm:=mem_listed he
    simp [go_sem, *] at hm
    try exact ⟨_,_,hm⟩
   clear hK K)
 refine goesI_into (f:=73) (fn:=Tryd.f73) (args:=#[Pt cb 0,Pt t.tb 0]) (dt_idle _ _) rfl rfl (by decide) rfl (by simp [Act.eval]) Tryd.func73 (by decide) rfl ?_
 exact load_goes x _ Hm rfl (fun g hg=>hH g ⟨_,⟨rfl,rfl,by
  intro p hp
  simp only [List.mem_cons,List.not_mem_nil,or_false] at hp
  rcases hp with rfl|rfl|rfl|rfl<;>rfl⟩,hg⟩) hvw hn HM.out ht hK hz hcont hstop _ rfl
theorem fits_flds {v w:World} (h:R1.Flds v) (e:w.heap=v.heap):R1.Flds w:=h.of fun a x ha=>by rw [World.cell?_of_block (w:=v) (by rw [e])];exact ha
theorem blw_grows {v v':World} (h:Below v.heap.size v v'):Grows v v':=⟨h.size,fun b hb=>h.block b hb,h.os,h.output⟩
theorem add_try {z:Nat→Option Nat} {Ch:Nat→Prop} {Stop:Goroutine→World→Prop} {h:Nat} {cont:Addr→Value} {S:TS} {K:List (Nat×Int)} {v w:World} {i j cb c:Nat} {t:Thr} {n:Int} (x y:Int) (hF:R1.Flds v) {a:Act} (hA:Fl 32 [(0,Pt c 0),(1,Pt t.tb 0),(2,I n),(6,Pt cb 0)] a) (cs:List Frame) (Hm:Goroutine→Prop)
 (hH:∀ g,(∃ a,Fl 32 [(0,Pt c 0),(1,Pt t.tb 0),(2,I n),(6,Pt cb 0)] a∧OpBack (h==0) i j cb t.tb 4 (effCas x (R1.addI x n)) (fun r=>G (aTried a r) cs) g)→Hm g)
 (hvw:Rel z v w) (hn:NoRow Ch v) (hm:Mem z S K v) (ht:S.thr[i]? = some t) (hK:K[j]? = some (cb,y)) (hz:z t.tb=some 2) (hcont:cont ⟨t.tb,2,none⟩=.chan (some t.gc))
 (hstop:∀ g w',GiveT z cont h S.bk t.gc Hm (Then z Ch S K v (waiting S i t 1 4 j) K) g w'→Stop g w') :
 GoesI Tryd.prog (h==0) (DT (ScZ z) Ch) Stop (G (aSeen a (I x)) cs) w:=by
 have HM:Hid (Mem z S K v):=⟨hm⟩
 clear hm
 unfold aTried ops552 B55 L55 Tryd.f55 seq1 seq2 blockC loopC opsOf at hH
 simp only [Option.getD_some] at hH
 obtain ⟨hsz,hd,hpp⟩:=hA
 obtain ⟨u,rfl,hg⟩:=litN hsz hd
 have u0:=(hg 0).symm.trans (hpp (0,Pt c 0) (by simp))
 have u1:=(hg 1).symm.trans (hpp (1,Pt t.tb 0) (by simp))
 have u2:=(hg 2).symm.trans (hpp (2,I n) (by simp))
 have u6:=(hg 6).symm.trans (hpp (6,Pt cb 0) (by simp))
 clear hg hpp hsz hd
 unfold aSeen ops551 B55 L55 Tryd.f55 seq2 seq1 blockC loopC opsOf
 simp only [Option.getD_some,lits,Nat.reduceAdd,u0,u1,u2,u6]
 clear u0 u1 u2 u6
 walk_nrm
 iterate 1
  (refine goesI_oper rfl rfl (by decide) (fun d K hK=>?_)
   go_simp
   refine hK _ _ ⟨dt_reads (fun e he=>?_),GoesI.at ?_ d⟩
   ·have hm:=mem_listed he
    simp [go_sem, *] at hm
    try exact ⟨_,_,hm⟩
   clear hK K)
 refine goesI_regionEnd (dt_idle _ _) ?_
 refine goesI_seq (dt_idle _ _) ?_
 refine goesI_region (dt_idle _ _) ?_
 simp only [List.size_toArray,List.length_cons,List.length_nil,Nat.reduceAdd,Nat.zero_add,List.range,List.range.loop]
 iterate 5
  (refine goesI_oper rfl rfl (by decide) (fun d K hK=>?_)
   go_simp
   refine hK _ _ ⟨dt_reads (fun e he=>?_),GoesI.at ?_ d⟩
   ·have hm:=mem_listed he
    simp [go_sem, *] at hm
    try exact ⟨_,_,hm⟩
   clear hK K)
 refine goesI_call (f:=87) (fn:=Tryd.f87) (args:=#[I x,I n]) hE fineT rfl rfl (by decide) rfl (by simp [Act.eval]) Tryd.func87 (by kernel_rfl) rfl (fineFn_body fineT (by simp [LT,plainFs]) Tryd.func87 rfl) (fun tmps=>⟨_,fun w=>results_tmp rfl _ _ _,fun w=>by simp [results,go_sem,Tryd.f87]⟩) hvw hn
  (R:=fun r v4=>r=I (R1.addI x n)∧Grows v v4) (fun τ=>?_) (fun r v4 w4 hR hvw4 hn4=>?_)
 ·exact wp_mono (R1.added_any x n (onTape v τ 0) (fits_flds hF rfl) _ rfl) (bp_mono fun r u hq=>⟨hq.1,⟨(blw_grows hq.2).size,(blw_grows hq.2).old,hq.2.os,hq.2.output⟩⟩)
 obtain ⟨rfl,hg4⟩:=hR
 have hm4:=(HM.out.grows hg4)
 walk_nrm
 refine goesI_into (f:=77) (fn:=Tryd.f77) (args:=#[Pt cb 0,Pt t.tb 0,I x,I (R1.addI x n)]) (dt_idle _ _) rfl rfl (by decide) rfl (by simp [Act.eval]) Tryd.func77 (by decide) rfl ?_
 exact cas_goes x (R1.addI x n) y _ Hm rfl (fun g hg=>hH g ⟨_,⟨rfl,rfl,by
  intro p hp
  simp only [List.mem_cons,List.not_mem_nil,or_false] at hp
  rcases hp with rfl|rfl|rfl|rfl<;>rfl⟩,hg⟩) hvw4 hn4 hm4.mem ht hK hz hcont (fun g w' hs=>hstop g w' (give_mono (fun hT=>by obtain ⟨v',r1,r2,r3⟩:=hT;exact ⟨v',r1,r2,hm4.trans r3⟩) hs)) _ rfl
theorem add_won {z:Nat→Option Nat} {Ch:Nat→Prop} {Stop:Goroutine→World→Prop} {main:Bool} {v w:World} {a:Act} {L:List (Nat×Value)} (hA:Fl 32 L a) (cs:List Frame) {bc:Frame} {ac:Act} {ops:Array Oper} {q:Nat} {rest:List Nat} {oc:Oper} {k:List Item} (hoc:ops[q]? = some oc)
 (hvw:Rel z v w) (hn:NoRow Ch v)
 (hk:∀ w',Rel z v w'→GoesI Tryd.prog main (DT (ScZ z) Ch) Stop (G (bc.at (ac.put oc.dst (.tuple #[])) (.inRegion ops rest :: k)) cs) w') :
 GoesI Tryd.prog main (DT (ScZ z) Ch) Stop (G (aTried a (.bool true)) (bc.at ac (.inRegion ops (q :: rest) :: k) :: cs)) w:=by
 obtain ⟨hsz,hd,hpp⟩:=hA
 obtain ⟨u,rfl,hg⟩:=litN hsz hd
 clear hg hpp hsz hd
 unfold aTried ops552 B55 L55 Tryd.f55 seq2 seq1 blockC loopC opsOf
 simp only [Option.getD_some,lits,Nat.reduceAdd]
 walk_nrm
 refine goesI_regionEnd (dt_idle _ _) ?_
 refine goesI_cond (dt_idle _ _) (t:=true) rfl ?_
 simp only [if_true,if_false,Bool.false_eq_true]
 refine GoesI.ctl rfl (fun _=>stepG_ret') (dt_idle _ _) ?_
 exact goesI_leaveZ (f:=55) (fn:=Tryd.f55) (x:=.tuple #[]) hvw hn Tryd.func55 rfl hoc (by simp [results,go_sem,Tryd.f55]) (fun w' r'=>hk w' r')
theorem add_again {z:Nat→Option Nat} {Ch:Nat→Prop} {Stop:Goroutine→World→Prop} {main:Bool} {w:World} {c tb cb:Nat} {n:Int} {a:Act} (hA:Fl 32 [(0,Pt c 0),(1,Pt tb 0),(2,I n),(6,Pt cb 0)] a) (cs:List Frame)
 (hk:∀ a,Fl 32 [(0,Pt c 0),(1,Pt tb 0),(2,I n),(6,Pt cb 0)] a→GoesI Tryd.prog main (DT (ScZ z) Ch) Stop (G (aFr a) cs) w) :
 GoesI Tryd.prog main (DT (ScZ z) Ch) Stop (G (aTried a (.bool false)) cs) w:=by
 unfold aFr L55 Tryd.f55 seq2 blockC loopC at hk
 simp only [Option.getD_some] at hk
 obtain ⟨hsz,hd,hpp⟩:=hA
 obtain ⟨u,rfl,hg⟩:=litN hsz hd
 have u0:=(hg 0).symm.trans (hpp (0,Pt c 0) (by simp))
 have u1:=(hg 1).symm.trans (hpp (1,Pt tb 0) (by simp))
 have u2:=(hg 2).symm.trans (hpp (2,I n) (by simp))
 have u6:=(hg 6).symm.trans (hpp (6,Pt cb 0) (by simp))
 clear hg hpp hsz hd
 unfold aTried ops552 B55 L55 Tryd.f55 seq2 seq1 blockC loopC opsOf
 simp only [Option.getD_some,lits,Nat.reduceAdd,u0,u1,u2,u6]
 clear u0 u1 u2 u6
 walk_nrm
 refine goesI_regionEnd (dt_idle _ _) ?_
 refine goesI_cond (dt_idle _ _) (t:=false) rfl ?_
 simp only [if_true,if_false,Bool.false_eq_true]
 refine goesI_skip (dt_idle _ _) ?_
 refine goesI_inBlock (dt_idle _ _) ?_
 refine goesI_inLoop (dt_idle _ _) ?_
 exact hk _ ⟨rfl,rfl,by
  intro p hp
  simp only [List.mem_cons,List.not_mem_nil,or_false] at hp
  rcases hp with rfl|rfl|rfl|rfl<;>rfl⟩
noncomputable def a88:Code:=seq1 (Tryd.f88.body.getD .skip)
noncomputable def L88:Code:=loopC (blockC (seq2 (Tryd.f88.body.getD .skip)))
noncomputable def B88:Code:=blockC (seq1 (seq2 (seq2 L88)))
noncomputable def ops883:Array Oper:=opsOf (seq2 B88)
noncomputable def r884:Code:=seq2 (seq2 (seq2 L88))
theorem fine_a88:fineCode Tryd.prog true LT a88:=fineCode_ask callT extT (by kernel_rfl)
noncomputable def kFr (a:Act):Frame:=(base 88).at a [.code L88,.inLoop L88,.inBlock 0]
noncomputable def kSeen (a:Act) (r:Value):Frame:=(base 88).at (a.put (some 22) r) [.inRegion ops883 [5,6],.inBlock 1,.code r884,.inLoop L88,.inBlock 0]
theorem a88_wp (v:World) (c sb s nb tb:Nat) (h0:v.cell? ⟨c,0,none⟩=some (.slice (some ⟨sb,0,none⟩) s s)) :
 a88.wp Tryd.prog (fun e a w'=>e=.normal∧Fl 25 [(0,Pt c 0),(1,Pt tb 0),(2,.slice (some ⟨nb,0,none⟩) s s),(11,.slice (some ⟨sb,0,none⟩) s s),(12,I s),(13,I 0)] a∧w'.heap=v.heap∧w'.os=v.os∧w'.output=v.output) { tmps:=#[Pt c 0,Pt tb 0,.slice (some ⟨nb,0,none⟩) s s]++Array.replicate 22 undef,defers:=[] } v:=by
 unfold a88 Tryd.f88 seq1
 simp only [Option.getD_some,Array.replicate_succ,Array.replicate_zero,List.push_toArray,List.append_toArray,List.nil_append,List.cons_append]
 go_wp2_with fail
 first
  |exact ⟨rfl,⟨rfl,rfl,by
   intro p hp
   simp only [List.mem_cons,List.not_mem_nil,or_false] at hp
   rcases hp with rfl|rfl|rfl|rfl|rfl|rfl<;>rfl⟩,rfl,rfl,rfl⟩
  |exact ⟨rfl,rfl,by
   intro p hp
   simp only [List.mem_cons,List.not_mem_nil,or_false] at hp
   rcases hp with rfl|rfl|rfl|rfl|rfl|rfl<;>rfl⟩
theorem coll_in {z:Nat→Option Nat} {Ch:Nat→Prop} {Stop:Goroutine→World→Prop} {main:Bool} {v w:World} {c sb s nb tb:Nat} (h0:v.cell? ⟨c,0,none⟩=some (.slice (some ⟨sb,0,none⟩) s s)) (cs:List Frame) (hvw:Rel z v w) (hn:NoRow Ch v)
 (hk:∀ a v' w',Fl 25 [(0,Pt c 0),(1,Pt tb 0),(2,.slice (some ⟨nb,0,none⟩) s s),(11,.slice (some ⟨sb,0,none⟩) s s),(12,I s),(13,I 0)] a→Rel z v' w'→NoRow Ch v'→v'.heap=v.heap→v'.os=v.os→v'.output=v.output→GoesI Tryd.prog main (DT (ScZ z) Ch) Stop (G (kFr a) cs) w') (code:Code) (hc:Tryd.f88.body=some code) :
 GoesI Tryd.prog main (DT (ScZ z) Ch) Stop (G ((base 88).at { tmps:=#[Pt c 0,Pt tb 0,.slice (some ⟨nb,0,none⟩) s s]++Array.replicate 22 undef,defers:=[] } [.code code]) cs) w:=by
 have hw0:code=.seq a88 (.block 0 (.loop L88)):=by
  rw [show code=Tryd.f88.body.getD .skip by rw [hc];rfl];rfl
 subst hw0
 clear hc
 refine goesI_seq (dt_idle _ _) ?_
 refine goesI_plain (z:=z) (wr:=true) (L:=LT) (I:=NoRow Ch) hE fineT noRow_keeps (fun v v' w w' es hi hr ho he=>dt_of_z v v' w w' es hi hr ho he) hvw fine_a88 rfl (by simp [base]) hn
  (Q:=fun a w'=>Fl 25 [(0,Pt c 0),(1,Pt tb 0),(2,.slice (some ⟨nb,0,none⟩) s s),(11,.slice (some ⟨sb,0,none⟩) s s),(12,I s),(13,I 0)] a∧w'.heap=v.heap∧w'.os=v.os∧w'.output=v.output) (fun τ=>a88_wp (onTape v τ 0) c sb s nb tb h0) ?_
 rintro a' v' w' ⟨hA,q1,q2,q3⟩ hr' hn' -
 refine goesI_block (dt_idle _ _) ?_
 refine goesI_loop (dt_idle _ _) ?_
 exact hk a' v' w' hA hr' hn' q1 q2 q3
theorem coll_look {z:Nat→Option Nat} {Ch:Nat→Prop} {Stop:Goroutine→World→Prop} {h:Nat} {cont:Addr→Value} {S:TS} {K:List (Nat×Int)} {v w:World} {i k cb c sb s nb:Nat} {t:Thr} (x:Int) (hks:k<s) (hcb:v.cell? ⟨sb,k,none⟩=some (Pt cb 0)) {a:Act} (hA:Fl 25 [(0,Pt c 0),(1,Pt t.tb 0),(2,.slice (some ⟨nb,0,none⟩) s s),(11,.slice (some ⟨sb,0,none⟩) s s),(12,I s),(13,I k)] a) (cs:List Frame) (Hm:Goroutine→Prop)
 (hH:∀ g,(∃ a,Fl 25 [(0,Pt c 0),(1,Pt t.tb 0),(2,.slice (some ⟨nb,0,none⟩) s s),(11,.slice (some ⟨sb,0,none⟩) s s),(12,I s),(13,I k)] a∧Fl 25 [(18,.slice (some ⟨nb,0,none⟩) s s),(19,I k)] a∧OpBack (h==0) i k cb t.tb 1 effLoad (fun r=>G (kSeen a r) cs) g)→Hm g)
 (hvw:Rel z v w) (hn:NoRow Ch v) (hm:Mem z S K v) (ht:S.thr[i]? = some t) (hK:K[k]? = some (cb,x)) (hz:z t.tb=some 2) (hcont:cont ⟨t.tb,2,none⟩=.chan (some t.gc))
 (hstop:∀ g w',GiveT z cont h S.bk t.gc Hm (Then z Ch S K v (waiting S i t 1 1 k) K) g w'→Stop g w') :
 GoesI Tryd.prog (h==0) (DT (ScZ z) Ch) Stop (G (kFr a) cs) w:=by
 have e0:w.cell? ⟨sb,k,none⟩=some (Pt cb 0):=by rw [hvw.cell?];exact hcb
 have hks':(k:Int)<(s:Int):=by omega
 have HM:Hid (Mem z S K v):=⟨hm⟩
 clear hm
 unfold kSeen ops883 r884 B88 L88 Tryd.f88 seq1 seq2 blockC loopC opsOf at hH
 simp only [Option.getD_some] at hH
 obtain ⟨hsz,hd,hpp⟩:=hA
 obtain ⟨u,rfl,hg⟩:=litN hsz hd
 have u0:=(hg 0).symm.trans (hpp (0,Pt c 0) (by simp))
 have u1:=(hg 1).symm.trans (hpp (1,Pt t.tb 0) (by simp))
 have u2:=(hg 2).symm.trans (hpp (2,.slice (some ⟨nb,0,none⟩) s s) (by simp))
 have u11:=(hg 11).symm.trans (hpp (11,.slice (some ⟨sb,0,none⟩) s s) (by simp))
 have u12:=(hg 12).symm.trans (hpp (12,I s) (by simp))
 have u13:=(hg 13).symm.trans (hpp (13,I k) (by simp))
 clear hg hpp hsz hd
 unfold kFr L88 Tryd.f88 seq2 blockC loopC
 simp only [Option.getD_some,lits,Nat.reduceAdd,u0,u1,u2,u11,u12,u13]
 clear u0 u1 u2 u11 u12 u13
 refine goesI_seq (dt_idle _ _) ?_
 refine goesI_region (dt_idle _ _) ?_
 simp only [List.size_toArray,List.length_cons,List.length_nil,Nat.reduceAdd,Nat.zero_add,List.range,List.range.loop]
 iterate 1
  (refine goesI_oper rfl rfl (by decide) (fun d K hK=>?_)
   go_simp
   refine hK _ _ ⟨dt_reads (fun e he=>?_),GoesI.at ?_ d⟩
   ·have hm:=mem_listed he
    simp [go_sem, *] at hm
    try exact ⟨_,_,hm⟩
   clear hK K)
 refine goesI_regionEnd (dt_idle _ _) ?_
 refine goesI_seq (dt_idle _ _) ?_
 refine goesI_cond (dt_idle _ _) (t:=true) (by simp [Act.eval,hks]) ?_
 simp only [if_true,if_false,Bool.false_eq_true]
 refine goesI_skip (dt_idle _ _) ?_
 refine goesI_seq (dt_idle _ _) ?_
 refine goesI_block (dt_idle _ _) ?_
 refine goesI_seq (dt_idle _ _) ?_
 refine goesI_region (dt_idle _ _) ?_
 simp only [List.size_toArray,List.length_cons,List.length_nil,Nat.reduceAdd,Nat.zero_add,List.range,List.range.loop]
 iterate 5
  (refine goesI_oper rfl rfl (by decide) (fun d K hK=>?_)
   go_simp
   refine hK _ _ ⟨dt_reads (fun e he=>?_),GoesI.at ?_ d⟩
   ·have hm:=mem_listed he
    simp [go_sem, *] at hm
    try exact ⟨_,_,hm⟩
   clear hK K)
 refine goesI_regionEnd (dt_idle _ _) ?_
 refine goesI_region (dt_idle _ _) ?_
 simp only [List.size_toArray,List.length_cons,List.length_nil,Nat.reduceAdd,Nat.zero_add,List.range,List.range.loop]
 iterate 4
  (refine goesI_oper rfl rfl (by decide) (fun d K hK=>?_)
   go_simp
   refine hK _ _ ⟨dt_reads (fun e he=>?_),GoesI.at ?_ d⟩
   ·have hm:=mem_listed he
    simp [go_sem, *] at hm
    try exact ⟨_,_,hm⟩
   clear hK K)
 refine goesI_into (f:=73) (fn:=Tryd.f73) (args:=#[Pt cb 0,Pt t.tb 0]) (dt_idle _ _) rfl rfl (by decide) rfl (by simp [Act.eval]) Tryd.func73 (by decide) rfl ?_
 exact load_goes x _ Hm rfl (fun g hg=>hH g ⟨_,⟨rfl,rfl,by
  intro p hp
  simp only [List.mem_cons,List.not_mem_nil,or_false] at hp
  rcases hp with rfl|rfl|rfl|rfl|rfl|rfl<;>rfl⟩,⟨rfl,rfl,by
  intro p hp
  simp only [List.mem_cons,List.not_mem_nil,or_false] at hp
  rcases hp with rfl|rfl<;>rfl⟩,hg⟩) hvw hn HM.out ht hK hz hcont hstop _ rfl
theorem coll_put {z:Nat→Option Nat} {Ch:Nat→Prop} {Stop:Goroutine→World→Prop} {main:Bool} {v w:World} {k c sb s nb tb:Nat} (x y:Int) (hks:k<s) (hs1:s≤16) (hy:v.cell? ⟨nb,k,none⟩=some (I y)) (hf:v.frozen? ⟨nb,k,none⟩=false) {a:Act} (hA:Fl 25 [(0,Pt c 0),(1,Pt tb 0),(2,.slice (some ⟨nb,0,none⟩) s s),(11,.slice (some ⟨sb,0,none⟩) s s),(12,I s),(13,I k)] a) (hA2:Fl 25 [(18,.slice (some ⟨nb,0,none⟩) s s),(19,I k)] a) (cs:List Frame) (hvw:Rel z v w) (hn:NoRow Ch v)
 (hk:∀ a w',Fl 25 [(0,Pt c 0),(1,Pt tb 0),(2,.slice (some ⟨nb,0,none⟩) s s),(11,.slice (some ⟨sb,0,none⟩) s s),(12,I s),(13,I ((k+1:Nat):Int))] a→Rel z (v.setCell ⟨nb,k,none⟩ (I x)) w'→NoRow Ch (v.setCell ⟨nb,k,none⟩ (I x))→GoesI Tryd.prog main (DT (ScZ z) Ch) Stop (G (kFr a) cs) w') :
 GoesI Tryd.prog main (DT (ScZ z) Ch) Stop (G (kSeen a (I x)) cs) w:=by
 have hks':(k:Int)<(s:Int):=by omega
 have e18:=hA2.2.2 (18,.slice (some ⟨nb,0,none⟩) s s) (by simp)
 have e19:=hA2.2.2 (19,I k) (by simp)
 clear hA2
 obtain ⟨hsz,hd,hpp⟩:=hA
 obtain ⟨u,rfl,hg⟩:=litN hsz hd
 have u0:=(hg 0).symm.trans (hpp (0,Pt c 0) (by simp))
 have u1:=(hg 1).symm.trans (hpp (1,Pt tb 0) (by simp))
 have u2:=(hg 2).symm.trans (hpp (2,.slice (some ⟨nb,0,none⟩) s s) (by simp))
 have u11:=(hg 11).symm.trans (hpp (11,.slice (some ⟨sb,0,none⟩) s s) (by simp))
 have u12:=(hg 12).symm.trans (hpp (12,I s) (by simp))
 have u13:=(hg 13).symm.trans (hpp (13,I k) (by simp))
 have u18:=(hg 18).symm.trans e18
 have u19:=(hg 19).symm.trans e19
 clear hg hpp hsz hd e18 e19
 unfold kFr L88 Tryd.f88 seq2 blockC loopC at hk
 simp only [Option.getD_some] at hk
 unfold kSeen ops883 r884 B88 L88 Tryd.f88 seq1 seq2 blockC loopC opsOf
 simp only [Option.getD_some,lits,Nat.reduceAdd,u0,u1,u2,u11,u12,u13,u18,u19]
 clear u0 u1 u2 u11 u12 u13 u18 u19
 walk_nrm
 refine goesI_opZ (L:=LT) rfl rfl (by decide) (fineOp_ask callT extT (by kernel_rfl)) hvw hn (x:=.pointer (some ⟨nb,k,none⟩)) (v':=v) (by go_simp) rfl (fun w1 hvw1 _=>?_)
 refine goesI_doZ (L:=LT) rfl rfl (by decide) (fineOp_ask callT extT (by kernel_rfl)) hvw1 hn (v':=v.setCell ⟨nb,k,none⟩ (I x)) (by go_simp) rfl (fun w2 hvw2 hn2=>?_)
 walk_nrm
 refine goesI_regionEnd (dt_idle _ _) ?_
 refine goesI_inBlock (dt_idle _ _) ?_
 refine goesI_region (dt_idle _ _) ?_
 simp only [List.size_toArray,List.length_cons,List.length_nil,Nat.reduceAdd,Nat.zero_add,List.range,List.range.loop]
 iterate 2
  (refine goesI_oper rfl rfl (by decide) (fun d K hK=>?_)
   go_simp
   refine hK _ _ ⟨dt_reads (fun e he=>?_),GoesI.at ?_ d⟩
   ·have hm:=mem_listed he
    simp [go_sem, *] at hm
    try exact ⟨_,_,hm⟩
   clear hK K)
 refine goesI_regionEnd (dt_idle _ _) ?_
 refine goesI_inLoop (dt_idle _ _) ?_
 have hw1:IntKind.i64.wrap ((k:Int)+1)=((k+1:Nat):Int):=by rw [IntKind.wrap_i64];omega
 rw [hw1]
 refine hk _ _ ?_ hvw2 hn2
 exact ⟨rfl,rfl,by
  intro p hp
  simp only [List.mem_cons,List.not_mem_nil,or_false] at hp
  rcases hp with rfl|rfl|rfl|rfl|rfl|rfl<;>rfl⟩
theorem coll_done {z:Nat→Option Nat} {Ch:Nat→Prop} {Stop:Goroutine→World→Prop} {main:Bool} {v w:World} {k c sb s nb tb:Nat} (hks:k=s) {a:Act} (hA:Fl 25 [(0,Pt c 0),(1,Pt tb 0),(2,.slice (some ⟨nb,0,none⟩) s s),(11,.slice (some ⟨sb,0,none⟩) s s),(12,I s),(13,I k)] a) (cs:List Frame) {bc:Frame} {ac:Act} {ops:Array Oper} {q:Nat} {rest:List Nat} {oc:Oper} {kk:List Item} (hoc:ops[q]? = some oc) (hvw:Rel z v w) (hn:NoRow Ch v)
 (hk:∀ w',Rel z v w'→GoesI Tryd.prog main (DT (ScZ z) Ch) Stop (G (bc.at (ac.put oc.dst (.tuple #[])) (.inRegion ops rest :: kk)) cs) w') :
 GoesI Tryd.prog main (DT (ScZ z) Ch) Stop (G (kFr a) (bc.at ac (.inRegion ops (q :: rest) :: kk) :: cs)) w:=by
 subst hks
 obtain ⟨hsz,hd,hpp⟩:=hA
 obtain ⟨u,rfl,hg⟩:=litN hsz hd
 have u0:=(hg 0).symm.trans (hpp (0,Pt c 0) (by simp))
 have u1:=(hg 1).symm.trans (hpp (1,Pt tb 0) (by simp))
 have u2:=(hg 2).symm.trans (hpp (2,.slice (some ⟨nb,0,none⟩) k k) (by simp))
 have u11:=(hg 11).symm.trans (hpp (11,.slice (some ⟨sb,0,none⟩) k k) (by simp))
 have u12:=(hg 12).symm.trans (hpp (12,I k) (by simp))
 have u13:=(hg 13).symm.trans (hpp (13,I k) (by simp))
 clear hg hpp hsz hd
 unfold kFr L88 Tryd.f88 seq2 blockC loopC
 simp only [Option.getD_some,lits,Nat.reduceAdd,u0,u1,u2,u11,u12,u13]
 clear u0 u1 u2 u11 u12 u13
 refine goesI_seq (dt_idle _ _) ?_
 refine goesI_region (dt_idle _ _) ?_
 simp only [List.size_toArray,List.length_cons,List.length_nil,Nat.reduceAdd,Nat.zero_add,List.range,List.range.loop]
 iterate 1
  (refine goesI_oper rfl rfl (by decide) (fun d K hK=>?_)
   go_simp
   refine hK _ _ ⟨dt_reads (fun e he=>?_),GoesI.at ?_ d⟩
   ·have hm:=mem_listed he
    simp [go_sem, *] at hm
    try exact ⟨_,_,hm⟩
   clear hK K)
 refine goesI_regionEnd (dt_idle _ _) ?_
 refine goesI_seq (dt_idle _ _) ?_
 refine goesI_cond (dt_idle _ _) (t:=false) (by simp [Act.eval]) ?_
 simp only [if_true,if_false,Bool.false_eq_true]
 refine goesI_exit (dt_idle _ _) (k':=[]) rfl ?_
 refine goesI_end (dt_idle _ _) ?_
 exact goesI_leaveZ (f:=88) (fn:=Tryd.f88) (x:=.tuple #[]) hvw hn Tryd.func88 rfl hoc (by simp [results,go_sem,Tryd.f88]) (fun w' r'=>hk w' r')
theorem info3:(Tryd.prog.info? 3).map (fun i=>(i.zero,i.size,i.bytes))=some (some (I 0),1,8):=by kernel_rfl
theorem make_nums (n:Nat) (hn:n≤1048576) (w:World) :
 (Instr.makeSlice 22 (.int .i64 (n:Int)) (.int .i64 (n:Int))).run Tryd.prog w=.ok (.slice (some ⟨w.heap.size,0,none⟩) n n) (w.alloc (.cells (madeCells #[I 0] n) 3)):=by
 cases hq:Tryd.prog.info? 3 with
 |none=>have:=info3;rw [hq] at this;cases this
 |some i =>
  have hi:=info3
  rw [hq] at hi
  simp only [Option.map_some,Option.some.injEq,Prod.mk.injEq] at hi
  obtain ⟨hz,hs,hb⟩:=hi
  have:=run_make (P:=Tryd.prog) w 22 3 i _ Tryd.underlying22 hq hz .i64 .i64 (n:Int) (n:Int) (by omega) (by omega) (by rw [hb];omega) (by omega)
  rw [hs] at this
  rw [this]
  simp [Value.cells]
def rowI (l:List Int):Obj:=.cells (l.map I).toArray 3 (0,0)
theorem rowI_cell {v:World} {b:Nat} {l:List Int} (h:v.heap[b]? = some (rowI l)) {k:Nat} {x:Int} (hk:l[k]? = some x):v.cell? ⟨b,k,none⟩=some (I x):=by
 simp only [World.cell?,h,rowI]
 simp [hk]
theorem rowI_froz {v:World} {b:Nat} {l:List Int} (h:v.heap[b]? = some (rowI l)) (k:Nat):v.frozen? ⟨b,k,none⟩=false:=by
 simp only [World.frozen?,h,rowI]
 simp
theorem made_rowI (s:Nat):(.cells (madeCells #[I 0] s) 3:Obj)=rowI (List.replicate s 0):=by
 unfold rowI
 congr 1
 apply Array.ext_getElem?
 intro i
 by_cases h:i<s
 ·simp [madeCells,h,Nat.mod_one]
 ·simp [madeCells,h]
theorem rowI_set {v:World} {b:Nat} {l:List Int} (h:v.heap[b]? = some (rowI l)) (k:Nat) (x:Int):(v.setCell ⟨b,k,none⟩ (I x)).heap[b]? = some (rowI (l.set k x)):=by
 have:=heap_setCell_same (o:=k) (show v.heap[b]? = some (.cells (l.map I).toArray 3 (0,0)) from h) (I x)
 rw [this]
 unfold rowI
 congr 2
 apply Array.ext_getElem?
 intro i
 simp [List.map_set]
theorem setRow_rowI {v:World} {b:Nat} {m:List Int} (h:v.heap[b]? = some (rowI m)) (l:List Int):(v.setRow b (l.map I).toArray).heap[b]? = some (rowI l):=setRow_heap v b (m.map I).toArray _ 3 (0,0) h
noncomputable def a57:Code:=seq1 (seq2 (Tryd.f57.body.getD .skip))
noncomputable def L57:Code:=loopC (blockC (seq2 (seq2 (Tryd.f57.body.getD .skip))))
noncomputable def B57:Code:=blockC L57
noncomputable def ops572:Array Oper:=opsOf (seq1 B57)
noncomputable def ops574:Array Oper:=opsOf (seq1 (seq2 (seq2 B57)))
theorem fine_a57:fineCode Tryd.prog true LT a57:=fineCode_ask callT extT (by kernel_rfl)
noncomputable def sFr (a:Act):Frame:=(base 57).at a [.code L57,.inLoop L57,.inBlock 0]
noncomputable def sOne (a:Act):Frame:=(base 57).at a [.inRegion ops572 [3],.code (seq2 B57),.inBlock 1,.inLoop L57,.inBlock 0]
noncomputable def sOneB (a:Act):Frame:=(base 57).at (a.put (some 22) (.tuple #[])) [.inRegion ops572 [],.code (seq2 B57),.inBlock 1,.inLoop L57,.inBlock 0]
noncomputable def sTwo (a:Act):Frame:=(base 57).at a [.inRegion ops574 [3],.code (seq2 (seq2 (seq2 B57))),.inBlock 1,.inLoop L57,.inBlock 0]
noncomputable def sTwoB (a:Act):Frame:=(base 57).at (a.put (some 29) (.tuple #[])) [.inRegion ops574 [],.code (seq2 (seq2 (seq2 B57))),.inBlock 1,.inLoop L57,.inBlock 0]
theorem a57_wp (v:World) (c sb s tb:Nat) (hs1:s≤16) (h0:v.cell? ⟨c,0,none⟩=some (.slice (some ⟨sb,0,none⟩) s s)) (u:Nat→Value) :
 a57.wp Tryd.prog (fun e a w'=>e=.normal∧∃ nb fb,Fl 35 [(0,Pt c 0),(1,Pt tb 0),(5,.slice (some ⟨nb,0,none⟩) s s),(6,.slice (some ⟨fb,0,none⟩) s s)] a∧((nb=v.heap.size∧fb=v.heap.size+1)∨(nb=v.heap.size+1∧fb=v.heap.size))∧w'.heap=(v.heap.push (rowI (List.replicate s 0))).push (rowI (List.replicate s 0))∧w'.os=v.os∧w'.output=v.output) { tmps:=#[Pt c 0,Pt tb 0,u 2,u 3,u 4,u 5,u 6,u 7,u 8,u 9,u 10,u 11,u 12,u 13,u 14,u 15,u 16,u 17,u 18,u 19,u 20,u 21,u 22,u 23,u 24,u 25,u 26,u 27,u 28,u 29,u 30,u 31,u 32,u 33,u 34],defers:=[] } v:=by
 have hmk:=make_nums s (by omega)
 have hc:c<v.heap.size:=World.block_lt_of_cell? _ _ h0
 rw [←made_rowI]
 unfold a57 Tryd.f57 seq1 seq2
 simp only [Option.getD_some]
 go_wp2_with fail
 go_region
 ·exact ⟨rfl,_,_,⟨rfl,rfl,by
  intro p hp
  simp only [List.mem_cons,List.not_mem_nil,or_false] at hp
  rcases hp with rfl|rfl|rfl|rfl<;>rfl⟩,.inl ⟨rfl,rfl⟩,rfl,rfl,rfl⟩
 ·exact ⟨rfl,_,_,⟨rfl,rfl,by
  intro p hp
  simp only [List.mem_cons,List.not_mem_nil,or_false] at hp
  rcases hp with rfl|rfl|rfl|rfl<;>rfl⟩,.inr ⟨rfl,rfl⟩,rfl,rfl,rfl⟩
theorem sum_in {z:Nat→Option Nat} {Ch:Nat→Prop} {Stop:Goroutine→World→Prop} {main:Bool} {v w:World} {c sb s tb:Nat} (hs1:s≤16) (h0:v.cell? ⟨c,0,none⟩=some (.slice (some ⟨sb,0,none⟩) s s)) (cs:List Frame) (hvw:Rel z v w) (hn:NoRow Ch v)
 (hk:∀ a v' w' nb fb,Fl 35 [(0,Pt c 0),(1,Pt tb 0),(5,.slice (some ⟨nb,0,none⟩) s s),(6,.slice (some ⟨fb,0,none⟩) s s)] a→((nb=v.heap.size∧fb=v.heap.size+1)∨(nb=v.heap.size+1∧fb=v.heap.size))→Rel z v' w'→NoRow Ch v'→v'.heap=(v.heap.push (rowI (List.replicate s 0))).push (rowI (List.replicate s 0))→v'.os=v.os→v'.output=v.output→GoesI Tryd.prog main (DT (ScZ z) Ch) Stop (G (sFr a) cs) w') (code:Code) (hc:Tryd.f57.body=some code) :
 GoesI Tryd.prog main (DT (ScZ z) Ch) Stop (G ((base 57).at { tmps:=#[Pt c 0,Pt tb 0]++Array.replicate 33 undef,defers:=[] } [.code code]) cs) w:=by
 have hw0:code=.seq (seq1 (Tryd.f57.body.getD .skip)) (.seq a57 (.block 0 (.loop L57))):=by
  rw [show code=Tryd.f57.body.getD .skip by rw [hc];rfl];rfl
 subst hw0
 clear hc
 simp only [Array.replicate_succ,Array.replicate_zero,List.push_toArray,List.append_toArray,List.nil_append,List.cons_append]
 refine goesI_seq (dt_idle _ _) ?_
 generalize hT:Code.seq a57 (.block 0 (.loop L57))=T
 unfold Tryd.f57 seq1
 simp only [Option.getD_some]
 refine goesI_region (dt_idle _ _) ?_
 simp only [List.size_toArray,List.length_cons,List.length_nil,Nat.reduceAdd,Nat.zero_add,List.range,List.range.loop]
 iterate 1
  (refine goesI_oper rfl rfl (by decide) (fun d K hK=>?_)
   go_simp
   refine hK _ _ ⟨dt_reads (fun e he=>?_),GoesI.at ?_ d⟩
   ·have hm:=mem_listed he
    simp [go_sem, *] at hm
    try exact ⟨_,_,hm⟩
   clear hK K)
 refine goesI_regionEnd (dt_idle _ _) ?_
 subst hT
 refine goesI_seq (dt_idle _ _) ?_
 refine goesI_plain (z:=z) (wr:=true) (L:=LT) (I:=NoRow Ch) hE fineT noRow_keeps (fun v v' w w' es hi hr ho he=>dt_of_z v v' w w' es hi hr ho he) hvw fine_a57 rfl (by simp [base]) hn
  (Q:=fun a w'=>∃ nb fb,Fl 35 [(0,Pt c 0),(1,Pt tb 0),(5,.slice (some ⟨nb,0,none⟩) s s),(6,.slice (some ⟨fb,0,none⟩) s s)] a∧((nb=v.heap.size∧fb=v.heap.size+1)∨(nb=v.heap.size+1∧fb=v.heap.size))∧w'.heap=(v.heap.push (rowI (List.replicate s 0))).push (rowI (List.replicate s 0))∧w'.os=v.os∧w'.output=v.output) (fun τ=>a57_wp (onTape v τ 0) c sb s tb hs1 h0 (fun m=>match m with|4=>I 0|m=>undef)) ?_
 rintro a' v' w' ⟨nb,fb,hA,hb,q1,q2,q3⟩ hr' hn' -
 refine goesI_block (dt_idle _ _) ?_
 refine goesI_loop (dt_idle _ _) ?_
 exact hk a' v' w' nb fb hA hb hr' hn' q1 q2 q3
theorem sum_first {z:Nat→Option Nat} {Ch:Nat→Prop} {Stop:Goroutine→World→Prop} {main:Bool} {v w:World} {c sb s nb fb tb:Nat} {a:Act} (hA:Fl 35 [(0,Pt c 0),(1,Pt tb 0),(5,.slice (some ⟨nb,0,none⟩) s s),(6,.slice (some ⟨fb,0,none⟩) s s)] a) (cs:List Frame)
 (hk:∀ a,Fl 35 [(0,Pt c 0),(1,Pt tb 0),(5,.slice (some ⟨nb,0,none⟩) s s),(6,.slice (some ⟨fb,0,none⟩) s s)] a→∀ code,Tryd.f88.body=some code→GoesI Tryd.prog main (DT (ScZ z) Ch) Stop (G ((base 88).at { tmps:=#[Pt c 0,Pt tb 0,.slice (some ⟨nb,0,none⟩) s s]++Array.replicate 22 undef,defers:=[] } [.code code]) (sOne a :: cs)) w) :
 GoesI Tryd.prog main (DT (ScZ z) Ch) Stop (G (sFr a) cs) w:=by
 unfold sOne ops572 B57 L57 Tryd.f57 seq1 seq2 blockC loopC opsOf at hk
 simp only [Option.getD_some] at hk
 obtain ⟨hsz,hd,hpp⟩:=hA
 obtain ⟨u,rfl,hg⟩:=litN hsz hd
 have u0:=(hg 0).symm.trans (hpp (0,Pt c 0) (by simp))
 have u1:=(hg 1).symm.trans (hpp (1,Pt tb 0) (by simp))
 have u5:=(hg 5).symm.trans (hpp (5,.slice (some ⟨nb,0,none⟩) s s) (by simp))
 have u6:=(hg 6).symm.trans (hpp (6,.slice (some ⟨fb,0,none⟩) s s) (by simp))
 clear hg hpp hsz hd
 unfold sFr L57 Tryd.f57 seq2 blockC loopC
 simp only [Option.getD_some,lits,Nat.reduceAdd,u0,u1,u5,u6]
 clear u0 u1 u5 u6
 refine goesI_block (dt_idle _ _) ?_
 refine goesI_seq (dt_idle _ _) ?_
 refine goesI_region (dt_idle _ _) ?_
 simp only [List.size_toArray,List.length_cons,List.length_nil,Nat.reduceAdd,Nat.zero_add,List.range,List.range.loop]
 iterate 3
  (refine goesI_oper rfl rfl (by decide) (fun d K hK=>?_)
   go_simp
   refine hK _ _ ⟨dt_reads (fun e he=>?_),GoesI.at ?_ d⟩
   ·have hm:=mem_listed he
    simp [go_sem, *] at hm
    try exact ⟨_,_,hm⟩
   clear hK K)
 refine goesI_into (f:=88) (fn:=Tryd.f88) (args:=#[Pt c 0,Pt tb 0,.slice (some ⟨nb,0,none⟩) s s]) (dt_idle _ _) rfl rfl (by decide) rfl (by simp [Act.eval]) Tryd.func88 (by decide) rfl ?_
 exact hk _ ⟨rfl,rfl,by
  intro p hp
  simp only [List.mem_cons,List.not_mem_nil,or_false] at hp
  rcases hp with rfl|rfl|rfl|rfl<;>rfl⟩ _ rfl
theorem gx_cell {v v':World} (g:Grows v v') {a:Addr} {x:Value} (h:v.cell? a=some x):v'.cell? a=some x:=by rw [World.cell?_of_block (w:=v) (w':=v') (g.old _ (World.block_lt_of_cell? _ _ h))];exact h
theorem gx_trans {v v' v2:World} (a:Grows v v') (b:Grows v' v2):Grows v v2:=⟨Nat.le_trans a.size b.size,fun q hq=>by rw [b.old q (Nat.lt_of_lt_of_le hq a.size),a.old q hq],b.os.trans a.os,b.output.trans a.output⟩
theorem size3:(Tryd.prog.info? 3).map (·.size)=some 1:=by kernel_rfl
theorem run_copyI (v:World) (ty:TypeId) (nb fb s:Nat) (l m:List Int) (hl:l.length=s) (hm:m.length=s) (h1:v.heap[nb]? = some (rowI l)) (h2:v.heap[fb]? = some (rowI m)) :
 (Builtin.copy_ #[22,22] ty #[.slice (some ⟨fb,0,none⟩) s s,.slice (some ⟨nb,0,none⟩) s s]).run Tryd.prog v=.ok (goInt s) (v.setRow fb (l.map I).toArray):=by
 have:=run_copy_row (P:=Tryd.prog) v 22 22 ty 3 fb 0 s s ⟨nb,0,none⟩ s s (m.map I).toArray 3 (l.map I) Tryd.underlying22 size3 h2 (by simp [hl]) (fun j u hj=>by
  rw [List.getElem?_map] at hj
  cases hx:l[j]? with
  |none=>rw [hx] at hj;cases hj
  |some x =>
   rw [hx] at hj
   cases hj
   have:=rowI_cell h1 hx
   rw [show (⟨nb,0,none⟩:Addr).add j=⟨nb,j,none⟩ by unfold Addr.add;split<;>simp_all]
   exact this) (by simp [hl,hm]) (fun u hu=>by
  obtain ⟨x,_,rfl⟩:=List.mem_map.1 hu
  rfl)
 rw [this]
 have hd:(m.map I).drop s=[]:=List.drop_eq_nil_iff.2 (by rw [List.length_map,hm];exact Nat.le_refl _)
 simp [hl,hd]
theorem sum_mid {z:Nat→Option Nat} {Ch:Nat→Prop} {Stop:Goroutine→World→Prop} {main:Bool} {v w:World} {c sb s nb fb tb:Nat} {a:Act} (hA:Fl 35 [(0,Pt c 0),(1,Pt tb 0),(5,.slice (some ⟨nb,0,none⟩) s s),(6,.slice (some ⟨fb,0,none⟩) s s)] a) (l m:List Int) (hl:l.length=s) (hm:m.length=s) (h1:v.heap[nb]? = some (rowI l)) (h2:v.heap[fb]? = some (rowI m)) (cs:List Frame) (hvw:Rel z v w) (hn:NoRow Ch v)
 (hk:∀ a w',Fl 35 [(0,Pt c 0),(1,Pt tb 0),(5,.slice (some ⟨nb,0,none⟩) s s),(6,.slice (some ⟨fb,0,none⟩) s s)] a→Rel z (v.setRow fb (l.map I).toArray) w'→NoRow Ch (v.setRow fb (l.map I).toArray)→∀ code,Tryd.f88.body=some code→GoesI Tryd.prog main (DT (ScZ z) Ch) Stop (G ((base 88).at { tmps:=#[Pt c 0,Pt tb 0,.slice (some ⟨nb,0,none⟩) s s]++Array.replicate 22 undef,defers:=[] } [.code code]) (sTwo a :: cs)) w') :
 GoesI Tryd.prog main (DT (ScZ z) Ch) Stop (G (sOneB a) cs) w:=by
 have hcp:=run_copyI v 3 nb fb s l m hl hm h1 h2
 unfold sTwo ops574 B57 L57 Tryd.f57 seq1 seq2 blockC loopC opsOf at hk
 simp only [Option.getD_some] at hk
 obtain ⟨hsz,hd,hpp⟩:=hA
 obtain ⟨u,rfl,hg⟩:=litN hsz hd
 have u0:=(hg 0).symm.trans (hpp (0,Pt c 0) (by simp))
 have u1:=(hg 1).symm.trans (hpp (1,Pt tb 0) (by simp))
 have u5:=(hg 5).symm.trans (hpp (5,.slice (some ⟨nb,0,none⟩) s s) (by simp))
 have u6:=(hg 6).symm.trans (hpp (6,.slice (some ⟨fb,0,none⟩) s s) (by simp))
 clear hg hpp hsz hd
 unfold sOneB ops572 B57 L57 Tryd.f57 seq2 seq1 blockC loopC opsOf
 simp only [Option.getD_some,lits,Nat.reduceAdd,u0,u1,u5,u6]
 clear u0 u1 u5 u6
 walk_nrm
 refine goesI_regionEnd (dt_idle _ _) ?_
 refine goesI_seq (dt_idle _ _) ?_
 refine goesI_region (dt_idle _ _) ?_
 simp only [List.size_toArray,List.length_cons,List.length_nil,Nat.reduceAdd,Nat.zero_add,List.range,List.range.loop]
 iterate 2
  (refine goesI_oper rfl rfl (by decide) (fun d K hK=>?_)
   go_simp
   refine hK _ _ ⟨dt_reads (fun e he=>?_),GoesI.at ?_ d⟩
   ·have hm:=mem_listed he
    simp [go_sem, *] at hm
    try exact ⟨_,_,hm⟩
   clear hK K)
 refine goesI_opZ (L:=LT) rfl rfl (by decide) (fineOp_ask callT extT (by kernel_rfl)) hvw hn (x:=goInt s) (v':=v.setRow fb (l.map I).toArray) (by simp [execOp,resolve,Act.eval,hcp,go_sem]) rfl (fun w1 hvw1 hn1=>?_)
 walk_nrm
 refine goesI_regionEnd (dt_idle _ _) ?_
 refine goesI_seq (dt_idle _ _) ?_
 refine goesI_region (dt_idle _ _) ?_
 simp only [List.size_toArray,List.length_cons,List.length_nil,Nat.reduceAdd,Nat.zero_add,List.range,List.range.loop]
 iterate 3
  (refine goesI_oper rfl rfl (by decide) (fun d K hK=>?_)
   go_simp
   refine hK _ _ ⟨dt_reads (fun e he=>?_),GoesI.at ?_ d⟩
   ·have hm:=mem_listed he
    simp [go_sem, *] at hm
    try exact ⟨_,_,hm⟩
   clear hK K)
 refine goesI_into (f:=88) (fn:=Tryd.f88) (args:=#[Pt c 0,Pt tb 0,.slice (some ⟨nb,0,none⟩) s s]) (dt_idle _ _) rfl rfl (by decide) rfl (by simp [Act.eval]) Tryd.func88 (by decide) rfl ?_
 exact hk _ _ ⟨rfl,rfl,by
  intro p hp
  simp only [List.mem_cons,List.not_mem_nil,or_false] at hp
  rcases hp with rfl|rfl|rfl|rfl<;>rfl⟩ hvw1 hn1 _ rfl
noncomputable def yes57:Code:=condA (seq2 (seq2 (seq2 (seq2 B57))))
theorem fine_yes57:fineCode Tryd.prog true LT yes57:=fineCode_ask callT extT (by kernel_rfl)
theorem sum_end {z:Nat→Option Nat} {Ch:Nat→Prop} {Stop:Goroutine→World→Prop} {main:Bool} {v w:World} {c sb s nb fb tb:Nat} {a:Act} (hA:Fl 35 [(0,Pt c 0),(1,Pt tb 0),(5,.slice (some ⟨nb,0,none⟩) s s),(6,.slice (some ⟨fb,0,none⟩) s s)] a) (l m:List Int) (hs1:s≤16) (hl:l.length=s) (hm:m.length=s) (hF:R1.Flds v) (h1:v.heap[nb]? = some (rowI l)) (h2:v.heap[fb]? = some (rowI m)) (cs:List Frame) {bc:Frame} {ac:Act} {ops:Array Oper} {q:Nat} {rest:List Nat} {oc:Oper} {k:List Item} (hoc:ops[q]? = some oc) (hvw:Rel z v w) (hn:NoRow Ch v)
 (hyes:m=l→∀ v' w',Rel z v' w'→NoRow Ch v'→Grows v v'→GoesI Tryd.prog main (DT (ScZ z) Ch) Stop (G (bc.at (ac.put oc.dst (I (R1.totI l))) (.inRegion ops rest :: k)) cs) w')
 (hno:m≠l→∀ a v' w',Fl 35 [(0,Pt c 0),(1,Pt tb 0),(5,.slice (some ⟨nb,0,none⟩) s s),(6,.slice (some ⟨fb,0,none⟩) s s)] a→Rel z v' w'→NoRow Ch v'→Grows v v'→GoesI Tryd.prog main (DT (ScZ z) Ch) Stop (G (sFr a) (bc.at ac (.inRegion ops (q :: rest) :: k) :: cs)) w') :
 GoesI Tryd.prog main (DT (ScZ z) Ch) Stop (G (sTwoB a) (bc.at ac (.inRegion ops (q :: rest) :: k) :: cs)) w:=by
 unfold sFr L57 Tryd.f57 seq2 blockC loopC at hno
 simp only [Option.getD_some] at hno
 obtain ⟨hsz,hd,hpp⟩:=hA
 obtain ⟨u,rfl,hg⟩:=litN hsz hd
 have u0:=(hg 0).symm.trans (hpp (0,Pt c 0) (by simp))
 have u1:=(hg 1).symm.trans (hpp (1,Pt tb 0) (by simp))
 have u5:=(hg 5).symm.trans (hpp (5,.slice (some ⟨nb,0,none⟩) s s) (by simp))
 have u6:=(hg 6).symm.trans (hpp (6,.slice (some ⟨fb,0,none⟩) s s) (by simp))
 clear hg hpp hsz hd
 unfold sTwoB ops574 B57 L57 Tryd.f57 seq2 seq1 blockC loopC opsOf
 simp only [Option.getD_some,lits,Nat.reduceAdd,u0,u1,u5,u6]
 clear u0 u1 u5 u6
 walk_nrm
 refine goesI_regionEnd (dt_idle _ _) ?_
 refine goesI_seq (dt_idle _ _) ?_
 refine goesI_region (dt_idle _ _) ?_
 simp only [List.size_toArray,List.length_cons,List.length_nil,Nat.reduceAdd,Nat.zero_add,List.range,List.range.loop]
 iterate 2
  (refine goesI_oper rfl rfl (by decide) (fun d K hK=>?_)
   go_simp
   refine hK _ _ ⟨dt_reads (fun e he=>?_),GoesI.at ?_ d⟩
   ·have hm:=mem_listed he
    simp [go_sem, *] at hm
    try exact ⟨_,_,hm⟩
   clear hK K)
 refine goesI_call (f:=89) (fn:=Tryd.f89) (args:=#[.slice (some ⟨fb,0,none⟩) s s,.slice (some ⟨nb,0,none⟩) s s]) hE fineT rfl rfl (by decide) rfl (by simp [Act.eval]) Tryd.func89 (by kernel_rfl) rfl (fineFn_body fineT (by simp [LT,plainFs]) Tryd.func89 rfl) (fun tmps=>⟨_,fun w=>results_tmp rfl _ _ _,fun w=>by simp [results,go_sem,Tryd.f89]⟩) hvw hn
  (R:=fun r v4=>r=.bool (decide (m=l))∧Grows v v4) (fun τ=>?_) (fun r v4 w4 hR hvw4 hn4=>?_)
 ·have:=R1.equal_any m l fb nb s s (onTape v τ 0) (by omega) (by omega) (fun k x hk=>rowI_cell (v:=onTape v τ 0) h2 hk) (fun k x hk=>rowI_cell (v:=onTape v τ 0) h1 hk) _ rfl
  rw [hl,hm] at this
  exact wp_mono this (bp_mono fun r u hq=>⟨hq.1,⟨(blw_grows hq.2).size,(blw_grows hq.2).old,hq.2.os,hq.2.output⟩⟩)
 obtain ⟨rfl,hg4⟩:=hR
 walk_nrm
 refine goesI_regionEnd (dt_idle _ _) ?_
 by_cases hml:m=l
 ·subst hml
  refine goesI_cond (dt_idle _ _) (t:=true) (by simp [Act.eval]) ?_
  simp only [if_true,if_false,Bool.false_eq_true]
  refine goesI_outZ (c:=yes57) (f:=57) (fn:=Tryd.f57) (L:=LT) hE fineT hvw4 hn4 Tryd.func57 fine_yes57 rfl hoc (R:=fun r w'=>r=I (R1.totI m)∧Grows v4 w') (fun τ=>?_) (fun r v' w' hR hr' hn'=>?_)
  ·have HT:Hid (Body Tryd.f90 #[.slice (some ⟨nb,0,none⟩) m.length s] (onTape v4 τ 0) _):=⟨R1.total_any m nb s (onTape v4 τ 0) (by omega) (hF.of fun a x ha=>by
    have:=gx_cell hg4 ha
    exact this) (fun k x hk=>by
    have:=gx_cell hg4 (rowI_cell h1 hk)
    exact this)⟩
   rw [hm] at HT
   show Code.wp Tryd.prog (condA (seq2 (seq2 (seq2 (seq2 (blockC (loopC (blockC (seq2 (seq2 (Tryd.f57.body.getD .skip)))))))))) ) _ _ _
   unfold Tryd.f57 condA seq2 blockC loopC
   simp only [Option.getD_some]
   go_wp2_with (first
    |(go_at_call 90;refine (HT.out.calls Tryd.func90 rfl).mono ?_;rintro e w1 ⟨_,rfl,rfl,hb⟩))
   exact ⟨_,results_tmp rfl _ _ _,rfl,⟨hb.size,fun b hbb=>hb.block b hbb,hb.os,hb.output⟩⟩
  ·obtain ⟨rfl,hg5⟩:=hR
   exact hyes rfl v' w' hr' hn' (gx_trans hg4 hg5)
 ·refine goesI_cond (dt_idle _ _) (t:=false) (by simp [Act.eval,hml]) ?_
  simp only [if_true,if_false,Bool.false_eq_true]
  refine goesI_skip (dt_idle _ _) ?_
  refine goesI_inBlock (dt_idle _ _) ?_
  refine goesI_inLoop (dt_idle _ _) ?_
  exact hno hml _ _ _ ⟨rfl,rfl,by
   intro p hp
   simp only [List.mem_cons,List.not_mem_nil,or_false] at hp
   rcases hp with rfl|rfl|rfl|rfl<;>rfl⟩ hvw4 hn4 hg4
structure Ftg (cb:Nat) (y:Int) (v v':World):Prop where
 cel:v'.heap[cb]? = some (.cells #[I 0,I y] 158 (0,0))
 old:∀ b,b<v.heap.size→b≠cb→v'.heap[b]? = v.heap[b]?
 size:v.heap.size≤v'.heap.size
 os:v'.os=v.os
 out:v'.output=v.output
section
variable {Ch:Nat→Prop} {Stop:Goroutine→World→Prop} {main:Bool} {v w:World} {tb c cb sb s i:Nat} {kb:List Nat} {x:Int}
theorem Fm.grows {v':World} (m:Fm tb cb x v) (g:Grows v v'):Fm tb cb x v':=⟨gx_cell g m.thr,m.ne,by
 have hlt:cb<v.heap.size:=(Array.getElem?_eq_some_iff.1 m.cel).1
 rw [g.old cb hlt];exact m.cel⟩
theorem fadd_try {n:Int} (hF:R1.Flds v) {a:Act} (hA:Fl 32 [(0,Pt c 0),(1,Pt tb 0),(2,I n),(6,Pt cb 0)] a) (cs:List Frame) (hvw:Rel zn v w) (hn:NoRow Ch v) (m0:Fm tb cb x v)
 (hk:∀ a v' w',Fl 32 [(0,Pt c 0),(1,Pt tb 0),(2,I n),(6,Pt cb 0)] a→Rel zn v' w'→NoRow Ch v'→Ftg cb (R1.addI x n) v v'→GoesI Tryd.prog main (DT (ScZ zn) Ch) Stop (G (aTried a (.bool true)) cs) w') :
 GoesI Tryd.prog main (DT (ScZ zn) Ch) Stop (G (aSeen a (I x)) cs) w:=by
 have e3:effCas x (R1.addI x n) x=((x,R1.addI x n),R1.addI x n,.bool true):=by unfold effCas;rw [if_pos rfl]
 have HM:Hid (Fm tb cb x v):=⟨m0⟩
 clear m0
 unfold aTried ops552 B55 L55 Tryd.f55 seq1 seq2 blockC loopC opsOf at hk
 simp only [Option.getD_some] at hk
 obtain ⟨hsz,hd,hpp⟩:=hA
 obtain ⟨u,rfl,hg⟩:=litN hsz hd
 have u0:=(hg 0).symm.trans (hpp (0,Pt c 0) (by simp))
 have u1:=(hg 1).symm.trans (hpp (1,Pt tb 0) (by simp))
 have u2:=(hg 2).symm.trans (hpp (2,I n) (by simp))
 have u6:=(hg 6).symm.trans (hpp (6,Pt cb 0) (by simp))
 clear hg hpp hsz hd
 unfold aSeen ops551 B55 L55 Tryd.f55 seq2 seq1 blockC loopC opsOf
 simp only [Option.getD_some,lits,Nat.reduceAdd,u0,u1,u2,u6]
 clear u0 u1 u2 u6
 walk_nrm
 iterate 1
  (refine goesI_oper rfl rfl (by decide) (fun d K hK=>?_)
   go_simp
   refine hK _ _ ⟨dt_reads (fun e he=>?_),GoesI.at ?_ d⟩
   ·have hm:=mem_listed he
    simp [go_sem, *] at hm
    try exact ⟨_,_,hm⟩
   clear hK K)
 refine goesI_regionEnd (dt_idle _ _) ?_
 refine goesI_seq (dt_idle _ _) ?_
 refine goesI_region (dt_idle _ _) ?_
 simp only [List.size_toArray,List.length_cons,List.length_nil,Nat.reduceAdd,Nat.zero_add,List.range,List.range.loop]
 iterate 5
  (refine goesI_oper rfl rfl (by decide) (fun d K hK=>?_)
   go_simp
   refine hK _ _ ⟨dt_reads (fun e he=>?_),GoesI.at ?_ d⟩
   ·have hm:=mem_listed he
    simp [go_sem, *] at hm
    try exact ⟨_,_,hm⟩
   clear hK K)
 refine goesI_call (f:=87) (fn:=Tryd.f87) (args:=#[I x,I n]) hE fineT rfl rfl (by decide) rfl (by simp [Act.eval]) Tryd.func87 (by kernel_rfl) rfl (fineFn_body fineT (by simp [LT,plainFs]) Tryd.func87 rfl) (fun tmps=>⟨_,fun w=>results_tmp rfl _ _ _,fun w=>by simp [results,go_sem,Tryd.f87]⟩) hvw hn
  (R:=fun r v4=>r=I (R1.addI x n)∧Grows v v4) (fun τ=>?_) (fun r v4 w4 hR hvw4 hn4=>?_)
 ·exact wp_mono (R1.added_any x n (onTape v τ 0) (fits_flds hF rfl) _ rfl) (bp_mono fun r u hq=>⟨hq.1,⟨(blw_grows hq.2).size,(blw_grows hq.2).old,hq.2.os,hq.2.output⟩⟩)
 obtain ⟨rfl,hg4⟩:=hR
 walk_nrm
 refine goesI_into (f:=77) (fn:=Tryd.f77) (args:=#[Pt cb 0,Pt tb 0,I x,I (R1.addI x n)]) (dt_idle _ _) rfl rfl (by decide) rfl (by simp [Act.eval]) Tryd.func77 (by decide) rfl ?_
 refine free14 x (R1.addI x n) x _ rfl hvw4 hn4 (HM.out.grows hg4) (fun v2 w2 r2 n2 h2=>?_) _ rfl
 rw [e3] at h2 ⊢
 exact hk _ v2 w2 ⟨rfl,rfl,by
  intro p hp
  simp only [List.mem_cons,List.not_mem_nil,or_false] at hp
  rcases hp with rfl|rfl|rfl|rfl<;>rfl⟩ r2 n2 ⟨h2.fm.cel,fun b hb hne=>by rw [h2.old b hne,hg4.old b hb],by rw [h2.size];exact hg4.size,h2.os.trans hg4.os,h2.out.trans hg4.output⟩
theorem fadd_look {n:Int} {a:Act} (hA:Fl 32 [(0,Pt c 0),(1,Pt tb 0),(2,I n),(6,Pt cb 0)] a) (cs:List Frame) (hvw:Rel zn v w) (hn:NoRow Ch v) (m0:Fm tb cb x v)
 (hk:∀ a v' w',Fl 32 [(0,Pt c 0),(1,Pt tb 0),(2,I n),(6,Pt cb 0)] a→Rel zn v' w'→NoRow Ch v'→v'.heap=v.heap→v'.os=v.os→v'.output=v.output→GoesI Tryd.prog main (DT (ScZ zn) Ch) Stop (G (aSeen a (I x)) cs) w') :
 GoesI Tryd.prog main (DT (ScZ zn) Ch) Stop (G (aFr a) cs) w:=by
 have HM:Hid (Fm tb cb x v):=⟨m0⟩
 clear m0
 unfold aSeen ops551 B55 L55 Tryd.f55 seq1 seq2 blockC loopC opsOf at hk
 simp only [Option.getD_some] at hk
 obtain ⟨hsz,hd,hpp⟩:=hA
 obtain ⟨u,rfl,hg⟩:=litN hsz hd
 have u0:=(hg 0).symm.trans (hpp (0,Pt c 0) (by simp))
 have u1:=(hg 1).symm.trans (hpp (1,Pt tb 0) (by simp))
 have u2:=(hg 2).symm.trans (hpp (2,I n) (by simp))
 have u6:=(hg 6).symm.trans (hpp (6,Pt cb 0) (by simp))
 clear hg hpp hsz hd
 unfold aFr L55 Tryd.f55 seq2 blockC loopC
 simp only [Option.getD_some,lits,Nat.reduceAdd,u0,u1,u2,u6]
 clear u0 u1 u2 u6
 refine goesI_block (dt_idle _ _) ?_
 refine goesI_seq (dt_idle _ _) ?_
 refine goesI_region (dt_idle _ _) ?_
 simp only [List.size_toArray,List.length_cons,List.length_nil,Nat.reduceAdd,Nat.zero_add,List.range,List.range.loop]
 iterate 2
  (refine goesI_oper rfl rfl (by decide) (fun d K hK=>?_)
   go_simp
   refine hK _ _ ⟨dt_reads (fun e he=>?_),GoesI.at ?_ d⟩
   ·have hm:=mem_listed he
    simp [go_sem, *] at hm
    try exact ⟨_,_,hm⟩
   clear hK K)
 refine goesI_into (f:=73) (fn:=Tryd.f73) (args:=#[Pt cb 0,Pt tb 0]) (dt_idle _ _) rfl rfl (by decide) rfl (by simp [Act.eval]) Tryd.func73 (by decide) rfl ?_
 refine free17 x _ rfl hvw hn HM.out (fun v2 w2 r2 n2 h2=>?_) _ rfl
 exact hk _ v2 w2 ⟨rfl,rfl,by
  intro p hp
  simp only [List.mem_cons,List.not_mem_nil,or_false] at hp
  rcases hp with rfl|rfl|rfl|rfl<;>rfl⟩ r2 n2 (h2.stay HM.out) h2.os h2.out
theorem fadd (n:Int) {cs:List Frame} {bc:Frame} {ac:Act} {ops:Array Oper} {q:Nat} {rest:List Nat} {oc:Oper} {k:List Item} (hoc:ops[q]? = some oc)
 (hvw:Rel zn v w) (hn:NoRow Ch v) (hC:Ctr v c sb s kb) (h1:v.cell? ⟨tb,1,none⟩=some (I i)) (hcb:kb[i % s]? = some cb) (hF:R1.Flds v) (m0:Fm tb cb x v)
 (hk:∀ v' w',Rel zn v' w'→NoRow Ch v'→Ftg cb (R1.addI x n) v v'→GoesI Tryd.prog main (DT (ScZ zn) Ch) Stop (G (bc.at (ac.put oc.dst (.tuple #[])) (.inRegion ops rest :: k)) cs) w') (code:Code) (hc:Tryd.f55.body=some code) :
 GoesI Tryd.prog main (DT (ScZ zn) Ch) Stop (G ((base 55).at { tmps:=#[Pt c 0,Pt tb 0,I n]++Array.replicate 29 undef,defers:=[] } [.code code]) (bc.at ac (.inRegion ops (q :: rest) :: k) :: cs)) w:=by
 refine add_in n hC h1 hcb _ hvw hn (fun a v1 w1 hA r1 n1 a1 b1 c1=>?_) code hc
 refine fadd_look hA _ r1 n1 (m0.same a1) (fun a v2 w2 hA r2 n2 a2 b2 c2=>?_)
 refine fadd_try (fits_flds hF (a2.trans a1)) hA _ r2 n2 (m0.same (a2.trans a1)) (fun a v3 w3 hA r3 n3 h3=>?_)
 refine add_won hA _ hoc r3 n3 (fun w4 r4=>hk v3 w4 r4 n3 ⟨h3.cel,fun b hb hne=>?_,?_,h3.os.trans (b2.trans b1),h3.out.trans (c2.trans c1)⟩)
 ·rw [h3.old b (by rw [a2,a1];exact hb) hne,a2,a1]
 ·have:=h3.size;rw [a2,a1] at this;exact this
end
end Go.Proofs.YtfjjoohflcchnaaDoor.Gen
