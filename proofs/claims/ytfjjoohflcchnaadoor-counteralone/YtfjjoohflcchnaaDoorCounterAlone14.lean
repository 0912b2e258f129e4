/- Of the proof of CounterAlone. Part 14 of 21. (Joined, by program, and written short, of: GFree.) -/
import Derived.Test.YtfjjoohflcchnaaDoorCounterAlone05
import Derived.Test.YtfjjoohflcchnaaDoorCounterAlone13
set_option linter.unusedSimpArgs false
set_option linter.unusedVariables false
set_option maxHeartbeats 4000000
set_option maxRecDepth 100000
namespace Go.Proofs.YtfjjoohflcchnaaDoor.Gen
open Go Go.Lift Go.Conc Go.RowKit
structure Fm (tb cb:Nat) (x:Int) (v:World):Prop where
 thr:v.cell? ⟨tb,0,none⟩=some (.pointer none)
 ne:tb≠cb
 cel:v.heap[cb]? = some (.cells #[I 0,I x] 158 (0,0))
structure Fto (tb cb:Nat) (x:Int) (v v':World):Prop where
 fm:Fm tb cb x v'
 old:∀ b,b≠cb→v'.heap[b]? = v.heap[b]?
 size:v'.heap.size=v.heap.size
 os:v'.os=v.os
 out:v'.output=v.output
section
variable {tb cb:Nat} {x y:Int} {v v' v'':World}
theorem Fm.cells (h:Fm tb cb x v):v.cell? ⟨tb,0,none⟩=some (.pointer none)∧v.cell? ⟨cb,0,none⟩=some (I 0)∧v.cell? ⟨cb,1,none⟩=some (I x)∧v.frozen? ⟨cb,1,none⟩=false:=by
 refine ⟨h.thr,?_,?_,?_⟩
 ·unfold World.cell?;rw [show v.heap[cb]? = _ from h.cel];rfl
 ·unfold World.cell?;rw [show v.heap[cb]? = _ from h.cel];rfl
 ·unfold World.frozen?;rw [show v.heap[cb]? = _ from h.cel];rfl
theorem Fm.same (h:Fm tb cb x v) (e:v'.heap=v.heap):Fm tb cb x v':=⟨by rw [World.cell?_of_block (w:=v) (by rw [e])];exact h.thr,h.ne,by rw [e];exact h.cel⟩
theorem Fto.refl (h:Fm tb cb x v):Fto tb cb x v v:=⟨h,fun _ _=>rfl,rfl,rfl,rfl⟩
theorem Fto.same (h:Fto tb cb x v v') (e1:v''.heap=v'.heap) (e2:v''.os=v'.os) (e3:v''.output=v'.output):Fto tb cb x v v'' :=
 ⟨h.fm.same e1,fun b hb=>by rw [e1];exact h.old b hb,by rw [e1];exact h.size,e2.trans h.os,e3.trans h.out⟩
theorem Fto.set (h:Fm tb cb x v) (y:Int):Fto tb cb y v (v.setCell ⟨cb,1,none⟩ (I y)) :=
 ⟨⟨by rw [World.cell?_of_block (Below.heap_setCell _ _ _ _ h.ne)];exact h.thr,h.ne,heap_setCell_same h.cel _⟩,fun b hb=>Below.heap_setCell _ _ _ _ hb,by simp [World.setCell],rfl,rfl⟩
theorem Fto.base (h:Fto tb cb x v v') (e1:v.heap=v''.heap) (e2:v.os=v''.os) (e3:v.output=v''.output):Fto tb cb x v'' v' :=
 ⟨h.fm,fun b hb=>by rw [←e1];exact h.old b hb,by rw [←e1];exact h.size,h.os.trans e2,h.out.trans e3⟩
theorem body27f (tb:Nat) (b a:Int) (v:World) (h:v.cell? ⟨tb,0,none⟩=some (.pointer none)):Body Tryd.f108 #[Pt tb 0,I b,I a] v (fun r v'=>r=.tuple #[]∧v'=v):=by
 intro code hb
 obtain rfl:=Option.some.inj hb
 clear hb
 simp only [Tryd.ntmps108,List.size_toArray,List.length_cons,List.length_nil,Nat.reduceAdd,Nat.reduceSub,Array.replicate_succ,Array.replicate_zero,List.push_toArray,List.append_toArray,List.nil_append,List.cons_append]
 go_wp2_with fail
 exact ⟨rfl,_,results_none rfl _ _ _,_,rfl,rfl,rfl⟩
end
theorem free26 {Ch:Nat→Prop} {Stop:Goroutine→World→Prop} {main:Bool} {v w:World} (tb:Nat) (c o:Int) (ht:v.cell? ⟨tb,0,none⟩=some (.pointer none)) (cs:List Frame) {bc:Frame} {ac:Act} {ops:Array Oper} {q:Nat} {rest:List Nat} {oc:Oper} {k:List Item} (hoc:ops[q]? = some oc) (hvw:Rel zn v w) (hn:NoRow Ch v)
 (hk:∀ w',Rel zn v w'→GoesI Tryd.prog main (DT (ScZ zn) Ch) Stop (G (bc.at (ac.put oc.dst (.tuple #[])) (.inRegion ops rest :: k)) cs) w') (code:Code) (hc:Tryd.f106.body=some code) :
 GoesI Tryd.prog main (DT (ScZ zn) Ch) Stop (G ((base 106).at { tmps:=#[Pt tb 0,I c,I o]++Array.replicate 12 undef,defers:=[] } [.code code]) (bc.at ac (.inRegion ops (q :: rest) :: k) :: cs)) w:=by
 obtain rfl:=Option.some.inj hc
 clear hc
 have e0:w.cell? ⟨tb,0,none⟩=some (.pointer none):=by rw [hvw.cell?];exact ht
 simp only [Array.replicate_succ,Array.replicate_zero,List.push_toArray,List.append_toArray,List.nil_append,List.cons_append]
 refine goesI_seq (dt_idle _ _) ?_
 refine goesI_region (dt_idle _ _) ?_
 simp only [List.size_toArray,List.length_cons,List.length_nil,Nat.reduceAdd,Nat.zero_add,List.range,List.range.loop]
 iterate 4
  (refine goesI_oper rfl rfl (by decide) (fun d K hK=>?_)
   go_simp
   refine hK _ _ ⟨dt_reads (fun e he=>?_),GoesI.at ?_ d⟩
   ·have hm:=mem_listed he
    simp [go_sem, *] at hm
    try exact ⟨_,_,hm⟩
   clear hK K)
 refine goesI_opZ (L:=LT) rfl rfl (by decide) (fineOp_ask callT extT (by kernel_rfl)) hvw hn (v':=v) (x:=.bool false) (by go_simp) rfl (fun w2 hr2 hn2=>?_)
 refine goesI_regionEnd (dt_idle _ _) ?_
 refine goesI_cond (dt_idle _ _) (t:=false) rfl ?_
 refine goesI_skip (dt_idle _ _) ?_
 refine goesI_end (dt_idle _ _) ?_
 exact goesI_leave (b:=base 106) (fn:=Tryd.f106) rfl rfl Tryd.func106 (res26 _) (ev26 _) hoc (dt_idle _ _) (hk w2 hr2)
theorem tailF17 {v:World} {tb cb:Nat} {x:Int} (hm:Fm tb cb x v) (a6 a7 a8 a9 a10 a11:Value) :
 rest17.wp Tryd.prog (bodyPost Tryd.prog Tryd.f73 (fun e w'=>∃ r,e=.returned r∧(r=(effLoad x).2.2∧Fto tb cb (effLoad x).2.1 v w')))
  { tmps:=#[Pt cb 0,Pt tb 0,undef,undef,I 0,undef,a6,a7,a8,a9,a10,a11,undef,undef,undef,undef,undef,undef,undef,undef,undef],defers:=[] } v:=by
 obtain ⟨c0,_,c1,f1⟩:=hm.cells
 have HM:Hid (Fm tb cb x v):=⟨hm⟩
 have HT:Hid (v.cell? ⟨tb,0,none⟩=some (.pointer none)):=⟨by exact c0⟩
 clear hm
 show Code.wp Tryd.prog (seq2 (seq2 (Tryd.f73.body.getD .skip))) _ _ _
 unfold Tryd.f73 seq2
 simp only [Option.getD_some]
 go_wp2_with (first
  |(go_at_call 107;refine ((body29 cb x _ c1).calls Tryd.func107 rfl).mono ?_;rintro e w1 ⟨_,rfl,rfl,rfl⟩)
  |(go_at_call 108;refine ((body27f tb x x _ HT.out).calls Tryd.func108 rfl).mono ?_;rintro e w2 ⟨_,rfl,rfl,rfl⟩))
 go_ret
 exact ⟨_,rfl,rfl,Fto.refl HM.out⟩
theorem free17 {Ch:Nat→Prop} {Stop:Goroutine→World→Prop} {main:Bool} {v w:World} {tb cb:Nat} (x:Int) (cs:List Frame) {bc:Frame} {ac:Act} {ops:Array Oper} {q:Nat} {rest:List Nat} {oc:Oper} {k:List Item} (hoc:ops[q]? = some oc)
 (hvw:Rel zn v w) (hn:NoRow Ch v) (hm:Fm tb cb x v)
 (hk:∀ v' w',Rel zn v' w'→NoRow Ch v'→Fto tb cb (effLoad x).2.1 v v'→GoesI Tryd.prog main (DT (ScZ zn) Ch) Stop (G (bc.at (ac.put oc.dst (effLoad x).2.2) (.inRegion ops rest :: k)) cs) w') (code:Code) (hc:Tryd.f73.body=some code) :
 GoesI Tryd.prog main (DT (ScZ zn) Ch) Stop (G ((base 73).at { tmps:=#[Pt cb 0,Pt tb 0]++Array.replicate 19 undef,defers:=[] } [.code code]) (bc.at ac (.inRegion ops (q :: rest) :: k) :: cs)) w:=by
 obtain rfl:=Option.some.inj hc
 clear hc
 have e0:w.cell? ⟨cb,0,none⟩=some (I 0):=by rw [hvw.cell?];exact hm.cells.2.1
 simp only [Array.replicate_succ,Array.replicate_zero,List.push_toArray,List.append_toArray,List.nil_append,List.cons_append]
 have HM:Hid (Fm tb cb x v):=⟨hm⟩
 clear hm
 refine goesI_seq (dt_idle _ _) ?_
 refine goesI_region (dt_idle _ _) ?_
 simp only [List.size_toArray,List.length_cons,List.length_nil,Nat.reduceAdd,Nat.zero_add,List.range,List.range.loop]
 (refine goesI_oper rfl rfl (by decide) (fun d K hK=>?_)
  go_simp
  refine hK _ _ ⟨dt_reads (fun e he=>?_),GoesI.at ?_ d⟩
  ·have hm:=mem_listed he
   simp [go_sem, *] at hm
  clear hK K)
 refine goesI_regionEnd (dt_idle _ _) ?_
 refine goesI_seq (dt_idle _ _) ?_
 refine goesI_region (dt_idle _ _) ?_
 simp only [List.size_toArray,List.length_cons,List.length_nil,Nat.reduceAdd,Nat.zero_add,List.range,List.range.loop]
 iterate 5
  (refine goesI_oper rfl rfl (by decide) (fun d K hK=>?_)
   go_simp
   refine hK _ _ ⟨dt_reads (fun e he=>?_),GoesI.at ?_ d⟩
   ·have hm:=mem_listed he
    simp [go_sem, *] at hm
    try exact ⟨_,_,hm⟩
   clear hK K)
 refine goesI_into (f:=106) (fn:=Tryd.f106) (args:=#[Pt tb 0,I 0,I 1]) (dt_idle _ _) rfl rfl (by decide) rfl (by simp [Act.eval]) Tryd.func106 (by decide) rfl ?_
 refine free26 tb 0 1 HM.out.cells.1 _ rfl hvw hn (fun w1 hr1=>?_) _ rfl
 clear e0 hvw
 refine goesI_regionEnd (dt_idle _ _) ?_
 refine goesI_rest (f:=73) (fn:=Tryd.f73) (c:=rest17) hE fineT hr1 hn Tryd.func73 fine17 rfl hoc res17 (fun τ=>?_) (fun r v' w' hR hr' hn'=>?_) (R:=fun r w'=>r=(effLoad x).2.2∧Fto tb cb (effLoad x).2.1 v w')
 ·exact wp_mono (tailF17 (HM.out.same (v':=onTape v τ 0) rfl) _ _ _ _ _ _) (bp_mono fun r u hq=>⟨hq.1,hq.2.base rfl rfl rfl⟩)
 ·obtain ⟨rfl,he⟩:=hR
  exact hk v' w' hr' hn' he
theorem tailF14 {v:World} {tb cb:Nat} {x:Int} {a y:Int} (hm:Fm tb cb x v) (a10 a11 a12 a13 a14 a15:Value) :
 rest14.wp Tryd.prog (bodyPost Tryd.prog Tryd.f77 (fun e w'=>∃ r,e=.returned r∧(r=(effCas a y x).2.2∧Fto tb cb (effCas a y x).2.1 v w')))
  { tmps:=#[Pt cb 0,Pt tb 0,I a,I y,undef,undef,undef,undef,.bool false,undef,a10,a11,a12,a13,a14,a15,undef,undef,undef,undef,undef,undef,undef,undef,undef,undef,undef,undef,undef,undef,undef,undef,undef,undef],defers:=[] } v:=by
 obtain ⟨c0,_,c1,f1⟩:=hm.cells
 have HM:Hid (Fm tb cb x v):=⟨hm⟩
 by_cases hx:x=a
 ·subst hx
  have HT:Hid ((v.setCell ⟨cb,1,none⟩ (I y)).cell? ⟨tb,0,none⟩=some (.pointer none)):=⟨by rw [World.cell?_of_block (Below.heap_setCell _ _ _ _ hm.ne)];exact c0⟩
  have HQ:Hid (effCas x y x=((x,y),y,.bool true)):=⟨by simp [effCas]⟩
  rw [HQ.out]
  clear hm
  show Code.wp Tryd.prog (seq2 (seq2 (Tryd.f77.body.getD .skip))) _ _ _
  unfold Tryd.f77 seq2
  simp only [Option.getD_some]
  go_wp2_with (first
   |(go_at_call 111;refine ((body28 cb x y _ c1 f1).calls Tryd.func111 rfl).mono ?_;rintro e w1 ⟨_,rfl,rfl,rfl⟩)
   |(go_at_call 108;refine ((body27f tb x y _ HT.out).calls Tryd.func108 rfl).mono ?_;rintro e w2 ⟨_,rfl,rfl,rfl⟩))
  go_ret
  exact ⟨_,rfl,rfl,Fto.set HM.out _⟩
 have HT:Hid (v.cell? ⟨tb,0,none⟩=some (.pointer none)):=⟨by exact c0⟩
 have HQ:Hid (effCas a y x=((x,x),x,.bool false)):=⟨by simp [effCas,hx]⟩
 rw [HQ.out]
 clear hm
 show Code.wp Tryd.prog (seq2 (seq2 (Tryd.f77.body.getD .skip))) _ _ _
 unfold Tryd.f77 seq2
 simp only [Option.getD_some]
 go_wp2_with (first
  |(go_at_call 111;refine ((body28n cb x a y _ c1 f1 hx).calls Tryd.func111 rfl).mono ?_;rintro e w1 ⟨_,rfl,rfl,rfl⟩)
  |(go_at_call 107;refine ((body29 cb x _ c1).calls Tryd.func107 rfl).mono ?_;rintro e w1 ⟨_,rfl,rfl,rfl⟩)
  |(go_at_call 108;refine ((body27f tb x x _ HT.out).calls Tryd.func108 rfl).mono ?_;rintro e w2 ⟨_,rfl,rfl,rfl⟩))
 go_ret
 exact ⟨_,rfl,rfl,Fto.refl HM.out⟩
theorem free14 {Ch:Nat→Prop} {Stop:Goroutine→World→Prop} {main:Bool} {v w:World} {tb cb:Nat} (a y:Int) (x:Int) (cs:List Frame) {bc:Frame} {ac:Act} {ops:Array Oper} {q:Nat} {rest:List Nat} {oc:Oper} {k:List Item} (hoc:ops[q]? = some oc)
 (hvw:Rel zn v w) (hn:NoRow Ch v) (hm:Fm tb cb x v)
 (hk:∀ v' w',Rel zn v' w'→NoRow Ch v'→Fto tb cb (effCas a y x).2.1 v v'→GoesI Tryd.prog main (DT (ScZ zn) Ch) Stop (G (bc.at (ac.put oc.dst (effCas a y x).2.2) (.inRegion ops rest :: k)) cs) w') (code:Code) (hc:Tryd.f77.body=some code) :
 GoesI Tryd.prog main (DT (ScZ zn) Ch) Stop (G ((base 77).at { tmps:=#[Pt cb 0,Pt tb 0,I a,I y]++Array.replicate 30 undef,defers:=[] } [.code code]) (bc.at ac (.inRegion ops (q :: rest) :: k) :: cs)) w:=by
 obtain rfl:=Option.some.inj hc
 clear hc
 have e0:w.cell? ⟨cb,0,none⟩=some (I 0):=by rw [hvw.cell?];exact hm.cells.2.1
 simp only [Array.replicate_succ,Array.replicate_zero,List.push_toArray,List.append_toArray,List.nil_append,List.cons_append]
 have HM:Hid (Fm tb cb x v):=⟨hm⟩
 clear hm
 refine goesI_seq (dt_idle _ _) ?_
 refine goesI_region (dt_idle _ _) ?_
 simp only [List.size_toArray,List.length_cons,List.length_nil,Nat.reduceAdd,Nat.zero_add,List.range,List.range.loop]
 (refine goesI_oper rfl rfl (by decide) (fun d K hK=>?_)
  go_simp
  refine hK _ _ ⟨dt_reads (fun e he=>?_),GoesI.at ?_ d⟩
  ·have hm:=mem_listed he
   simp [go_sem, *] at hm
  clear hK K)
 refine goesI_regionEnd (dt_idle _ _) ?_
 refine goesI_seq (dt_idle _ _) ?_
 refine goesI_region (dt_idle _ _) ?_
 simp only [List.size_toArray,List.length_cons,List.length_nil,Nat.reduceAdd,Nat.zero_add,List.range,List.range.loop]
 iterate 5
  (refine goesI_oper rfl rfl (by decide) (fun d K hK=>?_)
   go_simp
   refine hK _ _ ⟨dt_reads (fun e he=>?_),GoesI.at ?_ d⟩
   ·have hm:=mem_listed he
    simp [go_sem, *] at hm
    try exact ⟨_,_,hm⟩
   clear hK K)
 refine goesI_into (f:=106) (fn:=Tryd.f106) (args:=#[Pt tb 0,I 0,I 4]) (dt_idle _ _) rfl rfl (by decide) rfl (by simp [Act.eval]) Tryd.func106 (by decide) rfl ?_
 refine free26 tb 0 4 HM.out.cells.1 _ rfl hvw hn (fun w1 hr1=>?_) _ rfl
 clear e0 hvw
 refine goesI_regionEnd (dt_idle _ _) ?_
 refine goesI_rest (f:=77) (fn:=Tryd.f77) (c:=rest14) hE fineT hr1 hn Tryd.func77 fine14 rfl hoc res14 (fun τ=>?_) (fun r v' w' hR hr' hn'=>?_) (R:=fun r w'=>r=(effCas a y x).2.2∧Fto tb cb (effCas a y x).2.1 v w')
 ·exact wp_mono (tailF14 (HM.out.same (v':=onTape v τ 0) rfl) _ _ _ _ _ _) (bp_mono fun r u hq=>⟨hq.1,hq.2.base rfl rfl rfl⟩)
 ·obtain ⟨rfl,he⟩:=hR
  exact hk v' w' hr' hn' he
theorem body24n (v:World):Body Tryd.f103 #[.pointer none] v (fun r v'=>r=I 0∧v'=v):=by
 intro code hb
 obtain rfl:=Option.some.inj hb
 clear hb
 simp only [Tryd.ntmps103,List.size_toArray,List.length_cons,List.length_nil,Nat.reduceAdd,Nat.reduceSub,Array.replicate_succ,Array.replicate_zero,List.push_toArray,List.append_toArray,List.nil_append,List.cons_append]
 go_wp2_with fail
 go_ret
 exact ⟨_,rfl,rfl,rfl⟩
theorem body10n (v:World) (x:Int):Body Tryd.f70 #[.pointer none,I x] v (fun r v'=>r=Pt v.heap.size 0∧v'.heap=v.heap.push (.cells #[I 0,I x] 158)∧v'.os=v.os∧v'.output=v.output):=by
 intro code hb
 obtain rfl:=Option.some.inj hb
 clear hb
 simp only [Tryd.ntmps70,List.size_toArray,List.length_cons,List.length_nil,Nat.reduceAdd,Nat.reduceSub,Array.replicate_succ,Array.replicate_zero,List.push_toArray,List.append_toArray,List.nil_append,List.cons_append]
 go_wp2_with (first
  |(go_at_call 103;refine ((body24n v).calls Tryd.func103 rfl).mono ?_;rintro e w1 ⟨r1,rfl,rfl,rfl⟩)
  |(go_at_call 104
    have hb:(w1.alloc (.cells #[I 0,I 0] 158)).heap[w1.heap.size]? = some (.cells #[I 0,I 0] 158):=Array.getElem?_push_size
    refine ((body25 w1.heap.size 0 x _ (by unfold World.cell?;rw [hb];rfl) (by unfold World.frozen?;rw [hb];rfl)).calls Tryd.func104 rfl).mono ?_;rintro e w2 ⟨r2,rfl,rfl,rfl⟩))
 go_ret
 exact ⟨_,rfl,rfl,rfl,rfl,rfl⟩
theorem body11 (v:World) (i:Int):Body Tryd.f26 #[I i] v (fun r v'=>r=Pt v.heap.size 0∧v'.heap=v.heap.push (.cells #[.pointer none,I i,.chan none,I 0,I 0,I 0,I 0] 107)∧v'.os=v.os∧v'.output=v.output):=by
 intro code hb
 obtain rfl:=Option.some.inj hb
 clear hb
 simp only [Tryd.ntmps26,List.size_toArray,List.length_cons,List.length_nil,Nat.reduceAdd,Nat.reduceSub,Array.replicate_succ,Array.replicate_zero,List.push_toArray,List.append_toArray,List.nil_append,List.cons_append]
 go_wp2_with fail
 go_ret
 exact ⟨_,rfl,rfl,rfl,rfl,rfl⟩
section
variable {tb c c':Nat} {x y:Int} {v v' v'':World}
theorem Fto.stay (h:Fto tb c x v v') (m:Fm tb c x v):v'.heap=v.heap:=by
 apply Array.ext_getElem?
 intro b
 by_cases e:b=c
 ·rw [e,h.fm.cel,m.cel]
 ·exact h.old b e
theorem Fto.other (h:Fto tb c x v v') (m:Fm tb c' y v) (hne:c'≠c):Fm tb c' y v':=⟨h.fm.thr,m.ne,by rw [h.old c' hne];exact m.cel⟩
theorem Fto.cell (h:Fto tb c x v v') {b j:Nat} {u:Value} (hb:b≠c) (hc:v.cell? ⟨b,j,none⟩=some u):v'.cell? ⟨b,j,none⟩=some u:=by
 rw [World.cell?_of_block (w:=v) (w':=v') (h.old b hb)];exact hc
theorem Fto.then (h:Fto tb c x v v') (k:Fto tb c' y v' v'') (m:Fm tb c' y v'):Fto tb c x v v'':=h.same (k.stay m) k.os k.out
end
end Go.Proofs.YtfjjoohflcchnaaDoor.Gen
