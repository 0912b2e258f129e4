/- OnceAlone, whatever the numbers: what a once's Do answers free threads, and what stands in it. No conditions. Part 30 of 30. (Joined, by program, and written short, of: La5e, GOpens, GRowL, La5Row, La5Card.) -/
import Derived.Test.YtfjjoohflcchnaaDoorOnceAlone29
import Derived.Conc.LeavingOf
import Derived.ProofKit
import Derived.OpenShut
import Derived.ChangeOld
import Derived.SizedLaws
import Derived.Lib.SmallJoins
import Derived.Deep.SlicePairs
import Derived.Test.YtfjjoohflcchnaaDoorRows
import Derived.LaidLaws
import Derived.LaidHandle
import Derived.Lay
import Derived.Test.YtfjjoohflcchnaaDoorTie
import Derived.Test.YtfjjoohflcchnaaDoorCards
import Derived.SevenTiedAt
set_option linter.unusedSimpArgs false
set_option linter.unusedVariables false
set_option maxHeartbeats 4000000
set_option maxRecDepth 100000
namespace Go.Proofs.YtfjjoohflcchnaaDoor.Gen
open Go Go.Lift Go.Conc Go.RowKit
section
variable {Ch:Nat→Prop} {Stop:Goroutine→World→Prop} {main:Bool} {b o n cap:Nat} {p:Option Addr} {acts:List (Int×Int)}
theorem law5_rest {v w:World} (hG:Gl v) (hp:0<n→p=some ⟨b,o,none⟩) (hl:acts.length=n) (hn9:(n:Int)<9223372036854775808) (hI:InA v b o acts) (hvw:Rel zn v w) (hn:NoRow Ch v)
 (hend:∀ a' v' w' todo,Rel zn v' w'→Grows v v'→a'.defers=[]→a'.tmps.getD 2 undef=.bool true→GoesI Tryd.prog main (DT (ScZ zn) Ch) Stop (G { (base 5).at a' todo with mode:=.returning } []) w') :
 ∀ a,Fl 41 [(0,.slice p n cap),(3,.bool true)] a→GoesI Tryd.prog main (DT (ScZ zn) Ch) Stop (G ((base 5).at a [.code P5]) []) w:=by
 intro a hA
 unfold P5
 generalize hq0:Value.slice p n cap=l0 at hA
 refine goesI_seq (dt_idle _ _) ?_
 refine goesI_plain (z:=zn) (wr:=true) (L:=LV) (I:=NoRow Ch) hE fineV noRow_keeps (fun v v' w w' es hi hr ho he=>dt_of_z v v' w w' es hi hr ho he) hvw fine5_2 hA.2.1 (by simp [base]) hn (Q:=fun a w'=>Fl 41 [(0,l0),(3,.bool true),(4,Pt (v.heap.size+3) 0)] a∧NwO v w') (fun τ=>wp_mono (p5_2 (v:=onTape v τ 0) hA) fun e a w hq=>⟨hq.1,hq.2.1,⟨hq.2.2.kp,hq.2.2.cw,hq.2.2.cv,hq.2.2.ob,gtape hq.2.2.g⟩⟩) ?_
 rintro a2 v2 w2 ⟨hA2,hN2⟩ hr2 hn2 -
 have hA2':Fl 41 [(0,l0),(4,Pt (v.heap.size+3) 0),(3,.bool true)] a2:=hA2.sub (by simp)
 refine goesI_seq (dt_idle _ _) ?_
 refine goesI_seq (dt_idle _ _) ?_
 refine goesI_plain (z:=zn) (wr:=true) (L:=LV) (I:=NoRow Ch) hE fineV noRow_keeps (fun v v' w w' es hi hr ho he=>dt_of_z v v' w w' es hi hr ho he) hr2 fine5_3 hA2'.2.1 (by simp [base]) hn2 (Q:=fun a w'=>Fl 41 [(16,.bool false),(0,l0),(4,Pt (v.heap.size+3) 0)] a∧w'.heap=v2.heap∧w'.os=v2.os∧w'.output=v2.output) (fun τ=>wp_mono (p5_3 (v:=onTape v2 τ 0) hA2') fun e a w hq=>⟨hq.1,hq.2.1,by rw [hq.2.2];exact ⟨rfl,rfl,rfl⟩⟩) ?_
 rintro a3 v3 w3 ⟨hA3,e3,q3,z3⟩ hr3 hn3 -
 refine goesI_cond (dt_idle _ _) (t:=false) (hA3.at 16 _ (by simp)) ?_
 simp only [if_false,Bool.false_eq_true]
 refine goesI_skip (dt_idle _ _) ?_
 have hA3':Fl 41 [(0,l0),(4,Pt (v.heap.size+3) 0)] a3:=hA3.sub (by simp)
 refine goesI_seq (dt_idle _ _) ?_
 refine goesI_plain (z:=zn) (wr:=true) (L:=LV) (I:=NoRow Ch) hE fineV noRow_keeps (fun v v' w w' es hi hr ho he=>dt_of_z v v' w w' es hi hr ho he) hr3 fine5_5 hA3'.2.1 (by simp [base]) hn3 (Q:=fun a w'=>Fl 41 [(0,l0),(4,Pt (v.heap.size+3) 0),(5,Pt v3.heap.size 0)] a∧w'.heap=v3.heap.push (.cells #[.pointer none,I 7,.chan none,I 0,I 0,I 0,I 0] 107)∧w'.os=v3.os∧w'.output=v3.output) (fun τ=>p5_5 (v:=onTape v3 τ 0) hA3') ?_
 rintro a5 v5 w5 ⟨hA5,e5,q5,z5⟩ hr5 hn5 -
 refine goesI_seq (dt_idle _ _) ?_
 refine goesI_plain (z:=zn) (wr:=true) (L:=LV) (I:=NoRow Ch) hE fineV noRow_keeps (fun v v' w w' es hi hr ho he=>dt_of_z v v' w w' es hi hr ho he) hr5 fine5_6 hA5.2.1 (by simp [base]) hn5 (Q:=fun a w'=>Fl 41 [(0,l0),(4,Pt (v.heap.size+3) 0),(5,Pt v3.heap.size 0),(6,Pt v5.heap.size 0)] a∧w'.heap=v5.heap.push (.cells #[I 0,I 0] 38)∧w'.os=v5.os∧w'.output=v5.output) (fun τ=>wp_mono (p5_6 (v:=onTape v5 τ 0) hA5) fun e a w hq=>⟨hq.1,hq.2.1,by rw [hq.2.2];exact ⟨rfl,rfl,rfl⟩⟩) ?_
 rintro a6 v6 w6 ⟨hA6,e6,q6,z6⟩ hr6 hn6 -
 refine goesI_seq (dt_idle _ _) ?_
 refine goesI_seq (dt_idle _ _) ?_
 refine goesI_plain (z:=zn) (wr:=true) (L:=LV) (I:=NoRow Ch) hE fineV noRow_keeps (fun v v' w w' es hi hr ho he=>dt_of_z v v' w w' es hi hr ho he) hr6 fine5_7 hA6.2.1 (by simp [base]) hn6 (Q:=fun a w'=>Fl 41 [(0,l0),(4,Pt (v.heap.size+3) 0),(5,Pt v3.heap.size 0),(6,Pt v5.heap.size 0),(7,I ((0:Nat):Int))] a∧w'.heap=v6.heap∧w'.os=v6.os∧w'.output=v6.output) (fun τ=>wp_mono (p5_7 (v:=onTape v6 τ 0) hA6) fun e a w hq=>⟨hq.1,hq.2.1,by rw [hq.2.2];exact ⟨rfl,rfl,rfl⟩⟩) ?_
 rintro a7 v7 w7 ⟨hA7,e7,q7,z7⟩ hr7 hn7 -
 have g3:=grows_eqv e3 q3 z3
 have g5:Grows v3 v5:=⟨by rw [e5];simp,fun b hb=>by rw [e5,Array.getElem?_push,if_neg (by omega)],q5,z5⟩
 have g6:Grows v5 v6:=⟨by rw [e6];simp,fun b hb=>by rw [e6,Array.getElem?_push,if_neg (by omega)],q6,z6⟩
 have g7:=grows_eqv e7 q7 z7
 have g27:=gtrans g3 (gtrans g5 (gtrans g6 g7))
 have hgl:=(hG.grows (gtrans hN2.g g27)).flds
 have h2:=hG.lt
 have l5:v.heap.size≤v5.heap.size:=Nat.le_trans hN2.g.size (Nat.le_trans g3.size g5.size)
 have hM:M5 v (v.heap.size+3) v.heap.size (v.heap.size+1) (v.heap.size+2) v3.heap.size v5.heap.size 0 0 0 0 v7:=by
  refine ⟨⟨grows_at g27 hN2.ob,grows_at g27 hN2.kp,grows_at g27 hN2.cw,grows_at g27 hN2.cv,grows_at (gtrans g6 g7) (by rw [e5];exact Array.getElem?_push_size),hgl,by omega,by omega,by omega⟩,by rw [e7,e6];exact Array.getElem?_push_size,gtrans hN2.g g27,⟨by omega,by omega,l5⟩,by omega⟩
 refine goesI_block (dt_idle _ _) ?_
 refine goesI_loop (dt_idle _ _) ?_
 subst hq0
 refine loop5 hp hl hn9 hI [] _ (fun a' v' w' hr' hn' hb' hs' hd'=>?_) n 0 a7 v7 w7 0 0 0 0 (by omega) hr7 hn7 hA7 hM (.inl ⟨rfl,by kernel_rfl⟩)
 refine goesI_retZ (Q:=fun a w'=>a.tmps.getD 2 undef=.bool true∧w'.heap=v'.heap∧w'.os=v'.os∧w'.output=v'.output) hr' hn' fine_T5 hd' (fun τ=>T5_wp (v:=onTape v' τ 0) hs' hd') (fun a'' v'' w'' todo hQ hd hr'' hn''=>hend a'' v'' w'' todo hr'' (gtrans hb' (grows_eqv hQ.2.1 hQ.2.2.1 hQ.2.2.2)) hd hQ.1)
end
theorem law5_in {Ch:Nat→Prop} {Stop:Goroutine→World→Prop} {main:Bool} {w:World} (x0:Value)
 (hk:∀ (w':World) (bd:Frame) (ad:Act) (od:Array Oper) (qd:Nat) (rd:List Nat) (oe:Oper) (kd:List Item),(∃ d,w'=w.at d)→od[qd]? = some oe →
   (∀ (Ch:Nat→Prop) (Stop:Goroutine→World→Prop) (w1:World),(∀ a,Fl 41 [(0,x0),(3,.bool true)] a→GoesI Tryd.prog main (DT (ScZ zn) Ch) Stop (G ((base 5).at a [.code P5]) []) w1)→GoesI Tryd.prog main (DT (ScZ zn) Ch) Stop (G (bd.at (ad.put oe.dst (.bool true)) (.inRegion od rd :: kd)) []) w1) →
   GoesI Tryd.prog main (DT (ScZ zn) Ch) Stop (G ((base 16).at { tmps:=Array.replicate 26 undef,defers:=[] } [.code B7]) [bd.at ad (.inRegion od (qd :: rd) :: kd)]) w') :
 GoesI Tryd.prog main (DT (ScZ zn) Ch) Stop (G ((base 5).at { tmps:=#[x0]++Array.replicate 40 undef,defers:=[] } [.code LB5]) []) w:=by
 rw [show LB5=.seq q5_0 (.seq q5_1 P5) from rfl]
 simp only [Array.replicate_succ,Array.replicate_zero,List.push_toArray,List.append_toArray,List.nil_append,List.cons_append]
 refine goesI_seq (dt_idle _ _) ?_
 generalize hR:P5=R9 at hk ⊢
 unfold q5_0 q5_1 C5 Tryd.f5 seq1 seq2
 simp only [Option.getD_some]
 refine goesI_region (dt_idle _ _) ?_
 simp only [List.size_toArray,List.length_cons,List.length_nil,Nat.reduceAdd,Nat.zero_add,List.range,List.range.loop]
 iterate 1
  (refine goesI_oper rfl rfl (by decide) (fun d K hK=>?_)
   go_simp
   refine hK _ _ ⟨dt_reads (fun e he=>?_),GoesI.at ?_ d⟩
   ·have hm:=mem_listed he
    simp [go_sem, *] at hm
    try exact ⟨_,_,hm⟩
   clear hK K)
 refine goesI_regionEnd (dt_idle _ _) ?_
 refine goesI_seq (dt_idle _ _) ?_
 refine goesI_region (dt_idle _ _) ?_
 simp only [List.size_toArray,List.length_cons,List.length_nil,Nat.reduceAdd,Nat.zero_add,List.range,List.range.loop]
 refine goesI_into (f:=16) (fn:=Tryd.f16) (args:=#[]) (dt_idle _ _) rfl rfl (by decide) rfl (by simp [Act.eval]) Tryd.func16 (by decide) rfl ?_
 refine hk w _ _ _ _ _ _ _ ⟨w.drawn,rfl⟩ rfl (fun Ch Stop w1 hg=>?_)
 clear hk
 iterate 1
  (refine goesI_oper rfl rfl (by decide) (fun d K hK=>?_)
   go_simp
   refine hK _ _ ⟨dt_reads (fun e he=>?_),GoesI.at ?_ d⟩
   ·have hm:=mem_listed he
    simp [go_sem, *] at hm
    try exact ⟨_,_,hm⟩
   clear hK K)
 refine goesI_regionEnd (dt_idle _ _) ?_
 exact hg _ ⟨rfl,rfl,by
  intro p hp
  simp only [List.mem_cons,List.not_mem_nil,or_false] at hp
  rcases hp with rfl|rfl<;>rfl⟩
theorem end5 {a:Act} {todo:List Item} {w:World} (hd:a.defers=[]) (h4:a.tmps.getD 2 undef=.bool true):stepG Tryd.prog true (G { (base 5).at a todo with mode:=.returning } []) w=.ended (.done (.bool true)) w #[]:=by
 have hr:(results Tryd.f5 a.tmps).run Tryd.prog w=.ok (.bool true) w:=by rw [results_tmp (t:=2) rfl,h4]
 have he:(results Tryd.f5 a.tmps).events Tryd.prog w #[]=#[]:=by simp [results,go_sem,Tryd.f5]
 simp [G,stepG,unwind,Frame.at,hd,Tryd.func5,base,hr,he,doReturn,GStep.after,seen]
theorem run5 (W:World) (hGl:Gl W) {b o n cap:Nat} {p:Option Addr} {acts:List (Int×Int)} (hp:0<n→p=some ⟨b,o,none⟩) (hl:acts.length=n) (hn9:(n:Int)<9223372036854775808) (hI:InA W b o acts) :
 ∃ M last o w' t',runNT Tryd.prog (M+1) (solo (G (Frame.enter Tryd.prog 5 #[.slice p n cap] .normal) []) W) #[]=(.ended o w',t') ∧
   runN Tryd.prog M (solo (G (Frame.enter Tryd.prog 5 #[.slice p n cap] .normal) []) W)=.next last∧step Tryd.prog last=.ended o w'∧Go.Conc.Good Tryd.prog (PostT W) last o w' t':=by
 have e:Frame.enter Tryd.prog 5 #[.slice p n cap] .normal=(base 5).at { tmps:=#[.slice p n cap]++Array.replicate 40 undef,defers:=[] } [.code LB5]:=enter_at (fn:=Tryd.f5) (c:=LB5) _ Tryd.func5 (by rfl)
 rw [e,solo_eq_crowd]
 have A:Alone #[G ((base 5).at { tmps:=#[.slice p n cap]++Array.replicate 40 undef,defers:=[] } [.code LB5]) []] W #[] (fun _=>0):=⟨leavers_one _ _,0,Nat.zero_le _,past_nil⟩
 obtain ⟨N1,gs1,a1,w1,sl1,T1,q1,r1,z1,h1,⟨bd,ad',od,qd,rd,oe,kd,⟨d1,rfl⟩,hoe,hback,rfl⟩,A1⟩:=alone_goes A rfl none (Stop:=fun g w'=>∃ (bd:Frame) (ad:Act) (od:Array Oper) (qd:Nat) (rd:List Nat) (oe:Oper) (kd:List Item),(∃ d,w'=W.at d)∧od[qd]? = some oe ∧
  (∀ (Ch:Nat→Prop) (Stop:Goroutine→World→Prop) (w1:World),(∀ a,Fl 41 [(0,.slice p n cap),(3,.bool true)] a→GoesI Tryd.prog true (DT (ScZ zn) Ch) Stop (G ((base 5).at a [.code P5]) []) w1)→GoesI Tryd.prog true (DT (ScZ zn) Ch) Stop (G (bd.at (ad.put oe.dst (.bool true)) (.inRegion od rd :: kd)) []) w1) ∧
  g=G ((base 16).at { tmps:=Array.replicate 26 undef,defers:=[] } [.code B7]) [bd.at ad (.inRegion od (qd :: rd) :: kd)])
  (law5_in _ (fun w' bd ad od qd rd oe kd hw ho hback=>GoesI.stop fun d=>⟨bd,ad,od,qd,rd,oe,kd,by obtain ⟨d0,rfl⟩:=hw;exact ⟨d,rfl⟩,ho,hback,rfl⟩))
 obtain ⟨N2,gs2,w2,sl2,T2,q2,r2,h2,A2,g2⟩:=oawake_all hoe sl1 A1 (w:=W.at d1) (show Gl (W.at d1) from ⟨hGl.a,hGl.b,hGl.c⟩) h1
 have g2':Grows W w2:=⟨g2.size,g2.old,g2.os,g2.output⟩
 obtain ⟨N3,gs3,a3,w3,sl3,T3,q3,r3,z3,h3,⟨a',todo,hd,h4,g3,rfl⟩,A3⟩:=alone_goes A2 h2 sl2 (Stop:=fun g w'=>∃ a' todo,a'.defers=[]∧a'.tmps.getD 2 undef=.bool true∧Grows w2 w'∧g=G { (base 5).at a' todo with mode:=.returning } []) (hback (fun _=>False) _ w2 (law5_rest (hGl.grows g2') hp hl hn9 (hI.grows g2') (Rel.refl w2) (fun c hc=>hc.elim) (fun a' v' w' todo hr hgr hd h4=>GoesI.stop fun d=>⟨a',todo,hd,h4,hgr.toAt hr d,rfl⟩)))
 have hfin:Grows W w3:=g2'.andThen g3
 obtain ⟨M4,last,o,w',t',e1,e2,e3,e4⟩:=alone_ends A3 h3 sl3 (Post:=PostT W) (fun B d=>⟨rfl,.bool true,#[],end5 hd h4,fun e he=>by simp at he,rfl,⟨hfin.size,hfin.old,hfin.os,hfin.output⟩⟩)
 have hrun:=runNT_then (runNT_then r1 r2) r3
 refine ⟨N1+N2+N3+M4,last,o,w',t',?_,?_,e3,e4⟩
 ·rw [Nat.add_assoc,runNT_add,hrun];exact e1
 ·rw [runN_add,←runNT_fst Tryd.prog _ _ #[],hrun];exact e2
end Go.Proofs.YtfjjoohflcchnaaDoor.Gen
namespace Go.Proofs.YtfjjoohflcchnaaDoor.Gen
open Go Go.Lift Go.Conc
open Go.ChangeShapes Go.WideShapes Go.ChangeAt Go.RowKit Go.Joins Go.Deep
theorem op_knob:ownKnob Tryd.prog.godebug=none:=by kernel_rfl
theorem op_cells3:Tryd.prog.cellsOf 3=1:=by kernel_rfl
section
variable {H:Type} {enc:TypeId×Value→H} {w:World}
def Sc (w:World) (v:Value) (q:Option Addr×Nat×Nat×List Cl):Prop :=
 v=.slice q.1 q.2.2.2.length q.2.1∧(0<q.2.2.2.length→q.1=some ⟨q.2.2.1,roOf q.1,none⟩)∧(∀ (k:Nat) (c:Cl),q.2.2.2[k]? = some c→w.cell? ⟨q.2.2.1,roOf q.1+k*4,none⟩=some (I c.po)∧w.cell? ⟨q.2.2.1,roOf q.1+k*4+1,none⟩=some (I c.ca)∧w.cell? ⟨q.2.2.1,roOf q.1+k*4+2,none⟩=some (I c.cb)∧w.cell? ⟨q.2.2.1,roOf q.1+k*4+3,none⟩=some (I c.cc))∧∀ c∈q.2.2.2,InR c.ca∧c.ok
end
theorem grows_frame {W w':World} (h:Grows W w') (may:MemPlace→Prop):W.keptBut w' may:=by
 refine ⟨h.os,h.output,fun i hi=>?_⟩
 rw [h.old i hi]
 split<;>simp_all
theorem grows_same {W w':World} (h:Grows W w') {p:MemPlace} (hp:p.block<W.heap.size):W.sameAt w' p:=by
 cases p with
 |cell b o=>exact World.cell?_of_block (w:=W) (h.old b hp)
 |map b=>exact h.old b hp
theorem op_laid:laidOutB Tryd.prog=true:=by kernel_rfl
theorem grows_trod {H:Type} {enc:TypeId×Value→H} {t:TypeId} (hr:Tryd.prog.readableRec t=true) (hrow:t<Tryd.prog.types.size) {W W':World} {v:Value} {d:DataW H} {ps:List MemPlace}
 (h:DataW.Trod enc Tryd.prog W 0 (fun _=>true) true t v d ps) (hb:Grows W W') (hlt:∀ x∈ps,x.block<W.heap.size) :
 DataW.Trod enc Tryd.prog W' 0 (fun b=>decide (b<W.heap.size)) true t v d ps :=
 WideElems.Trod_stays op_laid hr hrow h (fun x hx=>grows_same hb (hlt x hx)) (fun x hx=>by simpa using hlt x hx)
end Go.Proofs.YtfjjoohflcchnaaDoor.Gen
namespace Go.Proofs.YtfjjoohflcchnaaDoor
open Go Go.Lift Go.Conc
open Go.ChangeShapes Go.WideShapes Go.ChangeAt Go.RowKit Go.Joins Go.Deep
open Gen
section
variable {H:Type} {enc:TypeId×Value→H}
theorem leaving_and {a:Assume} {C:Checked} {os:Os} {f:FuncId} {fn:Func} {s:ChangeSpec} {X:World→Array Value→Prop}
 (hX:∀ (w w':World) (args:Array Value),w.heap=w'.heap→X w args→X w' args)
 (own:ownKnob C.prog.godebug=none) (started:os.Started) (hfn:C.prog.funcs[f]? = some fn)
 (wit:∃ (w:World) (tape:Tape) (i:Input),w.os=os∧(w.forCall tape i).Shaped C.prog∧i.vars=[]∧Input.okWide C.prog (w.forCall tape i) .any w.heap.size f i ∧
   ((s.pre enc C.prog fn [] false (w.forCall tape i).memory i.args∧X (w.forCall tape i).memory i.args)∧sizedMet enc C.prog fn (OpenSpec.ofChange s) false (w.forCall tape i).memory i.args)∧a.holds C.prog (lone (Frame.enter C.prog f i.args .normal) [] (w.forCall tape i)))
 (runs:∀ (W:World) (base:Nat) (args:Array Value) (ds gs:List (DataW H)) (before:List MemPlace),
   (∀ (j:Nat) t v,fn.params[j]? = some t→args[j]? = some v→Value.okWide C.prog W .any base t v) →
   DataW.Whole enc C.prog fn.params.toList s.vars false W args.toList ds gs before →
   (DataW.weightsEach C.prog (fn.params.toList++s.plain.varTypes C.prog) (ds++gs)).all (·≤reachBytes)=true→X W args →
   ∃ M last o w' t',runNT C.prog (M+1) (solo (G (Frame.enter C.prog f args .normal) []) W) #[]=(.ended o w',t')∧runN C.prog M (solo (G (Frame.enter C.prog f args .normal) []) W)=.next last ∧
     step C.prog last=.ended o w'∧Conc.Good C.prog (fun v W'=>s.post enc C.prog fn false true false false W args v W') last o w' t') :
 ReturnsInLeavingWide a C os f .any (fun w args=>(s.pre enc C.prog fn [] false w args∧X w args)∧sizedMet enc C.prog fn (OpenSpec.ofChange s) false w args) (s.post enc C.prog fn false true false false):=by
 refine returnsInLeavingWide_of_good own started wit ?_
 intro w tape i _ _ _ hok hpre _
 obtain ⟨_,_,_,fn',hfn',_,_,_,_,hval⟩:=hok
 have e:fn'=fn:=Option.some.inj (hfn'.symm.trans hfn)
 subst e
 obtain ⟨⟨⟨ds,gs,before,hw,hc⟩,hx⟩,hz⟩:=hpre
 have hw':=DataW.Whole.of_heap (w':=w.forCall tape i) (by rfl) hw
 obtain ⟨M,last,o,w',t',h1,h2,h3,h4⟩:=runs (w.forCall tape i) w.heap.size i.args ds gs before hval hw' (hz.weights hw) (hX _ _ _ (by rfl) hx)
 exact ⟨M,last,o,w',t',h1,h2,h3,h4.mono fun v hp=>ChangeSpec.post_blind hp⟩
end
theorem fieldT0:(Tryd.prog.globals[1]?).map (·.type)=some 124:=by kernel_rfl
theorem fieldT1:(Tryd.prog.globals[2]?).map (·.type)=some 124:=by kernel_rfl
theorem fieldT2:(Tryd.prog.globals[3]?).map (·.type)=some 124:=by kernel_rfl
theorem cells108:Tryd.prog.cellsOf 124=2:=by kernel_rfl
theorem field_open {w:World} {fuel:Nat} {cs:List Value} {x y:Int} {p:List MemPlace} (h:DataW.trod (fun _=>()) Tryd.prog w 0 (fun _=>true) false fuel 124 cs=some (.agg [.lit (.int .i64 x),.lit (.int .i64 y)],p)):cs=[I x,I y]:=by
 obtain ⟨xs,k,hk,hxy,hl,hxl,hf⟩:=DataW.trod_struct Tryd.underlying124 h
 rw [cells108] at hl
 match xs,hxl,cs,hl with
 | [y0,y1],_,[c0,c1],_ =>
  have g0:=hf 0 _ rfl
  have g1:=hf 1 _ rfl
  simp [op_cells3] at g0 g1
  obtain ⟨a0,e0,f0,_⟩:=DataW.trod_int Tryd.underlying3 g0
  obtain ⟨a1,e1,f1,_⟩:=DataW.trod_int Tryd.underlying3 g1
  simp at e0 e1
  subst e0 e1 f0 f1
  simp at hxy
  obtain ⟨⟨rfl,rfl⟩,_⟩:=hxy
  rfl
theorem var_row {w:World} {n:String} {g:Nat} {cs:Array Value} (hg:Tryd.prog.globalNamed n=some g) (h:w.var? Tryd.prog n=some cs):∃ t f,w.heap[g]? = some (.cells cs t f):=by
 simp only [World.var?,hg,Option.bind_some] at h
 split at h
 ·rename_i c t f e
  cases h
  exact ⟨t,f,e⟩
 ·cases h
abbrev laidC : List (String × DataW Unit) := [("butler/kept.fieldState", Rows.laid_butler_kept_fieldState), ("butler/kept.fieldWho", Rows.laid_butler_kept_fieldWho), ("butler/kept.fieldCode", Rows.laid_butler_kept_fieldCode)]
theorem gS : Tryd.prog.globalNamed "butler/kept.fieldState" = some 1 := by kernel_rfl
theorem gC : Tryd.prog.globalNamed "butler/kept.fieldCode" = some 2 := by kernel_rfl
theorem gW : Tryd.prog.globalNamed "butler/kept.fieldWho" = some 3 := by kernel_rfl
theorem gl_laid {W:World} (h:laidMetH Tryd.prog laidC W):Gl W:=by
 have h':laidMet Tryd.prog laidC W:=h
 obtain ⟨ps,hv,_,_⟩:=h'
 obtain ⟨g,t,cs,fuel,p,q,e1,e2,e3,e4,hr,rfl⟩:=hv
 obtain ⟨g',t',cs',fuel',p',q',k1,k2,k3,k4,hr',rfl⟩:=hr
 obtain ⟨g'',t'',cs'',fuel'',p'',q'',l1,l2,l3,l4,hr'',rfl⟩:=hr'
 obtain rfl:=Option.some.inj (gS.symm.trans e1)
 obtain rfl:=Option.some.inj (gW.symm.trans k1)
 obtain rfl:=Option.some.inj (gC.symm.trans l1)
 obtain rfl:=Option.some.inj (fieldT0.symm.trans e2)
 obtain rfl:=Option.some.inj (fieldT2.symm.trans k2)
 obtain rfl:=Option.some.inj (fieldT1.symm.trans l2)
 have f1:=field_open e4
 have f2:=field_open k4
 have f3:=field_open l4
 obtain ⟨ty,fz,r1⟩:=var_row gS e3
 obtain ⟨ty',fz',r2⟩:=var_row gW k3
 obtain ⟨ty'',fz'',r3⟩:=var_row gC l3
 have c1:cs=#[I 0,I 2]:=by rw [←f1]
 have c2:cs'=#[I 2,I 8]:=by rw [←f2]
 have c3:cs''=#[I 10,I 20]:=by rw [←f3]
 subst c1 c2 c3
 exact ⟨⟨_,_,_,r1,rfl,rfl⟩,⟨_,_,_,r3,rfl,rfl⟩,⟨_,_,_,r2,rfl,rfl⟩⟩
noncomputable def laidW (os:Os):World:=World.laidAll Tryd.prog os laidC
theorem laidW_met (os:Os) (args:Array Value):laidMetH Tryd.prog laidC ((laidW os).forCall (fun _ _=>0) ⟨#[],args,[]⟩).memory:=laidMet_laidAll (laid:=laidC) args (by kernel_rfl) (by kernel_rfl)
theorem op_cells52:Tryd.prog.cellsOf 52=2:=by kernel_rfl
theorem op_bytes52:Tryd.prog.bytesOf 52=16:=by kernel_rfl
section
variable {H:Type} {enc:TypeId×Value→H} {w:World}
theorem act_open:∀ fuel cs (y:DataW H×List MemPlace),cs.length=2→DataW.trod enc Tryd.prog w 0 (fun _=>true) true fuel 52 cs=some y→∃ a:Int×Int,cs=[I a.1,I a.2]:=by
 intro fuel cs y hl h
 obtain ⟨xs,k,hk,hxy,_,hxl,hf⟩:=DataW.trod_struct Tryd.underlying52 h
 match xs,hxl,cs,hl with
 | [y0,y1],_,[c0,c1],_ =>
  have g0:=hf 0 _ rfl
  have g1:=hf 1 _ rfl
  simp [op_cells3] at g0 g1
  obtain ⟨a0,e0,_,f0⟩:=DataW.trod_int Tryd.underlying3 g0
  obtain ⟨a1,e1,_,f1⟩:=DataW.trod_int Tryd.underlying3 g1
  simp at e0 e1
  subst e0 e1
  exact ⟨(a0,a1),rfl⟩
theorem acts_in {r:Reach} {b0:Nat} {v:Value} {d:DataW H} {ps:List MemPlace} (hv:Value.okWide Tryd.prog w r b0 45 v) (h:DataW.Trod enc Tryd.prog w 0 (fun _=>true) true 45 v d ps) (hsz:∀ elems spare,d=.slice elems spare→(elems.length+spare.length)*Tryd.prog.bytesOf 52≤reachBytes) :
 ∃ (p:Option Addr) (cap b o:Nat) (acts:List (Int×Int)),v=.slice p acts.length cap∧(0<acts.length→p=some ⟨b,o,none⟩)∧InA w b o acts∧acts.length≤17592186043904:=by
 obtain ⟨a0,len0,cap0,rfl⟩:=okWide_slice Tryd.underlying45 hv
 obtain ⟨fuel,hf⟩:=h
 rcases open_slice Tryd.underlying45 hf with ⟨hcs,_⟩|⟨ad,len,cap,m,k,D,Pl,hcs,_,hl,hm,hmm,hxe,hx⟩
 ·simp [Value.cells] at hcs
  obtain ⟨rfl,rfl,rfl⟩:=hcs
  exact ⟨none,0,0,0,[],rfl,fun h=>by simp at h,fun k kd y hk=>by simp at hk,Nat.zero_le _⟩
 ·simp [Value.cells] at hcs
  obtain ⟨rfl,rfl,rfl⟩:=hcs
  simp only [if_true] at hmm
  subst hmm
  have hb:=hsz _ _ (congrArg Prod.fst hxe)
  rw [op_bytes52] at hb
  simp only [List.length_map,List.length_range] at hb
  have hlen:len0≤17592186043904:=by unfold reachBytes at hb;omega
  have each:∀ i,i<len0→∃ a:Int×Int,∀ j,j<2→w.cell? ((ad.add (i*2)).add j)=[I a.1,I a.2][j]?:=by
   intro i hi
   obtain ⟨cs',h1,h2⟩:=hx i (by omega)
   rw [op_cells52] at h1
   obtain ⟨_,hlen,hc⟩:=World.cells?_some h1
   obtain ⟨a,rfl⟩:=act_open _ _ _ hlen h2
   exact ⟨a,hc⟩
  have ie:Inhabited (Int×Int):=⟨(0,0)⟩
  obtain ⟨q,hq⟩:=choose_lt each
  obtain ⟨b,off,spot⟩:=ad
  by_cases h0:len0=0
  ·subst h0
   exact ⟨_,_,0,0,[],rfl,fun h=>by simp at h,fun k kd y hk=>by simp at hk,Nat.zero_le _⟩
  ·have c01:w.cell? (((⟨b,off,spot⟩:Addr).add (0*2)).add 0)=some (I (q 0).1):=hq 0 (by omega) 0 (by omega)
   have hspot:spot=none:=by
    have:=World.cell?_spot c01
    simpa [Addr.add] using this
   subst hspot
   have hadd:∀ (o j:Nat),(⟨b,o,none⟩:Addr).add j=⟨b,o+j,none⟩:=by intro o j;unfold Addr.add;split<;>simp_all
   refine ⟨some ⟨b,off,none⟩,m,b,off,(List.range len0).map q,by simp,fun _=>rfl,fun i kd y hi=>?_,by simpa using hlen⟩
   have hil:i<len0:=by simpa using (List.getElem?_eq_some_iff.1 hi).1
   have ha:q i=(kd,y):=by simp [hil] at hi;exact hi
   have k0:=hq i hil 0 (by omega)
   have k1:=hq i hil 1 (by omega)
   rw [hadd,hadd] at k0 k1
   rw [ha] at k0 k1
   exact ⟨k0,k1⟩
end
theorem onceAlone_lifted (os:Os) (started:os.Started) (H:Type) (enc:TypeId×Value→H) :
 ReturnsInLeavingWide {} Tryd.checked os 5 .any (fun w args=>(Rows.onceAloneSpec.pre enc Tryd.prog Tryd.f5 [] false w args∧laidMetH Tryd.prog laidC w)∧sizedMet enc Tryd.prog Tryd.f5 (OpenSpec.ofChange Rows.onceAloneSpec) false w args) (Rows.onceAloneSpec.post enc Tryd.prog Tryd.f5 false true false false):=by
 refine leaving_and (C:=Tryd.checked) (X:=fun w _=>laidMetH Tryd.prog laidC w) (fun _ _ _ hh h=>laidMet.of_heap (l:=laidC) hh h) op_knob started Tryd.func5
  (ChangeSpec.witness_at (enc:=enc) (C:=Tryd.checked) (os:=os) (X:=fun w _=>laidMetH Tryd.prog laidC w) false (laidW os) #[.slice none 0 0] 8 (World.laidAll_os _ _ _) (by kernel_rfl) (by kernel_rfl) (by kernel_rfl) (by kernel_rfl) (by kernel_rfl) (laidW_met os _)) ?_
 intro W base args ds gs before hval0 hW hsz0 hL
 have hval:∀ (j:Nat) t v,Tryd.f5.params[j]? = some t→args[j]? = some v→Value.okWide Tryd.prog W .any base t v:=hval0
 have hW':=hW
 obtain ⟨p,q,hA0,hV,rfl,_,_⟩:=hW
 have hA:DataW.TrodAll enc Tryd.prog W 0 (fun _=>true) true Tryd.f5.params.toList args.toList ds p:=hA0
 have hsz:(DataW.weightsEach Tryd.prog (Tryd.f5.params.toList++Rows.onceAloneSpec.plain.varTypes Tryd.prog) (ds++gs)).all (·≤reachBytes)=true:=hsz0
 rw [Tryd.params5] at hA hval hsz
 obtain ⟨v0,vs0,d0,ds0,p0,q0,hargs,rfl,rfl,h0,r0⟩:=trodAll_cons hA
 obtain ⟨rfl,rfl,rfl⟩:=trodAll_nil r0
 obtain rfl:args=#[v0]:=by cases args;simp_all
 obtain ⟨rfl,rfl⟩:=trodVars_none hV
 have k0:=h0
 have lt0:∀ x∈p0,x.block<W.heap.size:=by obtain ⟨m,hm⟩:=k0;exact DataW.trod_lt m _ _ _ hm
 obtain ⟨p',cap',b',o',acts,e1,hP,hI,hlen⟩:=acts_in (hval 0 45 v0 rfl rfl) h0 (fun el sp e=>sized_slice hsz (j:=0) rfl (by rw [e];rfl) Tryd.underlying45)
 clear hA0 hval0 hsz0
 subst e1
 simp only [List.append_nil] at hW'
 obtain ⟨M,last,oo,w',t',g1,g2,g3,g4⟩:=run5 W (gl_laid hL) (n:=acts.length) (cap:=cap') hP rfl (by omega) hI
 refine ⟨M,last,oo,w',t',g1,g2,g3,g4.mono fun v hF=>?_⟩
 obtain ⟨rfl,bel⟩:PostT W v w':=hF
 exact ⟨_,_,_,[],_,[],hW',trodAll_mk1 (shut_bool Tryd.underlying4 _),
  (trodAll_cons_mk (grows_trod (by kernel_rfl) (of_decide_eq_true (by kernel_rfl)) k0 bel lt0) trodAll_mk0),rfl,grows_frame bel _,fun h=>by cases h⟩
theorem onceAlone_holds:Rows.OnceAloneSaid :=
 OpenClaim.holds_of_wide_leaving 5 Tryd.f5 rfl rfl rfl rfl rfl rfl rfl ⟨rfl,rfl,rfl,rfl,rfl⟩ rfl rfl rfl rfl rfl (by kernel_rfl) Tryd.func5 (by kernel_rfl)
  (of_decide_eq_true (by kernel_rfl)) (by unfold Func.isWrapper;first|(rw [if_pos (by decide +kernel)];kernel_rfl)|(rw [if_neg (by decide +kernel)];exact ⟨rfl,rfl⟩))
  (fun os started H enc _=>onceAlone_lifted os started H enc)
end Go.Proofs.YtfjjoohflcchnaaDoor
namespace Go.Proofs.YtfjjoohflcchnaaDoor
open Go
theorem card_goes {p:Pinned} {s:OpenSpec} {c:OpenClaim} {kinds:List LaidKind} {tests:Bool} {har:Bool×String} {lk:Bool} (Lk:Looks)
 (hc:c.holds p s) (hw:c.wfByText s=true) (htie:c.laidByTextAt Lk p kinds tests)
 (hst:c.start=.entering) (hnb:c.noBlocks=false∧c.again=false) (hm:p.checked.prog.mainIs=some (har.1,har.2.toList)) (hn:(!har.1&&har.2.isEmpty&&!lk)=false)
 (hl:∀ f fn,p.checked.prog.funcNamed c.func=some f→p.checked.prog.funcs[f]? = some fn→lk=p.checked.prog.looks []∧∀ (j:Nat) t,fn.params[j]? = some t→p.checked.prog.wantsStandIn t=false)
 (hg:true=c.goesBy p.checked.prog) :
 Claim7.holds p (.plain s) { stood:={ row:=c,standIns:=[],harness:=har,looks:=lk },kinds:=[],alts:=[],goes:=true,laidByText:=true,laidKinds:=kinds,laidTests:=tests,laidLooks:=Lk }:=by
 have h6:Claim7.isSixth { stood:={ row:=c,standIns:=[],harness:=har,looks:=lk },kinds:=[] }=false:=by simpa [Claim7.isSixth] using hn
 have h1:=Claim7.new_of_sixth hc har lk hst hnb hm h6 hl
 obtain ⟨_,rest⟩:=h1
 exact ⟨⟨hw,rest⟩,fun D hD=>(by cases hD),htie,(fun h=>by cases h),hg⟩
theorem onceAlone_card:Rows.OnceAloneCardSaid :=
 card_goes .later onceAlone_holds (by kernel_rfl) onceAlone_row_tie rfl ⟨rfl,rfl⟩ (by kernel_rfl) rfl
  (fun f fn hf hfn=>by
    obtain rfl : f = 5 := Option.some.inj ((show Tryd.prog.funcNamed "butler/butlerlaw07.OnceAlone" = some 5 by kernel_rfl).symm.trans hf) |>.symm
    obtain rfl:fn=Tryd.f5:=(Option.some.inj (Tryd.func5.symm.trans hfn)).symm
    exact ⟨by kernel_rfl,fun j t ht=>by
     rw [Tryd.params5] at ht
     have hm:t∈[45]:=by simpa using Array.mem_of_getElem? ht
     have hall:([45].all fun u=>!Tryd.prog.wantsStandIn u)=true:=by kernel_rfl
     exact (show Tryd.prog.wantsStandIn t=false by simpa using List.all_eq_true.1 hall t hm)⟩)
  (by kernel_rfl)
#print axioms onceAlone_card
end Go.Proofs.YtfjjoohflcchnaaDoor
