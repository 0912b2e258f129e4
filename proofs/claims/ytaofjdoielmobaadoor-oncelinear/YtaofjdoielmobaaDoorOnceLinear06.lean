/- Of the proof of OnceLinear. Part 6 of 30. (Joined, by program, and written short, of: Awake2, Lift27, AwaitNo, Lift28, Ready, Play5, Pick, Scan.) -/
import Derived.Test.YtaofjdoielmobaaDoorOnceLinear04
import Derived.Test.YtaofjdoielmobaaDoorOnceLinear05
import Derived.Conc.DeferLaws
import Derived.Conc.QuitsD
import Derived.WalkLawsBesides
set_option linter.unusedSimpArgs false
set_option linter.unusedVariables false
set_option maxHeartbeats 4000000
set_option maxRecDepth 100000
namespace Go.Proofs.YtaofjdoielmobaaDoor
open Go Go.Lift Go.Conc Go.RowKit
def WakeBack (main:Bool) (i tb:Nat) (c:Int) (cl:Value->Goroutine) (g:Goroutine):Prop :=
 ∀ (z:Nat->Option Nat) (Ch:Nat->Prop) (Stop:Goroutine->World->Prop) (y:Value) (w v:World) (S:TS) (K:List (Nat×Int)) (t:Thr),Rel z v w->Ah Ch v->Mem z S K v->S.thr[i]? = some t->t.tb=tb->(S.stk=false->(S.n+1)*40≤140737488355328) ->
   (∀ v' w' tv,S.stk=false->Rel z v' w'->Ah Ch v'->Evo z S K v (Be S tv i 6 c 0 0) K v'->GoesI Tryd.prog main (DT (ScZ z) Ch) Stop (cl (.bool true)) w') ->
   (∀ v' w',S.stk=true->Rel z v' w'->Ah Ch v'->Evo z S K v S K v'->GoesI Tryd.prog main (DT (ScZ z) Ch) Stop (cl (.bool false)) w') ->
   GoesI Tryd.prog main (DT (ScZ z) Ch) Stop (Go.Conc.served g y) w
noncomputable def rest31:Code:=seq2 (seq2 (seq2 (seq2 (Tryd.f50.body.getD .skip))))
theorem fine31:As Tryd.prog true LT rest31:=Ba Bi extT (by kernel_rfl)
theorem res31 (tmps:Array Value):∃ v,(∀ w,(results Tryd.f50 tmps).run Tryd.prog w=.ok v w)∧∀ w,(results Tryd.f50 tmps).events Tryd.prog w #[]=#[] :=
 ⟨_,fun w=>results_tmp rfl _ _ _,fun w=>by simp[results,go_sem]⟩
theorem tail31 {z:Nat->Option Nat}{S:TS}{K:List (Nat×Int)}{v:World}{i:Nat}{t:Thr}{c:Int}(hm:Mem z S K v) (ht:S.thr[i]? = some t) (hn:S.stk=false->(S.n+1)*40≤140737488355328) (a6 a7 a8 a9 a10 a15 a16 a17 a18 a19 a20 a21 a22 a23 a24:Value) :
 rest31.wp Tryd.prog (bodyPost Tryd.prog Tryd.f50 (fun e w'=>∃ r,e=.returned r∧((r=.bool true∧S.stk=false∧∃ tv,Evo z S K v (Be S tv i 6 c 0 0) K w')∨(r=.bool false∧S.stk=true∧Evo z S K v S K w'))))
  { tmps:=#[Pt t.tb 0,I c,undef,undef,.bool false,undef,a6,a7,a8,a9,a10,undef,undef,undef,undef,a15,a16,a17,a18,a19,a20,a21,a22,a23,a24,undef,undef,undef,undef,undef,undef,undef,undef,undef,undef],defers:=[] } v:=by
 obtain ⟨c0,_⟩:=hm.rep.cell ht
 obtain ⟨_,_,_,_,_,_,c6,_⟩:=hm.rep.wcell
 have HM:Hid (Mem z S K v):=⟨hm⟩
 clear hm
 show Code.wp Tryd.prog (seq2 (seq2 (seq2 (seq2 (Tryd.f50.body.getD .skip))))) _ _ _
 unfold Tryd.f50 seq2
 simp only[Option.getD_some]
 cases hs:S.stk with
 |true =>
  rw[hs] at c6
  go_wp2_with fail
  go_ret
  exact ⟨_,rfl,rfl,Evo.refl HM.out⟩
 |false =>
  rw[hs] at c6
  go_wp2_with (go_at_call 82;refine ((note_rep HM.out.rep ht 6 c 0 0 (hn hs)).calls Tryd.func82 rfl).mono ?_;rintro e w1 ⟨_,rfl,rfl,tv,hev⟩)
  go_ret
  exact ⟨_,rfl,rfl,tv,Evo.of_ev HM.out hev rfl⟩
theorem await_goes {z:Nat->Option Nat}{Ch:Nat->Prop}{Stop:Goroutine->World->Prop}{h:Nat}{cont:Addr->Value}{S:TS}{K:List (Nat×Int)}{v w:World}{i:Nat}{t:Thr}(c:Int) (cs:List Frame) (Hm:Goroutine->Prop) {bc:Frame}{ac:Act}{ops:Array Oper}{q:Nat}{rest:List Nat}{oc:Oper}{k:List Item}(hoc:ops[q]? = some oc)
 (hH:∀ g,WakeBack (h==0) i t.tb c (fun r=>G (bc.at (ac.put oc.dst r) (.inRegion ops rest :: k)) cs) g->Hm g)
 (hvw:Rel z v w) (hn:Ah Ch v) (hm:Mem z S K v) (hs:S.stk=false) (ht:S.thr[i]? = some t) (hz:z t.tb=some 2) (hcont:cont ⟨t.tb,2,none⟩=.chan (some t.gc))
 (hstop:∀ g w',G1 z cont h S.bk t.gc Hm (Then z Ch S K v (waiting S i t 2 6 c) K) g w'->Stop g w') (code:Code) (hc:Tryd.f50.body=some code) :
 GoesI Tryd.prog (h==0) (DT (ScZ z) Ch) Stop (G ((base 50).at { tmps:=#[Pt t.tb 0,I c]++Array.replicate 33 undef,defers:=[] } [.code code]) (bc.at ac (.inRegion ops (q :: rest) :: k) :: cs)) w:=by
 obtain rfl:=Option.some.inj hc
 clear hc
 have e0:w.cell? ⟨t.tb,0,none⟩=some (Pt S.wb 0):=by rw[hvw.cell?];exact (hm.rep.cell ht).1
 have e6:w.cell? ⟨S.wb,6,none⟩=some (.bool false):=by rw[hvw.cell?,←hs];exact hm.rep.wcell.2.2.2.2.2.2.1
 simp only[Array.replicate_succ,Array.replicate_zero,List.push_toArray,List.append_toArray,List.nil_append,List.cons_append]
 have HM:Hid (Mem z S K v):=⟨hm⟩
 clear hm
 refine Ac (Aa _ _) ?_
 refine Ae (Aa _ _) ?_
 simp only[List.size_toArray,List.length_cons,List.length_nil,Nat.reduceAdd,Nat.zero_add,List.range,List.range.loop]
 (refine Af rfl rfl (by decide) (fun d K hK=>?_)
  go_simp
  refine hK _ _ ⟨Ak (fun e he=>?_),GoesI.at ?_ d⟩
  ·have hm:=mem_listed he
   simp[go_sem, *] at hm
  clear hK K)
 refine Ab (Aa _ _) ?_
 refine Ac (Aa _ _) ?_
 refine Ac (Aa _ _) ?_
 refine Ae (Aa _ _) ?_
 simp only[List.size_toArray,List.length_cons,List.length_nil,Nat.reduceAdd,Nat.zero_add,List.range,List.range.loop]
 iterate 4
  (refine Af rfl rfl (by decide) (fun d K hK=>?_)
   go_simp
   refine hK _ _ ⟨Ak (fun e he=>?_),GoesI.at ?_ d⟩
   ·have hm:=mem_listed he
    simp[go_sem, *] at hm
    try exact ⟨_,_,hm⟩
   clear hK K)
 refine Cg (L:=LT) rfl rfl (by decide) (A7 Bi extT (by kernel_rfl)) hvw hn (x:=.bool false) (v':=v) ?_ rfl (fun w1 hvw1 _=>?_)
 ·go_simp
 clear e0 e6 hvw
 have e0:w1.cell? ⟨t.tb,0,none⟩=some (Pt S.wb 0):=by rw[hvw1.cell?];exact (HM.out.rep.cell ht).1
 have e6:w1.cell? ⟨S.wb,6,none⟩=some (.bool false):=by rw[hvw1.cell?,←hs];exact HM.out.rep.wcell.2.2.2.2.2.2.1
 refine Ab (Aa _ _) ?_
 refine Au (Aa _ _) (t:=false) rfl ?_
 simp only[if_true,if_false,Bool.false_eq_true]
 refine Bo (Aa _ _) ?_
 refine Ac (Aa _ _) ?_
 refine Ac (Aa _ _) ?_
 refine Ae (Aa _ _) ?_
 simp only[List.size_toArray,List.length_cons,List.length_nil,Nat.reduceAdd,Nat.zero_add,List.range,List.range.loop]
 iterate 7
  (refine Af rfl rfl (by decide) (fun d K hK=>?_)
   go_simp
   refine hK _ _ ⟨Ak (fun e he=>?_),GoesI.at ?_ d⟩
   ·have hm:=mem_listed he
    simp[go_sem, *] at hm
    try exact ⟨_,_,hm⟩
   clear hK K)
 refine Ab (Aa _ _) ?_
 refine Au (Aa _ _) (t:=false) rfl ?_
 simp only[if_true,if_false,Bool.false_eq_true]
 refine Bo (Aa _ _) ?_
 refine Ac (Aa _ _) ?_
 refine Ae (Aa _ _) ?_
 simp only[List.size_toArray,List.length_cons,List.length_nil,Nat.reduceAdd,Nat.zero_add,List.range,List.range.loop]
 iterate 2
  (refine Af rfl rfl (by decide) (fun d K hK=>?_)
   go_simp
   refine hK _ _ ⟨Ak (fun e he=>?_),GoesI.at ?_ d⟩
   ·have hm:=mem_listed he
    simp[go_sem, *] at hm
    try exact ⟨_,_,hm⟩
   clear hK K)
 refine Bj (f:=81) (fn:=Tryd.f81) (args:=#[Pt t.tb 0,I 2,I 6,I c]) (Aa _ _) rfl rfl (by decide) rfl (by simp[Act.eval]) Tryd.func81 (by decide) rfl ?_
 refine wait_mem 2 6 c _ Hm rfl (fun g hg=>hH g ?_) hvw1 hn HM.out ht hz hcont hstop _ rfl
 intro z1 Ch1 St y w2 v1 S1 K1 t1 r1 n1 m1 h1 htb hn1 hk1 hk2
 refine hg _ St y w2 (Aa _ _) ?_
 refine Ab (Aa _ _) ?_
 rw[←htb]
 refine goesI_rest (f:=50) (fn:=Tryd.f50) (c:=rest31) hE Bs r1 n1 Tryd.func50 fine31 rfl hoc res31 (fun τ=>?_) (fun r v' w' hR hr' hn'=>?_) (R:=fun r w'=>(r=.bool true∧S1.stk=false∧∃ tv,Evo z1 S1 K1 v1 (Be S1 tv i 6 c 0 0) K1 w')∨(r=.bool false∧S1.stk=true∧Evo z1 S1 K1 v1 S1 K1 w'))
 ·refine wp_mono (tail31 (m1.same (v':=Ap v1 τ 0) rfl) h1 hn1 _ _ _ _ _ _ _ _ _ _ _ _ _ _ _) (D7 fun r u hq=>?_)
  rcases hq with ⟨q1,q2,tv,q3⟩|⟨q1,q2,q3⟩
  ·exact .inl ⟨q1,q2,tv,q3.base rfl rfl rfl⟩
  ·exact .inr ⟨q1,q2,q3.base rfl rfl rfl⟩
 ·rcases hR with ⟨rfl,q2,tv,q3⟩|⟨rfl,q2,q3⟩
  ·exact hk1 v' w' tv q2 hr' hn' q3
  ·exact hk2 v' w' q2 hr' hn' q3
end Go.Proofs.YtaofjdoielmobaaDoor
namespace Go.Lift
open Go.Conc
section
variable {P:Program}{main:Bool}{Stop:Goroutine->World->Prop}{k:List Item}{cs:List Frame}{w:World}{ops:Array Oper}{i:Nat}{rest:List Nat}{o:Oper}
theorem Fy {z:Nat->Option Nat}{Ch:Nat->Prop}{L:FuncId->Prop}(hE:∀ fr cs dy g w,∃ o w',early P fr cs dy g w=.ended o w') (hL:∀ g,L g->Do P true L g)
 {f:FuncId} {fn:Func} {c:Code} {act:Act} {more:List Item} {bc:Frame} {ac:Act} {R:Value->World->Prop} {v0:World} (hvw:Rel z v0 w) (hn:Ah Ch v0) (hf:P.funcs[f]? = some fn) (hc:As P true L c) (ha:act.defers=[]) (ho:ops[i]? = some o)
 (hwp:∀ τ,c.wp P (fun e a w'=>e=.ret∧∃ x,(results fn a.tmps).run P w'=.ok x w'∧R x w') act (Ap v0 τ 0))
 (h:∀ v v' w',R v v'->Rel z v' w'->Ah Ch v'->GoesI P main (DT (ScZ z) Ch) Stop (G (bc.at (ac.put o.dst v) (.inRegion ops rest :: k)) cs) w') :
 GoesI P main (DT (ScZ z) Ch) Stop (G ((base f).at act (.code c :: more)) (bc.at ac (.inRegion ops (i :: rest) :: k) :: cs)) w:=by
 refine (Hc (P:=P) (z:=z) (wr:=true) (L:=L) (D:=DT (ScZ z) Ch) (I:=Ah Ch) (main:=main) (b:=base f) (k:=more) (cs:=bc.at ac (.inRegion ops (i :: rest) :: k) :: cs) hE hL Al
  (fun v v' w w' es hi hr ho he=>Az v v' w w' es hi hr ho he) hvw hc ha (by simp[base]) hn hwp (fun e a w hq=>.inr hq.1)).then ?_
 rintro g w' ⟨a',v',hr,hiv,hd,⟨⟨hq,_⟩,_⟩|⟨⟨_,x,hx,hR⟩,todo,rfl⟩⟩
 ·cases hq
 ·exact Bt hr hiv hf hd ho hx (fun w'' hr''=>h x v' w'' hR hr'' hiv)
end
end Go.Lift
namespace Go.Proofs.YtaofjdoielmobaaDoor
open Go Go.Lift Go.Conc Go.RowKit
def Gz:Code->Code
 |.cond _ a _=>a
 |c=>c
noncomputable def no31:Code:=Gz (seq2 (seq1 (seq2 (seq2 (Tryd.f50.body.getD .skip)))))
theorem fineNo31:As Tryd.prog true LT no31:=Ba Bi extT (by kernel_rfl)
theorem await_no {z:Nat->Option Nat}{Ch:Nat->Prop}{Stop:Goroutine->World->Prop}{main:Bool}{S:TS}{K:List (Nat×Int)}{v w:World}{i:Nat}{t:Thr}(c:Int) (cs:List Frame) {bc:Frame}{ac:Act}{ops:Array Oper}{q:Nat}{rest:List Nat}{oc:Oper}{k:List Item}(hoc:ops[q]? = some oc)
 (hvw:Rel z v w) (hn:Ah Ch v) (hm:Mem z S K v) (hs:S.stk=true) (ht:S.thr[i]? = some t)
 (hk:∀ v' w',Rel z v' w'->Ah Ch v'->Evo z S K v S K v'->GoesI Tryd.prog main (DT (ScZ z) Ch) Stop (G (bc.at (ac.put oc.dst (.bool false)) (.inRegion ops rest :: k)) cs) w') (code:Code) (hc:Tryd.f50.body=some code) :
 GoesI Tryd.prog main (DT (ScZ z) Ch) Stop (G ((base 50).at { tmps:=#[Pt t.tb 0,I c]++Array.replicate 33 undef,defers:=[] } [.code code]) (bc.at ac (.inRegion ops (q :: rest) :: k) :: cs)) w:=by
 obtain rfl:=Option.some.inj hc
 clear hc
 have e0:w.cell? ⟨t.tb,0,none⟩=some (Pt S.wb 0):=by rw[hvw.cell?];exact (hm.rep.cell ht).1
 have e6:w.cell? ⟨S.wb,6,none⟩=some (.bool true):=by rw[hvw.cell?,←hs];exact hm.rep.wcell.2.2.2.2.2.2.1
 simp only[Array.replicate_succ,Array.replicate_zero,List.push_toArray,List.append_toArray,List.nil_append,List.cons_append]
 have HM:Hid (Mem z S K v):=⟨hm⟩
 clear hm
 refine Ac (Aa _ _) ?_
 refine Ae (Aa _ _) ?_
 simp only[List.size_toArray,List.length_cons,List.length_nil,Nat.reduceAdd,Nat.zero_add,List.range,List.range.loop]
 (refine Af rfl rfl (by decide) (fun d K hK=>?_)
  go_simp
  refine hK _ _ ⟨Ak (fun e he=>?_),GoesI.at ?_ d⟩
  ·have hm:=mem_listed he
   simp[go_sem, *] at hm
  clear hK K)
 refine Ab (Aa _ _) ?_
 refine Ac (Aa _ _) ?_
 refine Ac (Aa _ _) ?_
 refine Ae (Aa _ _) ?_
 simp only[List.size_toArray,List.length_cons,List.length_nil,Nat.reduceAdd,Nat.zero_add,List.range,List.range.loop]
 iterate 4
  (refine Af rfl rfl (by decide) (fun d K hK=>?_)
   go_simp
   refine hK _ _ ⟨Ak (fun e he=>?_),GoesI.at ?_ d⟩
   ·have hm:=mem_listed he
    simp[go_sem, *] at hm
    try exact ⟨_,_,hm⟩
   clear hK K)
 refine Cg (L:=LT) rfl rfl (by decide) (A7 Bi extT (by kernel_rfl)) hvw hn (x:=.bool false) (v':=v) ?_ rfl (fun w1 hvw1 _=>?_)
 ·go_simp
 clear e0 e6 hvw
 have e0:w1.cell? ⟨t.tb,0,none⟩=some (Pt S.wb 0):=by rw[hvw1.cell?];exact (HM.out.rep.cell ht).1
 have e6:w1.cell? ⟨S.wb,6,none⟩=some (.bool true):=by rw[hvw1.cell?,←hs];exact HM.out.rep.wcell.2.2.2.2.2.2.1
 refine Ab (Aa _ _) ?_
 refine Au (Aa _ _) (t:=false) rfl ?_
 simp only[if_true,if_false,Bool.false_eq_true]
 refine Bo (Aa _ _) ?_
 refine Ac (Aa _ _) ?_
 refine Ac (Aa _ _) ?_
 refine Ae (Aa _ _) ?_
 simp only[List.size_toArray,List.length_cons,List.length_nil,Nat.reduceAdd,Nat.zero_add,List.range,List.range.loop]
 iterate 7
  (refine Af rfl rfl (by decide) (fun d K hK=>?_)
   go_simp
   refine hK _ _ ⟨Ak (fun e he=>?_),GoesI.at ?_ d⟩
   ·have hm:=mem_listed he
    simp[go_sem, *] at hm
    try exact ⟨_,_,hm⟩
   clear hK K)
 refine Ab (Aa _ _) ?_
 refine Au (Aa _ _) (t:=true) rfl ?_
 simp only[if_true,if_false,Bool.false_eq_true]
 refine Fy (c:=no31) (f:=50) (fn:=Tryd.f50) (L:=LT) hE Bs hvw1 hn Tryd.func50 fineNo31 rfl hoc (R:=fun r w'=>r=.bool false∧Evo z S K v S K w') (fun τ=>?_) (fun r v' w' hR hr' hn'=>?_)
 ·have HV:Hid (Evo z S K v S K (Ap v τ 0)):=⟨(Evo.refl HM.out).same rfl rfl rfl⟩
  show Code.wp Tryd.prog (Gz (seq2 (seq1 (seq2 (seq2 (Tryd.f50.body.getD .skip)))))) _ _ _
  unfold Tryd.f50 Gz seq2 seq1
  simp only[Option.getD_some]
  go_wp2_with fail
  exact ⟨_,results_tmp rfl _ _ _,rfl,HV.out⟩
 ·obtain ⟨rfl,he⟩:=hR
  exact hk v' w' hr' hn' he
end Go.Proofs.YtaofjdoielmobaaDoor
namespace Go.Lift
open Go.Conc
section
variable {P:Program}{main:Bool}{b:Frame}{a:Act}{k:List Item}{cs:List Frame}{w:World}{D:World->World->Array Event->Prop}{Stop:Goroutine->World->Prop}{ops:Array Oper}{i:Nat}{rest:List Nat}{o:Oper}{todo:List Item}{ds:List Deferred}{f:FuncId}{fn:Func}
def dclo (f:FuncId) (cap:Array Value):Deferred:={ target:=.fn (.func f) cap,args:=#[] }
noncomputable def botP (P:Program):Frame:={ (default:Frame) with fn:=P.funcs.size,defers:=[],mode:=.panicking [goexitEntry] }
theorem stepG_deferV {d:Deferred}(ho:ops[i]? = some o) (hw:Region.wanted o (yielded ops a.tmps)=true) (hk:b.kind≠.early) (hr:(execOp a.eval o).run P w=.ok (.defer d) w) (he:(execOp a.eval o).events P w #[]=#[]) :
 stepG P main (G (b.at a (.inRegion ops (i :: rest) :: k)) cs) w=.go (G (b.at (Act.put ⟨a.tmps,d :: a.defers⟩ o.dst undef) (.inRegion ops rest :: k)) cs) w #[]:=by
 have hfin:(b.at ⟨a.tmps,d :: a.defers⟩ (.inRegion ops (i :: rest) :: k)).finish undef=b.at (Act.put ⟨a.tmps,d :: a.defers⟩ o.dst undef) (.inRegion ops rest :: k):=by rw[Frame.finish_at,ho];rfl
 have hk':(b.kind==CallKind.early)=false:=by simpa using hk
 rw[stepG_oper ho hw,←hfin]
 simp[stepG.apply,hr,he,G,Frame.at,hk',GStep.after,seen_none]
theorem stepG_unwind_clo {c : Code} {cap : Array Value} (hd : a.defers = dclo f cap :: ds) (hf : P.funcs[f]? = some fn) (hname : (fn.name == "runtime.NumGoroutine") = false) (hb : fn.body = some c) :
 stepG P main (G { b.at a todo with mode:=.returning } cs) w =
  .go (G ((baseD f).at { tmps:=cap++Array.replicate (fn.ntmps - cap.size) undef,defers:=[] } [.code c]) ({ b.at ⟨a.tmps,ds⟩ todo with mode:=.returning } :: cs)) w #[]:=by
 have h1 : ¬ fn.name = "runtime.NumGoroutine" := by simpa using hname
 rw[←enter_atD cap hf hb]
 simp[G,stepG,unwind,callDeferred,Frame.at,hd,dclo,invoke,callFunc,hf,h1,hb,GStep.after,seen_none]
theorem stepG_recover_none {c:Frame}(ho:ops[i]? = some o) (hw:Region.wanted o (yielded ops a.tmps)=true) (hk:b.kind=.deferred) (hc:c.mode=.returning) (hr:(execOp a.eval o).run P w=.ok .recover w) (he:(execOp a.eval o).events P w #[]=#[]) :
 stepG P main (G (b.at a (.inRegion ops (i :: rest) :: k)) (c :: cs)) w=.go (G (b.at (a.put o.dst .nilIface) (.inRegion ops rest :: k)) (c :: cs)) w #[]:=by
 have hfin:(b.at a (.inRegion ops (i :: rest) :: k)).finish .nilIface=b.at (a.put o.dst .nilIface) (.inRegion ops rest :: k):=by rw[Frame.finish_at,ho];rfl
 rw[stepG_oper ho hw,←hfin]
 simp[stepG.apply,hr,he,G,Frame.at,hk,hc,tryRecover,GStep.after,seen_none]
theorem Fh {d:Deferred}(hD:∀ w,D w w #[]) (ho:ops[i]? = some o) (hw:Region.wanted o (yielded ops a.tmps)=true) (hk:b.kind≠.early) (hr:∀ w,(execOp a.eval o).run P w=.ok (.defer d) w) (he:∀ w,(execOp a.eval o).events P w #[]=#[])
 (h:GoesI P main D Stop (G (b.at (Act.put ⟨a.tmps,d :: a.defers⟩ o.dst undef) (.inRegion ops rest :: k)) cs) w):GoesI P main D Stop (G (b.at a (.inRegion ops (i :: rest) :: k)) cs) w :=
 .ctl rfl (fun w=>stepG_deferV ho hw hk (hr w) (he w)) hD h
theorem Eh {c : Code} {cap : Array Value} (hD : ∀ w, D w w #[]) (hd : a.defers = dclo f cap :: ds) (hf : P.funcs[f]? = some fn) (hname : (fn.name == "runtime.NumGoroutine") = false) (hb : fn.body = some c)
 (h:GoesI P main D Stop (G ((baseD f).at { tmps:=cap++Array.replicate (fn.ntmps - cap.size) undef,defers:=[] } [.code c]) ({ b.at ⟨a.tmps,ds⟩ todo with mode:=.returning } :: cs)) w):GoesI P main D Stop (G { b.at a todo with mode:=.returning } cs) w :=
 .ctl rfl (fun _=>stepG_unwind_clo hd hf hname hb) hD h
theorem Dx {c:Frame}(hD:∀ w,D w w #[]) (ho:ops[i]? = some o) (hw:Region.wanted o (yielded ops a.tmps)=true) (hk:b.kind=.deferred) (hc:c.mode=.returning) (hr:∀ w,(execOp a.eval o).run P w=.ok .recover w) (he:∀ w,(execOp a.eval o).events P w #[]=#[])
 (h:GoesI P main D Stop (G (b.at (a.put o.dst .nilIface) (.inRegion ops rest :: k)) (c :: cs)) w):GoesI P main D Stop (G (b.at a (.inRegion ops (i :: rest) :: k)) (c :: cs)) w :=
 .ctl rfl (fun w=>stepG_recover_none ho hw hk hc (hr w) (he w)) hD h
theorem quits_last (T:Array Value) (todo:List Item) (hf:P.funcs[f]? = some fn) (hr:fn.results=#[]):QuitsD P 2 0 (G { (baseD f).at ⟨T,[]⟩ todo with mode:=.returning } [botP P]):=by
 refine QuitsD.ctl (g':=G (botP P) []) rfl (fun w=>?_) ?_
 ·simp[G,stepG,unwind,doReturn,results,Frame.at,baseD,botP,hf,hr,seen,GStep.after,goexitEntry]
 refine QuitsD.ctl (g':={ G (botP P) [] with status:=.finished }) rfl (fun w=>?_) ⟨rfl,rfl⟩
 simp[G,stepG,unwind,botP,goexitEntry,Frame.catches]
 rfl
end
end Go.Lift
namespace Go.Proofs.YtaofjdoielmobaaDoor
open Go Go.Lift Go.Conc Go.RowKit
def rdy (S:TS) (t:Thr):Bool:=decide (t.st=1)||(decide (t.st=2)&&(S.stk||decide (B0 S.chg t.ce≠t.se)))
theorem ints_row {w:World}{base:Nat}{v:Value}{l:List Int}(h:w.ownsRow base 3 1 v l.length (l.map I)):IntRow w v l:=by
 rcases h.2 with ⟨rfl,h0⟩|⟨g,cap,cur,rfl,hb,hh,hle,_,hsz,htake⟩
 ·exact .inl ⟨List.length_eq_zero_iff.1 h0,rfl⟩
 ·refine .inr ⟨g,cap,rfl,fun i x hx=>?_⟩
  have hc:i<l.length:=(List.getElem?_eq_some_iff.1 hx).1
  have e:(l.map I)[i]? = some (I x):=by simp[hx]
  rw[←htake,Nat.mul_one,List.getElem?_take_of_lt hc] at e
  simp only[World.cell?,hh,Option.isSome_none,Bool.false_eq_true,if_false]
  simpa using e
theorem call51 {z:Nat->Option Nat}{S:TS}{v:World}(h:Rep z S v) (c:Int):Calls Tryd.prog 116 #[Pt S.wb 0,I c] v (fun e w'=>e=.returned (I (B0 S.chg c))∧w'=v) :=
 ((body51 S.wb c S.cv S.chg v h.wcell.2.2.2.1 (ints_row h.chg)).calls Tryd.func116 rfl).mono fun e w' ⟨r,h1,h2,h3⟩=>⟨by rw[h1,h2],h3⟩
theorem call51q {z:Nat->Option Nat}{S:TS}{v:World}(h:Rep z S v) (c:Int) (n:Nat):Calls Tryd.prog 116 #[Pt S.wb 0,I c] (v.drewN n) (fun e w'=>e=.returned (I (B0 S.chg c))∧∃ m,w'=v.drewN m) :=
 Calls.quiet_of_same (call51 (h.same (v':=v.drewN n) rfl) c)
theorem body71 {z:Nat->Option Nat}{S:TS}{v:World}(h:Rep z S v) {i:Nat}{t:Thr}(ht:S.thr[i]? = some t):Body Tryd.f108 #[Pt t.tb 0] v (fun r v'=>r=.bool (rdy S t)∧∃ n,v'=v.drewN n):=by
 intro code hb
 obtain rfl:=Option.some.inj hb
 clear hb
 simp only[Tryd.ntmps108,List.size_toArray,List.length_cons,List.length_nil,Nat.reduceAdd,Nat.reduceSub,Array.replicate_succ,Array.replicate_zero,List.push_toArray,List.append_toArray,List.nil_append,List.cons_append]
 obtain ⟨c0,_,_,c3,c4,_,c6⟩:=h.cell ht
 have w6:=h.wcell.2.2.2.2.2.2.1
 have HR:Hid (Rep z S v):=⟨h⟩
 clear h
 by_cases h1:t.st=1
 ·have g1:(t.st==1)=true:=by simpa using h1
  have HE:Hid (rdy S t=true):=⟨by simp[rdy,h1]⟩
  clear h1
  go_wp2_with fail
  go_quiet (fail)
  go_wp2
  go_ret
  exact ⟨_,rfl,by rw[HE.out];rfl,_,rfl⟩
 ·have g1:(t.st==1)=false:=by simpa using h1
  by_cases h2:t.st=2
  ·have g2:(t.st==2)=true:=by simpa using h2
   cases hs:S.stk with
   |true =>
    have HE:Hid (rdy S t=true):=⟨by simp[rdy,h2,hs]⟩
    rw[hs] at w6
    clear h1 h2 hs
    go_wp2_with fail
    go_quiet (fail)
    go_wp2
    go_ret
    exact ⟨_,rfl,by rw[HE.out];rfl,_,rfl⟩
   |false =>
    have HE:Hid (rdy S t=(B0 S.chg t.ce != t.se)):=⟨by simp[rdy,h2,hs,bne];rfl⟩
    rw[hs] at w6
    clear h1 h2 hs
    go_wp2_with fail
    go_quiet (first|(go_at_call 116;exact call51q HR.out t.ce _))
    go_wp2
    go_ret
    exact ⟨_,rfl,by rw[HE.out];rfl,_,rfl⟩
  ·have g2:(t.st==2)=false:=by simpa using h2
   have HE:Hid (rdy S t=false):=⟨by simp[rdy,h1,h2]⟩
   clear h1 h2
   go_wp2_with fail
   go_quiet (fail)
   go_wp2
   go_ret
   exact ⟨_,rfl,by rw[HE.out];rfl,_,rfl⟩
def Aq (a:Int) (n:Nat):Nat:=(if a.tmod n<0 then a.tmod n+n else a.tmod n).toNat
theorem F8 (a:Int) {n:Nat}(h:0<n):Aq a n<n:=by
 unfold Aq
 have h1:=Int.tmod_lt_of_pos a (show (0:Int)<n by omega)
 have h2:-(n:Int)<a.tmod n:=Int.lt_tmod_of_pos a (by omega)
 split<;>omega
theorem which_pos {a:Int}{n:Nat}(h:0≤a.tmod n):a.tmod n=(Aq a n:Int):=by
 unfold Aq
 rw[if_neg (by omega),Int.toNat_of_nonneg h]
theorem which_neg {a:Int}{n:Nat}(h:a.tmod n<0) (h0:0<n) (hb:(n:Int)<9223372036854775808):wrap64 (a.tmod n+n)=(Aq a n:Int):=by
 have h2:-(n:Int)<a.tmod n:=Int.lt_tmod_of_pos a (by omega)
 unfold Aq
 rw[if_pos h,Int.toNat_of_nonneg (by omega)]
 unfold wrap64
 omega
theorem mix21:Tryd.prog.follows .mixedOrders=true:=by kernel_rfl
theorem Du {P:Program}{L:FuncId->Prop}{f:FuncId}{fn:Func}{c:Code}(hL:∀ g,L g->Do P true L g) (hf:L f) (h1:P.funcs[f]? = some fn) (h2:fn.body=some c):As P true L c:=by
 obtain ⟨fn',c',h3,h4,h5,_⟩:=hL f hf
 rw[h1] at h3
 cases h3
 rw[h2] at h4
 cases h4
 exact h5
theorem world_set {z:Nat->Option Nat}{S:TS}{v:World}(h:Rep z S v) (u:Nat) (l:Int) (b:Bool) (o:Nat) (x:Value) (hw:(wrow S).setIfInBounds o x=wrow { S with us:=u,la:=l,stk:=b }):Ev z S v { S with us:=u,la:=l,stk:=b } (v.setCell ⟨S.wb,o,none⟩ x):=by
 have hst:∀ k b,blk S k=some b->k≠0->(v.setCell ⟨S.wb,o,none⟩ x).heap[b]? = v.heap[b]?:=fun k b hk h0=>Below.heap_setCell _ _ _ _ (fun e=>h0 (h.apart k 0 b hk (by rw[e];rfl)))
 refine ⟨⟨?_,fun i t ht=>?_,Av (fun b hb=>hst 3 b hb (by omega)) h.own,Av (fun b hb=>hst 1 b hb (by omega)) h.chg,Av (fun b hb=>hst 2 b hb (by omega)) h.ths,Av (fun b hb=>hst 4 b hb (by omega)) h.sch,?_,fun j k b hj hk=>?_,h.kept⟩,⟨rfl,rfl,by simp[World.setCell],fun b _ hs=>Below.heap_setCell _ _ _ _ (fun e=>hs ⟨0,by rw[e];rfl⟩)⟩,fun b ⟨k,hk⟩=>.inl ⟨k,?_⟩⟩
 ·have:=heap_setCell_same (o:=o) h.wor x
  rw[hw] at this
  exact this
 ·rw[hst (i+5) t.tb (by simp only[blk];rw[show S.thr[i]? = some t from ht];rfl) (by omega)]
  exact h.thr i t ht
 ·show S.base≤_
  simpa [World.setCell] using h.bs
 ·refine h.apart j k b ?_ ?_
  ·rw[←hj];match j with|0=>rfl|1=>rfl|2=>rfl|3=>rfl|4=>rfl|j+5=>rfl
  ·rw[←hk];match k with|0=>rfl|1=>rfl|2=>rfl|3=>rfl|4=>rfl|k+5=>rfl
 ·rw[←hk];match k with|0=>rfl|1=>rfl|2=>rfl|3=>rfl|4=>rfl|k+5=>rfl
def PtrRow (w:World) (v:Value) (bs:List Nat):Prop:=∃ g cap,v=.slice (some ⟨g,0,none⟩) bs.length cap∧∀ (k b:Nat),bs[k]? = some b->w.cell? ⟨g,k,none⟩=some (Pt b 0)
def E0 (S:TS) (ids:List Nat):Nat:=if S.us<S.sched.length then Aq (S.sched.getD S.us 0) ids.length else (ids.findIdx? (fun (i:Nat)=>decide (S.la<(i:Int)))).getD 0
def picked (S:TS):TS:=if S.us<S.sched.length then { S with us:=S.us+1 } else S
theorem find_at {l:List Nat}{a:Int}{k i:Nat}(h1:l[k]? = some i) (h2:a<(i:Int)) (h3:∀ (j i:Nat),j<k->l[j]? = some i->(i:Int)≤a):l.findIdx? (fun (i:Nat)=>decide (a<(i:Int)))=some k:=by
 have hk:=(List.getElem?_eq_some_iff.1 h1).1
 rw[List.findIdx?_eq_some_iff_getElem]
 refine ⟨hk,?_,fun j hj=>?_⟩
 ·have:l[k]=i:=by rw[List.getElem?_eq_getElem hk] at h1;exact Option.some.inj h1
  simp[this,h2]
 ·have:=h3 j _ hj (List.getElem?_eq_getElem (by omega))
  simpa using this
theorem find_none {l:List Nat}{a:Int}(h3:∀ (j i:Nat),j<l.length->l[j]? = some i->(i:Int)≤a):l.findIdx? (fun (i:Nat)=>decide (a<(i:Int)))=none:=by
 rw[List.findIdx?_eq_none_iff]
 intro x hx
 obtain ⟨j,hj,rfl⟩:=List.mem_iff_getElem.1 hx
 have:=h3 j _ hj (List.getElem?_eq_getElem hj)
 simpa using this
theorem body72 {z:Nat->Option Nat}{S:TS}{v:World}(h:Rep z S v) (lv:Value) (ids bs:List Nat) (hl:PtrRow v lv bs) (hlw:∀ g,lv.ownBlock=some g->¬ Its S g) (hlen:bs.length=ids.length) (hids:∀ (k i b:Nat),ids[k]? = some i->bs[k]? = some b->∃ t,S.thr[i]? = some t∧t.tb=b) (h0:0<ids.length) (hm:ids.length≤8) (hus:S.sched.length≤4611686018427387904) (hsc:∀ x∈S.sched,-9223372036854775808≤x∧x<9223372036854775808) :
 Body Tryd.f109 #[Pt S.wb 0,lv] v (fun r v'=>(∃ b,bs[E0 S ids]? = some b∧r=Pt b 0)∧Ev z S v (picked S) v'):=by
 obtain ⟨g,cap,rfl,hrow⟩:=hl
 intro code hb
 obtain rfl:=Option.some.inj hb
 clear hb
 simp only[Tryd.ntmps109,List.size_toArray,List.length_cons,List.length_nil,Nat.reduceAdd,Nat.reduceSub,Array.replicate_succ,Array.replicate_zero,List.push_toArray,List.append_toArray,List.nil_append,List.cons_append]
 obtain ⟨w0,w1,w2,_⟩:=h.wcell
 obtain ⟨p,pc,hp⟩:=Eq h.sch
 rw[hp] at w0
 have f1:=fz_off h 1 (by omega)
 by_cases hu:S.us<S.sched.length
 ·obtain ⟨sg,scap,e1,e2,e3⟩:=ints_cell h.sch (List.getElem?_eq_getElem hu)
  rw[hp] at e1
  cases e1
  have hx:=hsc _ (List.getElem_mem hu)
  have HX:Hid (S.sched.getD S.us 0=S.sched[S.us]):=⟨by simp[List.getD_eq_getElem?_getD,List.getElem?_eq_getElem hu]⟩
  generalize hxs:S.sched[S.us]=x at e2 hx HX
  have HW:Hid (∀ V:World,V.heap=v.heap->V.os=v.os->V.output=v.output->Ev z S v (picked S) (V.setCell ⟨S.wb,1,none⟩ (I (wrap64 ((S.us:Int)+1))))):=⟨fun V q1 q2 q3=>by
   have ew:wrap64 ((S.us:Int)+1)=(S.us:Int)+1:=IntWalk.wrap64_in _ (by omega)
   rw[ew]
   have:=((Ev.refl h).same q1 q2 q3).trans (world_set (h.same q1) (S.us+1) S.la S.stk 1 (I ((S.us:Int)+1)) (by simp))
   unfold picked
   rw[if_pos hu]
   exact this⟩
  have HU:Hid (S.us<S.sched.length):=⟨hu⟩
  have HR:Hid (∀ (k b:Nat),bs[k]? = some b->v.cell? ⟨g,k,none⟩=some (Pt b 0)):=⟨hrow⟩
  have hu':(S.us:Int)<(S.sched.length:Int):=by omega
  have hn0:¬ ((bs.length:Int)=0):=by omega
  have HH:Hid (-9223372036854775808≤x∧x<9223372036854775808):=⟨hx⟩
  clear hrow hids hsc hxs hx h hus
  have hgw:g≠S.wb:=fun e=>hlw g rfl ⟨0,by rw[e];rfl⟩
  have hgw':S.wb≠g:=fun e=>hgw e.symm
  obtain ⟨k,hk⟩:∃ k,Aq x bs.length=k:=⟨_,rfl⟩
  have hkl:k<bs.length:=by rw[←hk];exact F8 x (by omega)
  have hcell:=HR.out k _ (List.getElem?_eq_getElem hkl)
  have HK:Hid (E0 S ids=k∧bs[k]? = some bs[k]):=⟨⟨by unfold E0;rw[if_pos hu,HX.out,←hlen];exact hk,List.getElem?_eq_getElem hkl⟩⟩
  generalize bs[k]=b at hcell HK
  have hkz:(0:Int)≤(k:Int):=by omega
  have hkl':(k:Int)<(bs.length:Int):=by omega
  by_cases hneg:x.tmod (bs.length:Int)<0
  ·have hwr:wrap64 (x.tmod (bs.length:Int)+(bs.length:Int))=(k:Int):=by rw[←hk];exact which_neg hneg (by omega) (by omega)
   clear hlen h0 hm hlw hk hu hkl
   generalize bs.length=nn at *
   go_wp2_with fail
   go_quiet (fail)
   go_wp2_with fail
   go_quiet (fail)
   go_wp2_with fail
   go_ret
   exact ⟨_,rfl,⟨b,by rw[HK.out.1];exact HK.out.2,rfl⟩,HW.out _ rfl rfl rfl⟩
  ·have hpos:x.tmod (bs.length:Int)=(k:Int):=by rw[←hk];exact which_pos (by omega)
   clear hlen h0 hm hlw hk hu hkl hneg
   generalize bs.length=nn at *
   go_wp2_with fail
   go_quiet (fail)
   go_wp2_with fail
   go_quiet (fail)
   go_wp2_with fail
   go_ret
   exact ⟨_,rfl,⟨b,by rw[HK.out.1];exact HK.out.2,rfl⟩,HW.out _ rfl rfl rfl⟩
 ·have hu':(decide (S.us<S.sched.length))=false:=by simpa using (by omega:S.sched.length≤S.us)
  have HE:Hid (∀ n,Ev z S v (picked S) (v.drewN n)):=⟨fun n=>by unfold picked;rw[if_neg hu];exact (Ev.refl h).same rfl rfl rfl⟩
  have HP:Hid (E0 S ids=(ids.findIdx? (fun (i:Nat)=>decide (S.la<(i:Int)))).getD 0):=⟨by unfold E0;rw[if_neg hu]⟩
  have HC:Hid (∀ k,k<bs.length->∃ (i b:Nat),ids[k]? = some i∧bs[k]? = some b∧v.cell? ⟨g,k,none⟩=some (Pt b 0)∧v.cell? ⟨b,1,none⟩=some (I i)):=⟨fun k hk=>by
   have h1:ids[k]? = some ids[k]:=List.getElem?_eq_getElem (by omega)
   have h2:bs[k]? = some bs[k]:=List.getElem?_eq_getElem hk
   obtain ⟨t,ht,htb⟩:=hids k _ _ h1 h2
   exact ⟨_,_,h1,h2,hrow k _ h2,by rw[←htb];exact (h.cell ht).2.1⟩⟩
  have HL:Hid (bs.length=ids.length∧0<ids.length):=⟨⟨hlen,h0⟩⟩
  have hnb:bs.length≤8:=by omega
  clear hrow hids hsc hlen h0 hm hlw h hus f1
  go_wp2_with fail
  go_quiet (fail)
  go_wp2_with fail
  go_loopw [50] (fun i u=>∃ k:Nat,k≤bs.length∧i=.int .i64 k∧(∀ (j i:Nat),j<k->ids[j]? = some i->(i:Int)≤S.la)∧∃ q,u=v.drewN q) (fun i _=>bs.length - (intOf i).toNat)
  case atStart=>exact ⟨0,Nat.zero_le _,rfl,fun j _ hj=>absurd hj (Nat.not_lt_zero _),_,rfl⟩
  case round =>
   obtain ⟨k,hk,rfl,hso,qn,rfl⟩:=hrel
   have HSO:Hid (∀ (j i:Nat),j<k->ids[j]? = some i->(i:Int)≤S.la):=⟨hso⟩
   clear hso
   by_cases hlt:k<bs.length
   ·obtain ⟨i1,b1,h1,h2,h3,h4⟩:=HC.out k hlt
    have H12:Hid (ids[k]? = some i1∧bs[k]? = some b1):=⟨⟨h1,h2⟩⟩
    clear h1 h2
    have hlt':(k:Int)<(bs.length:Int):=by omega
    by_cases hla:S.la<(i1:Int)
    ·have HLA:Hid (S.la<(i1:Int)):=⟨hla⟩
     go_wp2_with fail
     go_quiet (fail)
     go_wp2_with fail
     go_ret
     refine ⟨_,rfl,⟨b1,?_,rfl⟩,by rw[World.drewN_drewN];exact HE.out _⟩
     have:ids.findIdx? (fun (i:Nat)=>decide (S.la<(i:Int)))=some k:=find_at H12.out.1 HLA.out HSO.out
     rw[HP.out,this]
     exact H12.out.2
    ·have HLA:Hid ((i1:Int)≤S.la):=⟨by omega⟩
     have hla':(decide (S.la<(i1:Int)))=false:=by simpa using hla
     clear hla
     go_wp2_with fail
     go_quiet (fail)
     go_wp2_with fail
     go_roundw
     case rel=>exact ⟨k+1,by omega,by go_num,fun j i hj hi=>by
      by_cases e:j=k
      ·subst e;rw[H12.out.1] at hi;cases hi;exact HLA.out
      ·exact HSO.out j i (by omega) hi,_,rfl⟩
     case measure=>simp[intOf];omega
   ·have hkk:k=bs.length:=by omega
    subst hkk
    obtain ⟨i1,b1,h1,h2,h3,h4⟩:=HC.out 0 (by have:=HL.out;omega)
    have H12:Hid (ids[0]? = some i1∧bs[0]? = some b1):=⟨⟨h1,h2⟩⟩
    have hz:(0:Int)<(bs.length:Int):=by have:=HL.out;omega
    have hz':0<bs.length:=by have:=HL.out;omega
    clear h1 h2
    go_wp2_with fail
    go_ret
    refine ⟨_,rfl,⟨b1,?_,rfl⟩,HE.out _⟩
    have:ids.findIdx? (fun (i:Nat)=>decide (S.la<(i:Int)))=none:=find_none (fun j i hj hi=>HSO.out j i (by have:=HL.out;omega) hi)
    rw[HP.out,this]
    exact H12.out.2
noncomputable def scan:Code:=seq1 (seq2 (seq2 (seq2 (Tryd.f64.body.getD .skip))))
def Ar (S:TS) (k:Nat):List Nat:=(List.range k).filter fun i=>(S.thr[i]?).any (rdy S)
def Cc (S:TS) (k:Nat):Bool:=(List.range k).any fun i=>(S.thr[i]?).any fun t=>t.st==2
def tbs (S:TS) (ids:List Nat):List Nat:=ids.map fun i=>((S.thr[i]?).map (·.tb)).getD 0
theorem Rep.grows {z:Nat->Option Nat}{S:TS}{v v':World}(h:Rep z S v) (hs:v.heap.size≤v'.heap.size) (g:∀ b,b<v.heap.size->v'.heap[b]? = v.heap[b]?):Rep z S v':=by
 have hits:∀ k b,blk S k=some b->v'.heap[b]? = v.heap[b]?:=fun k b hk=>g b (h.lt hk)
 exact ⟨by rw[hits 0 S.wb rfl];exact h.wor,fun i t ht=>by rw[hits (i+5) t.tb (by simp[blk,ht])];exact h.thr i t ht,Av (fun b hb=>hits 3 b hb) h.own,Av (fun b hb=>hits 1 b hb) h.chg,Av (fun b hb=>hits 2 b hb) h.ths,Av (fun b hb=>hits 4 b hb) h.sch,Nat.le_trans h.bs hs,h.apart,h.kept⟩
theorem rdyIds_succ (S:TS) (k:Nat) {t:Thr}(ht:S.thr[k]? = some t):Ar S (k+1)=if rdy S t then Ar S k++[k] else Ar S k:=by
 unfold Ar
 rw[List.range_succ,List.filter_append]
 cases hr:rdy S t<;>simp[ht,hr]
theorem waits2_succ (S:TS) (k:Nat) {t:Thr}(ht:S.thr[k]? = some t):Cc S (k+1)=(Cc S k||t.st==2):=by
 unfold Cc
 rw[List.range_succ,List.any_append]
 simp[ht]
theorem rdyIds_len (S:TS) (k:Nat):(Ar S k).length≤k:=by
 unfold Ar
 refine Nat.le_trans (List.length_filter_le _ _) ?_
 simp
theorem info46:(Tryd.prog.info? 48).map (fun i=>(i.zero,i.size,i.bytes))=some (some (.pointer none),1,8):=by kernel_rfl
theorem ptr_cell {w:World}{base:Nat}{v:Value}{l:List Nat}(h:w.ownsRow base 48 1 v l.length (l.map fun b=>Pt b 0)) {k b:Nat}(hx:l[k]? = some b):∃ g cap,v=.slice (some ⟨g,0,none⟩) l.length cap∧w.cell? ⟨g,k,none⟩=some (Pt b 0):=by
 have hc:k<l.length:=(List.getElem?_eq_some_iff.1 hx).1
 rcases h.2 with ⟨rfl,h0⟩|⟨g,cap,cur,rfl,hb,hh,hle,_,hsz,htake⟩
 ·omega
 ·refine ⟨g,cap,rfl,?_⟩
  have e:(l.map fun b=>Pt b 0)[k]? = some (Pt b 0):=by simp[hx]
  rw[←htake,Nat.mul_one,List.getElem?_take_of_lt hc] at e
  simp only[World.cell?,hh,Option.isSome_none,Bool.false_eq_true,if_false]
  simpa using e
theorem news1 (w:World) (b:Nat) (t:TypeId):∀ j u,[Pt b 0][j]? = some u->(w.alloc (.cells #[Pt b 0] t)).cell? ((⟨w.heap.size,0,none⟩:Addr).add j)=some u:=by
 intro j u hj
 have hb:(w.alloc (.cells #[Pt b 0] t)).heap[w.heap.size]? = some (.cells #[Pt b 0] t):=Array.getElem?_push_size
 exact World.news_of_block hb j u hj
theorem one1 (b:Nat):∀ u∈[Pt b 0],u.oneCell'=true:=by
 intro u hu
 simp at hu
 subst hu
 rfl
theorem scan_wp {z:Nat->Option Nat}{S:TS}{v:World}(h:Rep z S v) (hm:S.thr.length≤8) :
 scan.wp Tryd.prog (fun e a w'=>e=.normal∧(∃ lv,(∃ u6 u8 u9 u10 u11 u12 u13 u14 u15 u16 u17 u18 u19 u20 u21 u22 u23 u24 u25 u26 u27 u28 u29 u30 u31,a={ tmps:=#[Pt S.wb 0,undef,.bool false,lv,.bool (Cc S S.thr.length),undef,u6,undef,u8,u9,u10,u11,u12,u13,u14,u15,u16,u17,u18,u19,u20,u21,u22,u23,u24,u25,u26,u27,u28,u29,u30,u31]++Array.replicate 41 undef,defers:=[] })∧w'.ownsRow v.heap.size 48 1 lv (Ar S S.thr.length).length ((tbs S (Ar S S.thr.length)).map fun b=>Pt b 0)) ∧
  v.heap.size≤w'.heap.size∧(∀ b,b<v.heap.size->w'.heap[b]? = v.heap[b]?)∧w'.os=v.os∧w'.output=v.output)
  { tmps:=#[Pt S.wb 0,undef,.bool false,.slice none 0 0,.bool false]++Array.replicate 68 undef,defers:=[] } v:=by
 obtain ⟨_,_,_,_,w4,_⟩:=h.wcell
 have hths:=h.ths
 obtain ⟨p,pc,hp⟩:=Eq hths
 rw[hp] at w4
 have HR:Hid (Rep z S v):=⟨h⟩
 have HT:Hid (∀ (k:Nat) (t:Thr),S.thr[k]? = some t->∃ g,p=some ⟨g,0,none⟩∧v.cell? ⟨g,k,none⟩=some (Pt t.tb 0)):=⟨fun k t ht=>by
  have e:S.thr.map (fun t=>Pt t.tb 0)=(S.thr.map (·.tb)).map fun b=>Pt b 0:=by simp
  have hl:S.thr.length=(S.thr.map (·.tb)).length:=by simp
  have h':=hths
  rw[e,hl] at h'
  obtain ⟨g,cap,e1,e2⟩:=ptr_cell h' (k:=k) (b:=t.tb) (by simp[ht])
  rw[hp,←hl] at e1
  cases e1
  exact ⟨g,rfl,e2⟩⟩
 clear h hths
 show Code.wp Tryd.prog (seq1 (seq2 (seq2 (seq2 (Tryd.f64.body.getD .skip))))) _ _ _
 unfold Tryd.f64 seq1 seq2
 simp only[Option.getD_some,Array.replicate_succ,Array.replicate_zero,List.push_toArray,List.append_toArray,List.nil_append,List.cons_append]
 go_wp2_with fail
 go_loopw [3,4,13] (fun l b i u=>∃ (k:Nat),k≤S.thr.length∧i=.int .i64 k∧b=.bool (Cc S k)∧(∃ lp lc,l=.slice lp (Ar S k).length lc)∧u.ownsRow v.heap.size 48 1 l (Ar S k).length ((tbs S (Ar S k)).map fun b=>Pt b 0)∧v.heap.size≤u.heap.size∧(∀ b,b<v.heap.size->u.heap[b]? = v.heap[b]?)∧u.os=v.os∧u.output=v.output) (fun _ _ i _=>S.thr.length - (intOf i).toNat)
 case atStart=>exact ⟨0,Nat.zero_le _,rfl,rfl,⟨none,0,rfl⟩,⟨by simp[Ar,tbs],.inl ⟨rfl,rfl⟩⟩,Nat.le_refl _,fun _ _=>rfl,rfl,rfl⟩
 case round =>
  obtain ⟨k,hk,rfl,rfl,⟨lp,lc,rfl⟩,hown,hsz,hbl,hos,hou⟩:=hrel
  have HI:Hid (wr.ownsRow v.heap.size 48 1 (.slice lp (Ar S k).length lc) (Ar S k).length ((tbs S (Ar S k)).map fun b=>Pt b 0)∧v.heap.size≤wr.heap.size∧(∀ b,b<v.heap.size->wr.heap[b]? = v.heap[b]?)∧wr.os=v.os∧wr.output=v.output):=⟨⟨hown,hsz,hbl,hos,hou⟩⟩
  clear hown hsz hbl hos hou
  by_cases hlt:k<S.thr.length
  ·obtain ⟨t,ht⟩:∃ t,S.thr[k]? = some t:=⟨_,List.getElem?_eq_getElem hlt⟩
   obtain ⟨g,rfl,hg⟩:=HT.out k t ht
   have HRw:Hid (Rep z S wr):=⟨HR.out.grows HI.out.2.1 HI.out.2.2.1⟩
   have hg':wr.cell? ⟨g,k,none⟩=some (Pt t.tb 0):=by rw[World.cell?_of_block (HI.out.2.2.1 g (World.block_lt_of_cell? _ _ hg))];exact hg
   have hst:wr.cell? ⟨t.tb,3,none⟩=some (I t.st):=(HRw.out.cell ht).2.2.2.1
   have HTk:Hid (S.thr[k]? = some t):=⟨ht⟩
   have hlt':(k:Int)<(S.thr.length:Int):=by omega
   have HLen:Hid ((Ar S k).length≤k):=⟨rdyIds_len S k⟩
   have HW1:=waits2_succ S k ht
   have HI1:=rdyIds_succ S k ht
   clear hg
   cases hr:rdy S t with
   |false =>
    rw[hr] at HI1
    simp only[Bool.false_eq_true,if_false] at HI1
    have HS:Hid (Ar S (k+1)=Ar S k∧Cc S (k+1)=(Cc S k||t.st==2)):=⟨⟨HI1,HW1⟩⟩
    have HRD:Hid (rdy S t=false):=⟨hr⟩
    clear HI1 HW1 hr ht
    cases hb:Cc S k<;>cases hs:(t.st==2)
    all_goals
     have HBS:Hid (Cc S (k+1)=_):=⟨by rw[HS.out.2,hb,hs]⟩
     clear hb
     go_wp2_with (go_at_call 108;refine ((body71 HRw.out HTk.out).calls Tryd.func108 rfl).mono ?_;rintro e w1 ⟨_,rfl,rfl,q,rfl⟩;rw[HRD.out])
     go_roundw
     case rel =>
      refine ⟨k+1,by omega,by go_num,by rw[HBS.out];rfl,⟨lp,lc,by rw[HS.out.1]⟩,?_,HI.out.2.1,HI.out.2.2.1,HI.out.2.2.2.1,HI.out.2.2.2.2⟩
      rw[HS.out.1]
      exact Av (fun _ _=>rfl) HI.out.1
     case measure=>simp[intOf];omega
   |true =>
    rw[hr] at HI1
    simp only[if_true] at HI1
    have hel:tbs S [k]=[t.tb]:=by simp[tbs,ht]
    have HS:Hid (Ar S (k+1)=Ar S k++[k]∧Cc S (k+1)=(Cc S k||t.st==2)∧tbs S (Ar S (k+1))=tbs S (Ar S k)++[t.tb]):=⟨⟨HI1,HW1,by rw[HI1,←hel];simp[tbs]⟩⟩
    have HRD:Hid (rdy S t=true):=⟨hr⟩
    clear HI1 HW1 hr ht hel
    obtain ⟨j0,hj,hj0,hj1,hj2⟩:=info_parts info46
    have HG:Hid (∀ (q:Nat) (w6:World),((wr.drewN q).alloc (.cells #[Pt t.tb 0] 48)).grownBy w6 (Value.slice lp (Ar S k).length lc).ownBlock->w6.cell? ⟨t.tb,3,none⟩=some (I t.st)∧v.heap.size≤w6.heap.size∧(∀ b,b<v.heap.size->w6.heap[b]? = v.heap[b]?)∧w6.os=v.os∧w6.output=v.output):=⟨fun q w6 hg6=>by
     have hal:Below wr.heap.size wr ((wr.drewN q).alloc (.cells #[Pt t.tb 0] 48)):=Ad (a:=wr) (b:=wr.drewN q) ⟨rfl,rfl,rfl,Nat.le_refl _,fun _ _=>rfl⟩ _
     have hblk:∀ b,b<v.heap.size->w6.heap[b]? = v.heap[b]?:=fun b hb=>by
      rw[hg6.block b (by have:=HI.out.2.1;have:=hal.size;omega) (fun e=>by have:=(own_lt HI.out.1 b e.symm).1;omega),hal.block b (by have:=HI.out.2.1;omega),HI.out.2.2.1 b hb]
     have hbt:t.tb<v.heap.size:=HR.out.lt (k:=k+5) (by simp[blk,HTk.out])
     refine ⟨?_,by have:=HI.out.2.1;have:=hal.size;have:=hg6.size;omega,hblk,by rw[hg6.os,hal.os];exact HI.out.2.2.2.1,by rw[hg6.output,hal.output];exact HI.out.2.2.2.2⟩
     rw[World.cell?_of_block (w:=wr) (by rw[hblk _ hbt,HI.out.2.2.1 _ hbt])]
     exact hst⟩
    cases hb:Cc S k<;>cases hs:(t.st==2)
    all_goals
     have HBS:Hid (Cc S (k+1)=_):=⟨by rw[HS.out.2.1,hb,hs]⟩
     clear hb
     go_wp2_with (first
      |(go_at_call 108;refine ((body71 HRw.out HTk.out).calls Tryd.func108 rfl).mono ?_;rintro e w1 ⟨_,rfl,rfl,q,rfl⟩;rw[HRD.out])
      |(refine wpList_append_lies _ rfl (.tmp 19) (.tmp 21) 64 rfl v.heap.size 48 j0 _ 1 8 Tryd.underlying64 hj hj0 hj1 hj2 rfl (by decide) (.slice lp (Ar S k).length lc) (Ar S k).length ((tbs S (Ar S k)).map fun b=>Pt b 0) rfl (Dm (Ad (Below.refl _ _) _) (Av (fun _ _=>rfl) HI.out.1)) ⟨_,0,none⟩ 1 1 [Pt t.tb 0] rfl rfl (news1 _ _ _) (one1 _) (by decide) (by have:=HLen.out;unfold maxLen;omega) (by have:=HLen.out;omega) (by have:=HI.out.2.1;simp;omega) _ rfl ?_
        intro g2 cp2 w6 hown6 hgrow6 hat6 hlt6
        have k3:=(HG.out _ _ hgrow6).1))
     have HO6:Hid (w6.ownsRow v.heap.size 48 1 (.slice (some ⟨g2,0,none⟩) ((Ar S k).length+1) cp2) ((Ar S k).length+1) (((tbs S (Ar S k)).map fun b=>Pt b 0)++[Pt t.tb 0])):=⟨hown6⟩
     have HG6:=(HG.out _ _ hgrow6).2
     go_roundw
     case rel =>
      have el:(Ar S (k+1)).length=(Ar S k).length+1:=by rw[HS.out.1];simp
      refine ⟨k+1,by omega,by go_num,by rw[HBS.out];rfl,⟨some ⟨g2,0,none⟩,cp2,by rw[el]⟩,?_,HG6.1,HG6.2.1,HG6.2.2.1,HG6.2.2.2⟩
      rw[el,HS.out.2.2]
      simpa using HO6.out
     case measure=>simp[intOf];omega
  ·have hkk:k=S.thr.length:=by omega
   subst hkk
   go_wp2_with fail
   exact HI.out
end Go.Proofs.YtaofjdoielmobaaDoor
