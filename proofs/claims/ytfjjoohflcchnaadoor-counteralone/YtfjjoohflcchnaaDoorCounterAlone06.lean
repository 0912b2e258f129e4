/- Of the proof of CounterAlone. Part 6 of 21. (Joined, by program, and written short, of: Freeze, Await, Lift26, Awake2, Lift27, AwaitNo, Lift28, Ready, Play5, Pick, Scan.) -/
import Derived.Test.YtfjjoohflcchnaaDoorCounterAlone05
import Derived.Conc.DeferLaws
import Derived.Conc.QuitsD
import Derived.WalkLawsBesides
set_option linter.unusedSimpArgs false
set_option linter.unusedVariables false
set_option maxHeartbeats 4000000
set_option maxRecDepth 100000
namespace Go.Proofs.YtfjjoohflcchnaaDoor
open Go Go.Lift Go.Conc Go.RowKit
def chill:Option Nat→Obj→Obj
 |some n,.cells c e _=>.cells c e (n,n+1)
 |_,o=>o
theorem zap_chill (x:Option Nat) (o:Obj) (h:∀ c e f,o=.cells c e f→x.isSome=true→f=(0,0)):zap x (chill x o)=o:=by
 cases x with
 |none=>cases o<;>rfl
 |some n =>
  cases o with
  |cells c e f =>
   have:=h c e f rfl rfl
   subst this
   rfl
  |_=>rfl
theorem freeze_rel {z:Nat→Option Nat} {w:World} (h:∀ r n,z r=some n→r<w.heap.size∧∀ c e f,w.heap[r]? = some (.cells c e f)→f=(0,0)) :
 ∃ v,Rel z v w∧(∀ r,v.heap[r]? = (w.heap[r]?).map (chill (z r)))∧v.heap.size=w.heap.size∧v.os=w.os∧v.output=w.output:=by
 have hget:∀ r:Nat,(w.heap.mapIdx fun r o=>chill (z r) o)[r]? = (w.heap[r]?).map (chill (z r)):=fun r=>by rw [Array.getElem?_mapIdx]
 refine ⟨{ w with heap:=w.heap.mapIdx fun r o=>chill (z r) o },⟨fun r=>?_,fun r n c e f hz hh=>?_,fun r n hz=>?_,rfl,rfl⟩,hget,by simp,rfl,rfl⟩
 ·show w.heap[r]? = ((w.heap.mapIdx fun r o=>chill (z r) o)[r]?).map (zap (z r))
  rw [hget]
  cases ho:w.heap[r]? with
  |none=>rfl
  |some o =>
   simp only [Option.map_some,Option.some.injEq]
   exact (zap_chill _ _ fun c e f he hs=>by
    cases hz:z r with
    |none=>rw [hz] at hs;cases hs
    |some n=>exact (h r n hz).2 c e f (by rw [ho,he])).symm
 ·simp only at hh
  rw [hget,hz] at hh
  cases ho:w.heap[r]? with
  |none=>rw [ho] at hh;cases hh
  |some o =>
   rw [ho] at hh
   cases o<;>simp only [Option.map_some,chill,Option.some.injEq,Obj.cells.injEq,reduceCtorEq] at hh
   exact hh.2.2.symm
 ·simpa using (h r n hz).1
section
variable {z:Nat→Option Nat} {S:TS} {K:List (Nat×Int)} {v w:World}
theorem Mem.thaw (h:Mem z S K v) (hr:Rel z v w):Mem zn S K w:=by
 have hno:∀ b:Nat,(∀ c e,v.heap[b]?≠some (Obj.cells c e (0,0)))∨w.heap[b]? = v.heap[b]?:=fun b=>by
  cases hz:z b with
  |none=>right;rw [hr.heap,hz];cases v.heap[b]?<;>simp [zap_none]
  |some n =>
   left
   intro c e hh
   have:=hr.kept b n c e _ hz hh
   simp at this
 have hrow:∀ (b:Nat) (c:Array Value) (e:TypeId),v.heap[b]? = some (.cells c e (fz z b))→w.heap[b]? = some (.cells c e (fz zn b)):=fun b c e hh=>by
  rw [hr.heap,hh]
  unfold fz
  cases hz:z b<;>rfl
 have hown:∀ {base:Nat} {e:TypeId} {size:Nat} {x:Value} {n:Nat} {xs:List Value},v.ownsRow base e size x n xs→w.ownsRow base e size x n xs:=fun {base e size x n xs} ho=>by
  refine ⟨ho.1,?_⟩
  rcases ho.2 with h2|⟨g,cap,cur,h1,h2,h3,h4⟩
  ·exact .inl h2
  ·refine .inr ⟨g,cap,cur,h1,h2,?_,h4⟩
   rcases hno g with hn|hn
   ·exact absurd h3 (hn _ _)
   ·rw [hn];exact h3
 refine ⟨⟨hrow _ _ _ h.rep.wor,fun i t ht=>hrow _ _ _ (h.rep.thr i t ht),hown h.rep.own,hown h.rep.chg,hown h.rep.ths,hown h.rep.sch,by rw [hr.size];exact h.rep.bs,h.rep.apart,fun b n hz=>(nomatch hz)⟩,fun j c hc=>?_,h.far,h.inj,h.len⟩
 rcases hno c.1 with hn|hn
 ·exact absurd (h.cel j c hc) (hn _ _)
 ·rw [hn];exact h.cel j c hc
theorem Mem.freeze (h:Mem zn S K w) (hz:∀ b n,z b=some n→(b=S.wb∧n=8)∨∃ (i:Nat) (t:Thr),S.thr[i]? = some t∧b=t.tb∧n=2):∃ v,Rel z v w∧Mem z S K v∧v.os=w.os∧v.output=w.output:=by
 have hits:∀ b n,z b=some n→Its S b:=fun b n hb=>by
  rcases hz b n hb with ⟨rfl,_⟩|⟨i,t,ht,rfl,_⟩
  ·exact ⟨0,rfl⟩
  ·exact ⟨i+5,by simp [blk,ht]⟩
 have hlo:∀ r n,z r=some n→r<w.heap.size∧∀ c e f,w.heap[r]? = some (.cells c e f)→f=(0,0):=fun r n hb=>by
  refine ⟨h.lt (.inl (hits r n hb)),fun c e f hh=>?_⟩
  rcases hz r n hb with ⟨rfl,_⟩|⟨i,t,ht,rfl,_⟩
  ·rw [h.rep.wor] at hh;cases hh;rfl
  ·rw [h.rep.thr i t ht] at hh;cases hh;rfl
 obtain ⟨v,hr,hget,hs,ho,hu⟩:=freeze_rel hlo
 have hrow:∀ (b:Nat) (c:Array Value) (e:TypeId),w.heap[b]? = some (.cells c e (fz zn b))→v.heap[b]? = some (.cells c e (fz z b)):=fun b c e hh=>by
  rw [hget,hh]
  unfold fz
  cases hzb:z b<;>rfl
 have hoth:∀ b,z b=none→v.heap[b]? = w.heap[b]?:=fun b hb=>by
  rw [hget,hb]
  cases w.heap[b]? with
  |none=>rfl
  |some o=>cases o<;>rfl
 have hzo:∀ k b,blk S k=some b→k≠0→k<5→z b=none:=fun k b hk h0 h5=>by
  cases hb:z b with
  |none=>rfl
  |some n =>
   rcases hz b n hb with ⟨rfl,_⟩|⟨i,t,ht,rfl,_⟩
   ·exact absurd (h.rep.apart k 0 _ hk rfl) h0
   ·have:=h.rep.apart k (i+5) _ hk (by simp [blk,ht]);omega
 refine ⟨v,hr,⟨⟨hrow _ _ _ h.rep.wor,fun i t ht=>hrow _ _ _ (h.rep.thr i t ht),own_stay (fun b hb=>hoth b (hzo 3 b hb (by omega) (by omega))) h.rep.own,own_stay (fun b hb=>hoth b (hzo 1 b hb (by omega) (by omega))) h.rep.chg,own_stay (fun b hb=>hoth b (hzo 2 b hb (by omega) (by omega))) h.rep.ths,own_stay (fun b hb=>hoth b (hzo 4 b hb (by omega) (by omega))) h.rep.sch,by rw [hs];exact h.rep.bs,h.rep.apart,hz⟩,fun j c hc=>?_,h.far,h.inj,h.len⟩,ho,hu⟩
 rw [hoth c.1 (by
  cases hb:z c.1 with
  |none=>rfl
  |some n=>exact absurd (hits _ n hb) (h.far j c hc))]
 exact h.cel j c hc
end
theorem Mem.chan {z:Nat→Option Nat} {S:TS} {K:List (Nat×Int)} {w:World} (h:Mem z S K w) {c:Nat} {o:Obj} (hc:w.heap[c]? = some o) (ho:∀ (x:Array Value) (e:TypeId) (f:Nat×Nat),o≠Obj.cells x e f) (cap:Nat) (buf:Array Value) (cl:Bool) (a b:Nat) (tm:Bool):Mem z S K (w.setChan c cap buf cl a b tm):=by
 have hne:∀ (r:Nat) (x:Array Value) (e:TypeId) (f:Nat×Nat),w.heap[r]? = some (Obj.cells x e f)→(w.setChan c cap buf cl a b tm).heap[r]? = some (Obj.cells x e f):=fun r x e f hr=>by
  rw [heap_setChan_ne]
  ·exact hr
  ·rintro rfl
   rw [hc] at hr
   cases hr
   exact ho _ _ _ rfl
 have hown:∀ {base:Nat} {e:TypeId} {size:Nat} {x:Value} {n:Nat} {xs:List Value},w.ownsRow base e size x n xs→(w.setChan c cap buf cl a b tm).ownsRow base e size x n xs:=fun {base e size x n xs} ho=>by
  refine ⟨ho.1,?_⟩
  rcases ho.2 with h2|⟨g,cp,cur,h1,h2,h3,h4⟩
  ·exact .inl h2
  ·exact .inr ⟨g,cp,cur,h1,h2,hne _ _ _ _ h3,h4⟩
 have hs:(w.setChan c cap buf cl a b tm).heap.size=w.heap.size:=by simp [World.setChan]
 exact ⟨⟨hne _ _ _ _ h.rep.wor,fun i t ht=>hne _ _ _ _ (h.rep.thr i t ht),hown h.rep.own,hown h.rep.chg,hown h.rep.ths,hown h.rep.sch,by rw [hs];exact h.rep.bs,h.rep.apart,h.rep.kept⟩,fun j d hd=>hne _ _ _ _ (h.cel j d hd),h.far,h.inj,h.len⟩
end Go.Proofs.YtfjjoohflcchnaaDoor
namespace Go.Lift
open Go.Conc
section
variable {P:Program} {main:Bool} {Stop:Goroutine→World→Prop} {k:List Item} {cs:List Frame} {w:World} {ops:Array Oper} {i:Nat} {rest:List Nat} {o:Oper} {L:FuncId→Prop} {b:Frame} {a:Act} {z:Nat→Option Nat} {Ch:Nat→Prop} {v v':World}
theorem op_like (hof:fineOp P true L o) (hvw:Rel z v w) {x:Next} (hr:(execOp a.eval o).run P v=.ok x v') (hd:v'.drawn=v.drawn) (d:Nat) :
 ∃ w',Out z true v v' (w.at d) w'∧(∀ e∈listed P b.fn a o (w.at d),Okay true e∧Spares z w' e)∧(execOp a.eval o).run P (w.at d)=.ok x w':=by
 have hT:(execOp a.eval o).runT P v #[]=(.ok x v',(execOp a.eval o).events P v #[]):=by
  have:=runT_fst (P:=P) (execOp a.eval o) v #[]
  rw [hr] at this
  exact Prod.ext this rfl
 obtain ⟨w',h1,h2,h3⟩:=sim z _ (hof a).1 v (w.at d) #[] x v' _ (hvw.re rfl rfl rfl rfl rfl rfl) hT (fun i hi=>absurd hi (by omega))
 refine ⟨w',h2,fun e he=>?_,by rw [←runT_fst (P:=P) _ (w.at d) #[],h1]⟩
 have e2:(execOp a.eval o).events P (w.at d) #[]=(execOp a.eval o).events P v #[]:=by
  show ((execOp a.eval o).runT P (w.at d) #[]).2=_
  rw [h1]
 unfold listed at he
 rw [e2] at he
 rcases h3 e (mem_seen he) with h|h
 ·simp at h
 ·exact h
theorem goesI_opZ (ho:ops[i]? = some o) (hw:Region.wanted o (yielded ops a.tmps)=true) (hk:b.kind≠.early) (hof:fineOp P true L o) (hvw:Rel z v w) (hn:NoRow Ch v) {x:Value} (hr:(execOp a.eval o).run P v=.ok (.value x) v') (hd:v'.drawn=v.drawn)
 (h:∀ w',Rel z v' w'→NoRow Ch v'→GoesI P main (DT (ScZ z) Ch) Stop (G (b.at (a.put o.dst x) (.inRegion ops rest :: k)) cs) w'):GoesI P main (DT (ScZ z) Ch) Stop (G (b.at a (.inRegion ops (i :: rest) :: k)) cs) w:=by
 have one:=op_like (b:=b) hof hvw hr hd
 exact .step rfl _ (fun d=>(one d).choose) _ (fun d=>stepG_value ho hw hk (one d).choose_spec.2.2) (fun d=>dt_of_z v v' (w.at d) _ _ hn (hvw.re rfl rfl rfl rfl rfl rfl) (one d).choose_spec.1 (one d).choose_spec.2.1) (fun d=>h _ (one d).choose_spec.1.rel (noRow_keeps _ _ (one d).choose_spec.1.keeps hn))
theorem goesI_doZ (ho:ops[i]? = some o) (hw:Region.wanted o (yielded ops a.tmps)=true) (hk:b.kind≠.early) (hof:fineOp P true L o) (hvw:Rel z v w) (hn:NoRow Ch v) (hr:(execOp a.eval o).run P v=.ok .skip v') (hd:v'.drawn=v.drawn)
 (h:∀ w',Rel z v' w'→NoRow Ch v'→GoesI P main (DT (ScZ z) Ch) Stop (G (b.at (a.put o.dst undef) (.inRegion ops rest :: k)) cs) w'):GoesI P main (DT (ScZ z) Ch) Stop (G (b.at a (.inRegion ops (i :: rest) :: k)) cs) w:=by
 have one:=op_like (b:=b) hof hvw hr hd
 exact .step rfl _ (fun d=>(one d).choose) _ (fun d=>stepG_none ho hw hk (one d).choose_spec.2.2) (fun d=>dt_of_z v v' (w.at d) _ _ hn (hvw.re rfl rfl rfl rfl rfl rfl) (one d).choose_spec.1 (one d).choose_spec.2.1) (fun d=>h _ (one d).choose_spec.1.rel (noRow_keeps _ _ (one d).choose_spec.1.keeps hn))
theorem Agr.eval {n:Nat} {val:Nat→Value} {a0:Act} {l:Array Bool} (h:Agr ops n val a0 l a) {j:Nat} {t:Tmp} (hj:j<n) (ho:ops[j]? = some o) (hl:l.getD j false=true) (hd:o.dst=some t):a.eval (.tmp t)=val j:=by
 simp [Act.eval,h.done j o t hj ho hl hd]
theorem Agr.eval0 {n:Nat} {val:Nat→Value} {a0:Act} {l:Array Bool} (h:Agr ops n val a0 l a) {t:Tmp} (hd:∀ (j:Nat) (o:Oper),j<n→ops[j]? = some o→o.dst≠some t):a.eval (.tmp t)=a0.eval (.tmp t):=by
 simp [Act.eval,h.else_ t (fun j o hj ho _=>hd j o hj ho)]
end
end Go.Lift
namespace Go.Proofs.YtfjjoohflcchnaaDoor
open Go Go.Lift Go.Conc Go.RowKit
end Go.Proofs.YtfjjoohflcchnaaDoor
namespace Go.Lift
open Go.Conc
section
variable {P:Program} {main:Bool} {Stop:Goroutine→World→Prop} {k:List Item} {cs:List Frame} {w:World} {ops:Array Oper} {i:Nat} {rest:List Nat} {o:Oper}
theorem goesI_outZ {z:Nat→Option Nat} {Ch:Nat→Prop} {L:FuncId→Prop} (hE:∀ fr cs dy g w,∃ o w',early P fr cs dy g w=.ended o w') (hL:∀ g,L g→fineFn P true L g)
 {f:FuncId} {fn:Func} {c:Code} {act:Act} {more:List Item} {bc:Frame} {ac:Act} {R:Value→World→Prop} {v0:World} (hvw:Rel z v0 w) (hn:NoRow Ch v0) (hf:P.funcs[f]? = some fn) (hc:fineCode P true L c) (ha:act.defers=[]) (ho:ops[i]? = some o)
 (hwp:∀ τ,c.wp P (fun e a w'=>e=.ret∧∃ x,(results fn a.tmps).run P w'=.ok x w'∧R x w') act (onTape v0 τ 0))
 (h:∀ v v' w',R v v'→Rel z v' w'→NoRow Ch v'→GoesI P main (DT (ScZ z) Ch) Stop (G (bc.at (ac.put o.dst v) (.inRegion ops rest :: k)) cs) w') :
 GoesI P main (DT (ScZ z) Ch) Stop (G ((base f).at act (.code c :: more)) (bc.at ac (.inRegion ops (i :: rest) :: k) :: cs)) w:=by
 refine (lift_code (P:=P) (z:=z) (wr:=true) (L:=L) (D:=DT (ScZ z) Ch) (I:=NoRow Ch) (main:=main) (b:=base f) (k:=more) (cs:=bc.at ac (.inRegion ops (i :: rest) :: k) :: cs) hE hL noRow_keeps
  (fun v v' w w' es hi hr ho he=>dt_of_z v v' w w' es hi hr ho he) hvw hc ha (by simp [base]) hn hwp (fun e a w hq=>.inr hq.1)).then ?_
 rintro g w' ⟨a',v',hr,hiv,hd,⟨⟨hq,_⟩,_⟩|⟨⟨_,x,hx,hR⟩,todo,rfl⟩⟩
 ·cases hq
 ·exact goesI_leaveZ hr hiv hf hd ho hx (fun w'' hr''=>h x v' w'' hR hr'' hiv)
end
end Go.Lift
namespace Go.Proofs.YtfjjoohflcchnaaDoor
open Go Go.Lift Go.Conc Go.RowKit
def condA:Code→Code
 |.cond _ a _=>a
 |c=>c
end Go.Proofs.YtfjjoohflcchnaaDoor
namespace Go.Lift
open Go.Conc
section
variable {P:Program} {main:Bool} {b:Frame} {a:Act} {k:List Item} {cs:List Frame} {w:World} {D:World→World→Array Event→Prop} {Stop:Goroutine→World→Prop} {ops:Array Oper} {i:Nat} {rest:List Nat} {o:Oper} {todo:List Item} {ds:List Deferred} {f:FuncId} {fn:Func}
def dclo (f:FuncId) (cap:Array Value):Deferred:={ target:=.fn (.func f) cap,args:=#[] }
noncomputable def botP (P:Program):Frame:={ (default:Frame) with fn:=P.funcs.size,defers:=[],mode:=.panicking [goexitEntry] }
theorem stepG_deferV {d:Deferred} (ho:ops[i]? = some o) (hw:Region.wanted o (yielded ops a.tmps)=true) (hk:b.kind≠.early) (hr:(execOp a.eval o).run P w=.ok (.defer d) w) (he:(execOp a.eval o).events P w #[]=#[]) :
 stepG P main (G (b.at a (.inRegion ops (i :: rest) :: k)) cs) w=.go (G (b.at (Act.put ⟨a.tmps,d :: a.defers⟩ o.dst undef) (.inRegion ops rest :: k)) cs) w #[]:=by
 have hfin:(b.at ⟨a.tmps,d :: a.defers⟩ (.inRegion ops (i :: rest) :: k)).finish undef=b.at (Act.put ⟨a.tmps,d :: a.defers⟩ o.dst undef) (.inRegion ops rest :: k):=by rw [Frame.finish_at,ho];rfl
 have hk':(b.kind==CallKind.early)=false:=by simpa using hk
 rw [stepG_oper ho hw,←hfin]
 simp [stepG.apply,hr,he,G,Frame.at,hk',GStep.after,seen_none]
theorem stepG_unwind_clo {c : Code} {cap : Array Value} (hd : a.defers = dclo f cap :: ds) (hf : P.funcs[f]? = some fn) (hname : (fn.name == "runtime.NumGoroutine") = false) (hb : fn.body = some c) :
 stepG P main (G { b.at a todo with mode:=.returning } cs) w =
  .go (G ((baseD f).at { tmps:=cap++Array.replicate (fn.ntmps - cap.size) undef,defers:=[] } [.code c]) ({ b.at ⟨a.tmps,ds⟩ todo with mode:=.returning } :: cs)) w #[]:=by
 have h1 : ¬ fn.name = "runtime.NumGoroutine" := by simpa using hname
 rw [←enter_atD cap hf hb]
 simp [G,stepG,unwind,callDeferred,Frame.at,hd,dclo,invoke,callFunc,hf,h1,hb,GStep.after,seen_none]
theorem stepG_recover_none {c:Frame} (ho:ops[i]? = some o) (hw:Region.wanted o (yielded ops a.tmps)=true) (hk:b.kind=.deferred) (hc:c.mode=.returning) (hr:(execOp a.eval o).run P w=.ok .recover w) (he:(execOp a.eval o).events P w #[]=#[]) :
 stepG P main (G (b.at a (.inRegion ops (i :: rest) :: k)) (c :: cs)) w=.go (G (b.at (a.put o.dst .nilIface) (.inRegion ops rest :: k)) (c :: cs)) w #[]:=by
 have hfin:(b.at a (.inRegion ops (i :: rest) :: k)).finish .nilIface=b.at (a.put o.dst .nilIface) (.inRegion ops rest :: k):=by rw [Frame.finish_at,ho];rfl
 rw [stepG_oper ho hw,←hfin]
 simp [stepG.apply,hr,he,G,Frame.at,hk,hc,tryRecover,GStep.after,seen_none]
theorem goesI_deferV {d:Deferred} (hD:∀ w,D w w #[]) (ho:ops[i]? = some o) (hw:Region.wanted o (yielded ops a.tmps)=true) (hk:b.kind≠.early) (hr:∀ w,(execOp a.eval o).run P w=.ok (.defer d) w) (he:∀ w,(execOp a.eval o).events P w #[]=#[])
 (h:GoesI P main D Stop (G (b.at (Act.put ⟨a.tmps,d :: a.defers⟩ o.dst undef) (.inRegion ops rest :: k)) cs) w):GoesI P main D Stop (G (b.at a (.inRegion ops (i :: rest) :: k)) cs) w :=
 .ctl rfl (fun w=>stepG_deferV ho hw hk (hr w) (he w)) hD h
theorem goesI_unwind_clo {c : Code} {cap : Array Value} (hD : ∀ w, D w w #[]) (hd : a.defers = dclo f cap :: ds) (hf : P.funcs[f]? = some fn) (hname : (fn.name == "runtime.NumGoroutine") = false) (hb : fn.body = some c)
 (h:GoesI P main D Stop (G ((baseD f).at { tmps:=cap++Array.replicate (fn.ntmps - cap.size) undef,defers:=[] } [.code c]) ({ b.at ⟨a.tmps,ds⟩ todo with mode:=.returning } :: cs)) w):GoesI P main D Stop (G { b.at a todo with mode:=.returning } cs) w :=
 .ctl rfl (fun _=>stepG_unwind_clo hd hf hname hb) hD h
theorem goesI_recover_none {c:Frame} (hD:∀ w,D w w #[]) (ho:ops[i]? = some o) (hw:Region.wanted o (yielded ops a.tmps)=true) (hk:b.kind=.deferred) (hc:c.mode=.returning) (hr:∀ w,(execOp a.eval o).run P w=.ok .recover w) (he:∀ w,(execOp a.eval o).events P w #[]=#[])
 (h:GoesI P main D Stop (G (b.at (a.put o.dst .nilIface) (.inRegion ops rest :: k)) (c :: cs)) w):GoesI P main D Stop (G (b.at a (.inRegion ops (i :: rest) :: k)) (c :: cs)) w :=
 .ctl rfl (fun w=>stepG_recover_none ho hw hk hc (hr w) (he w)) hD h
theorem quits_last (T:Array Value) (todo:List Item) (hf:P.funcs[f]? = some fn) (hr:fn.results=#[]):QuitsD P 2 0 (G { (baseD f).at ⟨T,[]⟩ todo with mode:=.returning } [botP P]):=by
 refine QuitsD.ctl (g':=G (botP P) []) rfl (fun w=>?_) ?_
 ·simp [G,stepG,unwind,doReturn,results,Frame.at,baseD,botP,hf,hr,seen,GStep.after,goexitEntry]
 refine QuitsD.ctl (g':={ G (botP P) [] with status:=.finished }) rfl (fun w=>?_) ⟨rfl,rfl⟩
 simp [G,stepG,unwind,botP,goexitEntry,Frame.catches]
 rfl
end
end Go.Lift
namespace Go.Proofs.YtfjjoohflcchnaaDoor
open Go Go.Lift Go.Conc Go.RowKit
def rdy (S:TS) (t:Thr):Bool:=decide (t.st=1)||(decide (t.st=2)&&(S.stk||decide (chgOf S.chg t.ce≠t.se)))
theorem ints_row {w:World} {base:Nat} {v:Value} {l:List Int} (h:w.ownsRow base 3 1 v l.length (l.map I)):IntRow w v l:=by
 rcases h.2 with ⟨rfl,h0⟩|⟨g,cap,cur,rfl,hb,hh,hle,_,hsz,htake⟩
 ·exact .inl ⟨List.length_eq_zero_iff.1 h0,rfl⟩
 ·refine .inr ⟨g,cap,rfl,fun i x hx=>?_⟩
  have hc:i<l.length:=(List.getElem?_eq_some_iff.1 hx).1
  have e:(l.map I)[i]? = some (I x):=by simp [hx]
  rw [←htake,Nat.mul_one,List.getElem?_take_of_lt hc] at e
  simp only [World.cell?,hh,Option.isSome_none,Bool.false_eq_true,if_false]
  simpa using e
theorem call51 {z:Nat→Option Nat} {S:TS} {v:World} (h:Rep z S v) (c:Int):Calls Tryd.prog 157 #[Pt S.wb 0,I c] v (fun e w'=>e=.returned (I (chgOf S.chg c))∧w'=v) :=
 ((body51 S.wb c S.cv S.chg v h.wcell.2.2.2.1 (ints_row h.chg)).calls Tryd.func157 rfl).mono fun e w' ⟨r,h1,h2,h3⟩=>⟨by rw [h1,h2],h3⟩
theorem call51q {z:Nat→Option Nat} {S:TS} {v:World} (h:Rep z S v) (c:Int) (n:Nat):Calls Tryd.prog 157 #[Pt S.wb 0,I c] (v.drewN n) (fun e w'=>e=.returned (I (chgOf S.chg c))∧∃ m,w'=v.drewN m) :=
 Calls.quiet_of_same (call51 (h.same (v':=v.drewN n) rfl) c)
theorem body71 {z:Nat→Option Nat} {S:TS} {v:World} (h:Rep z S v) {i:Nat} {t:Thr} (ht:S.thr[i]? = some t):Body Tryd.f155 #[Pt t.tb 0] v (fun r v'=>r=.bool (rdy S t)∧∃ n,v'=v.drewN n):=by
 intro code hb
 obtain rfl:=Option.some.inj hb
 clear hb
 simp only [Tryd.ntmps155,List.size_toArray,List.length_cons,List.length_nil,Nat.reduceAdd,Nat.reduceSub,Array.replicate_succ,Array.replicate_zero,List.push_toArray,List.append_toArray,List.nil_append,List.cons_append]
 obtain ⟨c0,_,_,c3,c4,_,c6⟩:=h.cell ht
 have w6:=h.wcell.2.2.2.2.2.2.1
 have HR:Hid (Rep z S v):=⟨h⟩
 clear h
 by_cases h1:t.st=1
 ·have g1:(t.st==1)=true:=by simpa using h1
  have HE:Hid (rdy S t=true):=⟨by simp [rdy,h1]⟩
  clear h1
  go_wp2_with fail
  go_quiet (fail)
  go_wp2
  go_ret
  exact ⟨_,rfl,by rw [HE.out];rfl,_,rfl⟩
 ·have g1:(t.st==1)=false:=by simpa using h1
  by_cases h2:t.st=2
  ·have g2:(t.st==2)=true:=by simpa using h2
   cases hs:S.stk with
   |true =>
    have HE:Hid (rdy S t=true):=⟨by simp [rdy,h2,hs]⟩
    rw [hs] at w6
    clear h1 h2 hs
    go_wp2_with fail
    go_quiet (fail)
    go_wp2
    go_ret
    exact ⟨_,rfl,by rw [HE.out];rfl,_,rfl⟩
   |false =>
    have HE:Hid (rdy S t=(chgOf S.chg t.ce != t.se)):=⟨by simp [rdy,h2,hs,bne];rfl⟩
    rw [hs] at w6
    clear h1 h2 hs
    go_wp2_with fail
    go_quiet (first|(go_at_call 157;exact call51q HR.out t.ce _))
    go_wp2
    go_ret
    exact ⟨_,rfl,by rw [HE.out];rfl,_,rfl⟩
  ·have g2:(t.st==2)=false:=by simpa using h2
   have HE:Hid (rdy S t=false):=⟨by simp [rdy,h1,h2]⟩
   clear h1 h2
   go_wp2_with fail
   go_quiet (fail)
   go_wp2
   go_ret
   exact ⟨_,rfl,by rw [HE.out];rfl,_,rfl⟩
def which (a:Int) (n:Nat):Nat:=(if a.tmod n<0 then a.tmod n+n else a.tmod n).toNat
theorem which_lt (a:Int) {n:Nat} (h:0<n):which a n<n:=by
 unfold which
 have h1:=Int.tmod_lt_of_pos a (show (0:Int)<n by omega)
 have h2:-(n:Int)<a.tmod n:=Int.lt_tmod_of_pos a (by omega)
 split<;>omega
theorem which_pos {a:Int} {n:Nat} (h:0≤a.tmod n):a.tmod n=(which a n:Int):=by
 unfold which
 rw [if_neg (by omega),Int.toNat_of_nonneg h]
theorem which_neg {a:Int} {n:Nat} (h:a.tmod n<0) (h0:0<n) (hb:(n:Int)<9223372036854775808):wrap64 (a.tmod n+n)=(which a n:Int):=by
 have h2:-(n:Int)<a.tmod n:=Int.lt_tmod_of_pos a (by omega)
 unfold which
 rw [if_pos h,Int.toNat_of_nonneg (by omega)]
 unfold wrap64
 omega
theorem mix21:Tryd.prog.follows .mixedOrders=true:=by kernel_rfl
theorem fineFn_body {P:Program} {L:FuncId→Prop} {f:FuncId} {fn:Func} {c:Code} (hL:∀ g,L g→fineFn P true L g) (hf:L f) (h1:P.funcs[f]? = some fn) (h2:fn.body=some c):fineCode P true L c:=by
 obtain ⟨fn',c',h3,h4,h5,_⟩:=hL f hf
 rw [h1] at h3
 cases h3
 rw [h2] at h4
 cases h4
 exact h5
theorem world_set {z:Nat→Option Nat} {S:TS} {v:World} (h:Rep z S v) (u:Nat) (l:Int) (b:Bool) (o:Nat) (x:Value) (hw:(wrow S).setIfInBounds o x=wrow { S with us:=u,la:=l,stk:=b }):Ev z S v { S with us:=u,la:=l,stk:=b } (v.setCell ⟨S.wb,o,none⟩ x):=by
 have hst:∀ k b,blk S k=some b→k≠0→(v.setCell ⟨S.wb,o,none⟩ x).heap[b]? = v.heap[b]?:=fun k b hk h0=>Below.heap_setCell _ _ _ _ (fun e=>h0 (h.apart k 0 b hk (by rw [e];rfl)))
 refine ⟨⟨?_,fun i t ht=>?_,own_stay (fun b hb=>hst 3 b hb (by omega)) h.own,own_stay (fun b hb=>hst 1 b hb (by omega)) h.chg,own_stay (fun b hb=>hst 2 b hb (by omega)) h.ths,own_stay (fun b hb=>hst 4 b hb (by omega)) h.sch,?_,fun j k b hj hk=>?_,h.kept⟩,⟨rfl,rfl,by simp [World.setCell],fun b _ hs=>Below.heap_setCell _ _ _ _ (fun e=>hs ⟨0,by rw [e];rfl⟩)⟩,fun b ⟨k,hk⟩=>.inl ⟨k,?_⟩⟩
 ·have:=heap_setCell_same (o:=o) h.wor x
  rw [hw] at this
  exact this
 ·rw [hst (i+5) t.tb (by simp only [blk];rw [show S.thr[i]? = some t from ht];rfl) (by omega)]
  exact h.thr i t ht
 ·show S.base≤_
  simpa [World.setCell] using h.bs
 ·refine h.apart j k b ?_ ?_
  ·rw [←hj];match j with|0=>rfl|1=>rfl|2=>rfl|3=>rfl|4=>rfl|j+5=>rfl
  ·rw [←hk];match k with|0=>rfl|1=>rfl|2=>rfl|3=>rfl|4=>rfl|k+5=>rfl
 ·rw [←hk];match k with|0=>rfl|1=>rfl|2=>rfl|3=>rfl|4=>rfl|k+5=>rfl
def PtrRow (w:World) (v:Value) (bs:List Nat):Prop:=∃ g cap,v=.slice (some ⟨g,0,none⟩) bs.length cap∧∀ (k b:Nat),bs[k]? = some b→w.cell? ⟨g,k,none⟩=some (Pt b 0)
def pickAt (S:TS) (ids:List Nat):Nat:=if S.us<S.sched.length then which (S.sched.getD S.us 0) ids.length else (ids.findIdx? (fun (i:Nat)=>decide (S.la<(i:Int)))).getD 0
def picked (S:TS):TS:=if S.us<S.sched.length then { S with us:=S.us+1 } else S
theorem find_at {l:List Nat} {a:Int} {k i:Nat} (h1:l[k]? = some i) (h2:a<(i:Int)) (h3:∀ (j i:Nat),j<k→l[j]? = some i→(i:Int)≤a):l.findIdx? (fun (i:Nat)=>decide (a<(i:Int)))=some k:=by
 have hk:=(List.getElem?_eq_some_iff.1 h1).1
 rw [List.findIdx?_eq_some_iff_getElem]
 refine ⟨hk,?_,fun j hj=>?_⟩
 ·have:l[k]=i:=by rw [List.getElem?_eq_getElem hk] at h1;exact Option.some.inj h1
  simp [this,h2]
 ·have:=h3 j _ hj (List.getElem?_eq_getElem (by omega))
  simpa using this
theorem find_none {l:List Nat} {a:Int} (h3:∀ (j i:Nat),j<l.length→l[j]? = some i→(i:Int)≤a):l.findIdx? (fun (i:Nat)=>decide (a<(i:Int)))=none:=by
 rw [List.findIdx?_eq_none_iff]
 intro x hx
 obtain ⟨j,hj,rfl⟩:=List.mem_iff_getElem.1 hx
 have:=h3 j _ hj (List.getElem?_eq_getElem hj)
 simpa using this
theorem body72 {z:Nat→Option Nat} {S:TS} {v:World} (h:Rep z S v) (lv:Value) (ids bs:List Nat) (hl:PtrRow v lv bs) (hlw:∀ g,lv.ownBlock=some g→¬ Its S g) (hlen:bs.length=ids.length) (hids:∀ (k i b:Nat),ids[k]? = some i→bs[k]? = some b→∃ t,S.thr[i]? = some t∧t.tb=b) (h0:0<ids.length) (hm:ids.length≤8) (hus:S.sched.length≤4611686018427387904) (hsc:∀ x∈S.sched,-9223372036854775808≤x∧x<9223372036854775808) :
 Body Tryd.f156 #[Pt S.wb 0,lv] v (fun r v'=>(∃ b,bs[pickAt S ids]? = some b∧r=Pt b 0)∧Ev z S v (picked S) v'):=by
 obtain ⟨g,cap,rfl,hrow⟩:=hl
 intro code hb
 obtain rfl:=Option.some.inj hb
 clear hb
 simp only [Tryd.ntmps156,List.size_toArray,List.length_cons,List.length_nil,Nat.reduceAdd,Nat.reduceSub,Array.replicate_succ,Array.replicate_zero,List.push_toArray,List.append_toArray,List.nil_append,List.cons_append]
 obtain ⟨w0,w1,w2,_⟩:=h.wcell
 obtain ⟨p,pc,hp⟩:=own_form h.sch
 rw [hp] at w0
 have f1:=fz_off h 1 (by omega)
 by_cases hu:S.us<S.sched.length
 ·obtain ⟨sg,scap,e1,e2,e3⟩:=ints_cell h.sch (List.getElem?_eq_getElem hu)
  rw [hp] at e1
  cases e1
  have hx:=hsc _ (List.getElem_mem hu)
  have HX:Hid (S.sched.getD S.us 0=S.sched[S.us]):=⟨by simp [List.getD_eq_getElem?_getD,List.getElem?_eq_getElem hu]⟩
  generalize hxs:S.sched[S.us]=x at e2 hx HX
  have HW:Hid (∀ V:World,V.heap=v.heap→V.os=v.os→V.output=v.output→Ev z S v (picked S) (V.setCell ⟨S.wb,1,none⟩ (I (wrap64 ((S.us:Int)+1))))):=⟨fun V q1 q2 q3=>by
   have ew:wrap64 ((S.us:Int)+1)=(S.us:Int)+1:=IntWalk.wrap64_in _ (by omega)
   rw [ew]
   have:=((Ev.refl h).same q1 q2 q3).trans (world_set (h.same q1) (S.us+1) S.la S.stk 1 (I ((S.us:Int)+1)) (by simp))
   unfold picked
   rw [if_pos hu]
   exact this⟩
  have HU:Hid (S.us<S.sched.length):=⟨hu⟩
  have HR:Hid (∀ (k b:Nat),bs[k]? = some b→v.cell? ⟨g,k,none⟩=some (Pt b 0)):=⟨hrow⟩
  have hu':(S.us:Int)<(S.sched.length:Int):=by omega
  have hn0:¬ ((bs.length:Int)=0):=by omega
  have HH:Hid (-9223372036854775808≤x∧x<9223372036854775808):=⟨hx⟩
  clear hrow hids hsc hxs hx h hus
  have hgw:g≠S.wb:=fun e=>hlw g rfl ⟨0,by rw [e];rfl⟩
  have hgw':S.wb≠g:=fun e=>hgw e.symm
  obtain ⟨k,hk⟩:∃ k,which x bs.length=k:=⟨_,rfl⟩
  have hkl:k<bs.length:=by rw [←hk];exact which_lt x (by omega)
  have hcell:=HR.out k _ (List.getElem?_eq_getElem hkl)
  have HK:Hid (pickAt S ids=k∧bs[k]? = some bs[k]):=⟨⟨by unfold pickAt;rw [if_pos hu,HX.out,←hlen];exact hk,List.getElem?_eq_getElem hkl⟩⟩
  generalize bs[k]=b at hcell HK
  have hkz:(0:Int)≤(k:Int):=by omega
  have hkl':(k:Int)<(bs.length:Int):=by omega
  by_cases hneg:x.tmod (bs.length:Int)<0
  ·have hwr:wrap64 (x.tmod (bs.length:Int)+(bs.length:Int))=(k:Int):=by rw [←hk];exact which_neg hneg (by omega) (by omega)
   clear hlen h0 hm hlw hk hu hkl
   generalize bs.length=nn at *
   go_wp2_with fail
   go_quiet (fail)
   go_wp2_with fail
   go_quiet (fail)
   go_wp2_with fail
   go_ret
   exact ⟨_,rfl,⟨b,by rw [HK.out.1];exact HK.out.2,rfl⟩,HW.out _ rfl rfl rfl⟩
  ·have hpos:x.tmod (bs.length:Int)=(k:Int):=by rw [←hk];exact which_pos (by omega)
   clear hlen h0 hm hlw hk hu hkl hneg
   generalize bs.length=nn at *
   go_wp2_with fail
   go_quiet (fail)
   go_wp2_with fail
   go_quiet (fail)
   go_wp2_with fail
   go_ret
   exact ⟨_,rfl,⟨b,by rw [HK.out.1];exact HK.out.2,rfl⟩,HW.out _ rfl rfl rfl⟩
 ·have hu':(decide (S.us<S.sched.length))=false:=by simpa using (by omega:S.sched.length≤S.us)
  have HE:Hid (∀ n,Ev z S v (picked S) (v.drewN n)):=⟨fun n=>by unfold picked;rw [if_neg hu];exact (Ev.refl h).same rfl rfl rfl⟩
  have HP:Hid (pickAt S ids=(ids.findIdx? (fun (i:Nat)=>decide (S.la<(i:Int)))).getD 0):=⟨by unfold pickAt;rw [if_neg hu]⟩
  have HC:Hid (∀ k,k<bs.length→∃ (i b:Nat),ids[k]? = some i∧bs[k]? = some b∧v.cell? ⟨g,k,none⟩=some (Pt b 0)∧v.cell? ⟨b,1,none⟩=some (I i)):=⟨fun k hk=>by
   have h1:ids[k]? = some ids[k]:=List.getElem?_eq_getElem (by omega)
   have h2:bs[k]? = some bs[k]:=List.getElem?_eq_getElem hk
   obtain ⟨t,ht,htb⟩:=hids k _ _ h1 h2
   exact ⟨_,_,h1,h2,hrow k _ h2,by rw [←htb];exact (h.cell ht).2.1⟩⟩
  have HL:Hid (bs.length=ids.length∧0<ids.length):=⟨⟨hlen,h0⟩⟩
  have hnb:bs.length≤8:=by omega
  clear hrow hids hsc hlen h0 hm hlw h hus f1
  go_wp2_with fail
  go_quiet (fail)
  go_wp2_with fail
  go_loopw [50] (fun i u=>∃ k:Nat,k≤bs.length∧i=.int .i64 k∧(∀ (j i:Nat),j<k→ids[j]? = some i→(i:Int)≤S.la)∧∃ q,u=v.drewN q) (fun i _=>bs.length - (intOf i).toNat)
  case atStart=>exact ⟨0,Nat.zero_le _,rfl,fun j _ hj=>absurd hj (Nat.not_lt_zero _),_,rfl⟩
  case round =>
   obtain ⟨k,hk,rfl,hso,qn,rfl⟩:=hrel
   have HSO:Hid (∀ (j i:Nat),j<k→ids[j]? = some i→(i:Int)≤S.la):=⟨hso⟩
   clear hso
   by_cases hlt:k<bs.length
   ·obtain ⟨i1,b1,h1,h2,h3,h4⟩:=HC.out k hlt
    have H12:Hid (ids[k]? = some i1∧bs[k]? = some b1):=⟨⟨h1,h2⟩⟩
    clear h1 h2
    have hlt':(k:Int)<(bs.length:Int):=by omega
    by_cases hla:S.la<(i1:Int)
    ·have HLA:Hid (S.la<(i1:Int)):=⟨hla⟩
     go_wp2_with fail
     go_quiet (fail)
     go_wp2_with fail
     go_ret
     refine ⟨_,rfl,⟨b1,?_,rfl⟩,by rw [World.drewN_drewN];exact HE.out _⟩
     have:ids.findIdx? (fun (i:Nat)=>decide (S.la<(i:Int)))=some k:=find_at H12.out.1 HLA.out HSO.out
     rw [HP.out,this]
     exact H12.out.2
    ·have HLA:Hid ((i1:Int)≤S.la):=⟨by omega⟩
     have hla':(decide (S.la<(i1:Int)))=false:=by simpa using hla
     clear hla
     go_wp2_with fail
     go_quiet (fail)
     go_wp2_with fail
     go_roundw
     case rel=>exact ⟨k+1,by omega,by go_num,fun j i hj hi=>by
      by_cases e:j=k
      ·subst e;rw [H12.out.1] at hi;cases hi;exact HLA.out
      ·exact HSO.out j i (by omega) hi,_,rfl⟩
     case measure=>simp [intOf];omega
   ·have hkk:k=bs.length:=by omega
    subst hkk
    obtain ⟨i1,b1,h1,h2,h3,h4⟩:=HC.out 0 (by have:=HL.out;omega)
    have H12:Hid (ids[0]? = some i1∧bs[0]? = some b1):=⟨⟨h1,h2⟩⟩
    have hz:(0:Int)<(bs.length:Int):=by have:=HL.out;omega
    have hz':0<bs.length:=by have:=HL.out;omega
    clear h1 h2
    go_wp2_with fail
    go_ret
    refine ⟨_,rfl,⟨b1,?_,rfl⟩,HE.out _⟩
    have:ids.findIdx? (fun (i:Nat)=>decide (S.la<(i:Int)))=none:=find_none (fun j i hj hi=>HSO.out j i (by have:=HL.out;omega) hi)
    rw [HP.out,this]
    exact H12.out.2
noncomputable def scan:Code:=seq1 (seq2 (seq2 (seq2 (Tryd.f125.body.getD .skip))))
def rdyIds (S:TS) (k:Nat):List Nat:=(List.range k).filter fun i=>(S.thr[i]?).any (rdy S)
def waits2 (S:TS) (k:Nat):Bool:=(List.range k).any fun i=>(S.thr[i]?).any fun t=>t.st==2
def tbs (S:TS) (ids:List Nat):List Nat:=ids.map fun i=>((S.thr[i]?).map (·.tb)).getD 0
theorem Rep.grows {z:Nat→Option Nat} {S:TS} {v v':World} (h:Rep z S v) (hs:v.heap.size≤v'.heap.size) (g:∀ b,b<v.heap.size→v'.heap[b]? = v.heap[b]?):Rep z S v':=by
 have hits:∀ k b,blk S k=some b→v'.heap[b]? = v.heap[b]?:=fun k b hk=>g b (h.lt hk)
 exact ⟨by rw [hits 0 S.wb rfl];exact h.wor,fun i t ht=>by rw [hits (i+5) t.tb (by simp [blk,ht])];exact h.thr i t ht,own_stay (fun b hb=>hits 3 b hb) h.own,own_stay (fun b hb=>hits 1 b hb) h.chg,own_stay (fun b hb=>hits 2 b hb) h.ths,own_stay (fun b hb=>hits 4 b hb) h.sch,Nat.le_trans h.bs hs,h.apart,h.kept⟩
theorem rdyIds_succ (S:TS) (k:Nat) {t:Thr} (ht:S.thr[k]? = some t):rdyIds S (k+1)=if rdy S t then rdyIds S k++[k] else rdyIds S k:=by
 unfold rdyIds
 rw [List.range_succ,List.filter_append]
 cases hr:rdy S t<;>simp [ht,hr]
theorem waits2_succ (S:TS) (k:Nat) {t:Thr} (ht:S.thr[k]? = some t):waits2 S (k+1)=(waits2 S k||t.st==2):=by
 unfold waits2
 rw [List.range_succ,List.any_append]
 simp [ht]
theorem rdyIds_len (S:TS) (k:Nat):(rdyIds S k).length≤k:=by
 unfold rdyIds
 refine Nat.le_trans (List.length_filter_le _ _) ?_
 simp
theorem info46:(Tryd.prog.info? 48).map (fun i=>(i.zero,i.size,i.bytes))=some (some (.pointer none),1,8):=by kernel_rfl
theorem ptr_cell {w:World} {base:Nat} {v:Value} {l:List Nat} (h:w.ownsRow base 48 1 v l.length (l.map fun b=>Pt b 0)) {k b:Nat} (hx:l[k]? = some b):∃ g cap,v=.slice (some ⟨g,0,none⟩) l.length cap∧w.cell? ⟨g,k,none⟩=some (Pt b 0):=by
 have hc:k<l.length:=(List.getElem?_eq_some_iff.1 hx).1
 rcases h.2 with ⟨rfl,h0⟩|⟨g,cap,cur,rfl,hb,hh,hle,_,hsz,htake⟩
 ·omega
 ·refine ⟨g,cap,rfl,?_⟩
  have e:(l.map fun b=>Pt b 0)[k]? = some (Pt b 0):=by simp [hx]
  rw [←htake,Nat.mul_one,List.getElem?_take_of_lt hc] at e
  simp only [World.cell?,hh,Option.isSome_none,Bool.false_eq_true,if_false]
  simpa using e
theorem news1 (w:World) (b:Nat) (t:TypeId):∀ j u,[Pt b 0][j]? = some u→(w.alloc (.cells #[Pt b 0] t)).cell? ((⟨w.heap.size,0,none⟩:Addr).add j)=some u:=by
 intro j u hj
 have hb:(w.alloc (.cells #[Pt b 0] t)).heap[w.heap.size]? = some (.cells #[Pt b 0] t):=Array.getElem?_push_size
 exact World.news_of_block hb j u hj
theorem one1 (b:Nat):∀ u∈[Pt b 0],u.oneCell'=true:=by
 intro u hu
 simp at hu
 subst hu
 rfl
theorem scan_wp {z:Nat→Option Nat} {S:TS} {v:World} (h:Rep z S v) (hm:S.thr.length≤8) :
 scan.wp Tryd.prog (fun e a w'=>e=.normal∧(∃ lv,(∃ u6 u8 u9 u10 u11 u12 u13 u14 u15 u16 u17 u18 u19 u20 u21 u22 u23 u24 u25 u26 u27 u28 u29 u30 u31,a={ tmps:=#[Pt S.wb 0,undef,.bool false,lv,.bool (waits2 S S.thr.length),undef,u6,undef,u8,u9,u10,u11,u12,u13,u14,u15,u16,u17,u18,u19,u20,u21,u22,u23,u24,u25,u26,u27,u28,u29,u30,u31]++Array.replicate 41 undef,defers:=[] })∧w'.ownsRow v.heap.size 48 1 lv (rdyIds S S.thr.length).length ((tbs S (rdyIds S S.thr.length)).map fun b=>Pt b 0)) ∧
  v.heap.size≤w'.heap.size∧(∀ b,b<v.heap.size→w'.heap[b]? = v.heap[b]?)∧w'.os=v.os∧w'.output=v.output)
  { tmps:=#[Pt S.wb 0,undef,.bool false,.slice none 0 0,.bool false]++Array.replicate 68 undef,defers:=[] } v:=by
 obtain ⟨_,_,_,_,w4,_⟩:=h.wcell
 have hths:=h.ths
 obtain ⟨p,pc,hp⟩:=own_form hths
 rw [hp] at w4
 have HR:Hid (Rep z S v):=⟨h⟩
 have HT:Hid (∀ (k:Nat) (t:Thr),S.thr[k]? = some t→∃ g,p=some ⟨g,0,none⟩∧v.cell? ⟨g,k,none⟩=some (Pt t.tb 0)):=⟨fun k t ht=>by
  have e:S.thr.map (fun t=>Pt t.tb 0)=(S.thr.map (·.tb)).map fun b=>Pt b 0:=by simp
  have hl:S.thr.length=(S.thr.map (·.tb)).length:=by simp
  have h':=hths
  rw [e,hl] at h'
  obtain ⟨g,cap,e1,e2⟩:=ptr_cell h' (k:=k) (b:=t.tb) (by simp [ht])
  rw [hp,←hl] at e1
  cases e1
  exact ⟨g,rfl,e2⟩⟩
 clear h hths
 show Code.wp Tryd.prog (seq1 (seq2 (seq2 (seq2 (Tryd.f125.body.getD .skip))))) _ _ _
 unfold Tryd.f125 seq1 seq2
 simp only [Option.getD_some,Array.replicate_succ,Array.replicate_zero,List.push_toArray,List.append_toArray,List.nil_append,List.cons_append]
 go_wp2_with fail
 go_loopw [3,4,13] (fun l b i u=>∃ (k:Nat),k≤S.thr.length∧i=.int .i64 k∧b=.bool (waits2 S k)∧(∃ lp lc,l=.slice lp (rdyIds S k).length lc)∧u.ownsRow v.heap.size 48 1 l (rdyIds S k).length ((tbs S (rdyIds S k)).map fun b=>Pt b 0)∧v.heap.size≤u.heap.size∧(∀ b,b<v.heap.size→u.heap[b]? = v.heap[b]?)∧u.os=v.os∧u.output=v.output) (fun _ _ i _=>S.thr.length - (intOf i).toNat)
 case atStart=>exact ⟨0,Nat.zero_le _,rfl,rfl,⟨none,0,rfl⟩,⟨by simp [rdyIds,tbs],.inl ⟨rfl,rfl⟩⟩,Nat.le_refl _,fun _ _=>rfl,rfl,rfl⟩
 case round =>
  obtain ⟨k,hk,rfl,rfl,⟨lp,lc,rfl⟩,hown,hsz,hbl,hos,hou⟩:=hrel
  have HI:Hid (wr.ownsRow v.heap.size 48 1 (.slice lp (rdyIds S k).length lc) (rdyIds S k).length ((tbs S (rdyIds S k)).map fun b=>Pt b 0)∧v.heap.size≤wr.heap.size∧(∀ b,b<v.heap.size→wr.heap[b]? = v.heap[b]?)∧wr.os=v.os∧wr.output=v.output):=⟨⟨hown,hsz,hbl,hos,hou⟩⟩
  clear hown hsz hbl hos hou
  by_cases hlt:k<S.thr.length
  ·obtain ⟨t,ht⟩:∃ t,S.thr[k]? = some t:=⟨_,List.getElem?_eq_getElem hlt⟩
   obtain ⟨g,rfl,hg⟩:=HT.out k t ht
   have HRw:Hid (Rep z S wr):=⟨HR.out.grows HI.out.2.1 HI.out.2.2.1⟩
   have hg':wr.cell? ⟨g,k,none⟩=some (Pt t.tb 0):=by rw [World.cell?_of_block (HI.out.2.2.1 g (World.block_lt_of_cell? _ _ hg))];exact hg
   have hst:wr.cell? ⟨t.tb,3,none⟩=some (I t.st):=(HRw.out.cell ht).2.2.2.1
   have HTk:Hid (S.thr[k]? = some t):=⟨ht⟩
   have hlt':(k:Int)<(S.thr.length:Int):=by omega
   have HLen:Hid ((rdyIds S k).length≤k):=⟨rdyIds_len S k⟩
   have HW1:=waits2_succ S k ht
   have HI1:=rdyIds_succ S k ht
   clear hg
   cases hr:rdy S t with
   |false =>
    rw [hr] at HI1
    simp only [Bool.false_eq_true,if_false] at HI1
    have HS:Hid (rdyIds S (k+1)=rdyIds S k∧waits2 S (k+1)=(waits2 S k||t.st==2)):=⟨⟨HI1,HW1⟩⟩
    have HRD:Hid (rdy S t=false):=⟨hr⟩
    clear HI1 HW1 hr ht
    cases hb:waits2 S k<;>cases hs:(t.st==2)
    all_goals
     have HBS:Hid (waits2 S (k+1)=_):=⟨by rw [HS.out.2,hb,hs]⟩
     clear hb
     go_wp2_with (go_at_call 155;refine ((body71 HRw.out HTk.out).calls Tryd.func155 rfl).mono ?_;rintro e w1 ⟨_,rfl,rfl,q,rfl⟩;rw [HRD.out])
     go_roundw
     case rel =>
      refine ⟨k+1,by omega,by go_num,by rw [HBS.out];rfl,⟨lp,lc,by rw [HS.out.1]⟩,?_,HI.out.2.1,HI.out.2.2.1,HI.out.2.2.2.1,HI.out.2.2.2.2⟩
      rw [HS.out.1]
      exact own_stay (fun _ _=>rfl) HI.out.1
     case measure=>simp [intOf];omega
   |true =>
    rw [hr] at HI1
    simp only [if_true] at HI1
    have hel:tbs S [k]=[t.tb]:=by simp [tbs,ht]
    have HS:Hid (rdyIds S (k+1)=rdyIds S k++[k]∧waits2 S (k+1)=(waits2 S k||t.st==2)∧tbs S (rdyIds S (k+1))=tbs S (rdyIds S k)++[t.tb]):=⟨⟨HI1,HW1,by rw [HI1,←hel];simp [tbs]⟩⟩
    have HRD:Hid (rdy S t=true):=⟨hr⟩
    clear HI1 HW1 hr ht hel
    obtain ⟨j0,hj,hj0,hj1,hj2⟩:=info_parts info46
    have HG:Hid (∀ (q:Nat) (w6:World),((wr.drewN q).alloc (.cells #[Pt t.tb 0] 48)).grownBy w6 (Value.slice lp (rdyIds S k).length lc).ownBlock→w6.cell? ⟨t.tb,3,none⟩=some (I t.st)∧v.heap.size≤w6.heap.size∧(∀ b,b<v.heap.size→w6.heap[b]? = v.heap[b]?)∧w6.os=v.os∧w6.output=v.output):=⟨fun q w6 hg6=>by
     have hal:Below wr.heap.size wr ((wr.drewN q).alloc (.cells #[Pt t.tb 0] 48)):=below_alloc (a:=wr) (b:=wr.drewN q) ⟨rfl,rfl,rfl,Nat.le_refl _,fun _ _=>rfl⟩ _
     have hblk:∀ b,b<v.heap.size→w6.heap[b]? = v.heap[b]?:=fun b hb=>by
      rw [hg6.block b (by have:=HI.out.2.1;have:=hal.size;omega) (fun e=>by have:=(own_lt HI.out.1 b e.symm).1;omega),hal.block b (by have:=HI.out.2.1;omega),HI.out.2.2.1 b hb]
     have hbt:t.tb<v.heap.size:=HR.out.lt (k:=k+5) (by simp [blk,HTk.out])
     refine ⟨?_,by have:=HI.out.2.1;have:=hal.size;have:=hg6.size;omega,hblk,by rw [hg6.os,hal.os];exact HI.out.2.2.2.1,by rw [hg6.output,hal.output];exact HI.out.2.2.2.2⟩
     rw [World.cell?_of_block (w:=wr) (by rw [hblk _ hbt,HI.out.2.2.1 _ hbt])]
     exact hst⟩
    cases hb:waits2 S k<;>cases hs:(t.st==2)
    all_goals
     have HBS:Hid (waits2 S (k+1)=_):=⟨by rw [HS.out.2.1,hb,hs]⟩
     clear hb
     go_wp2_with (first
      |(go_at_call 155;refine ((body71 HRw.out HTk.out).calls Tryd.func155 rfl).mono ?_;rintro e w1 ⟨_,rfl,rfl,q,rfl⟩;rw [HRD.out])
      |(refine wpList_append_lies _ rfl (.tmp 19) (.tmp 21) 95 rfl v.heap.size 48 j0 _ 1 8 Tryd.underlying95 hj hj0 hj1 hj2 rfl (by decide) (.slice lp (rdyIds S k).length lc) (rdyIds S k).length ((tbs S (rdyIds S k)).map fun b=>Pt b 0) rfl (own_later (below_alloc (Below.refl _ _) _) (own_stay (fun _ _=>rfl) HI.out.1)) ⟨_,0,none⟩ 1 1 [Pt t.tb 0] rfl rfl (news1 _ _ _) (one1 _) (by decide) (by have:=HLen.out;unfold maxLen;omega) (by have:=HLen.out;omega) (by have:=HI.out.2.1;simp;omega) _ rfl ?_
        intro g2 cp2 w6 hown6 hgrow6 hat6 hlt6
        have k3:=(HG.out _ _ hgrow6).1))
     have HO6:Hid (w6.ownsRow v.heap.size 48 1 (.slice (some ⟨g2,0,none⟩) ((rdyIds S k).length+1) cp2) ((rdyIds S k).length+1) (((tbs S (rdyIds S k)).map fun b=>Pt b 0)++[Pt t.tb 0])):=⟨hown6⟩
     have HG6:=(HG.out _ _ hgrow6).2
     go_roundw
     case rel =>
      have el:(rdyIds S (k+1)).length=(rdyIds S k).length+1:=by rw [HS.out.1];simp
      refine ⟨k+1,by omega,by go_num,by rw [HBS.out];rfl,⟨some ⟨g2,0,none⟩,cp2,by rw [el]⟩,?_,HG6.1,HG6.2.1,HG6.2.2.1,HG6.2.2.2⟩
      rw [el,HS.out.2.2]
      simpa using HO6.out
     case measure=>simp [intOf];omega
  ·have hkk:k=S.thr.length:=by omega
   subst hkk
   go_wp2_with fail
   exact HI.out
end Go.Proofs.YtfjjoohflcchnaaDoor
