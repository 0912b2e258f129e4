/- Of the proof of CounterTimes. Part 4 of 31. (Joined, by program, and written short, of: Lift19, Lift20, Lift21, Lift22, Fine, Tw, Note, Rep, Lift23, Atom.) -/
import Derived.Test.YtfjjoohflcchnaaDoorCounterTimes03
import Derived.Below
import Derived.Conc.Own5
import Derived.Conc.Walk
import Derived.Conc.Own3
import Derived.Conc.AtomicLaws
import Derived.Conc.TokenWalk
import Derived.Test.YtfjjoohflcchnaaDoorProg
import Derived.KernelRfl
import Derived.WalkKit
import Derived.WalkSpells
import Derived.Deep.AppendLies
import Derived.Deep.RegionHeld3
import Derived.Deep.RegionLaw
import Derived.BigRegion
import Derived.Laws.LoneSync
set_option linter.unusedSimpArgs false
set_option linter.unusedVariables false
set_option maxHeartbeats 4000000
set_option maxRecDepth 100000
namespace Go.Lift
open Go.Conc
def OkT (Sc:Addr→Prop) (e:Event):Prop:=Okay true e∧∀ a,e.loc=.cell a→e.write=true→¬ Sc a
def DTw (Sc:Addr→Prop) (Ch:Nat→Prop) (w w':World) (es:Array Event):Prop :=
 (∀ a v,Sc a→w.cell? a=some v→w'.cell? a=some v)∧(∀ c o,Ch c→w.heap[c]? = some o→w'.heap[c]? = some o)∧∀ e∈es,OkT Sc e
def Lo (w w':World) (es:Array Event):Prop:=w.heap.size≤w'.heap.size∧∀ e∈es,e.loc.low w'.heap.size
def DT (Sc:Addr→Prop) (Ch:Nat→Prop) (w w':World) (es:Array Event):Prop:=DTw Sc Ch w w' es∧Lo w w' es
def StillC (Sc:Addr→Prop) (l:Loc):Prop:=∃ a,l=.cell a∧Sc a
def KC (Sc:Addr→Prop) (cont:Addr→Value) (w:World):Prop:=∀ a,Sc a→w.cell? a=some (cont a)
theorem dt_idle (Sc:Addr→Prop) (Ch:Nat→Prop) (w:World):DT Sc Ch w w #[]:=⟨⟨fun _ _ _ h=>h,fun _ _ _ h=>h,fun e he=>by simp at he⟩,Nat.le_refl _,fun e he=>by simp at he⟩
theorem dt_draw (Sc:Addr→Prop) (Ch:Nat→Prop) (w:World):DT Sc Ch w { w with drawn:=w.drawn+1 } #[]:=⟨⟨fun _ _ _ h=>h,fun _ _ _ h=>h,fun e he=>by simp at he⟩,Nat.le_refl _,fun e he=>by simp at he⟩
theorem okT_evHd {Sc:Addr→Prop} {e:Event} (he:OkT Sc e) {B:Nat} (hB:e.loc.low B):EvHd (StillC Sc) B e:=by
 obtain ⟨hok,hs⟩:=he
 obtain ⟨loc,write,sync⟩:=e
 rcases hok with ⟨a,h1,_⟩|⟨r,h1,h2⟩|h1|⟨f,h1⟩
 ·simp only at h1
  subst h1
  refine ⟨fun x hx hst=>?_,by simp,by simp,hB⟩
  simp only [MemAct.ofEvent,MemAct.touch?,Option.some.injEq] at hx
  subst hx
  obtain ⟨a',e,hsc⟩:=hst
  simp only [Loc.cell.injEq] at e
  subst e
  cases write with
  |false=>rfl
  |true=>exact absurd hsc (hs a rfl rfl)
 ·simp only at h1 h2
  subst h1 h2
  refine ⟨fun x hx _=>?_,by simp,by simp,hB⟩
  simp only [MemAct.ofEvent,MemAct.touch?,Option.some.injEq] at hx
  subst hx
  rfl
 ·simp only at h1
  subst h1
  exact ⟨fun x hx _=>by simp [MemAct.ofEvent,MemAct.touch?] at hx,by simp,by simp,trivial⟩
 ·simp only at h1
  subst h1
  exact ⟨fun x hx _=>by simp [MemAct.ofEvent,MemAct.touch?] at hx,by simp,by simp,trivial⟩
theorem dh_of_dt {Sc:Addr→Prop} {cont:Addr→Value} {Ch:Nat→Prop} {Inb:Nat→Option Seat} (hCh:∀ i s c,Inb i=some s→s.has c→Ch c) (w w':World) (es:Array Event) (h:DT Sc Ch w w' es) (_:KC Sc cont w)
 (hc:∀ i s c,Inb i=some s→s.has c→∃ o,w.heap[c]? = some o):w.heap.size≤w'.heap.size∧∀ B,w'.heap.size≤B→DH (KC Sc cont) (StillC Sc) B Inb w w' es :=
 ⟨h.2.1,fun B hb=>⟨fun hk a ha=>h.1.1 a _ ha (hk a ha),fun i s c e hs=>by obtain ⟨o,ho⟩:=hc i s c e hs;rw [ho];exact h.1.2.1 c o (hCh i s c e hs) ho,fun e he=>okT_evHd (h.1.2.2 e he) (Loc.low_mono hb (h.2.2 e he))⟩⟩
theorem kc_at {Sc:Addr→Prop} {cont:Addr→Value} (w:World) (d:Nat) (h:KC Sc cont w):KC Sc cont (w.at d):=h
theorem ask_heap {α:Type}:∀ (a:Ask α) (w:World),(w.ask a).2.heap=w.heap:=by
 intro a
 induction a with
 |done x=>intro w;rfl
 |ask what range k ih =>
  intro w
  simp only [World.ask]
  split
  ·exact ih _ _
  ·exact ih _ _
theorem sys_heap (w:World) (c:Sys):(w.sys c).2.heap=w.heap:=by
 have:=ask_heap (Kernel.perform c w.os) w
 unfold World.sys
 split
 ·rfl
 ·rename_i h
  rw [h] at this
  exact this
theorem farStore_size {P:Program} {v v':World} {a:Addr} {x:Value} {b:Bool} {l:List Addr} (h:v.farStore P a x b=.ok (v',l)):v'.heap.size=v.heap.size:=by
 have hr:Rel zn v v:=⟨fun r=>(by cases v.heap[r]?<;>simp [zap_none]),fun _ _ _ _ _ h=>(nomatch h),fun _ _ h=>(nomatch h),rfl,rfl⟩
 obtain ⟨_,_,_,_,_,_,_,h1,_⟩:=farStore_rel hr h
 exact h1
theorem runT_lo {P:Program} {α:Type}:∀ (s:Sem α) (w:World) (es:Array Event) (x:α) (w':World) (es':Array Event),s.runT P w es=(.ok x w',es')→w.heap.size≤w'.heap.size∧∀ e∈es',e∈es∨e.loc.low w'.heap.size:=by
 intro s
 induction s with
 |pure a =>
  intro w es x w' es' h
  simp only [Sem.runT,Prod.mk.injEq,Result.ok.injEq] at h
  obtain ⟨⟨_,rfl⟩,rfl⟩:=h
  exact ⟨Nat.le_refl _,fun e he=>.inl he⟩
 |load m a k ih =>
  intro w es x w' es' h
  simp only [Sem.runT] at h
  cases hc:w.cell? a with
  |some y =>
   rw [hc] at h
   obtain ⟨h1,h2⟩:=ih y _ _ _ _ _ h
   refine ⟨h1,fun e he=>(h2 e he).elim (fun h3=>?_) .inr⟩
   rcases Array.mem_push.1 h3 with h5|rfl
   ·exact .inl h5
   ·exact .inr (Nat.lt_of_lt_of_le (World.block_lt_of_cell? _ _ hc) h1)
  |none =>
   rw [hc] at h
   cases hfl:w.farLoad P a (m==.atomic) with
   |error e=>simp only [hfl] at h;cases h
   |ok r =>
    simp only [hfl] at h
    obtain ⟨h1,h2⟩:=ih r.1 _ _ _ _ _ h
    refine ⟨h1,fun e he=>(h2 e he).elim (fun h3=>?_) .inr⟩
    rcases Array.mem_append.1 h3 with h5|h5
    ·exact .inl h5
    ·obtain ⟨b,hb,rfl⟩:=Array.mem_map.1 h5
     exact .inr (Nat.lt_of_lt_of_le (farLoad_low hfl b (by simpa using hb)) h1)
 |store m a y k ih =>
  intro w es x w' es' h
  cases y
  case agg=>simp [Sem.runT] at h
  case tuple=>simp [Sem.runT] at h
  all_goals
   simp only [Sem.runT] at h
   cases hc:w.cell? a with
   |none =>
    rw [hc] at h
    simp only [] at h
    split at h
    rotate_left
    ·cases h
    ·rename_i v₁ l e1
     obtain ⟨h1,h2⟩:=ih _ _ _ _ _ h
     have hz:=farStore_size e1
     refine ⟨by omega,fun e he=>(h2 e he).elim (fun h3=>?_) .inr⟩
     rcases Array.mem_append.1 h3 with h5|h5
     ·exact .inl h5
     ·obtain ⟨b,hb,rfl⟩:=Array.mem_map.1 h5
      have:=farStore_low e1 b (by simpa using hb)
      exact .inr (show b.block<w'.heap.size by omega)
   |some z =>
    rw [hc] at h
    simp only [] at h
    split at h
    ·cases h
    ·obtain ⟨h1,h2⟩:=ih _ _ _ _ _ h
     have hs:w.heap.size≤w'.heap.size:=by simpa [World.setCell] using h1
     refine ⟨hs,fun e he=>(h2 e he).elim (fun h3=>?_) .inr⟩
     rcases Array.mem_push.1 h3 with h5|rfl
     ·exact .inl h5
     ·exact .inr (Nat.lt_of_lt_of_le (World.block_lt_of_cell? _ _ hc) hs)
 |new o k ih =>
  intro w es x w' es' h
  obtain ⟨h1,h2⟩:=ih _ _ _ _ _ _ h
  exact ⟨by simp only [Array.size_push] at h1;omega,h2⟩
 |shape r k ih=>intro w es x w' es' h;exact ih _ _ _ _ _ _ h
 |freeze a n k ih =>
  intro w es x w' es' h
  obtain ⟨h1,h2⟩:=ih _ _ _ _ _ h
  refine ⟨Nat.le_trans (Nat.le_of_eq ?_) h1,h2⟩
  unfold World.freeze
  split
  ·rfl
  ·simp
 |frozen a k ih=>intro w es x w' es' h;exact ih _ _ _ _ _ _ h
 |getObj r k ih =>
  intro w es x w' es' h
  simp only [Sem.runT] at h
  split at h
  ·cases h
  ·rename_i o ho1 ho
   obtain ⟨h1,h2⟩:=ih _ _ _ _ _ _ h
   refine ⟨h1,fun e he=>(h2 e he).elim (fun h3=>?_) .inr⟩
   rcases Array.mem_push.1 h3 with h5|rfl
   ·exact .inl h5
   ·exact .inr (Nat.lt_of_lt_of_le (Array.getElem?_eq_some_iff.1 ho).1 h1)
  ·cases h
 |setObj r o k ih =>
  intro w es x w' es' h
  simp only [Sem.runT] at h
  split at h
  ·cases h
  ·rename_i o' ho1 ho
   obtain ⟨h1,h2⟩:=ih _ _ _ _ _ h
   have h1':w.heap.size≤w'.heap.size:=by simpa using h1
   refine ⟨h1',fun e he=>(h2 e he).elim (fun h3=>?_) .inr⟩
   rcases Array.mem_push.1 h3 with h5|rfl
   ·exact .inl h5
   ·exact .inr (Nat.lt_of_lt_of_le (Array.getElem?_eq_some_iff.1 ho).1 h1')
  ·cases h
 |choose q k ih =>
  intro w es x w' es' h
  simp only [Sem.runT] at h
  split at h
  ·exact ih _ _ _ _ _ _ h
  ·exact ih _ { w with drawn:=w.drawn+1 } _ _ _ _ h
 |sys c k ih =>
  intro w es x w' es' h
  obtain ⟨h1,h2⟩:=ih _ _ _ _ _ _ h
  refine ⟨by rw [sys_heap] at h1;exact h1,fun e he=>(h2 e he).elim (fun h3=>?_) .inr⟩
  rcases Array.mem_push.1 h3 with h5|rfl
  ·exact .inl h5
  ·exact .inr trivial
 |program k ih=>intro w es x w' es' h;exact ih _ _ _ _ _ _ h
 |mark m k ih =>
  intro w es x w' es' h
  obtain ⟨h1,h2⟩:=ih _ _ _ _ _ h
  refine ⟨h1,fun e he=>(h2 e he).elim (fun h3=>?_) .inr⟩
  rcases Array.mem_push.1 h3 with h5|rfl
  ·exact .inl h5
  ·exact .inr trivial
 |halt y=>intro w es x w' es' h;simp [Sem.runT] at h
section
variable {P:Program} {main:Bool} {D:World→World→Array Event→Prop} {Stop:Goroutine→World→Prop}
theorem goesI_goes {g:Goroutine} {w:World} (hs:g.status=.running) (h:∀ d,(stepG P main g (w.at d)).goes fun g' w' es=>D (w.at d) w' es∧GoesI P main D Stop g' w'):GoesI P main D Stop g w:=by
 have hx:∀ d,∃ g' w' es,stepG P main g (w.at d)=.go g' w' es∧D (w.at d) w' es∧GoesI P main D Stop g' w':=fun d=>by
  have:=h d
  revert this
  cases e:stepG P main g (w.at d)<;>simp only [GStep.goes,false_imp_iff]
  exact fun ⟨x,y⟩=>⟨_,_,_,rfl,x,y⟩
 exact .step hs (fun d=>(hx d).choose) (fun d=>(hx d).choose_spec.choose) (fun d=>(hx d).choose_spec.choose_spec.choose) (fun d=>(hx d).choose_spec.choose_spec.choose_spec.1) (fun d=>(hx d).choose_spec.choose_spec.choose_spec.2.1) (fun d=>(hx d).choose_spec.choose_spec.choose_spec.2.2)
variable {b:Frame} {a:Act} {k:List Item} {cs:List Frame} {w:World} {ops:Array Oper} {i:Nat} {rest:List Nat} {o:Oper}
theorem lo_listed {P:Program} {f:FuncId} {a:Act} {o:Oper} {w w':World} {x:Next} (h:(execOp a.eval o).run P w=.ok x w'):Lo w w' (listed P f a o w):=by
 have e:(execOp a.eval o).runT P w #[]=(.ok x w',(execOp a.eval o).events P w #[]):=by
  rw [←h,←runT_fst (execOp a.eval o) w #[]]
  rfl
 have:=runT_lo _ _ _ _ _ _ e
 exact ⟨this.1,fun y hy=>(this.2 y (mem_listed hy)).elim (fun h=>by simp at h) id⟩
theorem goesI_oper {Sc:Addr→Prop} {Ch:Nat→Prop} (ho:ops[i]? = some o) (hw:Region.wanted o (yielded ops a.tmps)=true) (hk:b.kind≠.early)
 (h:∀ d (K':Act→World→Prop),(∀ a' w',DTw Sc Ch (w.at d) w' (listed P b.fn a o (w.at d))∧GoesI P main (DT Sc Ch) Stop (G (b.at a' (.inRegion ops rest :: k)) cs) w'→K' a' w')→uponK o a K' ((execOp a.eval o).run P (w.at d))) :
 GoesI P main (DT Sc Ch) Stop (G (b.at a (.inRegion ops (i :: rest) :: k)) cs) w :=
 goesI_goes rfl fun d=>goes_oper_k ho hw hk (fun K' hK'=>by
  have hx:=h d (fun a' w'=>DTw Sc Ch (w.at d) w' (listed P b.fn a o (w.at d))∧GoesI P main (DT Sc Ch) Stop (G (b.at a' (.inRegion ops rest :: k)) cs) w') (fun _ _ h=>h)
  cases hr:(execOp a.eval o).run P (w.at d) with
  |halt _ _=>rw [hr] at hx;exact hx.elim
  |ok x w' =>
   have lo:Lo (w.at d) w' (listed P b.fn a o (w.at d)):=lo_listed hr
   rw [hr] at hx
   cases x<;>first|exact hx.elim|exact hK' _ _ ⟨⟨hx.1,lo⟩,hx.2⟩)
theorem okT_read (Sc:Addr→Prop) (a:Addr) (sy:Bool):OkT Sc ⟨.cell a,false,sy⟩:=⟨.inl ⟨a,rfl,fun _=>rfl⟩,fun _ _ h=>nomatch h⟩
theorem dt_reads {Sc:Addr→Prop} {Ch:Nat→Prop} {es:Array Event} (h:∀ e∈es,∃ a sy,e=⟨.cell a,false,sy⟩):DTw Sc Ch w w es :=
 ⟨fun _ _ _ h=>h,fun _ _ _ h=>h,fun e he=>by obtain ⟨a,sy,rfl⟩:=h e he;exact okT_read Sc a sy⟩
end
theorem events_callFunc_body {P : Program} {f : FuncId} {fn : Func} {c : Code} (hf : P.funcs[f]? = some fn) (hname : (fn.name == "runtime.NumGoroutine") = false) (hb : fn.body = some c) (args : Array Value) (w : World) (es : Array Event) :
 (callFunc f args).events P w es=es:=by
 have h1 : fn.name ≠ "runtime.NumGoroutine" := by simpa using hname
 simp [callFunc,Sem.events_bind,run_program,Result.evThen_ok,events_program,hf,h1,hb]
section
variable {P:Program} {main:Bool} {D:World→World→Array Event→Prop} {Stop:Goroutine→World→Prop} {k:List Item} {cs:List Frame} {w:World} {ops:Array Oper} {i:Nat} {rest:List Nat} {o:Oper}
end
def ScZ (z:Nat→Option Nat) (a:Addr):Prop:=a.spot=none∧z a.block=some a.off
def NoRow (Ch:Nat→Prop) (v:World):Prop:=∀ c,Ch c→∃ o,v.heap[c]? = some o∧∀ x e f,o≠.cells x e f
theorem noRow_keeps {Ch:Nat→Prop} {wr:Bool} (v v':World) (h:Keeps wr v v') (hn:NoRow Ch v):NoRow Ch v':=fun c hc=>by
 obtain ⟨o,h1,h2⟩:=hn c hc
 exact ⟨o,h.objs c o h1 h2,h2⟩
theorem noRow_rel {z:Nat→Option Nat} {Ch:Nat→Prop} {v w:World} (h:Rel z v w) (hn:NoRow Ch v) {c:Nat} (hc:Ch c):w.heap[c]? = v.heap[c]?:=by
 obtain ⟨o,h1,h2⟩:=hn c hc
 rcases h.obj c with e|⟨x,t,f,e,_⟩
 ·exact e
 ·rw [h1] at e;cases e;exact absurd rfl (h2 _ _ _)
theorem dt_of_z {z:Nat→Option Nat} {Ch:Nat→Prop} (v v' w w':World) (es:Array Event) (hn:NoRow Ch v) (hr:Rel z v w) (ho:Out z true v v' w w') (he:∀ e∈es,Okay true e∧Spares z w' e):DT (ScZ z) Ch w w' es:=by
 refine ⟨⟨fun a x ha hx=>?_,fun c o hc hx=>?_,fun e h=>⟨(he e h).1,fun a hl hw hs=>(he e h).2.2 a hl hw hs.2⟩⟩,by rw [hr.size,ho.rel.size];exact ho.keeps.size,fun e h=>(he e h).2.1⟩
 ·obtain ⟨b,o,s⟩:=a
  obtain ⟨h1,h2⟩:=ha
  simp only at h1 h2
  subst h1
  rw [ho.rel.cell?,ho.still b o h2,←hr.cell?]
  exact hx
 ·rw [noRow_rel ho.rel (noRow_keeps v v' ho.keeps hn) hc]
  rw [noRow_rel hr hn hc] at hx
  obtain ⟨o',h1,h2⟩:=hn c hc
  rw [h1] at hx
  cases hx
  exact ho.keeps.objs c o h1 h2
section
variable {P:Program} {main:Bool} {Stop:Goroutine→World→Prop} {k:List Item} {cs:List Frame} {w:World} {ops:Array Oper} {i:Nat} {rest:List Nat} {o:Oper}
theorem goesI_fn {z:Nat→Option Nat} {Ch:Nat→Prop} {L:FuncId→Prop} (hE:∀ fr cs dy g w,∃ o w',early P fr cs dy g w=.ended o w') (hL:∀ g,L g→fineFn P true L g)
 {f:FuncId} {fn:Func} {c:Code} {args:Array Value} {bc:Frame} {ac:Act} {R:Value→World→Prop} {v0:World} (hvw:Rel z v0 w) (hn:NoRow Ch v0) (hf:P.funcs[f]? = some fn) (hb:fn.body=some c) (hc:fineCode P true L c) (ho:ops[i]? = some o)
 (hres:∀ tmps,∃ v,(∀ w,(results fn tmps).run P w=.ok v w)∧∀ w,(results fn tmps).events P w #[]=#[])
 (hwp:∀ τ,c.wp P (bodyPost P fn (fun e w'=>∃ v,e=.returned v∧R v w')) { tmps:=args++Array.replicate (fn.ntmps - args.size) undef,defers:=[] } (onTape v0 τ 0))
 (h:∀ v v' w',R v v'→Rel z v' w'→NoRow Ch v'→GoesI P main (DT (ScZ z) Ch) Stop (G (bc.at (ac.put o.dst v) (.inRegion ops rest :: k)) cs) w') :
 GoesI P main (DT (ScZ z) Ch) Stop (G (Frame.enter P f args .normal) (bc.at ac (.inRegion ops (i :: rest) :: k) :: cs)) w:=by
 rw [enter_at args hf hb]
 refine (lift_code (P:=P) (z:=z) (wr:=true) (L:=L) (D:=DT (ScZ z) Ch) (I:=NoRow Ch) (main:=main) (b:=base f) (k:=[]) (cs:=bc.at ac (.inRegion ops (i :: rest) :: k) :: cs) hE hL noRow_keeps
  (fun v v' w w' es hi hr ho he=>dt_of_z v v' w w' es hi hr ho he) hvw hc rfl (by simp [base]) hn hwp ?_).then ?_
 ·intro e a w hq
  cases e with
  |normal=>exact .inl rfl
  |ret=>exact .inr rfl
  |panic ch=>obtain ⟨_,v,hv,_⟩:=hq;cases hv
  |outgrown=>obtain ⟨v,hv,_⟩:=hq;cases hv
  |_=>exact hq.elim
 ·rintro g w' ⟨a',v',hr,hiv,hd,⟨⟨_,x,hx,y,hy,hR⟩,rfl⟩|⟨⟨_,x,hx,y,hy,hR⟩,todo,rfl⟩⟩
  ·cases hy
   obtain ⟨v,hv1,hv2⟩:=hres a'.tmps
   have:x=v:=by have:=hv1 v';rw [hx] at this;cases this;rfl
   subst this
   refine goesI_end (dt_idle _ _) ?_
   exact goesI_leave (b:=base f) (fn:=fn) rfl hd hf hv1 hv2 ho (dt_idle _ _) (h x v' w' hR hr hiv)
  ·cases hy
   obtain ⟨v,hv1,hv2⟩:=hres a'.tmps
   have:x=v:=by have:=hv1 v';rw [hx] at this;cases this;rfl
   subst this
   exact goesI_leave (b:=base f) (fn:=fn) rfl hd hf hv1 hv2 ho (dt_idle _ _) (h x v' w' hR hr hiv)
theorem goesI_into {D:World→World→Array Event→Prop} (hD:∀ w,D w w #[]) {f:FuncId} {fn:Func} {c:Code} {xs:Array Operand} {ats:Array TypeId} {args:Array Value} {b:Frame} {a:Act}
 (ho:ops[i]? = some o) (hw:Region.wanted o (yielded ops a.tmps)=true) (hk:b.kind≠.early) (hop:o.op=.call { callee:=.value (.func f),args:=xs,argTypes:=ats }) (ha:xs.map a.eval=args)
 (hf : P.funcs[f]? = some fn) (hname : (fn.name == "runtime.NumGoroutine") = false) (hb : fn.body = some c)
 (h:GoesI P main D Stop (G ((base f).at { tmps:=args++Array.replicate (fn.ntmps - args.size) undef,defers:=[] } [.code c]) (b.at a (.inRegion ops (i :: rest) :: k) :: cs)) w) :
 GoesI P main D Stop (G (b.at a (.inRegion ops (i :: rest) :: k)) cs) w:=by
 have e:execOp a.eval o=callFunc f args:=by
  have ef:a.eval (.func f)=.func (.func f) #[] #[]:=rfl
  unfold execOp
  simp [hop,resolve,Deferred.ofValue,invoke,ef,ha]
 refine goesI_enter (f:=f) (args:=args) (fn:=fn) (c:=c) ho hw hk (fun w=>?_) (fun w=>?_) hD hf hb h
 ·rw [e]
  have h1 : fn.name ≠ "runtime.NumGoroutine" := by simpa using hname
  simp [callFunc,run_program,hf,h1,hb]
 ·unfold listed
  rw [e,events_callFunc_body hf hname hb]
  simp [seen_def]
theorem goesI_call {z:Nat→Option Nat} {Ch:Nat→Prop} {L:FuncId→Prop} (hE:∀ fr cs dy g w,∃ o w',early P fr cs dy g w=.ended o w') (hL:∀ g,L g→fineFn P true L g)
 {f:FuncId} {fn:Func} {c:Code} {xs:Array Operand} {ats:Array TypeId} {args:Array Value} {b:Frame} {a:Act} {R:Value→World→Prop} {v0:World}
 (ho:ops[i]? = some o) (hw:Region.wanted o (yielded ops a.tmps)=true) (hk:b.kind≠.early) (hop:o.op=.call { callee:=.value (.func f),args:=xs,argTypes:=ats }) (ha:xs.map a.eval=args)
 (hf : P.funcs[f]? = some fn) (hname : (fn.name == "runtime.NumGoroutine") = false) (hb : fn.body = some c) (hc : fineCode P true L c)
 (hres:∀ tmps,∃ v,(∀ w,(results fn tmps).run P w=.ok v w)∧∀ w,(results fn tmps).events P w #[]=#[])
 (hvw:Rel z v0 w) (hn:NoRow Ch v0)
 (hwp:∀ τ,c.wp P (bodyPost P fn (fun e w'=>∃ v,e=.returned v∧R v w')) { tmps:=args++Array.replicate (fn.ntmps - args.size) undef,defers:=[] } (onTape v0 τ 0))
 (h:∀ v v' w',R v v'→Rel z v' w'→NoRow Ch v'→GoesI P main (DT (ScZ z) Ch) Stop (G (b.at (a.put o.dst v) (.inRegion ops rest :: k)) cs) w') :
 GoesI P main (DT (ScZ z) Ch) Stop (G (b.at a (.inRegion ops (i :: rest) :: k)) cs) w:=by
 have e:execOp a.eval o=callFunc f args:=by
  have ef:a.eval (.func f)=.func (.func f) #[] #[]:=rfl
  unfold execOp
  simp [hop,resolve,Deferred.ofValue,invoke,ef,ha]
 refine goesI_enter (f:=f) (args:=args) (fn:=fn) (c:=c) ho hw hk (fun w=>?_) (fun w=>?_) (dt_idle _ _) hf hb ?_
 ·rw [e]
  have h1 : fn.name ≠ "runtime.NumGoroutine" := by simpa using hname
  simp [callFunc,run_program,hf,h1,hb]
 ·unfold listed
  rw [e,events_callFunc_body hf hname hb]
  simp [seen_def]
 ·rw [←enter_at args hf hb]
  exact goesI_fn hE hL hvw hn hf hb hc ho hres hwp h
end
theorem goesI_look {P:Program} {main:Bool} {Stop:Goroutine→World→Prop} {k:List Item} {cs:List Frame} {b:Frame} {z:Nat→Option Nat} {Ch:Nat→Prop} {L:FuncId→Prop} (hE:∀ fr cs dy g w,∃ o w',early P fr cs dy g w=.ended o w') (hL:∀ g,L g→fineFn P true L g) {c:Code} {a a':Act} {v w:World}
 (hvw:Rel z v w) (hn:NoRow Ch v) (hc:fineCode P true L c) (ha:a.defers=[]) (hb:b.kind≠.early)
 (hwp:∀ τ,c.wp P (fun e x w'=>e=.normal∧x=a'∧w'.heap=v.heap∧w'.os=v.os∧w'.output=v.output) a (onTape v τ 0))
 (h:∀ w',Rel z v w'→GoesI P main (DT (ScZ z) Ch) Stop (G (b.at a' k) cs) w'):GoesI P main (DT (ScZ z) Ch) Stop (G (b.at a (.code c :: k)) cs) w:=by
 refine goesI_plain (z:=z) (wr:=true) (L:=L) (I:=NoRow Ch) hE hL noRow_keeps (fun v v' w w' es hi hr ho he=>dt_of_z v v' w w' es hi hr ho he) hvw hc ha hb hn (Q:=fun x w'=>x=a'∧w'.heap=v.heap∧w'.os=v.os∧w'.output=v.output) hwp ?_
 rintro x v' w' ⟨rfl,h1,h2,h3⟩ hr _ _
 exact h w' (hr.re h1.symm rfl h2.symm rfl h3.symm rfl)
theorem give_at {P:Program} {K:World→Prop} {Still:Loc→Prop} {h c:Nat} {v z':Value} {o:Option Seat} {F:World→Prop} {b:Frame} {a:Act} {kk:List Item} {cs:List Frame} {ops:Array Oper} {i:Nat} {rest:List Nat} {op:Oper} {w:World} (nh B₀:Nat)
 (ho:ops[i]? = some op) (hw:Region.wanted op (yielded ops a.tmps)=true) (hk:b.kind≠.early) (hr:∀ w,(execOp a.eval op).run P w=.ok (.comm #[scase c v z'] true .send) w) (he:∀ w,(execOp a.eval op).events P w #[]=#[]) (hF:F w) (hB₀:B₀≤w.heap.size)
 (hI:∀ B,B₀≤B→∀ T,Deaf T h=0→Idle P K Still B T h nh (Go.Conc.served (G (b.at a (.inRegion ops (i :: rest) :: kk)) cs) undef) o):Lift.AtGive P K Still h c v o F (G (b.at a (.inRegion ops (i :: rest) :: kk)) cs) w :=
 ⟨rfl,hF,_,z',#[],nh,B₀,hB₀,fun d=>by rw [stepG_comm ho hw hk (hr _),listed_none (he _)],fun B _ e he=>by simp at he,hI⟩
end Go.Lift
namespace Go.Proofs.YtfjjoohflcchnaaDoor
open Go Go.Lift Go.Conc
theorem no_ready:(Tryd.prog.funcs.all fun f=>(f.body.map readies).all (·.isEmpty))=true:=by kernel_rfl
theorem ahead:Tryd.prog.follows .staticDataAhead=true:=by kernel_rfl
theorem stepOf_none (g:Nat):Tryd.prog.stepOf g=none:=by
 unfold Program.stepOf
 rw [Array.findIdx?_eq_none_iff]
 intro f hf
 have h:=(Array.all_eq_true_iff_forall_mem.1 no_ready) f hf
 cases hb:f.body.map readies with
 |none=>simp
 |some l =>
  rw [hb] at h
  simp only [Option.all_some,List.isEmpty_iff] at h
  subst h
  simp
theorem hE:∀ fr cs dy g w,∃ o w',early Tryd.prog fr cs dy g w=.ended o w':=fun fr cs dy g w=>by
 unfold early
 simp only [ahead,stepOf_none,Bool.not_true,Bool.false_eq_true,if_false]
 exact ⟨_,_,rfl⟩
end Go.Proofs.YtfjjoohflcchnaaDoor
namespace Go.Proofs.YtfjjoohflcchnaaDoor
open Go Go.Lift Go.Conc Go.RowKit
abbrev I (n:Int):Value:=.int .i64 n
abbrev Pt (b o:Nat):Value:=.pointer (some ⟨b,o,none⟩)
structure Hid (p:Prop):Prop where
 out:p
def IntRow (w:World) (v:Value) (l:List Int):Prop :=
 (l=[]∧v=.slice none 0 0)∨∃ cb cap,v=.slice (some ⟨cb,0,none⟩) l.length cap∧∀ i x,l[i]? = some x→w.cell? ⟨cb,i,none⟩=some (I x)
def chgOf (l:List Int) (c:Int):Int:=if c<0 then 0 else l.getD c.toNat 0
def Body (f:Func) (args:Array Value) (w:World) (R:Value→World→Prop):Prop :=
 ∀ c,f.body=some c→c.wp Tryd.prog (bodyPost Tryd.prog f (fun e w'=>∃ v,e=.returned v∧R v w')) { tmps:=args++Array.replicate (f.ntmps - args.size) undef,defers:=[] } w
theorem Body.calls {f:FuncId} {fn:Func} {args:Array Value} {w:World} {R:Value→World→Prop} {c:Code} (hf:Tryd.prog.funcs[f]? = some fn) (hb:fn.body=some c) (h:Body fn args w R):Calls Tryd.prog f args w (fun e w'=>∃ v,e=.returned v∧R v w') :=
 calls_of_wp hf hb (h c hb)
theorem body51 (wb:Nat) (c:Int) (cv:Value) (l:List Int) (w:World) (h3:w.cell? ⟨wb,3,none⟩=some cv) (hr:IntRow w cv l):Body Tryd.f157 #[Pt wb 0,I c] w (fun v w'=>v=I (chgOf l c)∧w'=w):=by
 intro code hb
 obtain rfl:=Option.some.inj hb
 clear hb
 simp only [Tryd.ntmps157,List.size_toArray,List.length_cons,List.length_nil,Nat.reduceAdd,Nat.reduceSub,Array.replicate_succ,Array.replicate_zero,List.push_toArray,List.append_toArray,List.nil_append,List.cons_append]
 by_cases hc:c<0
 ·have H:Hid (c<0):=⟨hc⟩
  have g:(decide (c<0))=true:=by simpa using hc
  go_wp2
  go_ret
  exact ⟨_,rfl,by simp [chgOf,H.out],rfl⟩
 ·obtain ⟨n,rfl⟩:∃ n:Nat,c=(n:Int):=⟨c.toNat,by omega⟩
  clear hc
  have hn0:¬ ((n:Int)<0):=by omega
  rcases hr with ⟨rfl,rfl⟩|⟨cb,cap,rfl,hrow⟩
  ·have g:((0:Int)≤(n:Int)):=by omega
   go_wp2
   go_ret
   exact ⟨_,rfl,by simp [chgOf],rfl⟩
  ·by_cases hlt:n<l.length
   ·have hx:=hrow n _ (List.getElem?_eq_getElem hlt)
    have HL:Hid (l[n]? = some l[n]):=⟨List.getElem?_eq_getElem hlt⟩
    have hlt':(n:Int)<(l.length:Int):=by omega
    generalize l[n]=x at hx HL
    clear hrow
    go_wp2
    go_ret
    exact ⟨_,rfl,by simp [chgOf,List.getD_eq_getElem?_getD,HL.out];omega,rfl⟩
   ·have H:Hid (l.length≤n):=⟨by omega⟩
    have g:(l.length:Int)≤(n:Int):=by omega
    clear hrow hlt
    go_wp2
    go_ret
    exact ⟨_,rfl,by simp [chgOf,List.getD_eq_getElem?_getD,List.getElem?_eq_none H.out],rfl⟩
theorem kcell {u u':World} (hb:Below u.heap.size u u') {a:Addr} {v:Value} (h:u.cell? a=some v):u'.cell? a=some v:=by
 rw [hb.cell (World.block_lt_of_cell? _ _ h)];exact h
structure Fr (S:Nat→Prop) (w w':World):Prop where
 os:w'.os=w.os
 output:w'.output=w.output
 size:w.heap.size≤w'.heap.size
 block:∀ b,b<w.heap.size→¬ S b→w'.heap[b]? = w.heap[b]?
theorem Fr.refl (S:Nat→Prop) (w:World):Fr S w w:=⟨rfl,rfl,Nat.le_refl _,fun _ _ _=>rfl⟩
theorem Fr.trans {S:Nat→Prop} {a b c:World} (h:Fr S a b) (k:Fr S b c):Fr S a c :=
 ⟨k.os.trans h.os,k.output.trans h.output,Nat.le_trans h.size k.size,fun x hx hs=>(k.block x (Nat.lt_of_lt_of_le hx h.size) hs).trans (h.block x hx hs)⟩
theorem Fr.mono {S S':Nat→Prop} {a b:World} (hs:∀ x,x<a.heap.size→S x→S' x) (h:Fr S a b):Fr S' a b:=⟨h.os,h.output,h.size,fun x hx hn=>h.block x hx fun hS=>hn (hs x hx hS)⟩
def Noted (wb:Nat) (tv:Value) (n base:Nat) (xs news:List Value) (w w':World):Prop :=
 ∃ g cap,(∀ c t f,w.heap[wb]? = some (.cells c t f)→w'.heap[wb]? = some (.cells (c.setIfInBounds 5 (.slice (some ⟨g,0,none⟩) (n+1) cap)) t f)) ∧
   w'.ownsRow base 60 5 (.slice (some ⟨g,0,none⟩) (n+1) cap) (n+1) (xs++news)∧(tv.ownBlock=some g∨w.heap.size≤g)∧Fr (fun b=>b=wb∨some b=tv.ownBlock) w w'
theorem heap_setCell_same {w:World} {b o:Nat} {c:Array Value} {t:TypeId} {f:Nat×Nat} (h:w.heap[b]? = some (.cells c t f)) (v:Value):(w.setCell ⟨b,o,none⟩ v).heap[b]? = some (.cells (c.setIfInBounds o v) t f):=by
 simp [World.setCell,Array.getElem?_modify,h]
theorem own_set {w:World} {base:Nat} {e:TypeId} {size:Nat} {v:Value} {n:Nat} {xs:List Value} (h:w.ownsRow base e size v n xs) (a:Addr) (x:Value) (hne:v.ownBlock≠some a.block):(w.setCell a x).ownsRow base e size v n xs:=by
 refine ⟨h.1,?_⟩
 rcases h.2 with h2|⟨g,cap,cur,h1,h2,h3,h4⟩
 ·exact .inl h2
 ·refine .inr ⟨g,cap,cur,h1,h2,?_,h4⟩
  rw [Below.heap_setCell _ _ _ _ (fun e=>hne (by rw [h1,e];rfl))]
  exact h3
theorem noted_of {wb:Nat} {tv:Value} {n base:Nat} {xs news:List Value} {w u w6:World} {g cap:Nat} (hb:Below w.heap.size w u) (hw:wb<w.heap.size) (hg:u.grownBy w6 tv.ownBlock) (hown:w6.ownsRow base 60 5 (.slice (some ⟨g,0,none⟩) (n+1) cap) (n+1) (xs++news))
 (hat:tv.ownBlock=some g∨g=u.heap.size) (hne:tv.ownBlock≠some wb):Noted wb tv n base xs news w (w6.setCell ⟨wb,5,none⟩ (.slice (some ⟨g,0,none⟩) (n+1) cap)):=by
 have hgw:g≠wb:=by
  rcases hat with h|h
  ·exact fun e=>hne (by rw [h,e])
  ·have:=hb.size;omega
 have e6:w6.heap[wb]? = w.heap[wb]?:=(hg.block wb (Nat.lt_of_lt_of_le hw hb.size) (Ne.symm hne)).trans (hb.block wb hw)
 refine ⟨g,cap,fun c t f h=>heap_setCell_same (by rw [e6];exact h) _,own_set hown _ _ (fun e=>hgw (Option.some.inj e)),?_,?_⟩
 ·rcases hat with h|h
  ·exact .inl h
  ·exact .inr (by have:=hb.size;omega)
 ·refine ⟨by show w6.os=_;rw [hg.os,hb.os],by show w6.output=_;rw [hg.output,hb.output],?_,fun b hlt hs=>?_⟩
  ·have:=hb.size
   have:=hg.size
   simp only [World.setCell,Array.size_modify]
   omega
  ·rw [Below.heap_setCell _ _ _ _ (fun e=>hs (.inl e)),hg.block b (Nat.lt_of_lt_of_le hlt hb.size) (fun e=>hs (.inr e)),hb.block b hlt]
theorem below_alloc {a b:World} (h:Below a.heap.size a b) (o:Obj):Below a.heap.size a (b.alloc o):=h.alloc h.size o
theorem own_later {w w':World} {base:Nat} {e:TypeId} {size:Nat} {v:Value} {n:Nat} {xs:List Value} (hb:Below w.heap.size w w') (h:w.ownsRow base e size v n xs):w'.ownsRow base e size v n xs:=by
 refine ⟨h.1,?_⟩
 rcases h.2 with h2|⟨g,cap,cur,h1,h2,h3,h4⟩
 ·exact .inl h2
 ·exact .inr ⟨g,cap,cur,h1,h2,(hb.block g (Array.getElem?_eq_some_iff.1 h3).1).trans h3,h4⟩
theorem info34:(Tryd.prog.info? 60).map (fun i=>(i.zero,i.size,i.bytes))=some (some (.agg #[I 0,I 0,I 0,I 0,I 0]),5,40):=by kernel_rfl
theorem one5 (a b c d e:Int):∀ u∈[I a,I b,I c,I d,I e],u.oneCell'=true:=by
 intro u hu
 simp at hu
 rcases hu with rfl|rfl|rfl|rfl|rfl<;>rfl
theorem keep4 {u u':World} {a1 a2 a3:Addr} {v1 v2 v3:Value} (h:u.cell? a1=some v1∧u.cell? a2=some v2∧u.cell? a3=some v3∧u.frozen? a3=false) (hb:Below u.heap.size u u') :
 u'.cell? a1=some v1∧u'.cell? a2=some v2∧u'.cell? a3=some v3∧u'.frozen? a3=false:=by
 obtain ⟨h1,h2,h3,h4⟩:=h
 exact ⟨kcell hb h1,kcell hb h2,kcell hb h3,by rw [hb.frozen (World.block_lt_of_cell? _ _ h3)];exact h4⟩
theorem keep4g {u u':World} {row:Option Nat} {a1 a2 a3:Addr} {v1 v2 v3:Value} (h:u.cell? a1=some v1∧u.cell? a2=some v2∧u.cell? a3=some v3∧u.frozen? a3=false) (hg:u.grownBy u' row)
 (h1:row≠some a1.block) (h2:row≠some a2.block) (h3:row≠some a3.block):u'.cell? a1=some v1∧u'.cell? a2=some v2∧u'.cell? a3=some v3∧u'.frozen? a3=false:=by
 obtain ⟨g1,g2,g3,g4⟩:=h
 exact ⟨by rw [hg.cell_far _ (World.block_lt_of_cell? _ _ g1) h1.symm];exact g1,by rw [hg.cell_far _ (World.block_lt_of_cell? _ _ g2) h2.symm];exact g2,by rw [hg.cell_far _ (World.block_lt_of_cell? _ _ g3) h3.symm];exact g3,
  by rw [hg.frozen_far _ (World.block_lt_of_cell? _ _ g3) h3.symm];exact g4⟩
theorem news5 (w:World) (a b c d e:Int) (t:TypeId):∀ j u,[I a,I b,I c,I d,I e][j]? = some u→(w.alloc (.cells #[I a,I b,I c,I d,I e] t)).cell? ((⟨w.heap.size,0,none⟩:Addr).add j)=some u:=by
 intro j u hj
 have hb:(w.alloc (.cells #[I a,I b,I c,I d,I e] t)).heap[w.heap.size]? = some (.cells #[I a,I b,I c,I d,I e] t):=Array.getElem?_push_size
 exact World.news_of_block hb j u hj
theorem body38 (tb wb id:Nat) (op ce ol ne:Int) (tv:Value) (n base:Nat) (xs:List Value) (w:World) (h0:w.cell? ⟨tb,0,none⟩=some (Pt wb 0)) (h1:w.cell? ⟨tb,1,none⟩=some (I id)) (h5:w.cell? ⟨wb,5,none⟩=some tv)
 (hf:w.frozen? ⟨wb,5,none⟩=false) (hown:w.ownsRow base 60 5 tv n xs) (hbw:tv.ownBlock≠some wb) (hbt:tv.ownBlock≠some tb) (hn:(n+1)*40≤140737488355328) (hbase:base≤w.heap.size) :
 Body Tryd.f128 #[Pt tb 0,I op,I ce,I ol,I ne] w (fun v w'=>v=.tuple #[]∧Noted wb tv n base xs [I id,I ce,I op,I ol,I ne] w w'):=by
 intro code hb
 obtain rfl:=Option.some.inj hb
 clear hb
 simp only [Tryd.ntmps128,List.size_toArray,List.length_cons,List.length_nil,Nat.reduceAdd,Nat.reduceSub,Array.replicate_succ,Array.replicate_zero,List.push_toArray,List.append_toArray,List.nil_append,List.cons_append]
 have HO:Hid (w.ownsRow base 60 5 tv n xs):=⟨hown⟩
 clear hown
 obtain ⟨j0,hj,hj0,hj1,hj2⟩:=info_parts info34
 have q0:=World.block_lt_of_cell? _ _ h0
 have q5:=World.block_lt_of_cell? _ _ h5
 simp only at q0 q5
 have n0:tb≠w.heap.size:=by omega
 have n5:wb≠w.heap.size:=by omega
 have n0':w.heap.size≠tb:=by omega
 have n5':w.heap.size≠wb:=by omega
 go_region_law (refine step_append_lies _ rfl (.tmp 20) (.tmp 30) 41 rfl base 60 j0 _ 5 40 Tryd.underlying41 hj hj0 hj1 hj2 rfl (by decide) tv n xs rfl (own_later (below_alloc (Below.refl _ _).drew _) HO.out) ⟨_,0,none⟩ 1 1 [I id,I ce,I op,I ol,I ne] rfl rfl (news5 _ _ _ _ _ _ _) (one5 _ _ _ _ _) (by decide) (by unfold maxLen;omega) (by omega) (by simp;omega) _ rfl ?_
                intro g cpg w6 hown6 hgrow6 hat6 hlt6
                obtain ⟨_,_,k5,k6⟩:=keep4g (keep4 (u:=w) ⟨h0,h1,h5,hf⟩ (below_alloc (Below.refl _ _).drew _)) hgrow6 hbt hbt hbw)
 all_goals first
  |exact ⟨rfl,_,results_none rfl _ _ _,_,rfl,rfl,noted_of (below_alloc (Below.refl _ _).drew _) q5 hgrow6 hown6 hat6 hbw⟩
  |exact ⟨rfl,_,results_none rfl _ _ _,_,rfl,rfl,noted_of ((below_alloc (Below.refl _ _) _).drew) q5 hgrow6 hown6 hat6 hbw⟩
structure Thr where
 tb:Nat
 gc:Nat
 st:Int
 ce:Int
 op:Int
 se:Int
structure TS where
 wb:Nat
 bk:Nat
 base:Nat
 us:Nat
 n:Nat
 la:Int
 sc:Value
 cv:Value
 ths:Value
 tv:Value
 sched:List Int
 chg:List Int
 tr:List Value
 stk:Bool
 ran:Bool
 thr:List Thr
abbrev trow (wb id gc:Nat) (st ce op se:Int):Array Value:=#[Pt wb 0,I id,.chan (some gc),I st,I ce,I op,I se]
abbrev wrow (S:TS):Array Value:=#[S.sc,I S.us,I S.la,S.cv,S.ths,S.tv,.bool S.stk,.bool S.ran,.chan (some S.bk)]
def blk (S:TS):Nat→Option Nat
 |0=>some S.wb
 |1=>S.cv.ownBlock
 |2=>S.ths.ownBlock
 |3=>S.tv.ownBlock
 |4=>S.sc.ownBlock
 |k+5=>(S.thr[k]?).map (·.tb)
def Its (S:TS) (b:Nat):Prop:=∃ k,blk S k=some b
def fz (z:Nat→Option Nat) (b:Nat):Nat×Nat :=
 match z b with
 |some n=>(n,n+1)
 |none=>(0,0)
structure Rep (z:Nat→Option Nat) (S:TS) (v:World):Prop where
 wor:v.heap[S.wb]? = some (.cells (wrow S) 97 (fz z S.wb))
 thr:∀ (i:Nat) (t:Thr),S.thr[i]? = some t→v.heap[t.tb]? = some (.cells (trow S.wb i t.gc t.st t.ce t.op t.se) 107 (fz z t.tb))
 own:v.ownsRow S.base 60 5 S.tv S.n S.tr
 chg:v.ownsRow S.base 3 1 S.cv S.chg.length (S.chg.map I)
 ths:v.ownsRow S.base 48 1 S.ths S.thr.length (S.thr.map fun t=>Pt t.tb 0)
 sch:v.ownsRow S.base 3 1 S.sc S.sched.length (S.sched.map I)
 bs:S.base≤v.heap.size
 apart:∀ j k b,blk S j=some b→blk S k=some b→j=k
 kept:∀ b n,z b=some n→(b=S.wb∧n=8)∨∃ (i:Nat) (t:Thr),S.thr[i]? = some t∧b=t.tb∧n=2
theorem own_lt {w:World} {base:Nat} {e:TypeId} {size:Nat} {v:Value} {n:Nat} {xs:List Value} (h:w.ownsRow base e size v n xs):∀ g,v.ownBlock=some g→base≤g∧g<w.heap.size:=by
 intro g hg
 rcases h.2 with ⟨rfl,_⟩|⟨g',cap,cur,rfl,hb,hh,_⟩
 ·cases hg
 ·have:g'=g:=Option.some.inj hg
  subst this
  exact ⟨hb,(Array.getElem?_eq_some_iff.1 hh).1⟩
theorem Rep.lt {z:Nat→Option Nat} {S:TS} {v:World} (h:Rep z S v) {k b:Nat} (hk:blk S k=some b):b<v.heap.size:=by
 match k,hk with
 |0,hk=>cases hk;exact (Array.getElem?_eq_some_iff.1 h.wor).1
 |1,hk=>exact (own_lt h.chg b hk).2
 |2,hk=>exact (own_lt h.ths b hk).2
 |3,hk=>exact (own_lt h.own b hk).2
 |4,hk=>exact (own_lt h.sch b hk).2
 |k+5,hk =>
  simp only [blk,Option.map_eq_some_iff] at hk
  obtain ⟨t,ht,rfl⟩:=hk
  exact (Array.getElem?_eq_some_iff.1 (h.thr k t ht)).1
structure Ev (z:Nat→Option Nat) (S:TS) (v:World) (S':TS) (v':World):Prop where
 rep:Rep z S' v'
 fr:Fr (Its S) v v'
 new:∀ b,Its S' b→Its S b∨v.heap.size≤b
theorem Ev.refl {z:Nat→Option Nat} {S:TS} {v:World} (h:Rep z S v):Ev z S v S v:=⟨h,Fr.refl _ _,fun _ hb=>.inl hb⟩
theorem Ev.trans {z:Nat→Option Nat} {S S' S'':TS} {v v' v'':World} (h:Ev z S v S' v') (k:Ev z S' v' S'' v''):Ev z S v S'' v'':=by
 refine ⟨k.rep,?_,fun b hb=>?_⟩
 ·refine ⟨k.fr.os.trans h.fr.os,k.fr.output.trans h.fr.output,Nat.le_trans h.fr.size k.fr.size,fun x hx hs=>?_⟩
  rw [k.fr.block x (Nat.lt_of_lt_of_le hx h.fr.size) (fun hi=>(h.new x hi).elim hs (fun hle=>by omega)),h.fr.block x hx hs]
 ·rcases k.new b hb with h1|h1
  ·exact h.new b h1
  ·exact .inr (Nat.le_trans h.fr.size h1)
theorem own_stay {w w':World} {base:Nat} {e:TypeId} {size:Nat} {v:Value} {n:Nat} {xs:List Value} (hb:∀ g,v.ownBlock=some g→w'.heap[g]? = w.heap[g]?) (h:w.ownsRow base e size v n xs):w'.ownsRow base e size v n xs:=by
 refine ⟨h.1,?_⟩
 rcases h.2 with h2|⟨g,cap,cur,h1,h2,h3,h4⟩
 ·exact .inl h2
 ·exact .inr ⟨g,cap,cur,h1,h2,by rw [hb g (by rw [h1];rfl)];exact h3,h4⟩
theorem fz_off {z:Nat→Option Nat} {S:TS} {v:World} (h:Rep z S v) (o:Nat) (ho:o≠8):v.frozen? ⟨S.wb,o,none⟩=false:=by
 unfold World.frozen?
 rw [h.wor]
 unfold fz
 cases hz:z S.wb with
 |none=>simp
 |some n =>
  rcases h.kept _ _ hz with ⟨_,rfl⟩|⟨i,t,ht,e,_⟩
  ·simp only [Bool.and_eq_false_iff,decide_eq_false_iff_not]
   omega
  ·have:=h.apart 0 (i+5) S.wb rfl (by simp [blk,ht,e])
   omega
theorem fzT_off {z:Nat→Option Nat} {S:TS} {v:World} (h:Rep z S v) {i:Nat} {t:Thr} (ht:S.thr[i]? = some t) (o:Nat) (ho:o≠2):v.frozen? ⟨t.tb,o,none⟩=false:=by
 unfold World.frozen?
 rw [h.thr i t ht]
 unfold fz
 cases hz:z t.tb with
 |none=>simp
 |some n =>
  rcases h.kept _ _ hz with ⟨e,rfl⟩|⟨j,t',ht',e,rfl⟩
  ·have:=h.apart 0 (i+5) S.wb rfl (by simp [blk,ht,e])
   omega
  ·simp only [Bool.and_eq_false_iff,decide_eq_false_iff_not]
   omega
theorem note_rep {z:Nat→Option Nat} {S:TS} {v:World} (h:Rep z S v) {i:Nat} {t:Thr} (ht:S.thr[i]? = some t) (op ce ol ne:Int) (hn:(S.n+1)*40≤140737488355328) :
 Body Tryd.f128 #[Pt t.tb 0,I op,I ce,I ol,I ne] v (fun r v'=>r=.tuple #[]∧∃ tv',Ev z S v { S with tv:=tv',n:=S.n+1,tr:=S.tr++[I i,I ce,I op,I ol,I ne] } v'):=by
 have hrow:=h.thr i t ht
 have c0:v.cell? ⟨t.tb,0,none⟩=some (Pt S.wb 0):=by simp [World.cell?,hrow]
 have c1:v.cell? ⟨t.tb,1,none⟩=some (I i):=by simp [World.cell?,hrow]
 have c5:v.cell? ⟨S.wb,5,none⟩=some S.tv:=by simp [World.cell?,h.wor]
 have hb5:blk S (i+5)=some t.tb:=by simp [blk,ht]
 have n1:S.tv.ownBlock≠some S.wb:=fun e=>by have:=h.apart 3 0 S.wb e rfl;omega
 have n2:S.tv.ownBlock≠some t.tb:=fun e=>by have:=h.apart 3 (i+5) t.tb e hb5;omega
 intro c hc
 refine wp_mono (body38 t.tb S.wb i op ce ol ne S.tv S.n S.base S.tr v c0 c1 c5 (fz_off h 5 (by omega)) h.own n1 n2 hn h.bs c hc) ?_
 have key:∀ v',Noted S.wb S.tv S.n S.base S.tr [I i,I ce,I op,I ol,I ne] v v'→∃ tv',Ev z S v { S with tv:=tv',n:=S.n+1,tr:=S.tr++[I i,I ce,I op,I ol,I ne] } v':=by
  rintro v' ⟨g,cap,hw,hown,hat,hfr⟩
  have hst:∀ k b,blk S k=some b→k≠0→k≠3→v'.heap[b]? = v.heap[b]?:=fun k b hk h0 h3=>hfr.block b (h.lt hk) (fun hS=>by
   rcases hS with rfl|hS
   ·exact h0 (h.apart k 0 _ hk rfl)
   ·exact h3 (h.apart k 3 b hk hS.symm))
  have hnew:∀ k b,blk { S with tv:=.slice (some ⟨g,0,none⟩) (S.n+1) cap,n:=S.n+1,tr:=S.tr++[I i,I ce,I op,I ol,I ne] } k=some b→(blk S k=some b)∨(k=3∧b=g):=fun k b hk=>by
   match k,hk with
   |0,hk=>exact .inl hk
   |1,hk=>exact .inl hk
   |2,hk=>exact .inl hk
   |3,hk=>cases hk;exact .inr ⟨rfl,rfl⟩
   |4,hk=>exact .inl hk
   |k+5,hk=>exact .inl hk
  refine ⟨.slice (some ⟨g,0,none⟩) (S.n+1) cap,⟨?_,fun j t' ht'=>?_,hown,?_,?_,?_,Nat.le_trans h.bs hfr.size,fun j k b hj hk=>?_,h.kept⟩,hfr.mono (fun x _ hx=>?_),fun b ⟨k,hk⟩=>?_⟩
  ·have:=hw _ _ _ h.wor
   simpa using this
  ·rw [hst (j+5) t'.tb (by simp [blk,ht']) (by omega) (by omega)]
   exact h.thr j t' ht'
  ·exact own_stay (fun b hb=>hst 1 b hb (by omega) (by omega)) h.chg
  ·exact own_stay (fun b hb=>hst 2 b hb (by omega) (by omega)) h.ths
  ·exact own_stay (fun b hb=>hst 4 b hb (by omega) (by omega)) h.sch
  ·rcases hnew j b hj with e1|⟨rfl,rfl⟩<;>rcases hnew k b hk with e2|⟨rfl,e2⟩
   ·exact h.apart j k b e1 e2
   ·subst e2
    rcases hat with ha|ha
    ·exact h.apart j 3 b e1 ha
    ·have:=h.lt e1;omega
   ·rcases hat with ha|ha
    ·exact h.apart 3 k b ha e2
    ·have:=h.lt e2;omega
   ·rfl
  ·rcases hx with rfl|hx
   ·exact ⟨0,rfl⟩
   ·exact ⟨3,hx.symm⟩
  ·rcases hnew k b hk with e1|⟨_,rfl⟩
   ·exact .inl ⟨k,e1⟩
   ·rcases hat with ha|ha
    ·exact .inl ⟨3,ha⟩
    ·exact .inr ha
 intro e a w' hq
 cases e with
 |normal=>obtain ⟨q1,x,q2,y,q3,q4,q5⟩:=hq;exact ⟨q1,x,q2,y,q3,q4,key _ q5⟩
 |ret=>obtain ⟨q1,x,q2,y,q3,q4,q5⟩:=hq;exact ⟨q1,x,q2,y,q3,q4,key _ q5⟩
 |panic ch=>obtain ⟨q1,y,q3,q4,q5⟩:=hq;cases q3
 |outgrown=>obtain ⟨y,q3,q4,q5⟩:=hq;cases q3
 |_=>exact hq.elim
end Go.Proofs.YtfjjoohflcchnaaDoor
namespace Go.Lift
open Go.Conc
section
variable {P:Program} {wr:Bool} {L:FuncId→Prop}
theorem calm_read (t:Extern.Atomic.T) (a:Addr):calm P wr (Extern.Atomic.read t a):=by
 unfold Extern.Atomic.read
 refine calm_bind (calm_load _ _) fun v=>?_
 split<;>first|exact calm_pure _|exact calm_unsupported _|(split<;>first|exact calm_pure _|exact calm_unsupported _)
theorem calm_loadT (t:Extern.Atomic.T) (a:Value):calm P wr (Extern.Atomic.loadT t #[a]) :=
 calm_bind (calm_asAddr _) fun _=>calm_read _ _
theorem calm_swapT (h:wr=true) (t:Extern.Atomic.T) (a b:Value):calm P wr (Extern.Atomic.swapT t #[a,b]) :=
 calm_bind (calm_asAddr _) fun _=>calm_bind (calm_read _ _) fun _=>calm_bind (calm_store h _ _ _) fun _=>calm_pure _
theorem calm_any {β:Type} {f:Bool→Sem β} {g:Nat→Addr} (h1:calm P wr (f true)) (hd:dead P (f true)) (h0:calm P wr (f false)):∀ l:List Nat,calm P wr ((l.anyM fun i=>frozen (g i)) >>= f)
 | []=>h0
 |i :: l=>by
  show calm P wr (Sem.frozen (g i) fun b=>_)
  refine ⟨fun b=>?_,?_⟩
  ·cases b
   ·exact calm_any h1 hd h0 l
   ·exact h1
  ·exact hd
theorem calm_touches {β:Type} {f:Bool→Sem β} (a:Addr) (h1:calm P wr (f true)) (hd:dead P (f true)) (h0:calm P wr (f false)):calm P wr (Extern.Atomic.touchesFrozen a >>= f):=by
 unfold Extern.Atomic.touchesFrozen
 have hass:∀ {α γ:Type} (s:Sem α) (k:α→Sem γ) (f:γ→Sem β),(s.bind k).bind f=s.bind fun x=>(k x).bind f:=fun s k f=>by
  induction s with
  |pure a=>rfl
  |halt h=>rfl
  |store m a v k ih=>simp only [Sem.bind,ih]
  |freeze a n k ih=>simp only [Sem.bind,ih]
  |setObj r o k ih=>simp only [Sem.bind,ih]
  |mark m k ih=>simp only [Sem.bind,ih]
  |_=>rename_i ih;simp only [Sem.bind];congr;funext x;exact ih _
 show calm P wr (((viewAt a.block).bind _).bind f)
 rw [hass]
 refine calm_sbind (calm_viewAt _) fun o=>?_
 cases o with
 |none=>exact ⟨fun b=>by cases b;exact h0;exact h1,hd⟩
 |some p =>
  obtain ⟨at_,ar⟩:=p
  show calm P wr (((typeInfo ar).bind _).bind f)
  rw [hass]
  refine calm_sbind (calm_typeInfo _) fun i=>?_
  dsimp only
  split
  ·show calm P wr (((unsupported _).bind _).bind f)
   exact calm_unsupported _
  ·exact calm_any h1 hd h0 _
theorem calm_casT (h:wr=true) (k:IntKind) (a b c:Value):calm P wr (Extern.Atomic.casT (.int k) #[a,b,c]):=by
 refine calm_bind (calm_asAddr _) fun ad=>?_
 have tail:calm P wr (do
  let eq ←match Extern.Atomic.T.int k,←Extern.Atomic.read (.int k) ad,b with
   |_,.int _ x,.int _ y=>pure (x==y)
   |.ptr,.pointer x,.pointer y=>samePointer x y
   |.int _,.pointer (some _),.int _ 0|.int _,.int _ 0,.pointer (some _)=>pure false
   |.int _,.pointer (some _),_|.int _,_,.pointer (some _)=>unsupported .addressObserved
   | _, _, _ => stuck "atomic.CompareAndSwap: old is no T"
  if eq then store ad c .atomic
  pure (.bool eq):Sem Value):=by
  refine calm_bind (calm_read _ _) fun x=>?_
  have jp:∀ eq:Bool,calm P wr (if eq=true then do
   let r ←store ad c Mode.atomic
   pure (Value.bool eq)
   else pure (Value.bool eq):Sem Value):=fun eq=>by
   split
   ·exact calm_bind (calm_store h _ _ _) fun _=>calm_pure _
   ·exact calm_pure _
  dsimp only
  split<;>first|exact calm_bind (calm_pure _) fun _=>jp _|exact calm_bind (calm_unsupported _) fun _=>jp _|exact calm_bind (calm_stuck _) fun _=>jp _|(rename_i hh;cases hh)
 exact calm_touches ad (calm_unsupported _) trivial tail
def ExtOk (P:Program) (wr:Bool) (f:FuncId) (n:Nat):Prop :=
 ∃ fn e, P.funcs[f]? = some fn ∧ (fn.name == "runtime.NumGoroutine") = false ∧ fn.body = none ∧ Extern.findNext fn = none ∧ Extern.find fn = some e ∧ ∀ args : Array Value, args.size = n → calm P wr (e args)
theorem fine_extern {o:Oper} {f:FuncId} {args:Array Operand} {ats:Array TypeId} (ho:o.op=.call { callee:=.value (.func f),args:=args,argTypes:=ats }) (hx:ExtOk P wr f args.size):fineOp P wr L o:=fun a=>by
 obtain ⟨fn,en,hf,hn,hb,hnx,hfd,hcalm⟩:=hx
 have e:execOp a.eval o=callFunc f ((#[]++args.map a.eval)++#[]):=by
  unfold execOp
  rw [ho]
  rfl
 rw [e]
 have hc:=hcalm ((#[]++args.map a.eval)++#[]) (by simp)
 constructor
 ·simp only [callFunc,program,bind,Sem.bind,calm,hf,hn,hb,hnx,hfd,Option.isNone_none,if_true,mark,Bool.false_eq_true,if_false]
  exact ⟨.inr ⟨f,rfl⟩,calm_sbind hc fun _=>trivial⟩
 ·intro w x w' h
  simp only [callFunc,program,bind,Sem.bind,Sem.run,hf,hn,hb,hnx,hfd,Option.isNone_none,if_true,mark,Bool.false_eq_true,if_false] at h
  exact .inl (val_out h)
def askCall (fs:List FuncId) (xs:List (FuncId×Nat)):Op→Bool
 |.call { callee:=.value (.func f),args:=ar,.. }=>fs.contains f||xs.contains (f,ar.size)
 |_=>false
def askCode (P:Program) (wr:Bool) (fs:List FuncId) (xs:List (FuncId×Nat)):Code→Bool
 |.skip|.ret|.label _|.exit _=>true
 |.seq a b=>askCode P wr fs xs a&&askCode P wr fs xs b
 |.cond _ a b=>askCode P wr fs xs a&&askCode P wr fs xs b
 |.block _ c=>askCode P wr fs xs c
 |.loop c=>askCode P wr fs xs c
 |.region _ ops _=>ops.all fun o=>plainOp P wr o.op||askCall fs xs o.op
 |_=>false
theorem fineOp_ask {fs:List FuncId} {xs:List (FuncId×Nat)} (hfs:∀ f∈fs,Callable P L f) (hxs:∀ x∈xs,ExtOk P wr x.1 x.2) {o:Oper} (h:(plainOp P wr o.op||askCall fs xs o.op)=true):fineOp P wr L o:=by
 rcases Bool.or_eq_true_iff.1 h with h|h
 ·exact fine_plain h
 ·unfold askCall at h
  split at h
  ·rename_i f args ats e
   rcases Bool.or_eq_true_iff.1 h with h|h
   ·obtain ⟨hL,fn,h1,h2,h3⟩:=hfs f (by simpa using h)
    exact fine_call e h1 h2 h3 hL
   ·exact fine_extern e (hxs (f,args.size) (by simpa using h))
  ·cases h
theorem fineCode_ask {fs:List FuncId} {xs:List (FuncId×Nat)} (hfs:∀ f∈fs,Callable P L f) (hxs:∀ x∈xs,ExtOk P wr x.1 x.2):∀ {c:Code},askCode P wr fs xs c=true→fineCode P wr L c:=by
 intro c
 induction c with
 |seq a b iha ihb=>intro h;simp only [askCode,Bool.and_eq_true] at h;exact ⟨iha h.1,ihb h.2⟩
 |cond o a b iha ihb=>intro h;simp only [askCode,Bool.and_eq_true] at h;exact ⟨iha h.1,ihb h.2⟩
 |block id c ih=>intro h;exact ih h
 |loop c ih=>intro h;exact ih h
 |region id ops d =>
  intro h
  simp only [askCode,Array.all_eq_true_iff_forall_mem] at h
  exact fun o ho=>fineOp_ask hfs hxs (h o ho)
 |skip=>intro _;trivial
 |ret=>intro _;trivial
 |label l=>intro _;trivial
 |exit id=>intro _;trivial
 |_=>intro h;simp [askCode] at h
theorem fineFn_ask {fs:List FuncId} {xs:List (FuncId×Nat)} (hfs:∀ f∈fs,Callable P L f) (hxs:∀ x∈xs,ExtOk P wr x.1 x.2) {f:FuncId} {fn:Func} {c:Code} (hf:P.funcs[f]? = some fn) (hb:fn.body=some c) (h:askCode P wr fs xs c=true):fineFn P wr L f :=
 ⟨fn,c,hf,hb,fineCode_ask hfs hxs h,calm_results fn⟩
theorem args1 {p:Array Value→Prop} (h:∀ a,p #[a]) (args:Array Value) (hs:args.size=1):p args:=by
 obtain ⟨l⟩:=args
 match l,hs with
 | [a],_=>exact h a
theorem args2 {p:Array Value→Prop} (h:∀ a b,p #[a,b]) (args:Array Value) (hs:args.size=2):p args:=by
 obtain ⟨l⟩:=args
 match l,hs with
 | [a,b],_=>exact h a b
theorem args3 {p:Array Value→Prop} (h:∀ a b c,p #[a,b,c]) (args:Array Value) (hs:args.size=3):p args:=by
 obtain ⟨l⟩:=args
 match l,hs with
 | [a,b,c],_=>exact h a b c
end
end Go.Lift
namespace Go.Proofs.YtfjjoohflcchnaaDoor
open Go Go.Lift Go.Conc Go.RowKit
def plainFs:List FuncId:=[62,104,108,111,107,128,118,157,74,109,110,105,68,99,71,72,87,89,90,132]
def plainXs:List (FuncId×Nat):=[(129,2),(131,3),(130,1)]
def LT (f:FuncId):Prop:=f∈plainFs
theorem extT:∀ x∈plainXs,ExtOk Tryd.prog true x.1 x.2:=by
 intro x hx
 simp only [plainXs,List.mem_cons,List.not_mem_nil,or_false] at hx
 rcases hx with rfl|rfl|rfl
 ·exact ⟨Tryd.f129,Extern.Atomic.swapT (.int .i64),Tryd.func129,by kernel_rfl,by kernel_rfl,by kernel_rfl,by kernel_rfl,args2 fun a b=>calm_swapT rfl _ a b⟩
 ·exact ⟨Tryd.f131,Extern.Atomic.casT (.int .i64),Tryd.func131,by kernel_rfl,by kernel_rfl,by kernel_rfl,by kernel_rfl,args3 fun a b c=>calm_casT rfl _ a b c⟩
 ·exact ⟨Tryd.f130,Extern.Atomic.loadT (.int .i64),Tryd.func130,by kernel_rfl,by kernel_rfl,by kernel_rfl,by kernel_rfl,args1 fun a=>calm_loadT _ a⟩
theorem callT:∀ f∈plainFs,Callable Tryd.prog LT f:=by
 intro f hf
 have hf':=hf
 simp only [plainFs,List.mem_cons,List.not_mem_nil,or_false] at hf
 rcases hf with rfl|rfl|rfl|rfl|rfl|rfl|rfl|rfl|rfl|rfl|rfl|rfl|rfl|rfl|rfl|rfl|rfl|rfl|rfl|rfl
 ·exact ⟨hf',Tryd.f62,Tryd.func62,by kernel_rfl,by kernel_rfl⟩
 ·exact ⟨hf',Tryd.f104,Tryd.func104,by kernel_rfl,by kernel_rfl⟩
 ·exact ⟨hf',Tryd.f108,Tryd.func108,by kernel_rfl,by kernel_rfl⟩
 ·exact ⟨hf',Tryd.f111,Tryd.func111,by kernel_rfl,by kernel_rfl⟩
 ·exact ⟨hf',Tryd.f107,Tryd.func107,by kernel_rfl,by kernel_rfl⟩
 ·exact ⟨hf',Tryd.f128,Tryd.func128,by kernel_rfl,by kernel_rfl⟩
 ·exact ⟨hf',Tryd.f118,Tryd.func118,by kernel_rfl,by kernel_rfl⟩
 ·exact ⟨hf',Tryd.f157,Tryd.func157,by kernel_rfl,by kernel_rfl⟩
 ·exact ⟨hf',Tryd.f74,Tryd.func74,by kernel_rfl,by kernel_rfl⟩
 ·exact ⟨hf',Tryd.f109,Tryd.func109,by kernel_rfl,by kernel_rfl⟩
 ·exact ⟨hf',Tryd.f110,Tryd.func110,by kernel_rfl,by kernel_rfl⟩
 ·exact ⟨hf',Tryd.f105,Tryd.func105,by kernel_rfl,by kernel_rfl⟩
 ·exact ⟨hf',Tryd.f68,Tryd.func68,by kernel_rfl,by kernel_rfl⟩
 ·exact ⟨hf',Tryd.f99,Tryd.func99,by kernel_rfl,by kernel_rfl⟩
 ·exact ⟨hf',Tryd.f71,Tryd.func71,by kernel_rfl,by kernel_rfl⟩
 ·exact ⟨hf',Tryd.f72,Tryd.func72,by kernel_rfl,by kernel_rfl⟩
 ·exact ⟨hf',Tryd.f87,Tryd.func87,by kernel_rfl,by kernel_rfl⟩
 ·exact ⟨hf',Tryd.f89,Tryd.func89,by kernel_rfl,by kernel_rfl⟩
 ·exact ⟨hf',Tryd.f90,Tryd.func90,by kernel_rfl,by kernel_rfl⟩
 ·exact ⟨hf',Tryd.f132,Tryd.func132,by kernel_rfl,by kernel_rfl⟩
theorem fineT:∀ f,LT f→fineFn Tryd.prog true LT f:=by
 intro f hf
 simp only [LT,plainFs,List.mem_cons,List.not_mem_nil,or_false] at hf
 rcases hf with rfl|rfl|rfl|rfl|rfl|rfl|rfl|rfl|rfl|rfl|rfl|rfl|rfl|rfl|rfl|rfl|rfl|rfl|rfl|rfl
 ·exact fineFn_ask callT extT Tryd.func62 (c:=Tryd.f62.body.getD .skip) (by rfl) (by kernel_rfl)
 ·exact fineFn_ask callT extT Tryd.func104 (c:=Tryd.f104.body.getD .skip) (by rfl) (by kernel_rfl)
 ·exact fineFn_ask callT extT Tryd.func108 (c:=Tryd.f108.body.getD .skip) (by rfl) (by kernel_rfl)
 ·exact fineFn_ask callT extT Tryd.func111 (c:=Tryd.f111.body.getD .skip) (by rfl) (by kernel_rfl)
 ·exact fineFn_ask callT extT Tryd.func107 (c:=Tryd.f107.body.getD .skip) (by rfl) (by kernel_rfl)
 ·exact fineFn_ask callT extT Tryd.func128 (c:=Tryd.f128.body.getD .skip) (by rfl) (by kernel_rfl)
 ·exact fineFn_ask callT extT Tryd.func118 (c:=Tryd.f118.body.getD .skip) (by rfl) (by kernel_rfl)
 ·exact fineFn_ask callT extT Tryd.func157 (c:=Tryd.f157.body.getD .skip) (by rfl) (by kernel_rfl)
 ·exact fineFn_ask callT extT Tryd.func74 (c:=Tryd.f74.body.getD .skip) (by rfl) (by kernel_rfl)
 ·exact fineFn_ask callT extT Tryd.func109 (c:=Tryd.f109.body.getD .skip) (by rfl) (by kernel_rfl)
 ·exact fineFn_ask callT extT Tryd.func110 (c:=Tryd.f110.body.getD .skip) (by rfl) (by kernel_rfl)
 ·exact fineFn_ask callT extT Tryd.func105 (c:=Tryd.f105.body.getD .skip) (by rfl) (by kernel_rfl)
 ·exact fineFn_ask callT extT Tryd.func68 (c:=Tryd.f68.body.getD .skip) (by rfl) (by kernel_rfl)
 ·exact fineFn_ask callT extT Tryd.func99 (c:=Tryd.f99.body.getD .skip) (by rfl) (by kernel_rfl)
 ·exact fineFn_ask callT extT Tryd.func71 (c:=Tryd.f71.body.getD .skip) (by rfl) (by kernel_rfl)
 ·exact fineFn_ask callT extT Tryd.func72 (c:=Tryd.f72.body.getD .skip) (by rfl) (by kernel_rfl)
 ·exact fineFn_ask callT extT Tryd.func87 (c:=Tryd.f87.body.getD .skip) (by rfl) (by kernel_rfl)
 ·exact fineFn_ask callT extT Tryd.func89 (c:=Tryd.f89.body.getD .skip) (by rfl) (by kernel_rfl)
 ·exact fineFn_ask callT extT Tryd.func90 (c:=Tryd.f90.body.getD .skip) (by rfl) (by kernel_rfl)
 ·exact fineFn_ask callT extT Tryd.func132 (c:=Tryd.f132.body.getD .skip) (by rfl) (by kernel_rfl)
theorem run40 (cb o:Nat) (x:Int) (w:World) (h:w.cell? ⟨cb,o,none⟩=some (I x)):(callFunc 130 #[Pt cb o]).run Tryd.prog w=.ok (.value (I x)) w :=
 run_call_load Tryd.func130 (by kernel_rfl) (by kernel_rfl) (by kernel_rfl) .i64 (by kernel_rfl) h
theorem run36 (cb o:Nat) (x y:Int) (w:World) (h:w.cell? ⟨cb,o,none⟩=some (I x)) (hf:w.frozen? ⟨cb,o,none⟩=false):(callFunc 129 #[Pt cb o,I y]).run Tryd.prog w=.ok (.value (I x)) (w.setCell ⟨cb,o,none⟩ (I y)):=by
 rw [run_callFunc_extern Tryd.func129 (by kernel_rfl) (by kernel_rfl) (by kernel_rfl) (e:=Extern.Atomic.swapT (.int .i64)) (by kernel_rfl)]
 change (Sem.run Tryd.prog (do
  let a ←asAddr (Pt cb o)
  let old ←Extern.Atomic.read (.int .i64) a
  store a (I y) .atomic
  pure old) w).andThen _=_
 simp [Extern.Atomic.read,asAddr,h,hf,run_store Tryd.prog w ⟨cb,o,none⟩ (I y) .atomic rfl,Result.andThen]
theorem run39 (cb o:Nat) (x y:Int) (w:World) (h:w.cell? ⟨cb,o,none⟩=some (I x)) (hf:w.frozen? ⟨cb,o,none⟩=false):(callFunc 131 #[Pt cb o,I x,I y]).run Tryd.prog w=.ok (.value (.bool true)) (w.setCell ⟨cb,o,none⟩ (I y)) :=
 run_call_cas_hit Tryd.func131 (by kernel_rfl) (by kernel_rfl) (by kernel_rfl) .i64 (by kernel_rfl) h hf
theorem run39n (cb o:Nat) (x x' y:Int) (w:World) (h:w.cell? ⟨cb,o,none⟩=some (I x)) (hf:w.frozen? ⟨cb,o,none⟩=false) (hne:¬ x=x'):(callFunc 131 #[Pt cb o,I x',I y]).run Tryd.prog w=.ok (.value (.bool false)) w :=
 run_call_cas_miss Tryd.func131 (by kernel_rfl) (by kernel_rfl) (by kernel_rfl) .i64 (by kernel_rfl) h hf hne
theorem body29 (cb:Nat) (x:Int) (w:World) (h:w.cell? ⟨cb,1,none⟩=some (I x)):Body Tryd.f107 #[Pt cb 1] w (fun v w'=>v=I x∧w'=w):=by
 intro code hb
 obtain rfl:=Option.some.inj hb
 clear hb
 simp only [Tryd.ntmps107,List.size_toArray,List.length_cons,List.length_nil,Nat.reduceAdd,Nat.reduceSub,Array.replicate_succ,Array.replicate_zero,List.push_toArray,List.append_toArray,List.nil_append,List.cons_append]
 have hq:=run40 cb 1 x w h
 go_wp2
 go_ret
 exact ⟨_,rfl,rfl,rfl⟩
theorem body25 (cb:Nat) (x y:Int) (w:World) (h:w.cell? ⟨cb,1,none⟩=some (I x)) (hf:w.frozen? ⟨cb,1,none⟩=false):Body Tryd.f104 #[Pt cb 1,I y] w (fun v w'=>v=I x∧w'=w.setCell ⟨cb,1,none⟩ (I y)):=by
 intro code hb
 obtain rfl:=Option.some.inj hb
 clear hb
 simp only [Tryd.ntmps104,List.size_toArray,List.length_cons,List.length_nil,Nat.reduceAdd,Nat.reduceSub,Array.replicate_succ,Array.replicate_zero,List.push_toArray,List.append_toArray,List.nil_append,List.cons_append]
 have hq:=run36 cb 1 x y w h hf
 go_wp2
 go_ret
 exact ⟨_,rfl,rfl,rfl⟩
theorem body28 (cb:Nat) (x y:Int) (w:World) (h:w.cell? ⟨cb,1,none⟩=some (I x)) (hf:w.frozen? ⟨cb,1,none⟩=false):Body Tryd.f111 #[Pt cb 1,I x,I y] w (fun v w'=>v=.bool true∧w'=w.setCell ⟨cb,1,none⟩ (I y)):=by
 intro code hb
 obtain rfl:=Option.some.inj hb
 clear hb
 simp only [Tryd.ntmps111,List.size_toArray,List.length_cons,List.length_nil,Nat.reduceAdd,Nat.reduceSub,Array.replicate_succ,Array.replicate_zero,List.push_toArray,List.append_toArray,List.nil_append,List.cons_append]
 have hq:=run39 cb 1 x y w h hf
 go_wp2
 go_ret
 exact ⟨_,rfl,rfl,rfl⟩
theorem body28n (cb:Nat) (x x' y:Int) (w:World) (h:w.cell? ⟨cb,1,none⟩=some (I x)) (hf:w.frozen? ⟨cb,1,none⟩=false) (hne:¬ x=x'):Body Tryd.f111 #[Pt cb 1,I x',I y] w (fun v w'=>v=.bool false∧w'=w):=by
 intro code hb
 obtain rfl:=Option.some.inj hb
 clear hb
 simp only [Tryd.ntmps111,List.size_toArray,List.length_cons,List.length_nil,Nat.reduceAdd,Nat.reduceSub,Array.replicate_succ,Array.replicate_zero,List.push_toArray,List.append_toArray,List.nil_append,List.cons_append]
 have hq:=run39n cb 1 x x' y w h hf hne
 go_wp2
 go_ret
 exact ⟨_,rfl,rfl,rfl⟩
end Go.Proofs.YtfjjoohflcchnaaDoor
