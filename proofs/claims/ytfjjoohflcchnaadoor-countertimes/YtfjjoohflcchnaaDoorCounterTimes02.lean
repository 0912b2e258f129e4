/- Of the proof of CounterTimes. Part 2 of 31. (Joined, by program, and written short, of: Lift3, Lift4, Lift5, Lift6, Lift7, Lift9.) -/
import Derived.Test.YtfjjoohflcchnaaDoorCounterTimes01
set_option linter.unusedSimpArgs false
set_option linter.unusedVariables false
set_option maxHeartbeats 4000000
set_option maxRecDepth 100000
namespace Go.Lift
open Go.Conc
structure St where
 ups:List F
 base:F
def St.emb:St→List Item→List Frame→Goroutine
 |⟨[],b⟩,k,cs=>G (b.fr k) cs
 |⟨u :: us,b⟩,k,cs=>G (u.fr []) (us.map (·.fr [])++b.fr k :: cs)
def waits (f:F):Prop:=f.ret=false∧∃ ops i rest more,f.todo=.inRegion ops (i :: rest) :: more
structure fineSt (P:Program) (wr:Bool) (L:FuncId→Prop) (b:Frame) (s:St):Prop where
 base:fineF P wr L s.base
 eb:s.base.b=b
 ups:∀ u∈s.ups,fineF P wr L u∧u.b.kind=.normal∧L u.b.fn
 wait:∀ x∈(s.ups++[s.base]).drop 1,waits x
def Done (s:St):Prop:=s.ups=[]∧(s.base.ret=true∨s.base.todo=[])
structure StepS (P:Program) (wr:Bool) (s s':St) (v v':World) (es:Array Event):Prop where
 here:∀ k cs main,stepG P main (s.emb k cs) v=.go (s'.emb k cs) v' es
 okay:∀ e∈es,Okay wr e
 tape:v'.tape=v.tape
 le:v.drawn≤v'.drawn
 like:∀ z w,Rel z v w→Same v v' w→∃ w',Out z wr v v' w w'∧(∀ e∈es,Spares z w' e)∧∀ k cs main,stepG P main (s.emb k cs) w=.go (s'.emb k cs) w' es
theorem stepG_back {P:Program} {main:Bool} {b:Frame} {a:Act} {cs:List Frame} {w w':World} {fn:Func} {todo:List Item} {c:Frame} {v:Value} (hn:b.kind=.normal) (hd:a.defers=[]) (hf:P.funcs[b.fn]? = some fn)
 (hr:(results fn a.tmps).run P w=.ok v w') :
 stepG P main (G { b.at a todo with mode:=.returning } (c :: cs)) w=.go (G (c.finish v) cs) w' (seen P b.fn ((results fn a.tmps).events P w #[])):=by
 simp [G,stepG,unwind,doReturn,Frame.at,hn,hd,hf,hr,GStep.after]
def F.got (f:F) (x:Value):F :=
 match f.todo with
 |.inRegion ops (i :: rest) :: more=>⟨f.b,f.a.put ((ops[i]?).bind (·.dst)) x,.inRegion ops rest :: more,f.ret⟩
 |_=>f
theorem finish_got {f:F} (hw:waits f) (x:Value) (k:List Item):(f.fr k).finish x=(f.got x).fr k:=by
 obtain ⟨b,a,todo,ret⟩:=f
 obtain ⟨h1,ops,i,rest,more,h2⟩:=hw
 simp only at h1 h2
 subst h1 h2
 exact Frame.finish_at b a ops i rest (more++k) x
theorem fineF.got {P:Program} {wr:Bool} {L:FuncId→Prop} {f:F} (h:fineF P wr L f) (hw:waits f) (x:Value):fineF P wr L (f.got x)∧(f.got x).b=f.b∧(f.got x).ret=false:=by
 obtain ⟨b,a,todo,ret⟩:=f
 obtain ⟨h1,ops,i,rest,more,h2⟩:=hw
 simp only at h1 h2
 subst h1 h2
 refine ⟨⟨fun y hy=>?_,?_,h.kind⟩,rfl,rfl⟩
 ·rcases List.mem_cons.1 hy with rfl|hy
  ·exact h.items (.inRegion ops (i :: rest)) (List.mem_cons_self ..)
  ·exact h.items y (List.mem_cons_of_mem _ hy)
 ·rw [←h.defers]
  show (a.put _ x).defers=a.defers
  unfold Act.put
  split<;>rfl
def last : Frame := { (default : Frame) with todo := [.code (.refuse "")], defers := [{ target := .nil, args := #[] }], mode := .run, kind := .normal, roundOf := none }
def tail : List Item := [.code (.refuse "")]
theorem tail_exit (id:Nat):exitTo id tail=none:=rfl
theorem nil_exit (id:Nat):exitTo id []=none:=rfl
def aloneM (g:Goroutine) (w:World):Machine:=lone g.frame g.callers w
theorem alone_go {P:Program} {fr fr':Frame} {cs cs':List Frame} {w w':World} {es:Array Event} (h:stepG P true (G fr cs) w=.go (G fr' cs') w' es):step P (lone fr cs w)=.next (lone fr' cs' w') :=
 step_lone_go (by
  have h':stepG P true { frame:=fr,callers:=cs,status:=.running,dying:=none } w=.go (G fr' cs') w' es:=h
  rw [h'];rfl)
theorem alone_ended {P:Program} {fr:Frame} {cs:List Frame} {w w':World} {o:Outcome} {es:Array Event} (h:stepG P true (G fr cs) w=.ended o w' es):step P (lone fr cs w)=.ended o w' :=
 step_lone_ended (by
  have h':stepG P true { frame:=fr,callers:=cs,status:=.running,dying:=none } w=.ended o w' es:=h
  rw [h'];rfl)
theorem dead_step {P:Program} {fr c:Frame} {cs:List Frame} {chain:List PanicEntry} {w:World} (hd:fr.defers=[]) :
 (∃ o,step P (lone { fr with mode:=.panicking chain } (c :: cs) w)=.ended o w)∨step P (lone { fr with mode:=.panicking chain } (c :: cs) w)=.next (lone (c.raise chain) cs w):=by
 obtain ⟨fn,tmps,todo,defers,mode,kind,ro⟩:=fr
 simp only at hd
 subst hd
 by_cases hc:Frame.catches P { fn:=fn,tmps:=tmps,todo:=todo,defers:=[],mode:=.panicking chain,kind:=kind,roundOf:=ro }=true
 ·exact .inl ⟨_,alone_ended (es:=#[]) (by simp [G,stepG,unwind,hc];rfl)⟩
 ·exact .inr (alone_go (es:=#[]) (by simp [G,stepG,unwind,hc]))
theorem dead_run {P:Program}:∀ (us:List Frame) (fr:Frame) (chain:List PanicEntry) (w:World) (n:Nat) (m':Machine),fr.defers=[]→(∀ u∈us,u.defers=[]) →
 runN P n (lone { fr with mode:=.panicking chain } (us++[last]) w)=.next m'→∃ fr' cs' w' chain',m'=lone fr' cs' w'∧fr'.mode=.panicking chain':=by
 have up:∀ (u:Frame) (chain:List PanicEntry),∃ ch,u.raise chain={ u with mode:=.panicking ch }:=fun u chain=>by
  unfold Frame.raise;split<;>exact ⟨_,rfl⟩
 intro us
 induction us with
 |nil =>
  intro fr chain w n m' hd _ h
  cases n with
  |zero=>simp only [runN,Stepped.next.injEq] at h;exact ⟨_,_,_,_,h.symm,rfl⟩
  |succ n =>
   simp only [runN] at h
   obtain ⟨ch,hch⟩:=up last chain
   rcases dead_step (P:=P) (c:=last) (cs:=[]) (chain:=chain) (w:=w) hd with ⟨o,e⟩|e
   ·simp only [List.nil_append,e] at h;cases h
   ·simp only [List.nil_append,e,hch] at h
    cases n with
    |zero=>simp only [runN,Stepped.next.injEq] at h;exact ⟨_,_,_,_,h.symm,rfl⟩
    |succ n =>
     simp only [runN] at h
     have e2:∃ o,step P (lone { last with mode:=.panicking ch } [] w)=.ended o w:=⟨_,alone_ended (es:=#[]) (by simp [G,stepG,unwind,last,callDeferred];rfl)⟩
     obtain ⟨o,e2⟩:=e2
     rw [e2] at h;cases h
 |cons u us ih =>
  intro fr chain w n m' hd hu h
  cases n with
  |zero=>simp only [runN,Stepped.next.injEq] at h;exact ⟨_,_,_,_,h.symm,rfl⟩
  |succ n =>
   simp only [runN] at h
   obtain ⟨ch,hch⟩:=up u chain
   rcases dead_step (P:=P) (c:=u) (cs:=us++[last]) (chain:=chain) (w:=w) hd with ⟨o,e⟩|e
   ·simp only [List.cons_append,e] at h;cases h
   ·simp only [List.cons_append,e,hch] at h
    exact ih u ch w n m' (hu u (List.mem_cons_self ..)) (fun x hx=>hu x (List.mem_cons_of_mem _ hx)) h
section
variable {P:Program} {wr:Bool} {L:FuncId→Prop} {b:Frame} {v:World}
theorem Step.toS {f:F} {T:List Item→List Frame→Goroutine} {v':World} {es:Array Event} {s s':St} (h:Step P wr f T v v' es) (κ:List Item→List Item) (γ:List Item→List Frame→List Frame)
 (e1:∀ k cs,s.emb k cs=G (f.fr (κ k)) (γ k cs)) (e2:∀ k cs,s'.emb k cs=T (κ k) (γ k cs)):StepS P wr s s' v v' es :=
 ⟨fun k cs main=>by rw [e1,e2];exact h.here _ _ _,h.okay,h.tape,h.le,fun z w hr hs=>by
  obtain ⟨w',ho,hsp,hg⟩:=h.like z w hr hs
  exact ⟨w',ho,hsp,fun k cs main=>by rw [e1,e2];exact hg _ _ _⟩⟩
def Lost (P:Program) (g:Goroutine) (v:World):Prop:=(∃ o w,step P (aloneM g v)=.ended o w) ∨
 ∃ (us:List Frame) (fr:Frame) (chain:List PanicEntry) (w:World),step P (aloneM g v)=.next (lone { fr with mode:=.panicking chain } (us++[last]) w)∧fr.defers=[]∧∀ u∈us,u.defers=[]
theorem lost_of {fr:Frame} {us:List Frame} (hu:∀ u∈us,u.defers=[]) (h:Doomed (us++[last]) (stepG P true (G fr (us++[last])) v)):Lost P (G fr (us++[last])) v:=by
 rcases h with ⟨o,w,es,e⟩|⟨fr',chain,w,es,e,hd⟩
 ·exact Or.inl ⟨o,w,alone_ended e⟩
 ·exact Or.inr ⟨us,fr',chain,w,alone_go e,hd,hu⟩
theorem fr_defers (f:F) (k:List Item):(f.fr k).defers=f.a.defers:=by unfold F.fr;split<;>rfl
theorem stack_step {s:St} (hf:fineSt P wr L b s) (hnd:¬ Done s) (hE:∀ fr cs dy g w,∃ o w',early P fr cs dy g w=.ended o w') (hL:∀ g,L g→fineFn P wr L g) :
 (∃ s' v' es,fineSt P wr L b s'∧StepS P wr s s' v v' es)∨Lost P (s.emb tail [last]) v:=by
 obtain ⟨ups,bs⟩:=s
 obtain ⟨hb,heb,hups,hwait⟩:=hf
 cases ups with
 |nil =>
  have hr:bs.ret=false:=by
   cases h:bs.ret with
   |false=>rfl
   |true=>exact absurd ⟨rfl,.inl h⟩ hnd
  have hne:bs.todo≠[]:=fun h=>hnd ⟨rfl,.inr h⟩
  rcases local_step hb hr hne hE hL tail_exit with ⟨f',v',es,eb,hf',hs⟩|⟨g,v',es,hg,hgr,hgk,hgL,hw,hs⟩|hdoom
  ·exact .inl ⟨⟨[],f'⟩,v',es,⟨hf',eb.trans heb,fun _ h=>by simp at h,fun _ h=>by simp at h⟩,hs.toS id (fun _ cs=>cs) (fun _ _=>rfl) (fun _ _=>rfl)⟩
  ·exact .inl ⟨⟨[g],bs⟩,v',es,⟨hb,heb,fun u hu=>by rcases List.mem_singleton.1 hu with rfl;exact ⟨hg,hgk,hgL⟩,fun x hx=>by
    simp only [List.cons_append,List.nil_append,List.drop_succ_cons,List.drop_zero,List.mem_singleton] at hx
    subst hx;exact ⟨hr,hw⟩⟩,hs.toS id (fun _ cs=>cs) (fun _ _=>rfl) (fun _ _=>rfl)⟩
  ·exact .inr (lost_of (us:=[]) (fun _ h=>by simp at h) (hdoom [last]))
 |cons u us =>
  obtain ⟨hu,huk,huL⟩:=hups u (List.mem_cons_self ..)
  have hus:∀ x∈us,fineF P wr L x∧x.b.kind=.normal∧L x.b.fn:=fun x hx=>hups x (List.mem_cons_of_mem _ hx)
  have hwait':∀ x∈us++[bs],waits x:=hwait
  cases hret:u.ret with
  |true =>
   obtain ⟨fn,c,hfn,hbody,_,hresn⟩:=hL _ huL
   obtain ⟨ub,ua,ut,ur⟩:=u
   simp only at hret huk hfn
   subst hret
   have hud:ua.defers=[]:=hu.defers
   cases hres:(results fn ua.tmps).run P v with
   |halt h v' =>
    refine .inr ?_
    have:∃ o w es,stepG P true (G (F.fr ⟨ub,ua,ut,true⟩ []) (us.map (·.fr [])++bs.fr tail :: [last])) v=.ended o w es:=by
     cases h<;>simp [F.fr_ret,G,stepG,unwind,Frame.at,hud,hfn,hres,GStep.after]
    obtain ⟨o,w,es,e⟩:=this
    exact Or.inl ⟨o,w,alone_ended e⟩
   |ok x v' =>
    have hT:(results fn ua.tmps).runT P v #[]=(.ok x v',(results fn ua.tmps).events P v #[]):=by
     have:=runT_fst (P:=P) (results fn ua.tmps) v #[]
     rw [hres] at this
     exact Prod.ext this rfl
    have hsim:=fun z=>sim z _ (hresn ua.tmps) v
    obtain ⟨v'',q1,hO,hev⟩:=hsim zn v #[] x v' _ (Rel.refl v) hT (fun i _=>rfl)
    rw [hT] at q1
    cases q1
    have hok:∀ e∈seen P ub.fn ((results fn ua.tmps).events P v #[]),Okay wr e:=seen_okay fun e he=>by
     rcases hev e he with h|h
     ·simp at h
     ·exact h.1
    have key:∀ (γ:List Item→List Frame→Frame×List Frame) (s':St),(∀ k cs,(us.map (·.fr [])++bs.fr k :: cs)=(γ k cs).1 :: (γ k cs).2)→(∀ k cs,s'.emb k cs=G ((γ k cs).1.finish x) (γ k cs).2) →
     StepS P wr ⟨⟨ub,ua,ut,true⟩ :: us,bs⟩ s' v v' (seen P ub.fn ((results fn ua.tmps).events P v #[])):=fun γ s' e1 e2=>by
     refine ⟨fun k cs main=>?_,hok,hO.tape,hO.le,fun z w hr hS=>?_⟩
     ·rw [e2]
      show stepG P main (G (F.fr ⟨ub,ua,ut,true⟩ []) (us.map (·.fr [])++bs.fr k :: cs)) v=_
      rw [e1,F.fr_ret]
      exact stepG_back huk hud hfn hres
     ·obtain ⟨w',h1,h2,h5⟩:=hsim z w #[] x v' _ hr hT hS
      refine ⟨w',h2,fun e he=>by
       rcases h5 e (mem_seen he) with h|h
       ·simp at h
       ·exact h.2,fun k cs main=>?_⟩
      rw [e2]
      show stepG P main (G (F.fr ⟨ub,ua,ut,true⟩ []) (us.map (·.fr [])++bs.fr k :: cs)) w=_
      have h3:(results fn ua.tmps).run P w=.ok x w':=by rw [←runT_fst (P:=P) _ w #[],h1]
      have h4:(results fn ua.tmps).events P w #[]=(results fn ua.tmps).events P v #[]:=by
       show ((results fn ua.tmps).runT P w #[]).2=_
       rw [h1]
      rw [e1,F.fr_ret,←h4]
      exact stepG_back huk hud hfn h3
    cases us with
    |nil =>
     have hwb:waits bs:=hwait' bs (by simp)
     obtain ⟨g1,g2,g3⟩:=hb.got hwb x
     exact .inl ⟨⟨[],bs.got x⟩,v',_,⟨g1,g2.trans heb,fun _ h=>by simp at h,fun _ h=>by simp at h⟩,key (fun k cs=>(bs.fr k,cs)) _ (fun _ _=>rfl) (fun k cs=>by simp only [finish_got hwb];rfl)⟩
    |cons u2 us2 =>
     have hw2:waits u2:=hwait' u2 (by simp)
     obtain ⟨h21,h22,h23⟩:=hus u2 (List.mem_cons_self ..)
     obtain ⟨g1,g2,g3⟩:=h21.got hw2 x
     refine .inl ⟨⟨u2.got x :: us2,bs⟩,v',_,⟨hb,heb,fun y hy=>?_,fun y hy=>hwait' y ?_⟩,key (fun k cs=>(u2.fr [],us2.map (·.fr [])++bs.fr k :: cs)) _ (fun _ _=>rfl) (fun k cs=>by simp only [finish_got hw2];rfl)⟩
     ·rcases List.mem_cons.1 hy with rfl|hy
      ·exact ⟨g1,by rw [g2];exact h22,by rw [g2];exact h23⟩
      ·exact hus y (List.mem_cons_of_mem _ hy)
     ·exact List.mem_cons_of_mem _ hy
  |false =>
   have hcall:∀ y∈us.map (·.fr [])++[bs.fr tail],y.defers=[]:=fun y hy=>by
    rcases List.mem_append.1 hy with hy|hy
    ·obtain ⟨z,hz,rfl⟩:=List.mem_map.1 hy
     rw [fr_defers];exact (hus z hz).1.defers
    ·rcases List.mem_singleton.1 hy with rfl
     rw [fr_defers];exact hb.defers
   by_cases hne:u.todo=[]
   ·obtain ⟨ub,ua,ut,ur⟩:=u
    simp only at hret hne
    subst hret hne
    refine .inl ⟨⟨⟨ub,ua,[],true⟩ :: us,bs⟩,v,#[],⟨hb,heb,fun y hy=>?_,hwait'⟩,?_⟩
    ·rcases List.mem_cons.1 hy with rfl|hy
     ·exact ⟨⟨hu.items,hu.defers,hu.kind⟩,huk,huL⟩
     ·exact hus y hy
    ·exact ⟨fun k cs main=>stepG_end,fun e he=>by simp at he,rfl,Nat.le_refl _,fun z w hr _=>⟨w,.refl hr,fun e he=>by simp at he,fun k cs main=>stepG_end⟩⟩
   ·rcases local_step hu hret hne hE hL nil_exit with ⟨f',v',es,eb,hf',hs⟩|⟨g,v',es,hg,hgr,hgk,hgL,hw,hs⟩|hdoom
    ·refine .inl ⟨⟨f' :: us,bs⟩,v',es,⟨hb,heb,fun y hy=>?_,hwait'⟩,hs.toS (fun _=>[]) (fun k cs=>us.map (·.fr [])++bs.fr k :: cs) (fun _ _=>rfl) (fun _ _=>rfl)⟩
     rcases List.mem_cons.1 hy with rfl|hy
     ·exact ⟨hf',by rw [eb];exact huk,by rw [eb];exact huL⟩
     ·exact hus y hy
    ·refine .inl ⟨⟨g :: u :: us,bs⟩,v',es,⟨hb,heb,fun y hy=>?_,fun y hy=>?_⟩,hs.toS (fun _=>[]) (fun k cs=>us.map (·.fr [])++bs.fr k :: cs) (fun _ _=>rfl) (fun _ _=>rfl)⟩
     ·rcases List.mem_cons.1 hy with rfl|hy
      ·exact ⟨hg,hgk,hgL⟩
      ·exact hups y hy
     ·have hy':y∈u :: (us++[bs]):=hy
      rcases List.mem_cons.1 hy' with rfl|hy'
      ·exact ⟨hret,hw⟩
      ·exact hwait' y hy'
    ·refine .inr ?_
     have:=lost_of (P:=P) (v:=v) (fr:=u.fr []) (us:=us.map (·.fr [])++[bs.fr tail]) hcall (hdoom _)
     simpa [St.emb] using this
end
def GoesI (P:Program) (main:Bool) (D:World→World→Array Event→Prop) (Stop:Goroutine→World→Prop) (g:Goroutine) (w:World):Prop :=
 ∀ Q:Goroutine→World→Prop,(∀ g w,(∀ d,Stop g (w.at d))→Q g w) →
   (∀ g w,g.status=.running→∀ (g':Nat→Goroutine) (w':Nat→World) (es:Nat→Array Event),(∀ d,stepG P main g (w.at d)=.go (g' d) (w' d) (es d))→(∀ d,D (w.at d) (w' d) (es d))→(∀ d,Q (g' d) (w' d))→Q g w)→Q g w
theorem GoesI.stop {P:Program} {main:Bool} {D:World→World→Array Event→Prop} {Stop:Goroutine→World→Prop} {g:Goroutine} {w:World} (h:∀ d,Stop g (w.at d)):GoesI P main D Stop g w:=fun _ h1 _=>h1 g w h
theorem GoesI.step {P:Program} {main:Bool} {D:World→World→Array Event→Prop} {Stop:Goroutine→World→Prop} {g:Goroutine} {w:World} (hs:g.status=.running) (g':Nat→Goroutine) (w':Nat→World) (es:Nat→Array Event) (h:∀ d,stepG P main g (w.at d)=.go (g' d) (w' d) (es d))
 (hD:∀ d,D (w.at d) (w' d) (es d)) (hn:∀ d,GoesI P main D Stop (g' d) (w' d)):GoesI P main D Stop g w:=fun Q h1 h2=>h2 g w hs g' w' es h hD fun d=>hn d Q h1 h2
theorem GoesI.induct {P:Program} {main:Bool} {D:World→World→Array Event→Prop} {Stop:Goroutine→World→Prop} {M:Goroutine→World→Prop} {g:Goroutine} {w:World} (hg:GoesI P main D Stop g w)
 (stop:∀ g w,(∀ d,Stop g (w.at d))→M g w)
 (step:∀ g w,g.status=.running→∀ (g':Nat→Goroutine) (w':Nat→World) (es:Nat→Array Event),(∀ d,stepG P main g (w.at d)=.go (g' d) (w' d) (es d))→(∀ d,D (w.at d) (w' d) (es d))→(∀ d,GoesI P main D Stop (g' d) (w' d))→(∀ d,M (g' d) (w' d))→M g w):M g w :=
 (hg (fun g w=>GoesI P main D Stop g w∧M g w) (fun g w h=>⟨.stop h,stop g w h⟩) (fun g w hs g' w' es h hD hn=>⟨.step hs g' w' es h hD fun d=>(hn d).1,step g w hs g' w' es h hD (fun d=>(hn d).1) fun d=>(hn d).2⟩)).2
def onTape (w:World) (τ:Nat→Question→Nat) (d:Nat):World:={ w with tape:=τ,drawn:=d }
theorem lone_inj {fr fr':Frame} {cs cs':List Frame} {w w':World} (h:lone fr cs w=lone fr' cs' w'):fr=fr'∧cs=cs'∧w=w':=by
 simp only [lone,Machine.mk.injEq,Array.mk.injEq,List.cons.injEq,Goroutine.mk.injEq,and_true] at h
 exact ⟨h.2.1,h.2.2,h.1⟩
def Arr (b:Frame) (Q:Exit→Act→World→Prop) (m:Machine):Prop :=
 (∃ a v,m=lone (b.at a tail) [last] v∧Q .normal a v)∨∃ (fr:Frame) (v:World),m=lone fr [last] v∧fr.mode=.returning∧Q .ret ⟨fr.tmps,fr.defers⟩ v
def exitOf (s:St):Exit:=if s.base.ret then .ret else .normal
section
variable {P:Program} {wr:Bool} {L:FuncId→Prop} {b:Frame} {Q:Exit→Act→World→Prop}
theorem emb_ne {u:F} {us:List F} {bs:F} {fr:Frame} {v w:World} (h:aloneM (St.emb ⟨u :: us,bs⟩ tail [last]) v=lone fr [last] w):False:=by
 have:=(lone_inj h).2.1
 have hl:=congrArg List.length this
 simp [St.emb,G] at hl
theorem arr_done {s:St} {v:World} (hf:fineSt P wr L b s) (h:Arr b Q (aloneM (s.emb tail [last]) v)):Done s∧Q (exitOf s) s.base.a v:=by
 obtain ⟨ups,bs⟩:=s
 cases ups with
 |cons u us =>
  rcases h with ⟨a,v',e,_⟩|⟨fr,v',e,_⟩
  ·exact (emb_ne e).elim
  ·exact (emb_ne e).elim
 |nil =>
  obtain ⟨bb,ba,bt,br⟩:=bs
  rcases h with ⟨a,v',e,hq⟩|⟨fr,v',e,hm,hq⟩
  ·obtain ⟨e1,_,rfl⟩:=lone_inj e
   cases br with
   |true =>
    have:=congrArg Frame.mode e1
    cases this
   |false =>
    have h1:bt++tail=tail:=congrArg Frame.todo e1
    have h2:ba.tmps=a.tmps:=congrArg Frame.tmps e1
    have h3:ba.defers=a.defers:=congrArg Frame.defers e1
    have h4:bt=[]:=by
     have:=congrArg List.length h1
     simp at this
     exact this
    have h5:ba=a:=by cases ba;cases a;simp only at h2 h3;subst h2 h3;rfl
    subst h4 h5
    exact ⟨⟨rfl,.inr rfl⟩,hq⟩
  ·obtain ⟨e1,_,rfl⟩:=lone_inj e
   cases br with
   |false =>
    have:=congrArg Frame.mode e1
    rw [hm] at this
    cases this
   |true =>
    have h2:ba.tmps=fr.tmps:=congrArg Frame.tmps e1
    have h3:ba.defers=fr.defers:=congrArg Frame.defers e1
    have h5:ba=⟨fr.tmps,fr.defers⟩:=by cases ba;simp only at h2 h3;subst h2 h3;rfl
    subst h5
    exact ⟨⟨rfl,.inl rfl⟩,hq⟩
theorem last_ended (P:Program) (w:World):∃ o,step P (lone last [] w)=.ended o w:=⟨_,alone_ended (es:=#[]) (by simp [G,stepG,stepG.exec,last];rfl)⟩
theorem ret_step {a:Act} {todo:List Item} {v:World} (hd:a.defers=[]):(∃ o w,step P (lone { b.at a todo with mode:=.returning } [last] v)=.ended o w)∨∃ w,step P (lone { b.at a todo with mode:=.returning } [last] v)=.next (lone last [] w):=by
 have back:∀ (x:Value) (w:World),∃ es,doReturn P true { b.at a todo with mode:=.returning } [last] none x w=.go (G last []) w es:=fun x w=>by
  refine ⟨#[],?_⟩
  cases hk:b.kind<;>simp [doReturn,Frame.at,hk,G,last,Frame.finish]
 cases hf:P.funcs[b.fn]? with
 |none =>
  obtain ⟨es,e⟩:=back (a.tmps.getD 0 undef) v
  refine .inr ⟨v,alone_go (es:=es) ?_⟩
  rw [←e]
  simp [G,stepG,unwind,Frame.at,hd,hf]
 |some fn =>
  cases hr:(results fn a.tmps).run P v with
  |ok x w =>
   obtain ⟨es,e⟩:=back x w
   refine .inr ⟨w,alone_go (es:=seen P b.fn ((results fn a.tmps).events P v #[])++es) ?_⟩
   have:stepG P true (G { b.at a todo with mode:=.returning } [last]) v=GStep.after (seen P b.fn ((results fn a.tmps).events P v #[])) (doReturn P true { b.at a todo with mode:=.returning } [last] none x w):=by
    simp [G,stepG,unwind,Frame.at,hd,hf,hr]
   rw [this,e]
   rfl
  |halt h w =>
   have:∃ o w' es,stepG P true (G { b.at a todo with mode:=.returning } [last]) v=.ended o w' es:=by
    cases h<;>simp [G,stepG,unwind,Frame.at,hd,hf,hr,GStep.after]
   obtain ⟨o,w',es,e⟩:=this
   exact .inl ⟨o,w',alone_ended e⟩
theorem not_arr_last {w:World}:¬ Arr b Q (lone last [] w):=by
 rintro (⟨a,v',e,_⟩|⟨fr,v',e,_⟩)<;>have:=(lone_inj e).2.1<;>cases this
theorem done_run {s:St} {v:World} {n:Nat} {m:Machine} (hf:fineSt P wr L b s) (hd:Done s) (hr:runN P n (aloneM (s.emb tail [last]) v)=.next m) (ha:Arr b Q m):Arr b Q (aloneM (s.emb tail [last]) v):=by
 cases n with
 |zero=>simp only [runN,Stepped.next.injEq] at hr;rw [hr];exact ha
 |succ n =>
  exfalso
  obtain ⟨ups,bs⟩:=s
  obtain ⟨h1,h2⟩:=hd
  simp only at h1
  subst h1
  obtain ⟨bb,ba,bt,br⟩:=bs
  have hdf:ba.defers=[]:=hf.base.defers
  simp only [runN] at hr
  cases br with
  |true =>
   rcases ret_step (P:=P) (b:=bb) (a:=ba) (todo:=bt++tail) (v:=v) hdf with ⟨o,w,e⟩|⟨w,e⟩
   ·have e':step P (aloneM (St.emb ⟨[],⟨bb,ba,bt,true⟩⟩ tail [last]) v)=.ended o w:=e
    rw [e'] at hr;cases hr
   ·have e':step P (aloneM (St.emb ⟨[],⟨bb,ba,bt,true⟩⟩ tail [last]) v)=.next (lone last [] w):=e
    rw [e'] at hr
    simp only at hr
    cases n with
    |zero=>simp only [runN,Stepped.next.injEq] at hr;subst hr;exact not_arr_last ha
    |succ n =>
     simp only [runN] at hr
     obtain ⟨o,e2⟩:=last_ended P w
     rw [e2] at hr;cases hr
  |false =>
   simp only [Bool.false_eq_true,false_or] at h2
   subst h2
   have e':∃ o,step P (aloneM (St.emb ⟨[],⟨bb,ba,[],false⟩⟩ tail [last]) v)=.ended o v:=⟨_,alone_ended (es:=#[]) (by simp [G,stepG,stepG.exec,tail];rfl)⟩
   obtain ⟨o,e'⟩:=e'
   rw [e'] at hr;cases hr
theorem lost_run {g:Goroutine} {v:World} {n:Nat} {m:Machine} (hl:Lost P g v) (hr:runN P (n+1) (aloneM g v)=.next m) (ha:Arr b Q m):False:=by
 simp only [runN] at hr
 rcases hl with ⟨o,w,e⟩|⟨us,fr,chain,w,e,hd,hu⟩
 ·rw [e] at hr;cases hr
 ·rw [e] at hr
  obtain ⟨fr',cs',w',chain',rfl,hm⟩:=dead_run us fr chain w n m hd hu hr
  rcases ha with ⟨a,v',e',_⟩|⟨fr'',v',e',hm',_⟩
  ·rw [(lone_inj e').1] at hm;cases hm
  ·rw [(lone_inj e').1,hm'] at hm;cases hm
theorem rel_at {z:Nat→Option Nat} {v w:World} (h:Rel z v w) (τ:Nat→Question→Nat) (d d':Nat):Rel z (onTape v τ d) (w.at d'):=h.re rfl rfl rfl rfl rfl rfl
theorem rel_self (v:World) (τ τ':Nat→Question→Nat) (d d':Nat):Rel zn (onTape v τ d) (onTape v τ' d'):=rel_none rfl rfl rfl
end
section
variable {P:Program} {z:Nat→Option Nat} {wr:Bool} {L:FuncId→Prop} {b:Frame} {Q:Exit→Act→World→Prop} {D:World→World→Array Event→Prop} {I:World→Prop} {main:Bool} {k:List Item} {cs:List Frame}
def Phi (P:Program) (b:Frame) (Q:Exit→Act→World→Prop) (s:St) (v:World) (c:Nat) (π:Nat→Question→Nat):Prop :=
 ∀ τ,(∀ j,j<c→τ j=π j)→∃ n m,runN P n (aloneM (s.emb tail [last]) (onTape v τ c))=.next m∧Arr b Q m
def Came (z:Nat→Option Nat) (b:Frame) (Q:Exit→Act→World→Prop) (I:World→Prop) (k:List Item) (cs:List Frame) (g:Goroutine) (w:World):Prop :=
 ∃ s v,g=St.emb s k cs∧Done s∧s.base.b=b∧s.base.a.defers=[]∧Rel z v w∧I v∧Q (exitOf s) s.base.a v
structure Pt where
 s:St
 v:World
 w:World
 c:Nat
 π:Nat→Question→Nat
structure Good (P:Program) (z:Nat→Option Nat) (wr:Bool) (L:FuncId→Prop) (b:Frame) (Q:Exit→Act→World→Prop) (D:World→World→Array Event→Prop) (I:World→Prop) (main:Bool) (k:List Item) (cs:List Frame) (x:Pt):Prop where
 fine:fineSt P wr L b x.s
 rel:Rel z x.v x.w
 inv:I x.v
 phi:Phi P b Q x.s x.v x.c x.π
 not:¬ GoesI P main D (Came z b Q I k cs) (x.s.emb k cs) x.w
structure Link (P:Program) (x y:Pt):Prop where
 le:x.c≤y.c
 pre:∀ j,j<x.c→y.π j=x.π j
 step:∀ τ,(∀ j,j<y.c→τ j=y.π j)→step P (aloneM (x.s.emb tail [last]) (onTape x.v τ x.c))=.next (aloneM (y.s.emb tail [last]) (onTape y.v τ y.c))
theorem emb_G (s:St) (k:List Item) (cs:List Frame):s.emb k cs=G (s.emb k cs).frame (s.emb k cs).callers:=by
 obtain ⟨ups,bs⟩:=s
 cases ups<;>rfl
theorem inv_on (hI:∀ v v',Keeps wr v v'→I v→I v') {v:World} (h:I v) (τ:Nat→Question→Nat) (d:Nat):I (onTape v τ d):=hI v _ (Keeps.of_rel ⟨rfl,rfl,rfl⟩) h
theorem good_not_done (hI:∀ v v',Keeps wr v v'→I v→I v') {x:Pt} (h:Good P z wr L b Q D I main k cs x):¬ Done x.s:=fun hd=>by
 refine h.not (.stop fun d=>?_)
 obtain ⟨n,m,hr,ha⟩:=h.phi x.π (fun _ _=>rfl)
 obtain ⟨_,hq⟩:=arr_done h.fine (done_run h.fine hd hr ha)
 exact ⟨x.s,onTape x.v x.π x.c,rfl,hd,h.fine.eb,h.fine.base.defers,rel_at h.rel _ _ _,inv_on hI h.inv _ _,hq⟩
theorem good_next (hE:∀ fr cs dy g w,∃ o w',early P fr cs dy g w=.ended o w') (hL:∀ g,L g→fineFn P wr L g) (hI:∀ v v',Keeps wr v v'→I v→I v')
 (hD:∀ v v' w w' es,I v→Rel z v w→Out z wr v v' w w'→(∀ e∈es,Okay wr e∧Spares z w' e)→D w w' es) {x:Pt} (h:Good P z wr L b Q D I main k cs x):∃ y,Good P z wr L b Q D I main k cs y∧Link P x y:=by
 have hnd:=good_not_done hI h
 have one:∀ d,∃ q:St×World×World×Array Event,fineSt P wr L b q.1∧StepS P wr x.s q.1 (onTape x.v (fun j=>if j<x.c then x.π j else x.w.tape (d+(j - x.c))) x.c) q.2.1 q.2.2.2 ∧
  Out z wr (onTape x.v (fun j=>if j<x.c then x.π j else x.w.tape (d+(j - x.c))) x.c) q.2.1 (x.w.at d) q.2.2.1∧(∀ e∈q.2.2.2,Spares z q.2.2.1 e)∧stepG P main (x.s.emb k cs) (x.w.at d)=.go (q.1.emb k cs) q.2.2.1 q.2.2.2:=fun d=>by
  rcases stack_step (v:=onTape x.v (fun j=>if j<x.c then x.π j else x.w.tape (d+(j - x.c))) x.c) h.fine hnd hE hL with ⟨s',v',es,hf',hs⟩|hl
  ·obtain ⟨w',ho,hsp,hg⟩:=hs.like z (x.w.at d) (rel_at h.rel _ _ _) (fun i _=>by
    show (if x.c+i<x.c then x.π (x.c+i) else x.w.tape (d+(x.c+i - x.c)))=x.w.tape (d+i)
    rw [if_neg (by omega),show x.c+i - x.c=i by omega])
   exact ⟨(s',v',w',es),hf',hs,ho,hsp,hg k cs main⟩
  ·exfalso
   obtain ⟨n,m,hr,ha⟩:=h.phi (fun j=>if j<x.c then x.π j else x.w.tape (d+(j - x.c))) (fun j hj=>by simp only [hj,if_true])
   cases n with
   |zero=>simp only [runN,Stepped.next.injEq] at hr;subst hr;exact hnd (arr_done h.fine ha).1
   |succ n=>exact lost_run hl hr ha
 obtain ⟨f,hf⟩:=Classical.axiomOfChoice one
 by_cases hall:∀ d,GoesI P main D (Came z b Q I k cs) ((f d).1.emb k cs) (f d).2.2.1
 ·exfalso
  refine h.not (.step ?_ (fun d=>(f d).1.emb k cs) (fun d=>(f d).2.2.1) (fun d=>(f d).2.2.2) (fun d=>(hf d).2.2.2.2) (fun d=>?_) hall)
  ·obtain ⟨⟨ups,bs⟩,_⟩:=x;cases ups<;>rfl
  ·have ho:=(hf d).2.2.1
   exact hD (onTape x.v (fun j=>if j<x.c then x.π j else x.w.tape (d+(j - x.c))) x.c) _ _ _ _ (inv_on hI h.inv _ _) (rel_at h.rel _ _ _) ho (fun e he=>⟨(hf d).2.1.okay e he,(hf d).2.2.2.1 e he⟩)
 ·have ⟨d,hd⟩:∃ d,¬ GoesI P main D (Came z b Q I k cs) ((f d).1.emb k cs) (f d).2.2.1:=Classical.not_forall.1 hall
  obtain ⟨hfine,hs,ho,_,hg⟩:=hf d
  have hle:x.c≤(f d).2.1.drawn:=hs.le
  have link:∀ τ,(∀ j,j<(f d).2.1.drawn→τ j=if j<x.c then x.π j else x.w.tape (d+(j - x.c)))→step P (aloneM (x.s.emb tail [last]) (onTape x.v τ x.c))=.next (aloneM ((f d).1.emb tail [last]) (onTape (f d).2.1 τ (f d).2.1.drawn)):=fun τ hτ=>by
   obtain ⟨w'',h1,_,h2⟩:=hs.like zn (onTape x.v τ x.c) (rel_self _ _ _ _ _) (fun i hi=>(hτ _ hi).symm)
   have e:w''=onTape (f d).2.1 τ (f d).2.1.drawn:=by
    have a1:=h1.rel.eq
    have a2:w''.tape=τ:=h1.tape'
    have a3:w''.drawn=x.c+((f d).2.1.drawn - x.c):=h1.drawn
    have a4:=h1.rel.os
    have a5:=h1.rel.output
    obtain ⟨wh,wt,wd,wo,wp⟩:=w''
    simp only at a1 a2 a3 a4 a5
    subst a1 a2 a4 a5
    simp only [onTape,World.mk.injEq,true_and,and_true]
    exact a3.trans (by omega)
   rw [e] at h2
   have h3:=h2 tail [last] true
   rw [emb_G x.s,emb_G (f d).1] at h3
   exact alone_go h3
  refine ⟨⟨(f d).1,(f d).2.1,(f d).2.2.1,(f d).2.1.drawn,fun j=>if j<x.c then x.π j else x.w.tape (d+(j - x.c))⟩,⟨hfine,ho.rel,hI _ _ ho.keeps (inv_on hI h.inv _ _),fun τ hτ=>?_,hd⟩,hle,fun j hj=>by simp only [hj,if_true],link⟩
  obtain ⟨n,m,hr,ha⟩:=h.phi τ (fun j hj=>by rw [hτ j (Nat.lt_of_lt_of_le hj hle)];simp only [hj,if_true])
  cases n with
  |zero=>simp only [runN,Stepped.next.injEq] at hr;subst hr;exact absurd (arr_done h.fine ha).1 hnd
  |succ n =>
   simp only [runN,link τ hτ] at hr
   exact ⟨n,m,hr,ha⟩
theorem lift_goes (hE:∀ fr cs dy g w,∃ o w',early P fr cs dy g w=.ended o w') (hL:∀ g,L g→fineFn P wr L g) (hI:∀ v v',Keeps wr v v'→I v→I v')
 (hD:∀ v v' w w' es,I v→Rel z v w→Out z wr v v' w w'→(∀ e∈es,Okay wr e∧Spares z w' e)→D w w' es)
 {s:St} {v w:World} (hf:fineSt P wr L b s) (hr:Rel z v w) (hi:I v) (hphi:∀ τ,∃ n m,runN P n (aloneM (s.emb tail [last]) (onTape v τ 0))=.next m∧Arr b Q m) :
 GoesI P main D (Came z b Q I k cs) (s.emb k cs) w:=by
 refine Classical.byContradiction fun hnot=>?_
 let x0:Pt:=⟨s,v,w,0,fun _ _=>0⟩
 have g0:Good P z wr L b Q D I main k cs x0:=⟨hf,hr,hi,fun τ _=>hphi τ,hnot⟩
 let nx:{x:Pt // Good P z wr L b Q D I main k cs x}→{x:Pt // Good P z wr L b Q D I main k cs x}:=fun x=>⟨Classical.choose (good_next hE hL hI hD x.2),(Classical.choose_spec (good_next hE hL hI hD x.2)).1⟩
 let sq:Nat→{x:Pt // Good P z wr L b Q D I main k cs x}:=fun n=>Nat.rec ⟨x0,g0⟩ (fun _ x=>nx x) n
 have hlink:∀ n,Link P (sq n).1 (sq (n+1)).1:=fun n=>(Classical.choose_spec (good_next hE hL hI hD (sq n).2)).2
 have mono:∀ n m,(sq n).1.c≤(sq (n+m)).1.c:=fun n m=>by
  induction m with
  |zero=>exact Nat.le_refl _
  |succ m ih=>exact Nat.le_trans ih (hlink (n+m)).le
 have agree:∀ n m j,j<(sq n).1.c→(sq (n+m)).1.π j=(sq n).1.π j:=fun n m j hj=>by
  induction m with
  |zero=>rfl
  |succ m ih=>exact ((hlink (n+m)).pre j (Nat.lt_of_lt_of_le hj (mono n m))).trans ih
 have agree2:∀ n m j,j<(sq n).1.c→j<(sq m).1.c→(sq m).1.π j=(sq n).1.π j:=fun n m j h1 h2=>by
  rcases Nat.le_total n m with hle|hle
  ·obtain ⟨t,rfl⟩:=Nat.exists_eq_add_of_le hle;exact agree n t j h1
  ·obtain ⟨t,rfl⟩:=Nat.exists_eq_add_of_le hle;exact (agree m t j h2).symm
 let τ:Nat→Question→Nat:=fun j=>open Classical in if h:∃ n,j<(sq n).1.c then (sq (Classical.choose h)).1.π j else fun _=>0
 have hτ:∀ n j,j<(sq n).1.c→τ j=(sq n).1.π j:=fun n j hj=>by
  have hex:∃ n,j<(sq n).1.c:=⟨n,hj⟩
  have e:τ j=(sq (Classical.choose hex)).1.π j:=dif_pos hex
  rw [e]
  exact agree2 n _ j hj (Classical.choose_spec hex)
 have hrun:∀ n,runN P n (aloneM (s.emb tail [last]) (onTape v τ 0))=.next (aloneM ((sq n).1.s.emb tail [last]) (onTape (sq n).1.v τ (sq n).1.c)):=fun n=>by
  induction n with
  |zero=>rfl
  |succ n ih =>
   rw [runN_add P n 1,ih]
   simp only [runN,(hlink n).step τ (hτ (n+1))]
 obtain ⟨n,m,hr',ha⟩:=hphi τ
 rw [hrun n] at hr'
 cases hr'
 exact good_not_done hI (sq n).2 (arr_done (sq n).2.fine ha).1
end
section
variable {P:Program} {wr:Bool} {α β:Type}
theorem dead_sbind:∀ {s:Sem α} {f:α→Sem β},dead P s→dead P (s.bind f):=by
 intro s
 induction s with
 |pure a=>intro f h;exact h.elim
 |load m a k ih=>intro f h v;exact ih v (h v)
 |store m a v k ih=>intro f h;exact ih h
 |new o k ih=>intro f h r;exact ih r (h r)
 |shape r k ih=>intro f h s;exact ih s (h s)
 |freeze a n k ih=>intro f h;exact ih h
 |frozen a k ih=>intro f h b;exact ih b (h b)
 |getObj r k ih=>intro f h o;exact ih o (h o)
 |setObj r o k ih=>intro f h;exact ih h
 |choose q k ih=>intro f h n;exact ih n (h n)
 |sys c k ih=>intro f h;exact h.elim
 |program k ih=>intro f h;exact ih P h
 |mark m k ih=>intro f h;exact ih h
 |halt x=>intro f h;trivial
theorem calm_sbind:∀ {s:Sem α} {f:α→Sem β},calm P wr s→(∀ a,calm P wr (f a))→calm P wr (s.bind f):=by
 intro s
 induction s with
 |pure a=>intro f _ hf;exact hf a
 |load m a k ih=>intro f h hf v;exact ih v (h v) hf
 |store m a v k ih=>intro f h hf;exact ⟨h.1,ih h.2 hf⟩
 |new o k ih=>intro f h hf r;exact ih r (h r) hf
 |shape r k ih=>intro f h hf s;exact ih s (h s) hf
 |freeze a n k ih=>intro f h hf;exact h.elim
 |frozen a k ih=>intro f h hf;exact ⟨fun b=>ih b (h.1 b) hf,dead_sbind h.2⟩
 |getObj r k ih=>intro f h hf o;exact ih o (h o) hf
 |setObj r o k ih=>intro f h hf;exact h.elim
 |choose q k ih=>intro f h hf n;exact ih n (h n) hf
 |sys c k ih=>intro f h hf;exact h.elim
 |program k ih=>intro f h hf;exact ih P h hf
 |mark m k ih=>intro f h hf;exact ⟨h.1,ih h.2 hf⟩
 |halt x=>intro f h hf;exact h
theorem calm_bind {s:Sem α} {f:α→Sem β} (h:calm P wr s) (hf:∀ a,calm P wr (f a)):calm P wr (s >>= f):=calm_sbind h hf
theorem calm_map {s:Sem α} {f:α→β} (h:calm P wr s):calm P wr (Functor.map f s):=calm_sbind h fun _=>trivial
theorem calm_pure (a:α):calm P wr (pure a:Sem α):=trivial
theorem calm_stuck (s:String):calm P wr (stuck s:Sem α):=.inr (.inl ⟨_,rfl⟩)
theorem calm_unsupported (u:Unsupported):calm P wr (unsupported u:Sem α):=.inr (.inr ⟨_,rfl⟩)
theorem calm_goPanic (x:Value):calm P wr (goPanic x:Sem α):=.inl ⟨_,rfl⟩
theorem calm_program:calm P wr (program):=trivial
theorem calm_shape (r:Nat):calm P wr (shape r):=fun _=>trivial
theorem calm_getObj (r:Nat):calm P wr (getObj r):=fun _=>trivial
theorem calm_newObj (o:Obj):calm P wr (newObj o):=fun _=>trivial
theorem calm_choose (q:Question):calm P wr (choose q):=fun _=>trivial
theorem calm_load (a:Addr) (m:Mode):calm P wr (load a m):=fun _=>trivial
theorem calm_store (h:wr=true) (a:Addr) (v:Value) (m:Mode):calm P wr (store a v m):=⟨h,trivial⟩
theorem calm_askRoom (n:Nat):calm P wr (askRoom n):=by unfold askRoom;split;exact ⟨.inl rfl,trivial⟩;trivial
theorem calm_markExtern (f:FuncId):calm P wr (mark (.extern f)):=⟨.inr ⟨f,rfl⟩,trivial⟩
theorem calm_markRoom:calm P wr (mark .noRoom):=⟨.inl rfl,trivial⟩
theorem calm_typeInfo (t:TypeId):calm P wr (typeInfo t):=by
 unfold typeInfo
 exact calm_bind calm_program fun p=>by split;trivial;exact calm_stuck _
theorem calm_underlying (t:TypeId):calm P wr (underlying t):=by
 unfold underlying
 exact calm_bind calm_program fun p=>by split;trivial;exact calm_stuck _
theorem calm_zeroValue (t:TypeId):calm P wr (zeroValue t):=by
 unfold zeroValue
 exact calm_bind (calm_typeInfo t) fun p=>by split;trivial;exact calm_unsupported _
theorem calm_sizeOf (t:TypeId):calm P wr (sizeOf t):=calm_bind (calm_typeInfo t) fun _=>trivial
theorem calm_isAgg (t:TypeId):calm P wr (isAgg t):=by
 unfold isAgg
 exact calm_bind (calm_underlying t) fun p=>by split<;>trivial
theorem calm_elemOf (t:TypeId):calm P wr (elemOf t):=by
 unfold elemOf
 exact calm_bind (calm_underlying t) fun p=>by split;trivial;exact calm_stuck _
theorem calm_newRow (e:TypeId) (c:Array Value):calm P wr (newRow e c):=calm_bind (calm_newObj _) fun _=>trivial
theorem calm_newVar (t:TypeId) (v:Value):calm P wr (newVar t v):=calm_newRow _ _
theorem calm_runtimePanic (e:RuntimeError):calm P wr (runtimePanic e:Sem α):=by
 unfold runtimePanic
 refine calm_bind calm_program fun p=>?_
 simp only
 split<;>first|exact calm_goPanic _|exact calm_bind (calm_bind (calm_elemOf _) fun _=>calm_newVar _ _) fun _=>calm_goPanic _|exact calm_bind (calm_elemOf _) fun _=>calm_bind (calm_newVar _ _) fun _=>calm_goPanic _
theorem calm_boundsPanic (k:IntKind) (x y:Int) (c:BoundsCode):calm P wr (boundsPanic k x y c:Sem α):=by
 unfold boundsPanic
 dsimp only
 split
 ·exact calm_bind (calm_map (calm_choose _)) fun _=>calm_runtimePanic _
 ·exact calm_bind (calm_pure _) fun _=>calm_runtimePanic _
theorem calm_asIntOf (v:Value):calm P wr (asIntOf v):=by
 unfold asIntOf
 split<;>first|trivial|exact calm_unsupported _|exact calm_stuck _
theorem calm_asInt (v:Value):calm P wr (asInt v):=calm_bind (calm_asIntOf v) fun _=>trivial
theorem calm_asBool (v:Value):calm P wr (asBool v):=by unfold asBool;split;trivial;exact calm_stuck _
theorem calm_asAgg (v:Value):calm P wr (asAgg v):=by unfold asAgg;split;trivial;exact calm_stuck _
theorem calm_asAddr (v:Value):calm P wr (asAddr v):=by
 unfold asAddr
 split<;>first|trivial|exact calm_runtimePanic _|exact calm_stuck _
theorem calm_sureAddr (v:Value):calm P wr (Instr.sureAddr v):=by unfold Instr.sureAddr;split;trivial;exact calm_stuck _
theorem calm_loadCellsFrom (a:Addr):∀ (n i:Nat) (acc:Array Value),calm P wr (loadCellsFrom a i n acc)
 |0,_,_=>trivial
 |n+1,i,acc=>by unfold loadCellsFrom;exact calm_bind (calm_load _ _) fun v=>calm_loadCellsFrom a n (i+1) _
theorem calm_loadCells (a:Addr) (n:Nat):calm P wr (loadCells a n):=calm_loadCellsFrom a n 0 _
theorem calm_storeCells (h:wr=true) (a:Addr):∀ (vs:List Value) (i:Nat),calm P wr (storeCells a vs i)
 | [],_=>trivial
 |v :: r,i=>by unfold storeCells;exact calm_bind (calm_store h _ _ _) fun _=>calm_storeCells h a r (i+1)
theorem calm_loadVar (t:TypeId) (a:Addr):calm P wr (loadVar t a):=by
 unfold loadVar
 refine calm_bind (calm_isAgg t) fun b=>?_
 split
 ·exact calm_bind (calm_sizeOf _) fun _=>calm_bind (calm_loadCells _ _) fun _=>trivial
 ·exact calm_load _ _
theorem calm_storeVar (h:wr=true) (t:TypeId) (a:Addr) (v:Value):calm P wr (storeVar t a v):=by
 unfold storeVar
 refine calm_bind (calm_sizeOf t) fun n=>?_
 dsimp only
 split
 ·exact calm_bind (calm_stuck _) fun _=>calm_storeCells h _ _ _
 ·exact calm_storeCells h _ _ _
theorem calm_part (t:TypeId) (cs:Array Value) (o:Nat):calm P wr (part t cs o):=by
 unfold part
 refine calm_bind (calm_isAgg t) fun b=>?_
 split
 ·exact calm_bind (calm_sizeOf _) fun _=>trivial
 ·split;trivial;exact calm_stuck _
theorem calm_mapLoop {f:α→Sem β} (h:∀ a,calm P wr (f a)):∀ (l:List α) (acc:List β),calm P wr (List.mapM.loop f l acc)
 | [],_=>trivial
 |a :: l,_=>calm_bind (h a) fun _=>calm_mapLoop h l _
theorem calm_listMapM {f:α→Sem β} (h:∀ a,calm P wr (f a)) (l:List α):calm P wr (l.mapM f):=calm_mapLoop h l []
theorem calm_listForIn {σ:Type} {f:α→σ→Sem (ForInStep σ)} (h:∀ a s,calm P wr (f a s)):∀ (l:List α) (s:σ),calm P wr (forIn l s f)
 | [],_=>trivial
 |a :: l,s=>by
  rw [List.forIn_cons]
  exact calm_bind (h a s) fun r=>by cases r with
   |done b=>trivial
   |yield b=>exact calm_listForIn h l b
theorem calm_arrayForIn {σ:Type} {f:α→σ→Sem (ForInStep σ)} (h:∀ a s,calm P wr (f a s)) (l:Array α) (s:σ):calm P wr (forIn l s f):=by
 rw [←Array.forIn_toList]
 exact calm_listForIn h _ _
theorem calm_arrayMapM {f:α→Sem β} (h:∀ a,calm P wr (f a)) (l:Array α):calm P wr (l.mapM f):=by
 rw [Array.mapM_eq_mapM_toList]
 exact calm_map (calm_listMapM h _)
end
section
variable {P:Program} {wr:Bool} {α β:Type}
theorem calm_viewAt (r:Nat):calm P wr (viewAt r):=by
 unfold viewAt
 repeat' (first|with_reducible (first|exact calm_pure _|exact calm_shape _|exact calm_getObj _|refine calm_bind ?_ (fun _=>?_))|split|dsimp only)
theorem calm_numberAt (r:Nat):calm P wr (numberAt r):=by
 unfold numberAt
 repeat' (first|with_reducible (first|exact calm_pure _|exact calm_shape _|exact calm_getObj _|refine calm_bind ?_ (fun _=>?_))|split|dsimp only)
theorem calm_asNumber (a:Addr) (l:Bool):calm P wr (asNumber a l):=by
 unfold asNumber
 repeat' (first|with_reducible (first|exact calm_pure _|exact calm_newObj _|refine calm_bind ?_ (fun _=>?_))|split|dsimp only)
theorem calm_behindNumber (n:Addr):calm P wr (behindNumber n):=by
 unfold behindNumber
 repeat' (first|with_reducible (first|exact calm_numberAt _|exact calm_pure _|refine calm_bind ?_ (fun _=>?_))|split|dsimp only)
theorem calm_noView (a:Addr):calm P wr (noView a):=by
 unfold noView
 repeat' (first|with_reducible (first|exact calm_viewAt _|exact calm_pure _|exact calm_unsupported _|refine calm_bind ?_ (fun _=>?_))|split|dsimp only)
theorem calm_byteOf (a:Addr):calm P wr (byteOf a):=by
 unfold byteOf
 repeat' (first|with_reducible (first|exact calm_noView _|exact calm_pure _|exact calm_stuck _|exact calm_program|exact calm_shape _|refine calm_bind ?_ (fun _=>?_))|split|dsimp only)
theorem calm_partAt (a:Addr) (c b:Nat):calm P wr (partAt a c b):=by
 unfold partAt
 repeat' (first|with_reducible (first|exact calm_byteOf _|exact calm_pure _|refine calm_bind ?_ (fun _=>?_))|split|dsimp only)
theorem calm_fieldPlace (a:Addr) (f:Field):calm P wr (fieldPlace a f):=by
 unfold fieldPlace
 repeat' (first|with_reducible (first|exact calm_partAt _ _ _|exact calm_pure _|exact calm_sizeOf _|refine calm_bind ?_ (fun _=>?_))|split|dsimp only)
theorem calm_typeStr (t:TypeId):calm P wr (typeStr t):=by
 unfold typeStr
 repeat' (first|with_reducible (first|exact calm_pure _|exact calm_unsupported _|exact calm_typeInfo _|refine calm_bind ?_ (fun _=>?_))|split|dsimp only)
theorem calm_alloc (e:TypeId):calm P wr (Instr.alloc e true (.tuple #[])):=by
 unfold Instr.alloc
 repeat' (first|with_reducible (first|exact calm_pure _|exact calm_zeroValue _|exact calm_newVar _ _|refine calm_bind ?_ (fun _=>?_))|split|dsimp only)
theorem calm_box (e:TypeId) (v:Value):calm P wr (Instr.box e v):=by
 unfold Instr.box
 repeat' (first|with_reducible (first|exact calm_pure _|exact calm_newVar _ _|refine calm_bind ?_ (fun _=>?_))|split|dsimp only)
theorem calm_build (t:TypeId) (ps:Array (Nat×Value)):calm P wr (Instr.build t ps):=by
 unfold Instr.build
 repeat' (first|with_reducible (first|exact calm_arrayMapM (fun f=>calm_bind (calm_sizeOf _) fun _=>calm_pure _) _|exact calm_pure _|exact calm_stuck _|exact calm_underlying _|exact calm_zeroValue _|exact calm_sizeOf _|refine calm_bind ?_ (fun _=>?_))|split|dsimp only)
theorem calm_buildSlice (t:TypeId) (l:Nat) (ps:Array (Nat×Value)):calm P wr (Instr.buildSlice t l ps):=by
 unfold Instr.buildSlice
 repeat' (first|with_reducible (first|exact calm_pure _|exact calm_stuck _|exact calm_unsupported _|exact calm_underlying _|exact calm_zeroValue _|exact calm_sizeOf _|exact calm_newRow _ _|refine calm_bind ?_ (fun _=>?_))|split|dsimp only)
theorem calm_loadAt (t:TypeId) (a:Value):calm P wr (Instr.loadAt t a):=by
 unfold Instr.loadAt
 repeat' (first|with_reducible (first|exact calm_sureAddr _|exact calm_loadVar _ _|refine calm_bind ?_ (fun _=>?_))|split|dsimp only)
theorem calm_storeAt (h:wr=true) (t:TypeId) (a x:Value):calm P wr (Instr.storeAt t a x):=by
 unfold Instr.storeAt
 repeat' (first|with_reducible (first|exact calm_storeVar h _ _ _|exact calm_sureAddr _|refine calm_bind ?_ (fun _=>?_))|split|dsimp only)
theorem calm_fieldAt (s:TypeId) (a:Value) (f:Nat):calm P wr (Instr.fieldAt s a f):=by
 unfold Instr.fieldAt
 repeat' (first|with_reducible (first|exact calm_fieldPlace _ _|exact calm_pure _|exact calm_stuck _|exact calm_underlying _|exact calm_sureAddr _|refine calm_bind ?_ (fun _=>?_))|split|dsimp only)
theorem calm_indexAt (t:TypeId) (x i:Value):calm P wr (Instr.indexAt t x i):=by
 unfold Instr.indexAt
 repeat' (first|with_reducible (first|exact calm_pure _|exact calm_stuck _|exact calm_unsupported _|exact calm_boundsPanic _ _ _ _|exact calm_underlying _|exact calm_sizeOf _|exact calm_asIntOf _|exact calm_sureAddr _|refine calm_bind ?_ (fun _=>?_))|split|dsimp only)
theorem calm_sliceBound (x:Value) (y:Nat) (c:BoundsCode):calm P wr (Instr.sliceBound x y c):=by
 unfold Instr.sliceBound
 repeat' (first|with_reducible (first|exact calm_pure _|exact calm_boundsPanic _ _ _ _|exact calm_asIntOf _|refine calm_bind ?_ (fun _=>?_))|split|dsimp only)
theorem calm_sliceBounds (b:Bool) (l c:Nat) (x y z:Option Value):calm P wr (Instr.sliceBounds b l c x y z):=by
 unfold Instr.sliceBounds
 repeat' (first|with_reducible (first|exact calm_sliceBound _ _ _|exact calm_pure _|exact calm_stuck _|refine calm_bind ?_ (fun _=>?_))|split|dsimp only)
theorem calm_slice (t:TypeId) (x:Value) (l h m:Option Value):calm P wr (Instr.slice t x l h m):=by
 unfold Instr.slice
 repeat' (first|with_reducible (first|exact calm_sliceBounds _ _ _ _ _ _|exact calm_pure _|exact calm_stuck _|exact calm_underlying _|exact calm_sizeOf _|exact calm_asAddr _|refine calm_bind ?_ (fun _=>?_))|split|dsimp only)
theorem calm_sliceAt (t:TypeId) (x:Value) (l h m:Option Value):calm P wr (Instr.sliceAt t x l h m):=by
 unfold Instr.sliceAt
 repeat' (first|with_reducible (first|exact calm_sliceBounds _ _ _ _ _ _|exact calm_slice _ _ _ _ _|exact calm_pure _|exact calm_underlying _|exact calm_sizeOf _|exact calm_sureAddr _|refine calm_bind ?_ (fun _=>?_))|split|dsimp only)
theorem calm_makeChan (t:TypeId) (s:Value):calm P wr (Instr.makeChan t s):=by
 unfold Instr.makeChan
 repeat' (first|with_reducible (first|exact calm_pure _|exact calm_stuck _|exact calm_runtimePanic _|exact calm_newObj _|exact calm_typeInfo _|exact calm_underlying _|exact calm_asInt _|refine calm_bind ?_ (fun _=>?_))|split|dsimp only)
theorem calm_makeSlice (t:TypeId) (l c:Value):calm P wr (Instr.makeSlice t l c):=by
 unfold Instr.makeSlice
 repeat' (first|with_reducible (first|exact calm_pure _|exact calm_stuck _|exact calm_runtimePanic _|exact calm_choose _|exact calm_askRoom _|exact calm_typeInfo _|exact calm_underlying _|exact calm_zeroValue _|exact calm_sizeOf _|exact calm_newRow _ _|exact calm_asInt _|refine calm_bind ?_ (fun _=>?_))|split|dsimp only)
theorem calm_field (t:TypeId) (x:Value) (f:Nat):calm P wr (Instr.field t x f):=by
 unfold Instr.field
 repeat' (first|with_reducible (first|exact calm_stuck _|exact calm_underlying _|exact calm_asAgg _|exact calm_part _ _ _|refine calm_bind ?_ (fun _=>?_))|split|dsimp only)
theorem calm_index (t:TypeId) (x i:Value):calm P wr (Instr.index t x i):=by
 unfold Instr.index
 repeat' (first|with_reducible (first|exact calm_pure _|exact calm_stuck _|exact calm_boundsPanic _ _ _ _|exact calm_underlying _|exact calm_sizeOf _|exact calm_asIntOf _|exact calm_part _ _ _|refine calm_bind ?_ (fun _=>?_))|split|dsimp only)
theorem calm_extract (t:Value) (i:Nat):calm P wr (Instr.extract t i):=by
 unfold Instr.extract
 repeat' (first|with_reducible (first|exact calm_pure _|exact calm_stuck _ )|split|dsimp only)
theorem calm_len (ts:Array TypeId) (t:TypeId) (as:Array Value):calm P wr (Builtin.len_ ts t as):=by
 unfold Builtin.len_
 repeat' (first|with_reducible (first|exact calm_pure _|exact calm_stuck _|exact calm_getObj _|exact calm_underlying _|refine calm_bind ?_ (fun _=>?_))|split|dsimp only)
theorem calm_cap (ts:Array TypeId) (t:TypeId) (as:Array Value):calm P wr (Builtin.cap_ ts t as):=by
 unfold Builtin.cap_
 repeat' (first|with_reducible (first|exact calm_pure _|exact calm_stuck _|exact calm_getObj _|exact calm_underlying _|refine calm_bind ?_ (fun _=>?_))|split|dsimp only)
theorem calm_lenOf (v:Value):calm P wr (Builtin.lenOf v):=by
 unfold Builtin.lenOf
 repeat' (first|with_reducible (first|exact calm_pure _|exact calm_stuck _ )|split|dsimp only)
theorem calm_firstCells (s n:Nat) (v:Value):calm P wr (Builtin.firstCells s n v):=by
 unfold Builtin.firstCells
 repeat' (first|with_reducible (first|exact calm_pure _|exact calm_stuck _|exact calm_loadCells _ _ )|split|dsimp only)
theorem calm_holdsCells (a:Addr) (n:Nat):calm P wr (Builtin.holdsCells a n):=by
 unfold Builtin.holdsCells
 repeat' (first|with_reducible (first|exact calm_pure _|exact calm_shape _|refine calm_bind ?_ (fun _=>?_))|split|dsimp only)
theorem calm_copy (h:wr=true) (ts:Array TypeId) (t:TypeId) (as:Array Value):calm P wr (Builtin.copy_ ts t as):=by
 unfold Builtin.copy_
 repeat' (first|with_reducible (first|exact calm_storeCells h _ _ _|exact calm_lenOf _|exact calm_firstCells _ _ _|exact calm_pure _|exact calm_stuck _|exact calm_underlying _|exact calm_sizeOf _|refine calm_bind ?_ (fun _=>?_))|split|dsimp only)
theorem calm_intArith (op:BinOp) (k:IntKind) (x y:Int):calm P wr (Op.intArith op k x y):=by
 unfold Op.intArith
 repeat' (first|with_reducible (first|exact calm_pure _|exact calm_stuck _ )|split|dsimp only)
theorem calm_intDiv (op:BinOp) (k:IntKind) (x y:Int):calm P wr (Op.intDiv op k x y):=by
 unfold Op.intDiv
 repeat' (first|with_reducible (first|exact calm_pure _|exact calm_stuck _|exact calm_runtimePanic _ )|split|dsimp only)
theorem calm_intBits (op:BinOp) (k:IntKind) (x y:Int):calm P wr (Op.intBits op k x y):=by
 unfold Op.intBits
 repeat' (first|with_reducible (first|exact calm_pure _|exact calm_stuck _ )|split|dsimp only)
theorem calm_intCmp (op:BinOp) (x y:Int):calm P wr (Op.intCmp op x y):=by
 unfold Op.intCmp
 repeat' (first|with_reducible (first|exact calm_pure _|exact calm_stuck _ )|split|dsimp only)
theorem calm_shift (op:BinOp) (k:IntKind) (x:Int) (k':IntKind) (y:Int):calm P wr (Op.shift op k x k' y):=by
 unfold Op.shift
 repeat' (first|with_reducible (first|exact calm_pure _|exact calm_stuck _|exact calm_runtimePanic _ )|split|dsimp only)
theorem calm_stringOp (op:BinOp) (x y:ByteArray):calm P wr (Op.stringOp op x y):=by
 unfold Op.stringOp
 repeat' (first|with_reducible (first|exact calm_pure _|exact calm_stuck _|exact calm_unsupported _ )|split|dsimp only)
theorem calm_floatArith (op:BinOp) (k:FloatKind) (x y:Nat):calm P wr (Op.floatArith op k x y):=by
 unfold Op.floatArith
 repeat' (first|with_reducible (first|exact calm_pure _|exact calm_stuck _|exact calm_choose _|refine calm_bind ?_ (fun _=>?_))|split|dsimp only)
theorem calm_floatCmp (op:BinOp) (k:FloatKind) (x y:Nat):calm P wr (Op.floatCmp op k x y):=by
 unfold Op.floatCmp
 repeat' (first|with_reducible (first|exact calm_pure _|exact calm_stuck _ )|split|dsimp only)
theorem calm_twoPlaces (a b:Addr):calm P wr (Op.twoPlaces a b):=by
 unfold Op.twoPlaces
 repeat' (first|with_reducible (first|exact calm_byteOf _|exact calm_pure _|exact calm_unsupported _|exact calm_program|refine calm_bind ?_ (fun _=>?_))|split|dsimp only)
theorem calm_addrSub (k:IntKind) (a b:Addr):calm P wr (Op.addrSub k a b):=by
 unfold Op.addrSub
 repeat' (first|with_reducible (first|exact calm_twoPlaces _ _|exact calm_pure _|refine calm_bind ?_ (fun _=>?_))|split|dsimp only)
theorem calm_addrCmp (op:BinOp) (a b:Addr):calm P wr (Op.addrCmp op a b):=by
 unfold Op.addrCmp
 repeat' (first|with_reducible (first|exact calm_twoPlaces _ _|exact calm_pure _|exact calm_unsupported _|refine calm_bind ?_ (fun _=>?_))|split|dsimp only)
theorem calm_addrMod (k:IntKind) (a:Addr) (n:Int):calm P wr (Op.addrMod k a n):=by
 unfold Op.addrMod
 repeat' (first|with_reducible (first|exact calm_byteOf _|exact calm_pure _|exact calm_unsupported _|exact calm_shape _|exact calm_typeInfo _|refine calm_bind ?_ (fun _=>?_))|split|dsimp only)
theorem calm_unsafeAdd (t:TypeId) (x y:Value):calm P wr (Builtin.unsafeAdd_ #[] t #[x,y]):=by
 cases x
 case pointer p =>
  refine calm_bind (calm_asInt y) fun n=>?_
  repeat' (first|with_reducible (first|exact calm_viewAt _|exact calm_pure _|exact calm_stuck _|exact calm_unsupported _|exact calm_program|exact calm_shape _|exact calm_asInt _|refine calm_bind ?_ (fun _=>?_))|split|dsimp only)
 all_goals exact calm_stuck _
theorem calm_movedNumber (t:TypeId) (x y:Value):calm P wr (movedNumber t x y):=by
 unfold movedNumber
 repeat' (first|with_reducible (first|exact calm_asNumber _ _|exact calm_behindNumber _|exact calm_unsafeAdd _ _ _|exact calm_pure _|exact calm_unsupported _|exact calm_underlying _|refine calm_bind ?_ (fun _=>?_))|split|dsimp only)
theorem calm_movedPointer (t:TypeId) (x y:Value):calm P wr (movedPointer t x y):=by
 unfold movedPointer
 repeat' (first|with_reducible (first|exact calm_numberAt _|exact calm_unsafeAdd _ _ _|exact calm_unsupported _|refine calm_bind ?_ (fun _=>?_))|split|dsimp only)
theorem calm_unary (op:UnOp) (x:Value):calm P wr (Op.unary op x):=by
 unfold Op.unary
 repeat' (first|with_reducible (first|exact calm_intArith _ _ _ _|exact calm_intBits _ _ _ _|exact calm_pure _|exact calm_stuck _|exact calm_unsupported _ )|split|dsimp only)
theorem calm_floatToFloat (s:FloatKind) (x:Nat) (d:FloatKind):calm P wr (Conv.floatToFloat s x d):=by
 unfold Conv.floatToFloat
 repeat' (first|with_reducible (first|exact calm_pure _|exact calm_choose _|refine calm_bind ?_ (fun _=>?_))|split|dsimp only)
end
section
variable {P:Program} {wr:Bool} {α β:Type}
theorem calm_rangeForIn {σ:Type} {f:Nat→σ→Sem (ForInStep σ)} (h:∀ a s,calm P wr (f a s)) (r:Std.Legacy.Range) (s:σ):calm P wr (forIn r s f):=by
 rw [Std.Legacy.Range.forIn_eq_forIn_range']
 exact calm_listForIn h _ _
def flatT (P:Program) (t:TypeId):Bool :=
 match P.underlying t with
 |some .bool|some (.int _)|some (.float _)|some (.complex _)|some .string|some (.chan ..)|some (.slice _)|some (.map ..)|some (.func ..)=>true
 |_=>false
def isPtr (P:Program) (t:TypeId):Bool :=
 match P.underlying t with
 |some (.pointer _)=>true
 |_=>false
theorem calm_und {α:Type} {t:TypeId} {f:TypeDesc→Sem α} (h:∀ d,P.underlying t=some d→calm P wr (f d)):calm P wr (underlying t >>= f):=by
 show calm P wr ((underlying t).bind f)
 unfold underlying
 simp only [program,bind,Sem.bind,calm]
 split
 ·rename_i d hd;exact h d hd
 ·exact calm_stuck _
theorem calm_equal_flat {t:TypeId} (ht:flatT P t=true) (x y:Value):calm P wr (Op.equal t x y):=by
 show calm P wr (Op.equalIn (9999+1) t x y)
 unfold Op.equalIn
 refine calm_und fun d hd=>?_
 unfold flatT at ht
 rw [hd] at ht
 split
 all_goals first|(exfalso;revert ht;simp;done)|repeat' (first|with_reducible (first|exact calm_behindNumber _|exact calm_byteOf _|exact calm_pure _|exact calm_stuck _|exact calm_unsupported _|exact calm_program|exact calm_typeInfo _|refine calm_bind ?_ (fun _=>?_))|split|dsimp only)
theorem calm_equal_nil {t:TypeId} (ht:isPtr P t=true) {x y:Value} (h:x=.pointer none∨y=.pointer none):calm P wr (Op.equal t x y):=by
 show calm P wr (Op.equalIn (9999+1) t x y)
 unfold Op.equalIn
 refine calm_und fun d hd=>?_
 unfold isPtr at ht
 rw [hd] at ht
 cases d<;>simp only [Bool.false_eq_true] at ht
 rcases h with rfl|rfl
 ·cases y<;>first|exact calm_pure _|exact calm_stuck _
 ·cases x
  case pointer p=>cases p<;>exact calm_pure _
  all_goals exact calm_stuck _
theorem calm_eqGuardIn:∀ (d:Nat) (t:TypeId) (x y:Value),calm P wr (Op.eqGuardIn d t x y):=by
 intro d
 induction d with
 |zero=>intro t x y;exact calm_unsupported _
 |succ d ih =>
  intro t x y
  unfold Op.eqGuardIn
  repeat' (first|with_reducible (first|exact ih _ _ _|exact calm_pure _|exact calm_unsupported _|exact calm_underlying _|exact calm_sizeOf _|exact calm_part _ _ _|(refine calm_arrayForIn (fun _ _=>?_) _ _)|(refine calm_rangeForIn (fun _ _=>?_) _ _)|refine calm_bind ?_ (fun _=>?_))|split|dsimp only)
end
section
variable {P:Program} {wr:Bool} {α β:Type}
theorem calm_carith (op:BinOp) (k:FloatKind) (x y:Nat):calm P wr (Op.Complex.arith op k x y):=by
 unfold Op.Complex.arith
 repeat' (first|with_reducible (first|exact calm_floatArith _ _ _ _|exact calm_pure _|exact calm_stuck _|refine calm_bind ?_ (fun _=>?_))|split|dsimp only)
theorem calm_ccmp (op:BinOp) (k:FloatKind) (x y:Nat):calm P wr (Op.Complex.cmp op k x y):=by
 unfold Op.Complex.cmp
 repeat' (first|with_reducible (first|exact calm_floatCmp _ _ _ _|exact calm_asBool _|refine calm_bind ?_ (fun _=>?_))|split|dsimp only)
theorem calm_cconv (s:FloatKind) (x:Nat) (d:FloatKind):calm P wr (Op.Complex.conv s x d):=by
 unfold Op.Complex.conv
 repeat' (first|with_reducible (first|exact calm_floatToFloat _ _ _|exact calm_pure _|exact calm_stuck _|refine calm_bind ?_ (fun _=>?_))|split|dsimp only)
theorem calm_cadd (x y:Nat):calm P wr (Op.Complex.add x y):=calm_carith _ _ _ _
theorem calm_csub (x y:Nat):calm P wr (Op.Complex.sub x y):=calm_carith _ _ _ _
theorem calm_cmul (x y:Nat):calm P wr (Op.Complex.mul x y):=calm_carith _ _ _ _
theorem calm_cquo (x y:Nat):calm P wr (Op.Complex.quo x y):=calm_carith _ _ _ _
theorem calm_cproduct (a b c d:Nat):calm P wr (Op.Complex.product a b c d):=by
 unfold Op.Complex.product
 repeat' (first|with_reducible (first|exact calm_cadd _ _|exact calm_csub _ _|exact calm_cmul _ _|exact calm_pure _|refine calm_bind ?_ (fun _=>?_))|split|dsimp only)
theorem calm_ccorrected (s a b c d:Nat):calm P wr (Op.Complex.corrected s a b c d):=by
 unfold Op.Complex.corrected
 repeat' (first|with_reducible (first|exact calm_cadd _ _|exact calm_csub _ _|exact calm_cmul _ _|exact calm_pure _|refine calm_bind ?_ (fun _=>?_))|split|dsimp only)
theorem calm_cquotient (a b c d:Nat):calm P wr (Op.Complex.quotient a b c d):=by
 unfold Op.Complex.quotient
 repeat' (first|with_reducible (first|exact calm_ccmp _ _ _ _|exact calm_cadd _ _|exact calm_csub _ _|exact calm_cmul _ _|exact calm_cquo _ _|exact calm_ccorrected _ _ _ _ _|exact calm_pure _|refine calm_bind ?_ (fun _=>?_))|split|dsimp only)
theorem calm_complexOp (op:BinOp) (k:FloatKind) (a b c d:Nat):calm P wr (Op.complexOp op k a b c d):=by
 unfold Op.complexOp
 repeat' (first|with_reducible (first|exact calm_carith _ _ _ _|exact calm_ccmp _ _ _ _|exact calm_cconv _ _ _|exact calm_cproduct _ _ _ _|exact calm_cquotient _ _ _ _|exact calm_pure _|exact calm_stuck _|refine calm_bind ?_ (fun _=>?_))|split|dsimp only)
theorem calm_eqGuard (op:BinOp) (t:TypeId) (x y:Operand) (a b:Value):calm P wr (eqGuard op t x y a b):=by
 unfold eqGuard
 repeat' (first|with_reducible (first|exact calm_eqGuardIn _ _ _ _|exact calm_pure _|exact calm_unsupported _|exact calm_program|refine calm_bind ?_ (fun _=>?_))|split|dsimp only)
def isNil:Operand→Bool
 |.const (.pointer none)=>true
 |_=>false
def eqOk (P:Program) (op:BinOp) (t:TypeId) (x y:Operand):Bool :=
 match op with
 |.eql|.neq=>flatT P t||(isPtr P t&&(isNil x||isNil y))
 |_=>true
theorem calm_binOp (op:BinOp) (t:TypeId) (x y:Value) (hq:op=.eql∨op=.neq→calm P wr (Op.equal t x y)):calm P wr (binOp op t x y):=by
 unfold binOp
 repeat' (first|with_reducible (first|exact calm_behindNumber _|exact calm_intArith _ _ _ _|exact calm_intDiv _ _ _ _|exact calm_intBits _ _ _ _|exact calm_intCmp _ _ _|exact calm_shift _ _ _ _ _|exact calm_stringOp _ _ _|exact calm_floatArith _ _ _ _|exact calm_floatCmp _ _ _ _|exact calm_addrSub _ _ _|exact calm_addrCmp _ _ _|exact calm_addrMod _ _ _|exact calm_movedNumber _ _ _|exact calm_movedPointer _ _ _|exact calm_complexOp _ _ _ _ _ _|exact hq (.inl rfl)|exact hq (.inr rfl)|exact calm_pure _|exact calm_stuck _|exact calm_unsupported _|exact calm_underlying _|refine calm_bind ?_ (fun _=>?_))|split|dsimp only)
end
end Go.Lift
