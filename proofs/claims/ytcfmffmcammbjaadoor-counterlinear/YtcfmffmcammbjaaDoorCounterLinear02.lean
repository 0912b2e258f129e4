/- Of the proof of CounterLinear. Part 2 of 26. (Joined, by program, and written short, of: Lift4, Lift5, Lift6, Lift7, Lift9, Lift8, Lift10, Lift11, Lift12, Lift13, Lift14, Lift15.) -/
import Derived.Test.YtcfmffmcammbjaaDoorCounterLinear01
import Derived.Conc.TokenAlone
import Derived.Conc.Own3
set_option linter.unusedSimpArgs false
set_option linter.unusedVariables false
set_option maxHeartbeats 4000000
set_option maxRecDepth 100000
namespace Go.Lift
open Go.Conc
def GoesI (P:Program) (main:Bool) (D:World->World->Array Event->Prop) (Stop:Goroutine->World->Prop) (g:Goroutine) (w:World):Prop :=
 ∀ Q:Goroutine->World->Prop,(∀ g w,(∀ d,Stop g (w.at d))->Q g w) ->
   (∀ g w,g.status=.running->∀ (g':Nat->Goroutine) (w':Nat->World) (es:Nat->Array Event),(∀ d,stepG P main g (w.at d)=.go (g' d) (w' d) (es d))->(∀ d,D (w.at d) (w' d) (es d))->(∀ d,Q (g' d) (w' d))->Q g w)->Q g w
theorem GoesI.stop {P:Program}{main:Bool}{D:World->World->Array Event->Prop}{Stop:Goroutine->World->Prop}{g:Goroutine}{w:World}(h:∀ d,Stop g (w.at d)):GoesI P main D Stop g w:=fun _ h1 _=>h1 g w h
theorem GoesI.step {P:Program}{main:Bool}{D:World->World->Array Event->Prop}{Stop:Goroutine->World->Prop}{g:Goroutine}{w:World}(hs:g.status=.running) (g':Nat->Goroutine) (w':Nat->World) (es:Nat->Array Event) (h:∀ d,stepG P main g (w.at d)=.go (g' d) (w' d) (es d))
 (hD:∀ d,D (w.at d) (w' d) (es d)) (hn:∀ d,GoesI P main D Stop (g' d) (w' d)):GoesI P main D Stop g w:=fun Q h1 h2=>h2 g w hs g' w' es h hD fun d=>hn d Q h1 h2
theorem GoesI.induct {P:Program}{main:Bool}{D:World->World->Array Event->Prop}{Stop:Goroutine->World->Prop}{M:Goroutine->World->Prop}{g:Goroutine}{w:World}(hg:GoesI P main D Stop g w)
 (stop:∀ g w,(∀ d,Stop g (w.at d))->M g w)
 (step:∀ g w,g.status=.running->∀ (g':Nat->Goroutine) (w':Nat->World) (es:Nat->Array Event),(∀ d,stepG P main g (w.at d)=.go (g' d) (w' d) (es d))->(∀ d,D (w.at d) (w' d) (es d))->(∀ d,GoesI P main D Stop (g' d) (w' d))->(∀ d,M (g' d) (w' d))->M g w):M g w :=
 (hg (fun g w=>GoesI P main D Stop g w∧M g w) (fun g w h=>⟨.stop h,stop g w h⟩) (fun g w hs g' w' es h hD hn=>⟨.step hs g' w' es h hD fun d=>(hn d).1,step g w hs g' w' es h hD (fun d=>(hn d).1) fun d=>(hn d).2⟩)).2
def Ao (w:World) (τ:Nat->Question->Nat) (d:Nat):World:={ w with tape:=τ,drawn:=d }
theorem Hz {fr fr':Frame}{cs cs':List Frame}{w w':World}(h:lone fr cs w=lone fr' cs' w'):fr=fr'∧cs=cs'∧w=w':=by
 simp only[lone,Machine.mk.injEq,Array.mk.injEq,List.cons.injEq,Goroutine.mk.injEq,and_true] at h
 exact ⟨h.2.1,h.2.2,h.1⟩
def Arr (b:Frame) (Q:Exit->Act->World->Prop) (m:Machine):Prop :=
 (∃ a v,m=lone (b.at a tail) [last] v∧Q .normal a v)∨∃ (fr:Frame) (v:World),m=lone fr [last] v∧fr.mode=.returning∧Q .ret ⟨fr.tmps,fr.defers⟩ v
def exitOf (s:St):Exit:=if s.base.ret then .ret else .normal
section
variable {P:Program}{wr:Bool}{L:FuncId->Prop}{b:Frame}{Q:Exit->Act->World->Prop}
theorem emb_ne {u:F}{us:List F}{bs:F}{fr:Frame}{v w:World}(h:Dp (St.emb ⟨u :: us,bs⟩ tail [last]) v=lone fr [last] w):False:=by
 have:=(Hz h).2.1
 have hl:=congrArg List.length this
 simp[St.emb,G] at hl
theorem arr_done {s:St}{v:World}(hf:fineSt P wr L b s) (h:Arr b Q (Dp (s.emb tail [last]) v)):Done s∧Q (exitOf s) s.base.a v:=by
 obtain ⟨ups,bs⟩:=s
 cases ups with
 |cons u us =>
  rcases h with ⟨a,v',e,_⟩|⟨fr,v',e,_⟩
  ·exact (emb_ne e).elim
  ·exact (emb_ne e).elim
 |nil =>
  obtain ⟨bb,ba,bt,br⟩:=bs
  rcases h with ⟨a,v',e,hq⟩|⟨fr,v',e,hm,hq⟩
  ·obtain ⟨e1,_,rfl⟩:=Hz e
   cases br with
   |true =>
    have:=congrArg Frame.mode e1
    cases this
   |false =>
    have h1:bt++tail=tail:=congrArg Frame.todo e1
    have h2:ba.tmps=a.tmps:=congrArg Frame.tmps e1
    have h3:ba.defers=a.defers:=congrArg Frame.defers e1
    have h4:bt=[]:=by
     have:=congrArg List.length h1
     simp at this
     exact this
    have h5:ba=a:=by cases ba;cases a;simp only at h2 h3;subst h2 h3;rfl
    subst h4 h5
    exact ⟨⟨rfl,.inr rfl⟩,hq⟩
  ·obtain ⟨e1,_,rfl⟩:=Hz e
   cases br with
   |false =>
    have:=congrArg Frame.mode e1
    rw[hm] at this
    cases this
   |true =>
    have h2:ba.tmps=fr.tmps:=congrArg Frame.tmps e1
    have h3:ba.defers=fr.defers:=congrArg Frame.defers e1
    have h5:ba=⟨fr.tmps,fr.defers⟩:=by cases ba;simp only at h2 h3;subst h2 h3;rfl
    subst h5
    exact ⟨⟨rfl,.inl rfl⟩,hq⟩
theorem last_ended (P:Program) (w:World):∃ o,step P (lone last [] w)=.ended o w:=⟨_,Dz (es:=#[]) (by simp[G,stepG,stepG.exec,last];rfl)⟩
theorem ret_step {a:Act}{todo:List Item}{v:World}(hd:a.defers=[]):(∃ o w,step P (lone { b.at a todo with mode:=.returning } [last] v)=.ended o w)∨∃ w,step P (lone { b.at a todo with mode:=.returning } [last] v)=.next (lone last [] w):=by
 have back:∀ (x:Value) (w:World),∃ es,doReturn P true { b.at a todo with mode:=.returning } [last] none x w=.go (G last []) w es:=fun x w=>by
  refine ⟨#[],?_⟩
  cases hk:b.kind<;>simp[doReturn,Frame.at,hk,G,last,Frame.finish]
 cases hf:P.funcs[b.fn]? with
 |none =>
  obtain ⟨es,e⟩:=back (a.tmps.getD 0 undef) v
  refine .inr ⟨v,alone_go (es:=es) ?_⟩
  rw[←e]
  simp[G,stepG,unwind,Frame.at,hd,hf]
 |some fn =>
  cases hr:(results fn a.tmps).run P v with
  |ok x w =>
   obtain ⟨es,e⟩:=back x w
   refine .inr ⟨w,alone_go (es:=seen P b.fn ((results fn a.tmps).events P v #[])++es) ?_⟩
   have:stepG P true (G { b.at a todo with mode:=.returning } [last]) v=GStep.after (seen P b.fn ((results fn a.tmps).events P v #[])) (doReturn P true { b.at a todo with mode:=.returning } [last] none x w):=by
    simp[G,stepG,unwind,Frame.at,hd,hf,hr]
   rw[this,e]
   rfl
  |halt h w =>
   have:∃ o w' es,stepG P true (G { b.at a todo with mode:=.returning } [last]) v=.ended o w' es:=by
    cases h<;>simp[G,stepG,unwind,Frame.at,hd,hf,hr,GStep.after]
   obtain ⟨o,w',es,e⟩:=this
   exact .inl ⟨o,w',Dz e⟩
theorem not_arr_last {w:World}:¬ Arr b Q (lone last [] w):=by
 rintro (⟨a,v',e,_⟩|⟨fr,v',e,_⟩)<;>have:=(Hz e).2.1<;>cases this
theorem done_run {s:St}{v:World}{n:Nat}{m:Machine}(hf:fineSt P wr L b s) (hd:Done s) (hr:runN P n (Dp (s.emb tail [last]) v)=.next m) (ha:Arr b Q m):Arr b Q (Dp (s.emb tail [last]) v):=by
 cases n with
 |zero=>simp only[runN,Stepped.next.injEq] at hr;rw[hr];exact ha
 |succ n =>
  exfalso
  obtain ⟨ups,bs⟩:=s
  obtain ⟨h1,h2⟩:=hd
  simp only at h1
  subst h1
  obtain ⟨bb,ba,bt,br⟩:=bs
  have hdf:ba.defers=[]:=hf.base.defers
  simp only[runN] at hr
  cases br with
  |true =>
   rcases ret_step (P:=P) (b:=bb) (a:=ba) (todo:=bt++tail) (v:=v) hdf with ⟨o,w,e⟩|⟨w,e⟩
   ·have e':step P (Dp (St.emb ⟨[],⟨bb,ba,bt,true⟩⟩ tail [last]) v)=.ended o w:=e
    rw[e'] at hr;cases hr
   ·have e':step P (Dp (St.emb ⟨[],⟨bb,ba,bt,true⟩⟩ tail [last]) v)=.next (lone last [] w):=e
    rw[e'] at hr
    simp only at hr
    cases n with
    |zero=>simp only[runN,Stepped.next.injEq] at hr;subst hr;exact not_arr_last ha
    |succ n =>
     simp only[runN] at hr
     obtain ⟨o,e2⟩:=last_ended P w
     rw[e2] at hr;cases hr
  |false =>
   simp only[Bool.false_eq_true,false_or] at h2
   subst h2
   have e':∃ o,step P (Dp (St.emb ⟨[],⟨bb,ba,[],false⟩⟩ tail [last]) v)=.ended o v:=⟨_,Dz (es:=#[]) (by simp[G,stepG,stepG.exec,tail];rfl)⟩
   obtain ⟨o,e'⟩:=e'
   rw[e'] at hr;cases hr
theorem lost_run {g:Goroutine}{v:World}{n:Nat}{m:Machine}(hl:Lost P g v) (hr:runN P (n+1) (Dp g v)=.next m) (ha:Arr b Q m):False:=by
 simp only[runN] at hr
 rcases hl with ⟨o,w,e⟩|⟨us,fr,chain,w,e,hd,hu⟩
 ·rw[e] at hr;cases hr
 ·rw[e] at hr
  obtain ⟨fr',cs',w',chain',rfl,hm⟩:=dead_run us fr chain w n m hd hu hr
  rcases ha with ⟨a,v',e',_⟩|⟨fr'',v',e',hm',_⟩
  ·rw[(Hz e').1] at hm;cases hm
  ·rw[(Hz e').1,hm'] at hm;cases hm
theorem rel_at {z:Nat->Option Nat}{v w:World}(h:Rel z v w) (τ:Nat->Question->Nat) (d d':Nat):Rel z (Ao v τ d) (w.at d'):=h.re rfl rfl rfl rfl rfl rfl
theorem rel_self (v:World) (τ τ':Nat->Question->Nat) (d d':Nat):Rel zn (Ao v τ d) (Ao v τ' d'):=rel_none rfl rfl rfl
end
section
variable {P:Program}{z:Nat->Option Nat}{wr:Bool}{L:FuncId->Prop}{b:Frame}{Q:Exit->Act->World->Prop}{D:World->World->Array Event->Prop}{I:World->Prop}{main:Bool}{k:List Item}{cs:List Frame}
def Phi (P:Program) (b:Frame) (Q:Exit->Act->World->Prop) (s:St) (v:World) (c:Nat) (π:Nat->Question->Nat):Prop :=
 ∀ τ,(∀ j,j<c->τ j=π j)->∃ n m,runN P n (Dp (s.emb tail [last]) (Ao v τ c))=.next m∧Arr b Q m
def Came (z:Nat->Option Nat) (b:Frame) (Q:Exit->Act->World->Prop) (I:World->Prop) (k:List Item) (cs:List Frame) (g:Goroutine) (w:World):Prop :=
 ∃ s v,g=St.emb s k cs∧Done s∧s.base.b=b∧s.base.a.defers=[]∧Rel z v w∧I v∧Q (exitOf s) s.base.a v
structure Pt where
 s:St
 v:World
 w:World
 c:Nat
 π:Nat->Question->Nat
structure Good (P:Program) (z:Nat->Option Nat) (wr:Bool) (L:FuncId->Prop) (b:Frame) (Q:Exit->Act->World->Prop) (D:World->World->Array Event->Prop) (I:World->Prop) (main:Bool) (k:List Item) (cs:List Frame) (x:Pt):Prop where
 fine:fineSt P wr L b x.s
 rel:Rel z x.v x.w
 inv:I x.v
 phi:Phi P b Q x.s x.v x.c x.π
 not:¬ GoesI P main D (Came z b Q I k cs) (x.s.emb k cs) x.w
structure Link (P:Program) (x y:Pt):Prop where
 le:x.c≤y.c
 pre:∀ j,j<x.c->y.π j=x.π j
 step:∀ τ,(∀ j,j<y.c->τ j=y.π j)->step P (Dp (x.s.emb tail [last]) (Ao x.v τ x.c))=.next (Dp (y.s.emb tail [last]) (Ao y.v τ y.c))
theorem emb_G (s:St) (k:List Item) (cs:List Frame):s.emb k cs=G (s.emb k cs).frame (s.emb k cs).callers:=by
 obtain ⟨ups,bs⟩:=s
 cases ups<;>rfl
theorem inv_on (hI:∀ v v',Keeps wr v v'->I v->I v') {v:World}(h:I v) (τ:Nat->Question->Nat) (d:Nat):I (Ao v τ d):=hI v _ (Keeps.of_rel ⟨rfl,rfl,rfl⟩) h
theorem good_not_done (hI:∀ v v',Keeps wr v v'->I v->I v') {x:Pt}(h:Good P z wr L b Q D I main k cs x):¬ Done x.s:=fun hd=>by
 refine h.not (.stop fun d=>?_)
 obtain ⟨n,m,hr,ha⟩:=h.phi x.π (fun _ _=>rfl)
 obtain ⟨_,hq⟩:=arr_done h.fine (done_run h.fine hd hr ha)
 exact ⟨x.s,Ao x.v x.π x.c,rfl,hd,h.fine.eb,h.fine.base.defers,rel_at h.rel _ _ _,inv_on hI h.inv _ _,hq⟩
theorem good_next (hE:∀ fr cs dy g w,∃ o w',early P fr cs dy g w=.ended o w') (hL:∀ g,L g->Db P wr L g) (hI:∀ v v',Keeps wr v v'->I v->I v')
 (hD:∀ v v' w w' es,I v->Rel z v w->Out z wr v v' w w'->(∀ e∈es,Okay wr e∧Fa z w' e)->D w w' es) {x:Pt} (h:Good P z wr L b Q D I main k cs x):∃ y,Good P z wr L b Q D I main k cs y∧Link P x y:=by
 have hnd:=good_not_done hI h
 have one:∀ d,∃ q:St×World×World×Array Event,fineSt P wr L b q.1∧StepS P wr x.s q.1 (Ao x.v (fun j=>if j<x.c then x.π j else x.w.tape (d+(j - x.c))) x.c) q.2.1 q.2.2.2 ∧
  Out z wr (Ao x.v (fun j=>if j<x.c then x.π j else x.w.tape (d+(j - x.c))) x.c) q.2.1 (x.w.at d) q.2.2.1∧(∀ e∈q.2.2.2,Fa z q.2.2.1 e)∧stepG P main (x.s.emb k cs) (x.w.at d)=.go (q.1.emb k cs) q.2.2.1 q.2.2.2:=fun d=>by
  rcases stack_step (v:=Ao x.v (fun j=>if j<x.c then x.π j else x.w.tape (d+(j - x.c))) x.c) h.fine hnd hE hL with ⟨s',v',es,hf',hs⟩|hl
  ·obtain ⟨w',ho,hsp,hg⟩:=hs.like z (x.w.at d) (rel_at h.rel _ _ _) (fun i _=>by
    show (if x.c+i<x.c then x.π (x.c+i) else x.w.tape (d+(x.c+i - x.c)))=x.w.tape (d+i)
    rw[if_neg (by omega),show x.c+i - x.c=i by omega])
   exact ⟨(s',v',w',es),hf',hs,ho,hsp,hg k cs main⟩
  ·exfalso
   obtain ⟨n,m,hr,ha⟩:=h.phi (fun j=>if j<x.c then x.π j else x.w.tape (d+(j - x.c))) (fun j hj=>by simp only[hj,if_true])
   cases n with
   |zero=>simp only[runN,Stepped.next.injEq] at hr;subst hr;exact hnd (arr_done h.fine ha).1
   |succ n=>exact lost_run hl hr ha
 obtain ⟨f,hf⟩:=Classical.axiomOfChoice one
 by_cases hall:∀ d,GoesI P main D (Came z b Q I k cs) ((f d).1.emb k cs) (f d).2.2.1
 ·exfalso
  refine h.not (.step ?_ (fun d=>(f d).1.emb k cs) (fun d=>(f d).2.2.1) (fun d=>(f d).2.2.2) (fun d=>(hf d).2.2.2.2) (fun d=>?_) hall)
  ·obtain ⟨⟨ups,bs⟩,_⟩:=x;cases ups<;>rfl
  ·have ho:=(hf d).2.2.1
   exact hD (Ao x.v (fun j=>if j<x.c then x.π j else x.w.tape (d+(j - x.c))) x.c) _ _ _ _ (inv_on hI h.inv _ _) (rel_at h.rel _ _ _) ho (fun e he=>⟨(hf d).2.1.okay e he,(hf d).2.2.2.1 e he⟩)
 ·have ⟨d,hd⟩:∃ d,¬ GoesI P main D (Came z b Q I k cs) ((f d).1.emb k cs) (f d).2.2.1:=Classical.not_forall.1 hall
  obtain ⟨hfine,hs,ho,_,hg⟩:=hf d
  have hle:x.c≤(f d).2.1.drawn:=hs.le
  have link:∀ τ,(∀ j,j<(f d).2.1.drawn->τ j=if j<x.c then x.π j else x.w.tape (d+(j - x.c)))->step P (Dp (x.s.emb tail [last]) (Ao x.v τ x.c))=.next (Dp ((f d).1.emb tail [last]) (Ao (f d).2.1 τ (f d).2.1.drawn)):=fun τ hτ=>by
   obtain ⟨w'',h1,_,h2⟩:=hs.like zn (Ao x.v τ x.c) (rel_self _ _ _ _ _) (fun i hi=>(hτ _ hi).symm)
   have e:w''=Ao (f d).2.1 τ (f d).2.1.drawn:=by
    have a1:=h1.rel.eq
    have a2:w''.tape=τ:=h1.tape'
    have a3:w''.drawn=x.c+((f d).2.1.drawn - x.c):=h1.drawn
    have a4:=h1.rel.os
    have a5:=h1.rel.output
    obtain ⟨wh,wt,wd,wo,wp⟩:=w''
    simp only at a1 a2 a3 a4 a5
    subst a1 a2 a4 a5
    simp only[Ao,World.mk.injEq,true_and,and_true]
    exact a3.trans (by omega)
   rw[e] at h2
   have h3:=h2 tail [last] true
   rw[emb_G x.s,emb_G (f d).1] at h3
   exact alone_go h3
  refine ⟨⟨(f d).1,(f d).2.1,(f d).2.2.1,(f d).2.1.drawn,fun j=>if j<x.c then x.π j else x.w.tape (d+(j - x.c))⟩,⟨hfine,ho.rel,hI _ _ ho.keeps (inv_on hI h.inv _ _),fun τ hτ=>?_,hd⟩,hle,fun j hj=>by simp only[hj,if_true],link⟩
  obtain ⟨n,m,hr,ha⟩:=h.phi τ (fun j hj=>by rw[hτ j (Nat.lt_of_lt_of_le hj hle)];simp only[hj,if_true])
  cases n with
  |zero=>simp only[runN,Stepped.next.injEq] at hr;subst hr;exact absurd (arr_done h.fine ha).1 hnd
  |succ n =>
   simp only[runN,link τ hτ] at hr
   exact ⟨n,m,hr,ha⟩
theorem lift_goes (hE:∀ fr cs dy g w,∃ o w',early P fr cs dy g w=.ended o w') (hL:∀ g,L g->Db P wr L g) (hI:∀ v v',Keeps wr v v'->I v->I v')
 (hD:∀ v v' w w' es,I v->Rel z v w->Out z wr v v' w w'->(∀ e∈es,Okay wr e∧Fa z w' e)->D w w' es)
 {s:St} {v w:World} (hf:fineSt P wr L b s) (hr:Rel z v w) (hi:I v) (hphi:∀ τ,∃ n m,runN P n (Dp (s.emb tail [last]) (Ao v τ 0))=.next m∧Arr b Q m) :
 GoesI P main D (Came z b Q I k cs) (s.emb k cs) w:=by
 refine Classical.byContradiction fun hnot=>?_
 let x0:Pt:=⟨s,v,w,0,fun _ _=>0⟩
 have g0:Good P z wr L b Q D I main k cs x0:=⟨hf,hr,hi,fun τ _=>hphi τ,hnot⟩
 let nx:{x:Pt // Good P z wr L b Q D I main k cs x}->{x:Pt // Good P z wr L b Q D I main k cs x}:=fun x=>⟨Classical.choose (good_next hE hL hI hD x.2),(Classical.choose_spec (good_next hE hL hI hD x.2)).1⟩
 let sq:Nat->{x:Pt // Good P z wr L b Q D I main k cs x}:=fun n=>Nat.rec ⟨x0,g0⟩ (fun _ x=>nx x) n
 have hlink:∀ n,Link P (sq n).1 (sq (n+1)).1:=fun n=>(Classical.choose_spec (good_next hE hL hI hD (sq n).2)).2
 have mono:∀ n m,(sq n).1.c≤(sq (n+m)).1.c:=fun n m=>by
  induction m with
  |zero=>exact Nat.le_refl _
  |succ m ih=>exact Nat.le_trans ih (hlink (n+m)).le
 have agree:∀ n m j,j<(sq n).1.c->(sq (n+m)).1.π j=(sq n).1.π j:=fun n m j hj=>by
  induction m with
  |zero=>rfl
  |succ m ih=>exact ((hlink (n+m)).pre j (Nat.lt_of_lt_of_le hj (mono n m))).trans ih
 have agree2:∀ n m j,j<(sq n).1.c->j<(sq m).1.c->(sq m).1.π j=(sq n).1.π j:=fun n m j h1 h2=>by
  rcases Nat.le_total n m with hle|hle
  ·obtain ⟨t,rfl⟩:=Nat.exists_eq_add_of_le hle;exact agree n t j h1
  ·obtain ⟨t,rfl⟩:=Nat.exists_eq_add_of_le hle;exact (agree m t j h2).symm
 let τ:Nat->Question->Nat:=fun j=>open Classical in if h:∃ n,j<(sq n).1.c then (sq (Classical.choose h)).1.π j else fun _=>0
 have hτ:∀ n j,j<(sq n).1.c->τ j=(sq n).1.π j:=fun n j hj=>by
  have hex:∃ n,j<(sq n).1.c:=⟨n,hj⟩
  have e:τ j=(sq (Classical.choose hex)).1.π j:=dif_pos hex
  rw[e]
  exact agree2 n _ j hj (Classical.choose_spec hex)
 have hrun:∀ n,runN P n (Dp (s.emb tail [last]) (Ao v τ 0))=.next (Dp ((sq n).1.s.emb tail [last]) (Ao (sq n).1.v τ (sq n).1.c)):=fun n=>by
  induction n with
  |zero=>rfl
  |succ n ih =>
   rw[runN_add P n 1,ih]
   simp only[runN,(hlink n).step τ (hτ (n+1))]
 obtain ⟨n,m,hr',ha⟩:=hphi τ
 rw[hrun n] at hr'
 cases hr'
 exact good_not_done hI (sq n).2 (arr_done (sq n).2.fine ha).1
end
section
variable {P:Program}{wr:Bool}{α β:Type}
theorem dead_sbind:∀ {s:Sem α}{f:α->Sem β},dead P s->dead P (s.bind f):=by
 intro s
 induction s with
 |pure a=>intro f h;exact h.elim
 |load m a k ih=>intro f h v;exact ih v (h v)
 |store m a v k ih=>intro f h;exact ih h
 |new o k ih=>intro f h r;exact ih r (h r)
 |shape r k ih=>intro f h s;exact ih s (h s)
 |freeze a n k ih=>intro f h;exact ih h
 |frozen a k ih=>intro f h b;exact ih b (h b)
 |getObj r k ih=>intro f h o;exact ih o (h o)
 |setObj r o k ih=>intro f h;exact ih h
 |choose q k ih=>intro f h n;exact ih n (h n)
 |sys c k ih=>intro f h;exact h.elim
 |program k ih=>intro f h;exact ih P h
 |mark m k ih=>intro f h;exact ih h
 |halt x=>intro f h;trivial
theorem Cf:∀ {s:Sem α}{f:α->Sem β},calm P wr s->(∀ a,calm P wr (f a))->calm P wr (s.bind f):=by
 intro s
 induction s with
 |pure a=>intro f _ hf;exact hf a
 |load m a k ih=>intro f h hf v;exact ih v (h v) hf
 |store m a v k ih=>intro f h hf;exact ⟨h.1,ih h.2 hf⟩
 |new o k ih=>intro f h hf r;exact ih r (h r) hf
 |shape r k ih=>intro f h hf s;exact ih s (h s) hf
 |freeze a n k ih=>intro f h hf;exact h.elim
 |frozen a k ih=>intro f h hf;exact ⟨fun b=>ih b (h.1 b) hf,dead_sbind h.2⟩
 |getObj r k ih=>intro f h hf o;exact ih o (h o) hf
 |setObj r o k ih=>intro f h hf;exact h.elim
 |choose q k ih=>intro f h hf n;exact ih n (h n) hf
 |sys c k ih=>intro f h hf;exact h.elim
 |program k ih=>intro f h hf;exact ih P h hf
 |mark m k ih=>intro f h hf;exact ⟨h.1,ih h.2 hf⟩
 |halt x=>intro f h hf;exact h
theorem Af {s:Sem α}{f:α->Sem β}(h:calm P wr s) (hf:∀ a,calm P wr (f a)):calm P wr (s >>= f):=Cf h hf
theorem calm_map {s:Sem α}{f:α->β}(h:calm P wr s):calm P wr (Functor.map f s):=Cf h fun _=>trivial
theorem Ai (a:α):calm P wr (pure a:Sem α):=trivial
theorem Al (s:String):calm P wr (stuck s:Sem α):=.inr (.inl ⟨_,rfl⟩)
theorem Am (u:Unsupported):calm P wr (unsupported u:Sem α):=.inr (.inr ⟨_,rfl⟩)
theorem E8 (x:Value):calm P wr (goPanic x:Sem α):=.inl ⟨_,rfl⟩
theorem B0:calm P wr (program):=trivial
theorem Dw (r:Nat):calm P wr (shape r):=fun _=>trivial
theorem Er (r:Nat):calm P wr (getObj r):=fun _=>trivial
theorem F3 (o:Obj):calm P wr (newObj o):=fun _=>trivial
theorem Df (q:Question):calm P wr (choose q):=fun _=>trivial
theorem Ie (a:Addr) (m:Mode):calm P wr (load a m):=fun _=>trivial
theorem calm_store (h:wr=true) (a:Addr) (v:Value) (m:Mode):calm P wr (store a v m):=⟨h,trivial⟩
theorem Gm (n:Nat):calm P wr (askRoom n):=by unfold askRoom;split;exact ⟨.inl rfl,trivial⟩;trivial
theorem calm_markExtern (f:FuncId):calm P wr (mark (.extern f)):=⟨.inr ⟨f,rfl⟩,trivial⟩
theorem Hr:calm P wr (mark .noRoom):=⟨.inl rfl,trivial⟩
theorem Bs (t:TypeId):calm P wr (typeInfo t):=by
 unfold typeInfo
 exact Af B0 fun p=>by split;trivial;exact Al _
theorem Ay (t:TypeId):calm P wr (underlying t):=by
 unfold underlying
 exact Af B0 fun p=>by split;trivial;exact Al _
theorem Co (t:TypeId):calm P wr (zeroValue t):=by
 unfold zeroValue
 exact Af (Bs t) fun p=>by split;trivial;exact Am _
theorem Bi (t:TypeId):calm P wr (sizeOf t):=Af (Bs t) fun _=>trivial
theorem calm_isAgg (t:TypeId):calm P wr (isAgg t):=by
 unfold isAgg
 exact Af (Ay t) fun p=>by split<;>trivial
theorem Hh (t:TypeId):calm P wr (elemOf t):=by
 unfold elemOf
 exact Af (Ay t) fun p=>by split;trivial;exact Al _
theorem Ep (e:TypeId) (c:Array Value):calm P wr (newRow e c):=Af (F3 _) fun _=>trivial
theorem Eo (t:TypeId) (v:Value):calm P wr (newVar t v):=Ep _ _
theorem Bh (e:RuntimeError):calm P wr (runtimePanic e:Sem α):=by
 unfold runtimePanic
 refine Af B0 fun p=>?_
 simp only
 split<;>first|exact E8 _|exact Af (Af (Hh _) fun _=>Eo _ _) fun _=>E8 _|exact Af (Hh _) fun _=>Af (Eo _ _) fun _=>E8 _
theorem Dc (k:IntKind) (x y:Int) (c:BoundsCode):calm P wr (boundsPanic k x y c:Sem α):=by
 unfold boundsPanic
 dsimp only
 split
 ·exact Af (calm_map (Df _)) fun _=>Bh _
 ·exact Af (Ai _) fun _=>Bh _
theorem D8 (v:Value):calm P wr (asIntOf v):=by
 unfold asIntOf
 split<;>first|trivial|exact Am _|exact Al _
theorem Ei (v:Value):calm P wr (asInt v):=Af (D8 v) fun _=>trivial
theorem Hj (v:Value):calm P wr (asBool v):=by unfold asBool;split;trivial;exact Al _
theorem calm_asAgg (v:Value):calm P wr (asAgg v):=by unfold asAgg;split;trivial;exact Al _
theorem Dx (v:Value):calm P wr (asAddr v):=by
 unfold asAddr
 split<;>first|trivial|exact Bh _|exact Al _
theorem Cx (v:Value):calm P wr (Instr.sureAddr v):=by unfold Instr.sureAddr;split;trivial;exact Al _
theorem G4 (a:Addr):∀ (n i:Nat) (acc:Array Value),calm P wr (loadCellsFrom a i n acc)
 |0,_,_=>trivial
 |n+1,i,acc=>by unfold loadCellsFrom;exact Af (Ie _ _) fun v=>G4 a n (i+1) _
theorem E7 (a:Addr) (n:Nat):calm P wr (loadCells a n):=G4 a n 0 _
theorem Dj (h:wr=true) (a:Addr):∀ (vs:List Value) (i:Nat),calm P wr (storeCells a vs i)
 | [],_=>trivial
 |v :: r,i=>by unfold storeCells;exact Af (calm_store h _ _ _) fun _=>Dj h a r (i+1)
theorem Gj (t:TypeId) (a:Addr):calm P wr (loadVar t a):=by
 unfold loadVar
 refine Af (calm_isAgg t) fun b=>?_
 split
 ·exact Af (Bi _) fun _=>Af (E7 _ _) fun _=>trivial
 ·exact Ie _ _
theorem calm_storeVar (h:wr=true) (t:TypeId) (a:Addr) (v:Value):calm P wr (storeVar t a v):=by
 unfold storeVar
 refine Af (Bi t) fun n=>?_
 dsimp only
 split
 ·exact Af (Al _) fun _=>Dj h _ _ _
 ·exact Dj h _ _ _
theorem Dm (t:TypeId) (cs:Array Value) (o:Nat):calm P wr (part t cs o):=by
 unfold part
 refine Af (calm_isAgg t) fun b=>?_
 split
 ·exact Af (Bi _) fun _=>trivial
 ·split;trivial;exact Al _
theorem calm_mapLoop {f:α->Sem β}(h:∀ a,calm P wr (f a)):∀ (l:List α) (acc:List β),calm P wr (List.mapM.loop f l acc)
 | [],_=>trivial
 |a :: l,_=>Af (h a) fun _=>calm_mapLoop h l _
theorem calm_listMapM {f:α->Sem β}(h:∀ a,calm P wr (f a)) (l:List α):calm P wr (l.mapM f):=calm_mapLoop h l []
theorem G6 {σ:Type}{f:α->σ->Sem (ForInStep σ)}(h:∀ a s,calm P wr (f a s)):∀ (l:List α) (s:σ),calm P wr (forIn l s f)
 | [],_=>trivial
 |a :: l,s=>by
  rw[List.forIn_cons]
  exact Af (h a s) fun r=>by cases r with
   |done b=>trivial
   |yield b=>exact G6 h l b
theorem calm_arrayForIn {σ:Type}{f:α->σ->Sem (ForInStep σ)}(h:∀ a s,calm P wr (f a s)) (l:Array α) (s:σ):calm P wr (forIn l s f):=by
 rw[←Array.forIn_toList]
 exact G6 h _ _
theorem calm_arrayMapM {f:α->Sem β}(h:∀ a,calm P wr (f a)) (l:Array α):calm P wr (l.mapM f):=by
 rw[Array.mapM_eq_mapM_toList]
 exact calm_map (calm_listMapM h _)
end
section
variable {P:Program}{wr:Bool}{α β:Type}
theorem F2 (r:Nat):calm P wr (viewAt r):=by
 unfold viewAt
 repeat' (first|with_reducible (first|exact Ai _|exact Dw _|exact Er _|refine Af ?_ (fun _=>?_))|split|dsimp only)
theorem Fs (r:Nat):calm P wr (numberAt r):=by
 unfold numberAt
 repeat' (first|with_reducible (first|exact Ai _|exact Dw _|exact Er _|refine Af ?_ (fun _=>?_))|split|dsimp only)
theorem Ht (a:Addr) (l:Bool):calm P wr (asNumber a l):=by
 unfold asNumber
 repeat' (first|with_reducible (first|exact Ai _|exact F3 _|refine Af ?_ (fun _=>?_))|split|dsimp only)
theorem Cu (n:Addr):calm P wr (behindNumber n):=by
 unfold behindNumber
 repeat' (first|with_reducible (first|exact Fs _|exact Ai _|refine Af ?_ (fun _=>?_))|split|dsimp only)
theorem calm_noView (a:Addr):calm P wr (noView a):=by
 unfold noView
 repeat' (first|with_reducible (first|exact F2 _|exact Ai _|exact Am _|refine Af ?_ (fun _=>?_))|split|dsimp only)
theorem Es (a:Addr):calm P wr (byteOf a):=by
 unfold byteOf
 repeat' (first|with_reducible (first|exact calm_noView _|exact Ai _|exact Al _|exact B0|exact Dw _|refine Af ?_ (fun _=>?_))|split|dsimp only)
theorem calm_partAt (a:Addr) (c b:Nat):calm P wr (partAt a c b):=by
 unfold partAt
 repeat' (first|with_reducible (first|exact Es _|exact Ai _|refine Af ?_ (fun _=>?_))|split|dsimp only)
theorem F7 (a:Addr) (f:Field):calm P wr (fieldPlace a f):=by
 unfold fieldPlace
 repeat' (first|with_reducible (first|exact calm_partAt _ _ _|exact Ai _|exact Bi _|refine Af ?_ (fun _=>?_))|split|dsimp only)
theorem calm_typeStr (t:TypeId):calm P wr (typeStr t):=by
 unfold typeStr
 repeat' (first|with_reducible (first|exact Ai _|exact Am _|exact Bs _|refine Af ?_ (fun _=>?_))|split|dsimp only)
theorem calm_alloc (e:TypeId):calm P wr (Instr.alloc e true (.tuple #[])):=by
 unfold Instr.alloc
 repeat' (first|with_reducible (first|exact Ai _|exact Co _|exact Eo _ _|refine Af ?_ (fun _=>?_))|split|dsimp only)
theorem calm_box (e:TypeId) (v:Value):calm P wr (Instr.box e v):=by
 unfold Instr.box
 repeat' (first|with_reducible (first|exact Ai _|exact Eo _ _|refine Af ?_ (fun _=>?_))|split|dsimp only)
theorem calm_build (t:TypeId) (ps:Array (Nat×Value)):calm P wr (Instr.build t ps):=by
 unfold Instr.build
 repeat' (first|with_reducible (first|exact calm_arrayMapM (fun f=>Af (Bi _) fun _=>Ai _) _|exact Ai _|exact Al _|exact Ay _|exact Co _|exact Bi _|refine Af ?_ (fun _=>?_))|split|dsimp only)
theorem F8 (t:TypeId) (l:Nat) (ps:Array (Nat×Value)):calm P wr (Instr.buildSlice t l ps):=by
 unfold Instr.buildSlice
 repeat' (first|with_reducible (first|exact Ai _|exact Al _|exact Am _|exact Ay _|exact Co _|exact Bi _|exact Ep _ _|refine Af ?_ (fun _=>?_))|split|dsimp only)
theorem calm_loadAt (t:TypeId) (a:Value):calm P wr (Instr.loadAt t a):=by
 unfold Instr.loadAt
 repeat' (first|with_reducible (first|exact Cx _|exact Gj _ _|refine Af ?_ (fun _=>?_))|split|dsimp only)
theorem calm_storeAt (h:wr=true) (t:TypeId) (a x:Value):calm P wr (Instr.storeAt t a x):=by
 unfold Instr.storeAt
 repeat' (first|with_reducible (first|exact calm_storeVar h _ _ _|exact Cx _|refine Af ?_ (fun _=>?_))|split|dsimp only)
theorem calm_fieldAt (s:TypeId) (a:Value) (f:Nat):calm P wr (Instr.fieldAt s a f):=by
 unfold Instr.fieldAt
 repeat' (first|with_reducible (first|exact F7 _ _|exact Ai _|exact Al _|exact Ay _|exact Cx _|refine Af ?_ (fun _=>?_))|split|dsimp only)
theorem calm_indexAt (t:TypeId) (x i:Value):calm P wr (Instr.indexAt t x i):=by
 unfold Instr.indexAt
 repeat' (first|with_reducible (first|exact Ai _|exact Al _|exact Am _|exact Dc _ _ _ _|exact Ay _|exact Bi _|exact D8 _|exact Cx _|refine Af ?_ (fun _=>?_))|split|dsimp only)
theorem F6 (x:Value) (y:Nat) (c:BoundsCode):calm P wr (Instr.sliceBound x y c):=by
 unfold Instr.sliceBound
 repeat' (first|with_reducible (first|exact Ai _|exact Dc _ _ _ _|exact D8 _|refine Af ?_ (fun _=>?_))|split|dsimp only)
theorem D7 (b:Bool) (l c:Nat) (x y z:Option Value):calm P wr (Instr.sliceBounds b l c x y z):=by
 unfold Instr.sliceBounds
 repeat' (first|with_reducible (first|exact F6 _ _ _|exact Ai _|exact Al _|refine Af ?_ (fun _=>?_))|split|dsimp only)
theorem calm_slice (t:TypeId) (x:Value) (l h m:Option Value):calm P wr (Instr.slice t x l h m):=by
 unfold Instr.slice
 repeat' (first|with_reducible (first|exact D7 _ _ _ _ _ _|exact Ai _|exact Al _|exact Ay _|exact Bi _|exact Dx _|refine Af ?_ (fun _=>?_))|split|dsimp only)
theorem calm_sliceAt (t:TypeId) (x:Value) (l h m:Option Value):calm P wr (Instr.sliceAt t x l h m):=by
 unfold Instr.sliceAt
 repeat' (first|with_reducible (first|exact D7 _ _ _ _ _ _|exact calm_slice _ _ _ _ _|exact Ai _|exact Ay _|exact Bi _|exact Cx _|refine Af ?_ (fun _=>?_))|split|dsimp only)
theorem Hs (t:TypeId) (s:Value):calm P wr (Instr.makeChan t s):=by
 unfold Instr.makeChan
 repeat' (first|with_reducible (first|exact Ai _|exact Al _|exact Bh _|exact F3 _|exact Bs _|exact Ay _|exact Ei _|refine Af ?_ (fun _=>?_))|split|dsimp only)
theorem G3 (t:TypeId) (l c:Value):calm P wr (Instr.makeSlice t l c):=by
 unfold Instr.makeSlice
 repeat' (first|with_reducible (first|exact Ai _|exact Al _|exact Bh _|exact Df _|exact Gm _|exact Bs _|exact Ay _|exact Co _|exact Bi _|exact Ep _ _|exact Ei _|refine Af ?_ (fun _=>?_))|split|dsimp only)
theorem calm_field (t:TypeId) (x:Value) (f:Nat):calm P wr (Instr.field t x f):=by
 unfold Instr.field
 repeat' (first|with_reducible (first|exact Al _|exact Ay _|exact calm_asAgg _|exact Dm _ _ _|refine Af ?_ (fun _=>?_))|split|dsimp only)
theorem calm_index (t:TypeId) (x i:Value):calm P wr (Instr.index t x i):=by
 unfold Instr.index
 repeat' (first|with_reducible (first|exact Ai _|exact Al _|exact Dc _ _ _ _|exact Ay _|exact Bi _|exact D8 _|exact Dm _ _ _|refine Af ?_ (fun _=>?_))|split|dsimp only)
theorem calm_extract (t:Value) (i:Nat):calm P wr (Instr.extract t i):=by
 unfold Instr.extract
 repeat' (first|with_reducible (first|exact Ai _|exact Al _ )|split|dsimp only)
theorem calm_len (ts:Array TypeId) (t:TypeId) (as:Array Value):calm P wr (Builtin.len_ ts t as):=by
 unfold Builtin.len_
 repeat' (first|with_reducible (first|exact Ai _|exact Al _|exact Er _|exact Ay _|refine Af ?_ (fun _=>?_))|split|dsimp only)
theorem calm_cap (ts:Array TypeId) (t:TypeId) (as:Array Value):calm P wr (Builtin.cap_ ts t as):=by
 unfold Builtin.cap_
 repeat' (first|with_reducible (first|exact Ai _|exact Al _|exact Er _|exact Ay _|refine Af ?_ (fun _=>?_))|split|dsimp only)
theorem calm_lenOf (v:Value):calm P wr (Builtin.lenOf v):=by
 unfold Builtin.lenOf
 repeat' (first|with_reducible (first|exact Ai _|exact Al _ )|split|dsimp only)
theorem Ef (s n:Nat) (v:Value):calm P wr (Builtin.firstCells s n v):=by
 unfold Builtin.firstCells
 repeat' (first|with_reducible (first|exact Ai _|exact Al _|exact E7 _ _ )|split|dsimp only)
theorem calm_holdsCells (a:Addr) (n:Nat):calm P wr (Builtin.holdsCells a n):=by
 unfold Builtin.holdsCells
 repeat' (first|with_reducible (first|exact Ai _|exact Dw _|refine Af ?_ (fun _=>?_))|split|dsimp only)
theorem calm_copy (h:wr=true) (ts:Array TypeId) (t:TypeId) (as:Array Value):calm P wr (Builtin.copy_ ts t as):=by
 unfold Builtin.copy_
 repeat' (first|with_reducible (first|exact Dj h _ _ _|exact calm_lenOf _|exact Ef _ _ _|exact Ai _|exact Al _|exact Ay _|exact Bi _|refine Af ?_ (fun _=>?_))|split|dsimp only)
theorem Ft (op:BinOp) (k:IntKind) (x y:Int):calm P wr (Op.intArith op k x y):=by
 unfold Op.intArith
 repeat' (first|with_reducible (first|exact Ai _|exact Al _ )|split|dsimp only)
theorem calm_intDiv (op:BinOp) (k:IntKind) (x y:Int):calm P wr (Op.intDiv op k x y):=by
 unfold Op.intDiv
 repeat' (first|with_reducible (first|exact Ai _|exact Al _|exact Bh _ )|split|dsimp only)
theorem Gk (op:BinOp) (k:IntKind) (x y:Int):calm P wr (Op.intBits op k x y):=by
 unfold Op.intBits
 repeat' (first|with_reducible (first|exact Ai _|exact Al _ )|split|dsimp only)
theorem calm_intCmp (op:BinOp) (x y:Int):calm P wr (Op.intCmp op x y):=by
 unfold Op.intCmp
 repeat' (first|with_reducible (first|exact Ai _|exact Al _ )|split|dsimp only)
theorem calm_shift (op:BinOp) (k:IntKind) (x:Int) (k':IntKind) (y:Int):calm P wr (Op.shift op k x k' y):=by
 unfold Op.shift
 repeat' (first|with_reducible (first|exact Ai _|exact Al _|exact Bh _ )|split|dsimp only)
theorem Hq (op:BinOp) (x y:ByteArray):calm P wr (Op.stringOp op x y):=by
 unfold Op.stringOp
 repeat' (first|with_reducible (first|exact Ai _|exact Al _|exact Am _ )|split|dsimp only)
theorem Ee (op:BinOp) (k:FloatKind) (x y:Nat):calm P wr (Op.floatArith op k x y):=by
 unfold Op.floatArith
 repeat' (first|with_reducible (first|exact Ai _|exact Al _|exact Df _|refine Af ?_ (fun _=>?_))|split|dsimp only)
theorem Fu (op:BinOp) (k:FloatKind) (x y:Nat):calm P wr (Op.floatCmp op k x y):=by
 unfold Op.floatCmp
 repeat' (first|with_reducible (first|exact Ai _|exact Al _ )|split|dsimp only)
theorem E5 (a b:Addr):calm P wr (Op.twoPlaces a b):=by
 unfold Op.twoPlaces
 repeat' (first|with_reducible (first|exact Es _|exact Ai _|exact Am _|exact B0|refine Af ?_ (fun _=>?_))|split|dsimp only)
theorem calm_addrSub (k:IntKind) (a b:Addr):calm P wr (Op.addrSub k a b):=by
 unfold Op.addrSub
 repeat' (first|with_reducible (first|exact E5 _ _|exact Ai _|refine Af ?_ (fun _=>?_))|split|dsimp only)
theorem calm_addrCmp (op:BinOp) (a b:Addr):calm P wr (Op.addrCmp op a b):=by
 unfold Op.addrCmp
 repeat' (first|with_reducible (first|exact E5 _ _|exact Ai _|exact Am _|refine Af ?_ (fun _=>?_))|split|dsimp only)
theorem calm_addrMod (k:IntKind) (a:Addr) (n:Int):calm P wr (Op.addrMod k a n):=by
 unfold Op.addrMod
 repeat' (first|with_reducible (first|exact Es _|exact Ai _|exact Am _|exact Dw _|exact Bs _|refine Af ?_ (fun _=>?_))|split|dsimp only)
theorem E3 (t:TypeId) (x y:Value):calm P wr (Builtin.unsafeAdd_ #[] t #[x,y]):=by
 cases x
 case pointer p =>
  refine Af (Ei y) fun n=>?_
  repeat' (first|with_reducible (first|exact F2 _|exact Ai _|exact Al _|exact Am _|exact B0|exact Dw _|exact Ei _|refine Af ?_ (fun _=>?_))|split|dsimp only)
 all_goals exact Al _
theorem Fj (t:TypeId) (x y:Value):calm P wr (movedNumber t x y):=by
 unfold movedNumber
 repeat' (first|with_reducible (first|exact Ht _ _|exact Cu _|exact E3 _ _ _|exact Ai _|exact Am _|exact Ay _|refine Af ?_ (fun _=>?_))|split|dsimp only)
theorem E6 (t:TypeId) (x y:Value):calm P wr (movedPointer t x y):=by
 unfold movedPointer
 repeat' (first|with_reducible (first|exact Fs _|exact E3 _ _ _|exact Am _|refine Af ?_ (fun _=>?_))|split|dsimp only)
theorem calm_unary (op:UnOp) (x:Value):calm P wr (Op.unary op x):=by
 unfold Op.unary
 repeat' (first|with_reducible (first|exact Ft _ _ _ _|exact Gk _ _ _ _|exact Ai _|exact Al _|exact Am _ )|split|dsimp only)
theorem E9 (s:FloatKind) (x:Nat) (d:FloatKind):calm P wr (Conv.floatToFloat s x d):=by
 unfold Conv.floatToFloat
 repeat' (first|with_reducible (first|exact Ai _|exact Df _|refine Af ?_ (fun _=>?_))|split|dsimp only)
end
section
variable {P:Program}{wr:Bool}{α β:Type}
theorem calm_rangeForIn {σ:Type}{f:Nat->σ->Sem (ForInStep σ)}(h:∀ a s,calm P wr (f a s)) (r:Std.Legacy.Range) (s:σ):calm P wr (forIn r s f):=by
 rw[Std.Legacy.Range.forIn_eq_forIn_range']
 exact G6 h _ _
def flatT (P:Program) (t:TypeId):Bool :=
 match P.underlying t with
 |some .bool|some (.int _)|some (.float _)|some (.complex _)|some .string|some (.chan ..)|some (.slice _)|some (.map ..)|some (.func ..)=>true
 |_=>false
def isPtr (P:Program) (t:TypeId):Bool :=
 match P.underlying t with
 |some (.pointer _)=>true
 |_=>false
theorem Ic {α:Type}{t:TypeId}{f:TypeDesc->Sem α}(h:∀ d,P.underlying t=some d->calm P wr (f d)):calm P wr (underlying t >>= f):=by
 show calm P wr ((underlying t).bind f)
 unfold underlying
 simp only[program,bind,Sem.bind,calm]
 split
 ·rename_i d hd;exact h d hd
 ·exact Al _
theorem calm_equal_flat {t:TypeId}(ht:flatT P t=true) (x y:Value):calm P wr (Op.equal t x y):=by
 show calm P wr (Op.equalIn (9999+1) t x y)
 unfold Op.equalIn
 refine Ic fun d hd=>?_
 unfold flatT at ht
 rw[hd] at ht
 split
 all_goals first|(exfalso;revert ht;simp;done)|repeat' (first|with_reducible (first|exact Cu _|exact Es _|exact Ai _|exact Al _|exact Am _|exact B0|exact Bs _|refine Af ?_ (fun _=>?_))|split|dsimp only)
theorem calm_equal_nil {t:TypeId}(ht:isPtr P t=true) {x y:Value}(h:x=.pointer none∨y=.pointer none):calm P wr (Op.equal t x y):=by
 show calm P wr (Op.equalIn (9999+1) t x y)
 unfold Op.equalIn
 refine Ic fun d hd=>?_
 unfold isPtr at ht
 rw[hd] at ht
 cases d<;>simp only[Bool.false_eq_true] at ht
 rcases h with rfl|rfl
 ·cases y<;>first|exact Ai _|exact Al _
 ·cases x
  case pointer p=>cases p<;>exact Ai _
  all_goals exact Al _
theorem calm_eqGuardIn:∀ (d:Nat) (t:TypeId) (x y:Value),calm P wr (Op.eqGuardIn d t x y):=by
 intro d
 induction d with
 |zero=>intro t x y;exact Am _
 |succ d ih =>
  intro t x y
  unfold Op.eqGuardIn
  repeat' (first|with_reducible (first|exact ih _ _ _|exact Ai _|exact Am _|exact Ay _|exact Bi _|exact Dm _ _ _|(refine calm_arrayForIn (fun _ _=>?_) _ _)|(refine calm_rangeForIn (fun _ _=>?_) _ _)|refine Af ?_ (fun _=>?_))|split|dsimp only)
end
section
variable {P:Program}{wr:Bool}{α β:Type}
theorem F4 (op:BinOp) (k:FloatKind) (x y:Nat):calm P wr (Op.Complex.arith op k x y):=by
 unfold Op.Complex.arith
 repeat' (first|with_reducible (first|exact Ee _ _ _ _|exact Ai _|exact Al _|refine Af ?_ (fun _=>?_))|split|dsimp only)
theorem calm_ccmp (op:BinOp) (k:FloatKind) (x y:Nat):calm P wr (Op.Complex.cmp op k x y):=by
 unfold Op.Complex.cmp
 repeat' (first|with_reducible (first|exact Fu _ _ _ _|exact Hj _|refine Af ?_ (fun _=>?_))|split|dsimp only)
theorem calm_cconv (s:FloatKind) (x:Nat) (d:FloatKind):calm P wr (Op.Complex.conv s x d):=by
 unfold Op.Complex.conv
 repeat' (first|with_reducible (first|exact E9 _ _ _|exact Ai _|exact Al _|refine Af ?_ (fun _=>?_))|split|dsimp only)
theorem calm_cadd (x y:Nat):calm P wr (Op.Complex.add x y):=F4 _ _ _ _
theorem calm_csub (x y:Nat):calm P wr (Op.Complex.sub x y):=F4 _ _ _ _
theorem calm_cmul (x y:Nat):calm P wr (Op.Complex.mul x y):=F4 _ _ _ _
theorem calm_cquo (x y:Nat):calm P wr (Op.Complex.quo x y):=F4 _ _ _ _
theorem calm_cproduct (a b c d:Nat):calm P wr (Op.Complex.product a b c d):=by
 unfold Op.Complex.product
 repeat' (first|with_reducible (first|exact calm_cadd _ _|exact calm_csub _ _|exact calm_cmul _ _|exact Ai _|refine Af ?_ (fun _=>?_))|split|dsimp only)
theorem calm_ccorrected (s a b c d:Nat):calm P wr (Op.Complex.corrected s a b c d):=by
 unfold Op.Complex.corrected
 repeat' (first|with_reducible (first|exact calm_cadd _ _|exact calm_csub _ _|exact calm_cmul _ _|exact Ai _|refine Af ?_ (fun _=>?_))|split|dsimp only)
theorem calm_cquotient (a b c d:Nat):calm P wr (Op.Complex.quotient a b c d):=by
 unfold Op.Complex.quotient
 repeat' (first|with_reducible (first|exact calm_ccmp _ _ _ _|exact calm_cadd _ _|exact calm_csub _ _|exact calm_cmul _ _|exact calm_cquo _ _|exact calm_ccorrected _ _ _ _ _|exact Ai _|refine Af ?_ (fun _=>?_))|split|dsimp only)
theorem calm_complexOp (op:BinOp) (k:FloatKind) (a b c d:Nat):calm P wr (Op.complexOp op k a b c d):=by
 unfold Op.complexOp
 repeat' (first|with_reducible (first|exact F4 _ _ _ _|exact calm_ccmp _ _ _ _|exact calm_cconv _ _ _|exact calm_cproduct _ _ _ _|exact calm_cquotient _ _ _ _|exact Ai _|exact Al _|refine Af ?_ (fun _=>?_))|split|dsimp only)
theorem calm_eqGuard (op:BinOp) (t:TypeId) (x y:Operand) (a b:Value):calm P wr (eqGuard op t x y a b):=by
 unfold eqGuard
 repeat' (first|with_reducible (first|exact calm_eqGuardIn _ _ _ _|exact Ai _|exact Am _|exact B0|refine Af ?_ (fun _=>?_))|split|dsimp only)
def isNil:Operand->Bool
 |.const (.pointer none)=>true
 |_=>false
def eqOk (P:Program) (op:BinOp) (t:TypeId) (x y:Operand):Bool :=
 match op with
 |.eql|.neq=>flatT P t||(isPtr P t&&(isNil x||isNil y))
 |_=>true
theorem calm_binOp (op:BinOp) (t:TypeId) (x y:Value) (hq:op=.eql∨op=.neq->calm P wr (Op.equal t x y)):calm P wr (binOp op t x y):=by
 unfold binOp
 repeat' (first|with_reducible (first|exact Cu _|exact Ft _ _ _ _|exact calm_intDiv _ _ _ _|exact Gk _ _ _ _|exact calm_intCmp _ _ _|exact calm_shift _ _ _ _ _|exact Hq _ _ _|exact Ee _ _ _ _|exact Fu _ _ _ _|exact calm_addrSub _ _ _|exact calm_addrCmp _ _ _|exact calm_addrMod _ _ _|exact Fj _ _ _|exact E6 _ _ _|exact calm_complexOp _ _ _ _ _ _|exact hq (.inl rfl)|exact hq (.inr rfl)|exact Ai _|exact Al _|exact Am _|exact Ay _|refine Af ?_ (fun _=>?_))|split|dsimp only)
end
end Go.Lift
namespace Go.Lift
section
variable {P:Program}{wr:Bool}
theorem calm_ite {α:Type}{c:Prop} [Decidable c] {a b:Sem α}(ha:calm P wr a) (hb:calm P wr b):calm P wr (if c then a else b):=by split<;>assumption
def G7 (P:Program) (wr:Bool) {α:Type}:Sem α->Prop
 |.pure _=>True
 |.load _ _ k=>∀ v,G7 P wr (k v)
 |.store _ _ _ k=>wr=true∧G7 P wr k
 |.new _ k=>∀ r,G7 P wr (k r)
 |.shape _ k=>∀ s,G7 P wr (k s)
 |.freeze _ _ _=>False
 |.frozen _ k=>∀ b,G7 P wr (k b)
 |.getObj _ k=>∀ o,G7 P wr (k o)
 |.setObj _ _ _=>False
 |.choose _ k=>∀ n,G7 P wr (k n)
 |.sys _ _=>False
 |.program k=>G7 P wr (k P)
 |.mark m k=>(m=.noRoom∨∃ f,m=.extern f)∧G7 P wr k
 |.halt h=>Soft h
theorem dead_right {α β:Type}{f:α->Sem β}(hf:∀ a,dead P (f a)):∀ {s:Sem α},G7 P wr s->dead P (s.bind f):=by
 intro s
 induction s with
 |pure a=>intro h;exact hf a
 |load m a k ih=>intro h v;exact ih v (h v)
 |store m a v k ih=>intro h;exact ih h.2
 |new o k ih=>intro h r;exact ih r (h r)
 |shape r k ih=>intro h s;exact ih s (h s)
 |freeze a n k ih=>intro h;exact h.elim
 |frozen a k ih=>intro h b;exact ih b (h b)
 |getObj r k ih=>intro h o;exact ih o (h o)
 |setObj r o k ih=>intro h;exact h.elim
 |choose q k ih=>intro h n;exact ih n (h n)
 |sys c k ih=>intro h;exact h.elim
 |program k ih=>intro h;exact ih P h
 |mark m k ih=>intro h;exact ih h.2
 |halt x=>intro h;trivial
theorem calm_dead {α β:Type}{f:α->Sem β}(hf:∀ a,calm P wr (f a)∧dead P (f a)):∀ {s:Sem α},G7 P wr s->calm P wr (s.bind f):=by
 intro s
 induction s with
 |pure a=>intro h;exact (hf a).1
 |load m a k ih=>intro h v;exact ih v (h v)
 |store m a v k ih=>intro h;exact ⟨h.1,ih h.2⟩
 |new o k ih=>intro h r;exact ih r (h r)
 |shape r k ih=>intro h s;exact ih s (h s)
 |freeze a n k ih=>intro h;exact h.elim
 |frozen a k ih=>intro h;exact ⟨fun b=>ih b (h b),dead_right (fun a=>(hf a).2) (h true)⟩
 |getObj r k ih=>intro h o;exact ih o (h o)
 |setObj r o k ih=>intro h;exact h.elim
 |choose q k ih=>intro h n;exact ih n (h n)
 |sys c k ih=>intro h;exact h.elim
 |program k ih=>intro h;exact ih P h
 |mark m k ih=>intro h;exact ⟨h.1,ih h.2⟩
 |halt x=>intro h;exact h
theorem calm0_mayShare (s l n:Nat) (b:Option Addr) (x:Value):G7 P wr (Builtin.mayShare s l n b x):=by
 have hh:∀ (a:Addr) (m:Nat) {β:Type} (f:Bool->Sem β),(∀ t,G7 P wr (f t))->G7 P wr ((Builtin.holdsCells a m).bind f):=fun a m β f hf=>by
  unfold Builtin.holdsCells
  intro s
  cases s with
  |none=>exact hf _
  |some s=>exact hf _
 have tail:∀ there:Bool,G7 P wr (if (!there)=true then pure true else match x with
  |.slice (some bb) _ _=>do pure (!(←Builtin.holdsCells bb (n*s))||b.any (·.block==bb.block))
  |_=>pure false:Sem Bool):=fun there=>by
  split
  ·trivial
  ·split
   ·exact hh _ _ _ fun _=>trivial
   ·trivial
 unfold Builtin.mayShare
 cases b with
 |none=>exact tail true
 |some a=>exact hh _ _ _ fun t u=>tail _
theorem calm_share {β:Type}{s l n:Nat}{b:Option Addr}{x:Value}{f:Bool->Sem β}(hf:∀ a,calm P wr (f a)∧dead P (f a)):calm P wr (Builtin.mayShare s l n b x >>= f):=calm_dead hf (calm0_mayShare _ _ _ _ _)
theorem calm_ends {a b c:Nat}{o:Option Addr}{x:Value}{y:String}:calm P wr (do
 if !(←Builtin.mayShare a b c o x) then mark .noRoom
 unsupported (.resourceLimit y):Sem Unit):=by
 refine calm_share (fun t=>?_)
 cases t
 ·refine ⟨?_,?_⟩
  ·exact Af Hr fun _=>Am _
  ·trivial
 ·refine ⟨?_,?_⟩
  ·exact Am _
  ·trivial
theorem calm_append (h:wr=true) (ts:Array TypeId) (t:TypeId) (as:Array Value):calm P wr (Builtin.append_ ts t as):=by
 unfold Builtin.append_
 repeat' (first|exact calm_ends|with_reducible (first|exact Dj h _ _ _|exact Ef _ _ _|exact calm_lenOf _|exact Ai _|exact Al _|exact Bh _|exact Df _|exact Gm _|exact Bs _|exact Ay _|exact Co _|exact Bi _|exact Ep _ _|exact Ei _|refine calm_ite ?_ ?_|refine Af ?_ (fun _=>?_))|split|dsimp only)
end
end Go.Lift
namespace Go.Lift
open Go.Conc
section
variable {P:Program}{wr:Bool}{L:FuncId->Prop}
theorem out_bind {α:Type}{R:Next->Prop}{k:α->Sem Next}(hk:∀ a w x w',(k a).run P w=.ok x w'->R x) {s:Sem α}:∀ {w:World}{x:Next}{w':World},(s.bind k).run P w=.ok x w'->R x:=by
 induction s with
 |pure a=>intro w x w' h;exact hk _ _ _ _ h
 |load m a j ih =>
  intro w x w' h
  simp only[Sem.bind,Sem.run] at h
  split at h
  ·exact ih _ h
  ·split at h
   ·exact ih _ h
   ·cases h
 |store m a v j ih =>
  intro w x w' h
  cases v
  case agg=>cases h
  case tuple=>cases h
  all_goals
   simp only[Sem.bind,Sem.run] at h
   split at h
   ·split at h
    ·cases h
    ·exact ih h
   ·split at h
    ·exact ih h
    ·cases h
 |new o j ih=>intro w x w' h;exact ih _ h
 |shape r j ih=>intro w x w' h;exact ih _ h
 |freeze a n j ih=>intro w x w' h;exact ih h
 |frozen a j ih=>intro w x w' h;exact ih _ h
 |getObj r j ih =>
  intro w x w' h
  simp only[Sem.bind,Sem.run] at h
  split at h
  ·cases h
  ·exact ih _ h
  ·cases h
 |setObj r o j ih =>
  intro w x w' h
  simp only[Sem.bind,Sem.run] at h
  split at h
  ·cases h
  ·exact ih h
  ·cases h
 |choose q j ih =>
  intro w x w' h
  simp only[Sem.bind,Sem.run] at h
  split at h<;>exact ih _ h
 |sys c j ih=>intro w x w' h;exact ih _ h
 |program j ih=>intro w x w' h;exact ih _ h
 |mark m j ih=>intro w x w' h;exact ih h
 |halt y=>intro w x w' h;cases h
theorem val_out {s:Sem Value}{w:World}{x:Next}{w':World}(h:(s.bind fun v=>Sem.pure (Next.value v)).run P w=.ok x w'):∃ v,x=.value v :=
 out_bind (R:=fun x=>∃ v,x=.value v) (fun a w x w' e=>by cases e;exact ⟨_,rfl⟩) h
theorem skip_out {s:Sem Unit}{w:World}{x:Next}{w':World}(h:(s.bind fun _=>Sem.pure Next.skip).run P w=.ok x w'):x=.skip :=
 out_bind (R:=fun x=>x=.skip) (fun a w x w' e=>by cases e;rfl) h
theorem Bz {o:Oper}(s:(Operand->Value)->Sem Value) (he:∀ ρ,execOp ρ o=(s ρ).bind fun v=>Sem.pure (Next.value v)) (hc:∀ ρ,calm P wr (s ρ)):Dn P wr L o:=fun a=>by
 rw[he a.eval]
 exact ⟨Cf (hc a.eval) fun _=>trivial,fun w x w' h=>.inl (val_out h)⟩
theorem fine_unit {o:Oper}(s:(Operand->Value)->Sem Unit) (he:∀ ρ,execOp ρ o=(s ρ).bind fun _=>Sem.pure Next.skip) (hc:∀ ρ,calm P wr (s ρ)):Dn P wr L o:=fun a=>by
 rw[he a.eval]
 exact ⟨Cf (hc a.eval) fun _=>trivial,fun w x w' h=>.inr (.inl (skip_out h))⟩
theorem calm_followBlind:∀ (l:List FieldStep) (t:TypeId) (x:Option Value),calm P wr (followBlind l t x):=by
 intro l
 induction l with
 |nil=>intro t x;exact Ai _
 |cons s l ih =>
  intro t x
  unfold followBlind
  repeat' (first|with_reducible (first|exact ih _ _|exact Ai _|exact Al _|exact Ay _|exact Dm _ _ _|refine Af ?_ (fun _=>?_))|split|dsimp only)
theorem calm_nilAhead:∀ (d:Nat) (t:TypeId) (v:Value) (n:String),calm P wr (nilAhead d t v n):=by
 intro d
 induction d with
 |zero=>intro t v n;exact Ai _
 |succ d ih =>
  intro t v n
  unfold nilAhead
  repeat' (first|with_reducible (first|exact ih _ _ _|exact calm_followBlind _ _ _|exact Ai _|exact Al _|exact Bs _|exact Ay _|refine Af ?_ (fun _=>?_))|split|dsimp only)
theorem fine_nilCheck {o:Oper}{x:Operand}(ho:o.op=.nilCheck x):Dn P wr L o:=fun a=>by
 unfold execOp
 rw[ho]
 dsimp only
 constructor
 ·repeat' (first|with_reducible (first|exact calm_nilAhead _ _ _ _|exact F2 _|exact Fs _|exact Ht _ _|exact Cu _|exact calm_noView _|exact Es _|exact calm_partAt _ _ _|exact F7 _ _|exact calm_typeStr _|exact calm_alloc _|exact calm_box _ _|exact calm_build _ _|exact F8 _ _ _|exact calm_loadAt _ _|exact calm_fieldAt _ _ _|exact calm_indexAt _ _ _|exact F6 _ _ _|exact D7 _ _ _ _ _ _|exact calm_slice _ _ _ _ _|exact calm_sliceAt _ _ _ _ _|exact Hs _ _|exact G3 _ _ _|exact calm_field _ _ _|exact calm_index _ _ _|exact calm_extract _ _|exact calm_len _ _ _|exact calm_cap _ _ _|exact calm_lenOf _|exact Ef _ _ _|exact calm_holdsCells _ _|exact Ft _ _ _ _|exact calm_intDiv _ _ _ _|exact Gk _ _ _ _|exact calm_intCmp _ _ _|exact calm_shift _ _ _ _ _|exact Hq _ _ _|exact Ee _ _ _ _|exact Fu _ _ _ _|exact E5 _ _|exact calm_addrSub _ _ _|exact calm_addrCmp _ _ _|exact calm_addrMod _ _ _|exact E3 _ _ _|exact Fj _ _ _|exact E6 _ _ _|exact calm_unary _ _|exact E9 _ _ _|exact Ai _|exact Al _|exact Am _|exact E8 _|exact Bh _|exact Dc _ _ _ _|exact B0|exact Dw _|exact Er _|exact F3 _|exact Df _|exact Ie _ _|exact Gm _|exact Bs _|exact Ay _|exact Co _|exact Bi _|exact calm_isAgg _|exact Hh _|exact Ep _ _|exact Eo _ _|exact D8 _|exact Ei _|exact Hj _|exact calm_asAgg _|exact Dx _|exact Cx _|exact E7 _ _|exact Gj _ _|exact Dm _ _ _|exact Hr|exact calm_markExtern _|apply calm_map|refine Af ?_ (fun _=>?_))|split|dsimp only)
 ·intro w y w' h
  split at h
  ·exact absurd h (by simp[runtimePanic,program,goPanic,bind,Sem.bind,Sem.run])
  ·exact absurd h (by simp[runtimePanic,program,goPanic,bind,Sem.bind,Sem.run])
  ·exact absurd h (by simp[runtimePanic,program,goPanic,bind,Sem.bind,Sem.run])
  ·left
   split at h
   ·exact absurd h (by simp[runtimePanic,program,goPanic,bind,Sem.bind,Sem.run])
   ·refine out_bind (P:=P) (R:=fun x=>∃ v,x=.value v) (fun a w x w' e=>?_) h
    refine out_bind (P:=P) (R:=fun x=>∃ v,x=.value v) (fun b w x w' e=>?_) e
    split at e
    ·exact absurd e (by simp[unsupported,bind,Sem.bind])
    ·cases e;exact ⟨_,rfl⟩
   ·cases h;exact ⟨_,rfl⟩
  ·cases h;exact .inl ⟨_,rfl⟩
def intT (P:Program) (t:TypeId):Bool :=
 match P.underlying t with
 |some (.int _)=>true
 |_=>false
theorem calm_convert {s d:TypeId}(h:(intT P s&&intT P d)=true) (x:Value):calm P wr (convert s d x):=by
 obtain ⟨hs,hd⟩:=Bool.and_eq_true_iff.1 h
 unfold convert
 refine Ic fun ds es=>?_
 refine Ic fun dd ed=>?_
 unfold intT at hs hd
 rw[es] at hs
 rw[ed] at hd
 cases ds<;>simp at hs
 cases dd<;>simp at hd
 split
 all_goals first
  |contradiction
  |exact Ai _
  |exact Am _
  |(unfold Conv.floatToInt;repeat' (first|with_reducible (first|exact Ai _|exact Df _|exact Al _|exact Am _|refine Af ?_ (fun _=>?_))|split|dsimp only))
def Hb (P:Program) (wr:Bool):Op->Bool
 |.move _|.assign _|.alloc _|.box .. | .build .. | .buildSlice .. | .load .. | .unOp .. | .makeFunc .. | .makeChan .. | .makeSlice .. | .slice .. | .fieldAddr .. | .field .. | .indexAddr .. | .index .. | .extract ..=>true
 |.binOp op t x y _=>eqOk P op t x y
 |.convert a b _=>intT P a&&intT P b
 |.store ..=>wr
 |.nilCheck _|.pick ..=>true
 |.call { callee:=.builtin .len,.. }|.call { callee:=.builtin .cap,.. }=>true
 |.call { callee:=.builtin .copy,.. }|.call { callee:=.builtin .append,.. }=>wr
 |_=>false
theorem equal_ok {op:BinOp}{t:TypeId}{x y:Operand}(h:eqOk P op t x y=true) (a:Act) (ho:op=.eql∨op=.neq):calm P wr (Op.equal t (a.eval x) (a.eval y)):=by
 have h':(flatT P t||(isPtr P t&&(isNil x||isNil y)))=true:=by
  rcases ho with rfl|rfl<;>exact h
 rcases Bool.or_eq_true_iff.1 h' with h1|h1
 ·exact calm_equal_flat h1 _ _
 ·obtain ⟨h2,h3⟩:=(Bool.and_eq_true _ _▸h1:_∧_)
  refine calm_equal_nil h2 ?_
  rcases Bool.or_eq_true_iff.1 h3 with h4|h4
  ·left;unfold isNil at h4;split at h4;rfl;cases h4
  ·right;unfold isNil at h4;split at h4;rfl;cases h4
theorem fine_plain {o:Oper}(h:Hb P wr o.op=true):Dn P wr L o:=by
 obtain ⟨dst,op,type,pos,after,guard⟩:=o
 cases op<;>simp only[Hb,Bool.false_eq_true] at h
 case move x=>exact fun ρ=>⟨trivial,fun w y w' e=>by cases e;exact .inl ⟨_,rfl⟩⟩
 case assign x=>exact fun ρ=>⟨trivial,fun w y w' e=>by cases e;exact .inl ⟨_,rfl⟩⟩
 case alloc e=>exact Bz (fun ρ=>Instr.alloc e true (.tuple #[])) (fun _=>rfl) (fun _=>calm_alloc _)
 case box e x=>exact Bz (fun ρ=>Instr.box e (ρ x)) (fun _=>rfl) (fun _=>calm_box _ _)
 case build t ps=>exact Bz (fun ρ=>Instr.build t (ps.map fun (i,x)=>(i,ρ x))) (fun _=>rfl) (fun _=>calm_build _ _)
 case buildSlice t l ps=>exact Bz (fun ρ=>Instr.buildSlice t l (ps.map fun (i,x)=>(i,ρ x))) (fun _=>rfl) (fun _=>F8 _ _ _)
 case load t a=>exact Bz (fun ρ=>Instr.loadAt t (ρ a)) (fun _=>rfl) (fun _=>calm_loadAt _ _)
 case store t a x=>exact fine_unit (fun ρ=>Instr.storeAt t (ρ a) (ρ x)) (fun _=>rfl) (fun _=>calm_storeAt h _ _ _)
 case nilCheck x=>exact fine_nilCheck rfl
 case pick c x y=>exact fun a=>⟨Af (Hj _) fun _=>Ai _,fun w z w' e=>.inl (out_bind (P:=P) (R:=fun x=>∃ v,x=.value v) (fun b w x w' e=>by cases e;exact ⟨_,rfl⟩) e)⟩
 case binOp op xt x y yt =>
  refine fun a=>?_
  have he:execOp a.eval { dst:=dst,op:=.binOp op xt x y yt,type:=type,pos:=pos,after:=after,guard:=guard }=(do eqGuard op xt x y (a.eval x) (a.eval y);binOp op xt (a.eval x) (a.eval y):Sem Value).bind fun v=>Sem.pure (Next.value v):=rfl
  rw[he]
  exact ⟨Cf (Af (calm_eqGuard _ _ _ _ _ _) fun _=>calm_binOp _ _ _ _ (equal_ok h a)) fun _=>trivial,fun w x w' h=>.inl (val_out h)⟩
 case convert a b x=>exact Bz (fun ρ=>convert a b (ρ x)) (fun _=>rfl) (fun _=>calm_convert h _)
 case unOp op t x=>exact Bz (fun ρ=>Op.unary op (ρ x)) (fun _=>rfl) (fun _=>calm_unary _ _)
 case makeFunc f a b=>exact Bz (fun ρ=>Instr.makeFunc f (a.map ρ) (b.map ρ)) (fun _=>rfl) (fun _=>Ai _)
 case makeChan t s=>exact Bz (fun ρ=>Instr.makeChan t (ρ s)) (fun _=>rfl) (fun _=>Hs _ _)
 case makeSlice t l c=>exact Bz (fun ρ=>Instr.makeSlice t (ρ l) (ρ c)) (fun _=>rfl) (fun _=>G3 _ _ _)
 case slice t x a b c=>exact Bz (fun ρ=>Instr.sliceAt t (ρ x) (a.map ρ) (b.map ρ) (c.map ρ)) (fun _=>rfl) (fun _=>calm_sliceAt _ _ _ _ _)
 case fieldAddr s x f=>exact Bz (fun ρ=>Instr.fieldAt s (ρ x) f) (fun _=>rfl) (fun _=>calm_fieldAt _ _ _)
 case field t x f=>exact Bz (fun ρ=>Instr.field t (ρ x) f) (fun _=>rfl) (fun _=>calm_field _ _ _)
 case indexAddr t x i=>exact Bz (fun ρ=>Instr.indexAt t (ρ x) (ρ i)) (fun _=>rfl) (fun _=>calm_indexAt _ _ _)
 case index t x i=>exact Bz (fun ρ=>Instr.index t (ρ x) (ρ i)) (fun _=>rfl) (fun _=>calm_index _ _ _)
 case extract t i=>exact Bz (fun ρ=>Instr.extract (ρ t) i) (fun _=>rfl) (fun _=>calm_extract _ _)
 case call c =>
  obtain ⟨callee,args,ats⟩:=c
  cases callee with
  |builtin b =>
   cases b<;>simp only[Bool.false_eq_true] at h
   case len=>exact Bz (fun ρ=>Builtin.len_ ats type (args.map ρ)) (fun _=>rfl) (fun _=>calm_len _ _ _)
   case cap=>exact Bz (fun ρ=>Builtin.cap_ ats type (args.map ρ)) (fun _=>rfl) (fun _=>calm_cap _ _ _)
   case append=>exact Bz (fun ρ=>Builtin.append_ ats type (args.map ρ)) (fun _=>rfl) (fun _=>calm_append h _ _ _)
   case copy=>exact Bz (fun ρ=>Builtin.copy_ ats type (args.map ρ)) (fun _=>rfl) (fun _=>calm_copy h _ _ _)
  |_=>simp only[Bool.false_eq_true] at h
theorem fine_call {o : Oper} {f : FuncId} {args : Array Operand} {ats : Array TypeId} {fn : Func} (ho : o.op = .call { callee := .value (.func f), args := args, argTypes := ats }) (hf : P.funcs[f]? = some fn) (hn : (fn.name == "runtime.NumGoroutine") = false) (hb : fn.body.isNone = false) (hL : L f) : Dn P wr L o := fun a => by
 have e:execOp a.eval o=callFunc f ((#[]++args.map a.eval)++#[]):=by
  unfold execOp
  rw[ho]
  rfl
 rw[e]
 constructor
 ·simp only[callFunc,program,bind,Sem.bind,calm,hf,hn,hb,Bool.false_eq_true,if_false]
  exact Ai _
 ·intro w x w' h
  simp only[callFunc,program,bind,Sem.bind,Sem.run,hf,hn,hb,Bool.false_eq_true,if_false] at h
  cases h
  exact .inr (.inr ⟨_,_,rfl,hL⟩)
end
section
variable {P:Program}{z:Nat->Option Nat}{wr:Bool}{L:FuncId->Prop}{D:World->World->Array Event->Prop}{I:World->Prop}{main:Bool}{b:Frame}{k:List Item}{cs:List Frame}
theorem GoesI.mono {D:World->World->Array Event->Prop}{Stop Stop':Goroutine->World->Prop}(h:∀ g w,Stop g w->Stop' g w) {g:Goroutine}{w:World}(hg:GoesI P main D Stop g w):GoesI P main D Stop' g w:=by
 exact hg.induct (M:=fun g w=>GoesI P main D Stop' g w) (fun _ _ hs=>.stop fun d=>h _ _ (hs d)) (fun _ _ hs g' w' es e hD _ ih=>.step hs g' w' es e hD ih)
theorem GoesI.at {D:World->World->Array Event->Prop}{Stop:Goroutine->World->Prop}{g:Goroutine}{w:World}(hg:GoesI P main D Stop g w) (d:Nat):GoesI P main D Stop g (w.at d):=by
 exact hg.induct (M:=fun g w=>∀ d,GoesI P main D Stop g (w.at d)) (fun _ _ hs d=>.stop fun d'=>hs d') (fun _ _ hs g' w' es e hD hn _ d=>.step hs g' w' es e hD hn) d
theorem GoesI.then {D:World->World->Array Event->Prop}{Stop Stop':Goroutine->World->Prop}{g:Goroutine}{w:World}(hg:GoesI P main D Stop g w) (h:∀ g w,Stop g w->GoesI P main D Stop' g w):GoesI P main D Stop' g w:=by
 exact hg.induct (M:=fun g w=>GoesI P main D Stop' g w) (fun g w hs=>h _ _ (hs w.drawn)) (fun _ _ hs g' w' es e hD _ ih=>.step hs g' w' es e hD ih)
theorem GoesI.ctl {D:World->World->Array Event->Prop}{Stop:Goroutine->World->Prop}{g g':Goroutine}{w:World}(hs:g.status=.running) (e:∀ w,stepG P main g w=.go g' w #[]) (hD:∀ w,D w w #[]) (h:GoesI P main D Stop g' w):GoesI P main D Stop g w :=
 .step hs (fun _=>g') (fun d=>w.at d) (fun _=>#[]) (fun _=>e _) (fun _=>hD _) (fun d=>h.at d)
theorem Gr (hE:∀ fr cs dy g w,∃ o w',early P fr cs dy g w=.ended o w') (hL:∀ g,L g->Db P wr L g) (hI:∀ v v',Keeps wr v v'->I v->I v')
 (hD:∀ v v' w w' es,I v->Rel z v w->Out z wr v v' w w'->(∀ e∈es,Okay wr e∧Fa z w' e)->D w w' es)
 {c:Code} {a:Act} {Q:Exit->Act->World->Prop} {v w:World} (hvw:Rel z v w) (hc:Av P wr L c) (ha:a.defers=[]) (hb:b.kind≠.early) (hi:I v)
 (hwp:∀ τ,c.wp P Q a (Ao v τ 0)) (hQ:∀ e a w,Q e a w->e=.normal∨e=.ret) :
 GoesI P main D (fun g w'=>∃ a' v',Rel z v' w'∧I v'∧a'.defers=[]∧((Q .normal a' v'∧g=G (b.at a' k) cs)∨(Q .ret a' v'∧∃ todo,g=G { b.at a' todo with mode:=.returning } cs))) (G (b.at a (.code c :: k)) cs) w:=by
 have key:=lift_goes (P:=P) (z:=z) (wr:=wr) (L:=L) (b:=b) (Q:=Q) (D:=D) (I:=I) (main:=main) (k:=k) (cs:=cs) hE hL hI hD (s:=⟨[],⟨b,a,[.code c],false⟩⟩) (v:=v) (w:=w)
  ⟨⟨fun x hx=>by rcases List.mem_singleton.1 hx with rfl;exact hc,ha,hb⟩,rfl,fun _ h=>by simp at h,fun _ h=>by simp at h⟩ hvw hi (fun τ=>by
   obtain ⟨e,a',w',hq,harr⟩:=hwp τ b tail [last]
   rcases hQ _ _ _ hq with rfl|rfl
   ·obtain ⟨n,hn⟩:=harr
    exact ⟨n,_,hn,.inl ⟨a',w',rfl,hq⟩⟩
   ·obtain ⟨todo,n,hn⟩:=harr
    exact ⟨n,_,hn,.inr ⟨{ b.at a' todo with mode:=.returning },w',rfl,rfl,hq⟩⟩)
 refine GoesI.mono (fun g w' hg=>?_) key
 obtain ⟨s,v,rfl,⟨hu,hdn⟩,heb,hdf,hr,hiv,hq⟩:=hg
 obtain ⟨ups,⟨bb,ba,bt,br⟩⟩:=s
 simp only at hu heb hdf
 subst hu heb
 refine ⟨ba,v,hr,hiv,hdf,?_⟩
 cases br with
 |true=>exact .inr ⟨hq,bt++k,rfl⟩
 |false =>
  simp only[Bool.false_eq_true,false_or] at hdn
  subst hdn
  exact .inl ⟨hq,rfl⟩
end
end Go.Lift
namespace Go.Lift
open Go.Conc
open Go.ConcN (sumTo upd sumTo_upd upd_ne upd_same)
theorem goes_weaken {P:Program}{main:Bool}{R R':World->World->Prop}{D D':World->World->Array Event->Prop}{Stop Stop':Goroutine->World->Prop}(hR:∀ w w₁,R' w w₁->R w w₁) (hD:∀ w w' es,D w w' es->D' w w' es) (hS:∀ g w,Stop g w->Stop' g w) :
 ∀ {n:Nat} {g:Goroutine} {w:World},Goes P main R D Stop n g w->Goes P main R' D' Stop' n g w:=by
 intro n
 induction n with
 |zero=>intro g w h w₁ h₁;exact hS _ _ (h w₁ (hR _ _ h₁))
 |succ n ih =>
  intro g w h
  rcases h with h|⟨hr,h⟩
  ·exact .inl fun w₁ h₁=>hS _ _ (h w₁ (hR _ _ h₁))
  ·refine .inr ⟨hr,fun w₁ h₁=>?_⟩
   have:=h w₁ (hR _ _ h₁)
   revert this
   cases stepG P main g w₁<;>simp only[GStep.goes,imp_self]
   exact fun ⟨d,x⟩=>⟨hD _ _ _ d,ih x⟩
section
variable {P:Program}{K K':World->Prop}{Still Still':Loc->Prop}{B B':Nat}{Mem:Nat->Prop}{Inb:Nat->Option Seat}{h:Nat}{T:Trace}{gs:Array Goroutine}{w:World}{q:Nat->Nat}
theorem evC_grow (hS:∀ l,Still l->Still' l) (hB:B≤B') {e:Event}(he:EvC Still B e):EvC Still' B' e:=by
 obtain ⟨a,h1,h2,h3⟩:=he
 exact ⟨a,h1,hS _ h2,Nat.lt_of_lt_of_le h3 hB⟩
theorem atIn_grow (hS:∀ l,Still l->Still' l) (hB:B≤B') (hK:∀ w,K' w->K w) {main:Bool}{s:Seat}{g g₂:Goroutine}(hg:AtIn P main K Still B s g g₂):AtIn P main K' Still' B' s g g₂:=by
 obtain ⟨h1,h2,h3,h4,h5,es,h6,h7⟩:=hg
 exact ⟨h1,h2,h3,h4,h5,es,fun e he=>evC_grow hS hB (h6 e he),fun w hw=>h7 w (hK w hw)⟩
theorem sits_grow (hS:∀ l,Still l->Still' l) (hB:B≤B') (hK:∀ w,K' w->K w) {main:Bool}{s:Seat}{n:Nat}{g:Goroutine}(hg:Sits P main K Still B s n g):Sits P main K' Still' B' s n g:=by
 rcases hg with ⟨k,w,e,hg⟩|⟨e,g₀,g₂,hg,ha⟩
 ·exact .inl ⟨k,w,e,goes_weaken (fun _ _ h=>hK _ h) (fun _ _ _ ⟨x,y⟩=>⟨x,fun e he=>evC_grow hS hB (y e he)⟩) (fun _ _ ⟨g₂,h⟩=>⟨g₂,atIn_grow hS hB hK h⟩) hg⟩
 ·exact .inr ⟨e,g₀,g₂,hg,atIn_grow hS hB hK ha⟩
theorem idle_grow (hS:∀ l,Still l->Still' l) (hB:B≤B') (hK:∀ w,K' w->K w) {i n:Nat}{g:Goroutine}{o:Option Seat}(hg:Idle P K Still B T i n g o):Idle P K' Still' B' T i n g o:=by
 cases o with
 |none=>exact hg
 |some s=>exact sits_grow hS hB hK hg
theorem Ring.grow (C:Ring P K Still B Mem Inb h T gs w q) (hS:∀ l,Still l->Still' l) (hB:B≤B') (hK:∀ w,K' w->K w) (hw:K' w)
 (hnew:∀ i a,touchAt T i=some a->Still' a.loc->¬ Still a.loc->a.write=false):Ring P K' Still' B' Mem Inb h T gs w q :=
 ⟨fun i g hi hg=>idle_grow hS hB hK (C.idle i g hi hg),C.chans,C.wf,C.live,C.inj,C.above,fun i s e=>⟨(C.mem i s e).1,fun c hc=>Nat.lt_of_lt_of_le ((C.mem i s e).2 c hc) hB⟩,C.nomem,C.lo,
  ⟨C.past.clean,fun i a ha hm=>(C.past.known i a ha hm).imp id fun ⟨x,y,z⟩=>⟨x,hS _ y,z⟩,(fun i a ha hwr hst g hg=>by
   by_cases hold:Still a.loc
   ·exact C.past.wrote i a ha hwr hold g hg
   ·rw[hnew i a ha hst hold] at hwr;cases hwr),C.past.hears,fun op hop=>MemAct.low_mono hB (C.past.seen op hop)⟩,hw⟩
theorem Ring.raise (C:Ring P K Still B Mem Inb h T gs w q) (hB:B≤B'):Ring P K Still B' Mem Inb h T gs w q :=
 Ring.grow C (fun _ x=>x) hB (fun _ x=>x) C.keep (fun _ _ _ x y=>absurd x y)
theorem Cr (hKat:∀ w d,K w->K (w.at d)) {D:World->World->Array Event->Prop}{Stop:Goroutine->World->Prop}(hD:∀ w w' es,D w w' es->K w->(∀ i s c,Inb i=some s->s.has c->∃ o,w.heap[c]? = some o)->w.heap.size≤w'.heap.size∧∀ B,w'.heap.size≤B->DH K Still B Inb w w' es)
 {a:Goroutine} {w:World} (hG:GoesI P (h==0) D Stop a w):∀ (gs:Array Goroutine) (sl:Option (Nat×Nat)) (T:Trace) (q:Nat->Nat) (B:Nat),gs[h]? = some a->Ring P K Still B Mem Inb h T gs w q ->
 ∃ (N:Nat) (gs':Array Goroutine) (a':Goroutine) (w':World) (sl':Option (Nat×Nat)) (T':Trace) (q':Nat->Nat) (B':Nat),
   runNT P N (crowd gs w sl) T=(.next (crowd gs' w' sl'),T')∧gs'.size=gs.size∧gs'[h]? = some a'∧Stop a' w'∧(B≤B'∧B'≤max B w'.heap.size∧w.heap.size≤w'.heap.size)∧Ring P K Still B' Mem Inb h T' gs' w' q':=by
 refine hG.induct (M:=fun a w=>∀ (gs:Array Goroutine) (sl:Option (Nat×Nat)) (T:Trace) (q:Nat->Nat) (B:Nat),gs[h]? = some a->Ring P K Still B Mem Inb h T gs w q ->
  ∃ (N:Nat) (gs':Array Goroutine) (a':Goroutine) (w':World) (sl':Option (Nat×Nat)) (T':Trace) (q':Nat->Nat) (B':Nat),
    runNT P N (crowd gs w sl) T=(.next (crowd gs' w' sl'),T')∧gs'.size=gs.size∧gs'[h]? = some a'∧Stop a' w'∧(B≤B'∧B'≤max B w'.heap.size∧w.heap.size≤w'.heap.size)∧Ring P K Still B' Mem Inb h T' gs' w' q') ?_ ?_
 ·intro g w hs gs sl T q B ha C
  exact ⟨0,gs,g,w,sl,T,q,B,rfl,rfl,ha,hs w.drawn,⟨Nat.le_refl _,Nat.le_max_left _ _,Nat.le_refl _⟩,C⟩
 ·intro g w hrun g' w' es e hDD _ ih
  have key:∀ (m:Nat) (gs:Array Goroutine) (sl:Option (Nat×Nat)) (T:Trace) (q:Nat->Nat) (B d₀:Nat),sumTo gs.size q=m->gs[h]? = some g->Ring P K Still B Mem Inb h T gs (w.at d₀) q ->
   ∃ (N:Nat) (gs':Array Goroutine) (a':Goroutine) (w':World) (sl':Option (Nat×Nat)) (T':Trace) (q':Nat->Nat) (B':Nat),
     runNT P N (crowd gs (w.at d₀) sl) T=(.next (crowd gs' w' sl'),T')∧gs'.size=gs.size∧gs'[h]? = some a'∧Stop a' w'∧(B≤B'∧B'≤max B w'.heap.size∧w.heap.size≤w'.heap.size)∧Ring P K Still B' Mem Inb h T' gs' w' q':=by
   intro m
   induction m using Nat.strongRecOn with
   |_ m ihm =>
    intro gs sl T q B d₀ hm ha C
    obtain ⟨i,x,d,sl',hi,hg,hst⟩:=crowd_pick (P:=P) (w:=w.at d₀) (sl:=sl) (C.awake ha (.inl hrun)) ⟨h,g,ha,hrun⟩
    have Cd:Ring P K Still B Mem Inb h T gs (w.at d) q:=TokCore.at hKat C d
    have hst':stepT P (crowd gs (w.at d₀) sl)=runT P (crowd gs (w.at d) sl') i:=hst
    by_cases ei:i=h
    ·subst ei
     obtain rfl:x=g:=by rw[ha] at hi;exact (Option.some.inj hi).symm
     obtain ⟨hB1,hB₀⟩:=hD _ _ _ (hDD d) Cd.keep (fun j s c e hc=>by obtain ⟨cap,n,hk⟩:=Cd.chans j s c (fun z=>z) e hc;exact ⟨_,hk⟩)
     obtain ⟨C',ha'⟩:=(Ring.raise Cd (Nat.le_max_left B (w' d).heap.size)).own (a':=g' d) hi (hB₀ _ (Nat.le_max_right B (w' d).heap.size))
     obtain ⟨N,gs2,a2,w2,sl2,T2,q2,B2,r,hsz,h2,hS,⟨hle,hle2,hle3⟩,C2⟩:=ih d _ sl' _ q _ ha' C'
     have hB1':w.heap.size≤(w' d).heap.size:=hB1
     refine ⟨N+1,gs2,a2,w2,sl2,T2,q2,B2,?_,by simpa using hsz,h2,hS,⟨by omega,by omega,Nat.le_trans hB1' hle3⟩,C2⟩
     have hrt:=runT_crowd_go (P:=P) (sl:=sl') hi (e d)
     simp only[runNT,hst',hrt]
     exact r
    ·obtain ⟨gs',ops,q',hrt,hsz',hsp,_,_,C',hlt⟩:=TokCore.by_step (sl:=sl') (fun t u i=>Knows.app u) Cd hi ei hg
      (fun y gy hy hgy=>by subst hy;rw[ha] at hgy;obtain rfl:=Option.some.inj hgy;exact again_of_running (.inl hrun) _) (fun hD=>hD.elim)
      (fun s g₂ _ _=>⟨fun hD=>hD,fun y gy c hy hgy _=>by subst hy;rw[ha] at hgy;obtain rfl:=Option.some.inj hgy;exact offersAt_of_not_blocked (by rw[hrun];simp) _ _⟩)
     obtain ⟨N,gs2,a2,w2,sl2,T2,q2,B2,r,hsz,h2,hS,hle,C2⟩:=ihm (sumTo gs'.size q') (by rw[hsz'];omega) gs' sl' _ q' B d rfl (by rw[hsp h rfl];exact ha) C'
     refine ⟨N+1,gs2,a2,w2,sl2,T2,q2,B2,?_,hsz.trans hsz',h2,hS,hle,C2⟩
     simp only[runNT,hst',hrt]
     exact r
  intro gs sl T q B ha C
  exact key _ gs sl T q B w.drawn rfl ha C
end
end Go.Lift
namespace Go.Lift
open Go.Conc
section
variable {P:Program}{wr:Bool}{L:FuncId->Prop}
theorem Gi (fn:Func) (tmps:Array Value):calm P wr (results fn tmps):=by
 unfold results
 refine Af (calm_arrayMapM (fun r=>?_) _) fun _=>Ai _
 split
 ·exact Ai _
 ·exact Af (Dx _) fun _=>Gj _ _
def plainCall (fs:List FuncId):Op->Bool
 |.call { callee:=.value (.func f),.. }=>fs.contains f
 |_=>false
def Cq (P:Program) (wr:Bool) (fs:List FuncId):Code->Bool
 |.skip|.ret|.label _|.exit _=>true
 |.seq a b=>Cq P wr fs a&&Cq P wr fs b
 |.cond _ a b=>Cq P wr fs a&&Cq P wr fs b
 |.block _ c=>Cq P wr fs c
 |.loop c=>Cq P wr fs c
 |.region _ ops _=>ops.all fun o=>Hb P wr o.op||plainCall fs o.op
 |_=>false
def Dd (P : Program) (L : FuncId → Prop) (f : FuncId) : Prop := L f ∧ ∃ fn, P.funcs[f]? = some fn ∧ (fn.name == "runtime.NumGoroutine") = false ∧ fn.body.isNone = false
theorem fineOp_of {fs:List FuncId}(hfs:∀ f∈fs,Dd P L f) {o:Oper}(h:(Hb P wr o.op||plainCall fs o.op)=true):Dn P wr L o:=by
 rcases Bool.or_eq_true_iff.1 h with h|h
 ·exact fine_plain h
 ·unfold plainCall at h
  split at h
  ·rename_i f args ats e
   obtain ⟨hL,fn,h1,h2,h3⟩:=hfs f (by simpa using h)
   exact fine_call e h1 h2 h3 hL
  ·cases h
theorem Ca {fs:List FuncId}(hfs:∀ f∈fs,Dd P L f):∀ {c:Code},Cq P wr fs c=true->Av P wr L c:=by
 intro c
 induction c with
 |seq a b iha ihb=>intro h;simp only[Cq,Bool.and_eq_true] at h;exact ⟨iha h.1,ihb h.2⟩
 |cond o a b iha ihb=>intro h;simp only[Cq,Bool.and_eq_true] at h;exact ⟨iha h.1,ihb h.2⟩
 |block id c ih=>intro h;exact ih h
 |loop c ih=>intro h;exact ih h
 |region id ops d =>
  intro h
  simp only[Cq,Array.all_eq_true_iff_forall_mem] at h
  exact fun o ho=>fineOp_of hfs (h o ho)
 |skip=>intro _;trivial
 |ret=>intro _;trivial
 |label l=>intro _;trivial
 |exit id=>intro _;trivial
 |_=>intro h;simp[Cq] at h
theorem fineFn_of {fs:List FuncId}(hfs:∀ f∈fs,Dd P L f) {f:FuncId}{fn:Func}{c:Code}(hf:P.funcs[f]? = some fn) (hb:fn.body=some c) (h:Cq P wr fs c=true):Db P wr L f :=
 ⟨fn,c,hf,hb,Ca hfs h,Gi fn⟩
end
section
variable {P:Program}{main:Bool}{D:World->World->Array Event->Prop}{Stop:Goroutine->World->Prop}{b:Frame}{a:Act}{k:List Item}{cs:List Frame}{w:World}
theorem B7 (hD:∀ w,D w w #[]) (h:GoesI P main D Stop (G (b.at a k) cs) w):GoesI P main D Stop (G (b.at a (.code .skip :: k)) cs) w:=.ctl rfl (fun _=>stepG_skip) hD h
theorem Cw (hD:∀ w,D w w #[]) {id:Nat}(h:GoesI P main D Stop (G (b.at a k) cs) w):GoesI P main D Stop (G (b.at a (.inBlock id :: k)) cs) w:=.ctl rfl (fun _=>stepG_inBlock) hD h
theorem Ad (hD:∀ w,D w w #[]) {x y:Code}(h:GoesI P main D Stop (G (b.at a (.code x :: .code y :: k)) cs) w):GoesI P main D Stop (G (b.at a (.code (.seq x y) :: k)) cs) w:=.ctl rfl (fun _=>stepG_seq) hD h
theorem Bf (hD:∀ w,D w w #[]) {c:Operand}{x y:Code}{t:Bool}(hc:a.eval c=.bool t) (h:GoesI P main D Stop (G (b.at a (.code (if t then x else y) :: k)) cs) w):GoesI P main D Stop (G (b.at a (.code (.cond c x y) :: k)) cs) w :=
 .ctl rfl (fun _=>stepG_cond hc) hD h
theorem Bm (hD:∀ w,D w w #[]) {id:Nat}{c:Code}(h:GoesI P main D Stop (G (b.at a (.code c :: .inBlock id :: k)) cs) w):GoesI P main D Stop (G (b.at a (.code (.block id c) :: k)) cs) w:=.ctl rfl (fun _=>stepG_block) hD h
theorem Fi (hD:∀ w,D w w #[]) {c:Code}(h:GoesI P main D Stop (G (b.at a (.code c :: .inLoop c :: k)) cs) w):GoesI P main D Stop (G (b.at a (.code (.loop c) :: k)) cs) w:=.ctl rfl (fun _=>stepG_loop) hD h
theorem Dh (hD:∀ w,D w w #[]) {c:Code}(h:GoesI P main D Stop (G (b.at a (.code c :: .inLoop c :: k)) cs) w):GoesI P main D Stop (G (b.at a (.inLoop c :: k)) cs) w:=.ctl rfl (fun _=>stepG_inLoop) hD h
theorem G0 (hD:∀ w,D w w #[]) {id:Nat}{k':List Item}(he:exitTo id k=some k') (h:GoesI P main D Stop (G (b.at a k') cs) w):GoesI P main D Stop (G (b.at a (.code (.exit id) :: k)) cs) w:=.ctl rfl (fun _=>stepG_exit he) hD h
theorem Ag (hD:∀ w,D w w #[]) {id:Nat}{ops:Array Oper}(h:GoesI P main D Stop (G (b.at a (.inRegion ops (List.range ops.size) :: k)) cs) w):GoesI P main D Stop (G (b.at a (.code (.region id ops false) :: k)) cs) w:=.ctl rfl (fun _=>stepG_region) hD h
theorem Ac (hD:∀ w,D w w #[]) {ops:Array Oper}(h:GoesI P main D Stop (G (b.at a k) cs) w):GoesI P main D Stop (G (b.at a (.inRegion ops [] :: k)) cs) w:=.ctl rfl (fun _=>stepG_region_end) hD h
theorem D4 (hD:∀ w,D w w #[]) (h:GoesI P main D Stop (G { b.at a [] with mode:=.returning } cs) w):GoesI P main D Stop (G (b.at a []) cs) w:=.ctl rfl (fun _=>stepG_end) hD h
theorem He {ops:Array Oper}{i:Nat}{rest:List Nat}{o:Oper}{v:Nat->Value}{w':Nat->World}(ho:ops[i]? = some o) (hw:Region.wanted o (yielded ops a.tmps)=true) (hk:b.kind≠.early)
 (hr:∀ d,(execOp a.eval o).run P (w.at d)=.ok (.value (v d)) (w' d)) (hD:∀ d,D (w.at d) (w' d) (listed P b.fn a o (w.at d)))
 (h:∀ d,GoesI P main D Stop (G (b.at (a.put o.dst (v d)) (.inRegion ops rest :: k)) cs) (w' d)):GoesI P main D Stop (G (b.at a (.inRegion ops (i :: rest) :: k)) cs) w :=
 .step rfl _ w' (fun d=>listed P b.fn a o (w.at d)) (fun d=>stepG_value ho hw hk (hr d)) hD h
theorem Hf {ops:Array Oper}{i:Nat}{rest:List Nat}{o:Oper}{f:FuncId}{args:Array Value}{fn:Func}{c:Code}(ho:ops[i]? = some o) (hw:Region.wanted o (yielded ops a.tmps)=true) (hk:b.kind≠.early)
 (hr:∀ w,(execOp a.eval o).run P w=.ok (.enter f args) w) (hl:∀ w,listed P b.fn a o w=#[]) (hD:∀ w,D w w #[]) (hf:P.funcs[f]? = some fn) (hb:fn.body=some c)
 (h:GoesI P main D Stop (G ((base f).at { tmps:=args++Array.replicate (fn.ntmps - args.size) undef,defers:=[] } [.code c]) (b.at a (.inRegion ops (i :: rest) :: k) :: cs)) w):GoesI P main D Stop (G (b.at a (.inRegion ops (i :: rest) :: k)) cs) w:=by
 refine .ctl rfl (fun w=>?_) hD h
 rw[stepG_enter ho hw hk (hr w),hl w,enter_at args hf hb]
theorem Bw {ops:Array Oper}{i:Nat}{rest:List Nat}{o:Oper}{fn:Func}{todo:List Item}{bc:Frame}{ac:Act}{v:Value}(hn:b.kind=.normal) (hd:a.defers=[]) (hf:P.funcs[b.fn]? = some fn)
 (hr:∀ w,(results fn a.tmps).run P w=.ok v w) (he:∀ w,(results fn a.tmps).events P w #[]=#[]) (ho:ops[i]? = some o) (hD:∀ w,D w w #[])
 (h:GoesI P main D Stop (G (bc.at (ac.put o.dst v) (.inRegion ops rest :: k)) cs) w):GoesI P main D Stop (G { b.at a todo with mode:=.returning } (bc.at ac (.inRegion ops (i :: rest) :: k) :: cs)) w:=by
 refine .ctl rfl (fun w=>?_) hD h
 have hfin:(bc.at ac (.inRegion ops (i :: rest) :: k)).finish v=bc.at (ac.put o.dst v) (.inRegion ops rest :: k):=by rw[Frame.finish_at,ho];rfl
 rw[stepG_leave hn hd hf (hr w) (he w),hfin]
theorem Ax {z:Nat->Option Nat}{wr:Bool}{L:FuncId->Prop}{I:World->Prop}(hE:∀ fr cs dy g w,∃ o w',early P fr cs dy g w=.ended o w') (hL:∀ g,L g->Db P wr L g) (hI:∀ v v',Keeps wr v v'->I v->I v')
 (hD:∀ v v' w w' es,I v->Rel z v w->Out z wr v v' w w'->(∀ e∈es,Okay wr e∧Fa z w' e)->D w w' es) {c:Code} {Q:Act->World->Prop} {v:World} (hvw:Rel z v w) (hc:Av P wr L c) (ha:a.defers=[]) (hb:b.kind≠.early) (hi:I v)
 (hwp:∀ τ,c.wp P (fun e a w=>e=.normal∧Q a w) a (Ao v τ 0))
 (h:∀ a' v' w',Q a' v'->Rel z v' w'->I v'->a'.defers=[]->GoesI P main D Stop (G (b.at a' k) cs) w'):GoesI P main D Stop (G (b.at a (.code c :: k)) cs) w:=by
 refine (Gr (P:=P) (wr:=wr) (L:=L) (D:=D) (I:=I) (main:=main) (b:=b) (k:=k) (cs:=cs) hE hL hI hD hvw hc ha hb hi hwp (fun e a w h=>.inl h.1)).then ?_
 rintro g w' ⟨a',v',hr,hiv,hd,⟨⟨_,hq⟩,rfl⟩|⟨⟨hq,_⟩,_⟩⟩
 ·exact h a' v' w' hq hr hiv hd
 ·cases hq
end
end Go.Lift
