/- Of the proof of CounterLinear. Part 18 of 26. (Joined, by program, and written short, of: GEvs2, GOfs, GIns, GLinE, La13a, GWb, GFree, CtF, CtG, CtH, La15a, La15b, La15c, La15d, La15e.) -/
import Derived.Test.YtcfmffmcammbjaaDoorCounterLinear04
import Derived.Test.YtcfmffmcammbjaaDoorCounterLinear10
import Derived.Test.YtcfmffmcammbjaaDoorCounterLinear12
import Derived.Test.YtcfmffmcammbjaaDoorCounterLinear13
import Derived.Test.YtcfmffmcammbjaaDoorCounterLinear14
import Derived.Test.YtcfmffmcammbjaaDoorCounterLinear15
import Derived.Test.YtcfmffmcammbjaaDoorCounterLinear16
import Derived.Test.YtcfmffmcammbjaaDoorCounterLinear17
import Derived.BigQuiet
import Derived.Deep.RegionHeld3
import Derived.BigRegion
import Derived.Deep.RegionLaw
import Derived.Deep.RegionWith
set_option linter.unusedSimpArgs false
set_option linter.unusedVariables false
set_option maxHeartbeats 4000000
set_option maxRecDepth 100000
namespace Go.Proofs.YtcfmffmcammbjaaDoor.Gen
open Go Go.Lift Go.Conc Go.RowKit
open Go.Proofs.YtcfmffmcammbjaaDoor.His
open Go.ConcN (upd upd_same upd_ne)
inductive Ev9 (cl:Nat->List Cl) (an:Nat->List (Int×Int)):List Stp->List His.Ev->(Nat->Nat)->Prop
 |nil:Ev9 cl an [] [] (fun _=>0)
 |other {L:List Stp} {x:Stp} {E:List His.Ev} {id:Nat->Nat}:Ev9 cl an L E id->x.op≠9->x.op≠10->Ev9 cl an (L++[x]) E id
 |beg {L:List Stp} {E:List His.Ev} {id:Nat->Nat} {i k:Nat} {c:Cl}:Ev9 cl an L E id->nt L i=2*k->(cl i)[k]? = some c->Ev9 cl an (L++[⟨i,-1,9,k,0⟩]) (E++[⟨i,c.po,c.ca,c.cb,L.length,-1,4,0⟩]) (upd id i E.length)
 |stuck {L:List Stp} {E:List His.Ev} {id:Nat->Nat} {i k:Nat} {a:Int×Int}:Ev9 cl an L E id->nt L i=2*k+1->(an i)[k]? = some a->a.1=4->Ev9 cl an (L++[⟨i,-1,10,k,a.1⟩]) E id
 |fin {L:List Stp} {E:List His.Ev} {id:Nat->Nat} {i k:Nat} {a:Int×Int} {e:His.Ev}:Ev9 cl an L E id->nt L i=2*k+1->(an i)[k]? = some a->a.1≠4->E[id i]? = some e->Ev9 cl an (L++[⟨i,-1,10,k,a.1⟩]) (E.set (id i) ⟨e.thr,e.op,e.a,e.b,e.beg,L.length,a.1,a.2⟩) id
def AccTo {τ:Type}(ways:Ways τ):τ->List His.Ev->τ->Prop
 |s,[],t=>s=t
 |s,e :: r,t=>∃ o,o∈ways s e∧o.1=e.ans∧AccTo ways o.2 r t
theorem AccTo.acc {τ:Type}{ways:Ways τ}:∀ {l:List His.Ev}{s t:τ},AccTo ways s l t->Acc ways s l
 | [],_,_,_=>trivial
 |e :: r,s,t,h=>by obtain ⟨o,h1,h2,h3⟩:=h;exact ⟨o,h1,fun _=>h2,AccTo.acc h3⟩
theorem AccTo.snoc {τ:Type}{ways:Ways τ}{e:His.Ev}{o:(Int×Int)×τ}:∀ {l:List His.Ev}{s t:τ},AccTo ways s l t->o∈ways t e->o.1=e.ans->AccTo ways s (l++[e]) o.2
 | [],s,t,h,h1,h2=>by have:s=t:=h;subst this;exact ⟨o,h1,h2,rfl⟩
 |x :: r,s,t,h,h1,h2=>by obtain ⟨p,k1,k2,k3⟩:=h;exact ⟨p,k1,k2,AccTo.snoc k3 h1 h2⟩
structure EvI (cl:Nat->List Cl) (an:Nat->List (Int×Int)) {τ:Type}(ways:Ways τ) (t0:τ) (L:List Stp) (E:List His.Ev) (id:Nat->Nat) (ord:List Nat) (t:τ):Prop where
 timed:∀ (m:Nat) (e:His.Ev),E[m]? = some e->0≤e.beg∧e.beg<L.length∧(e.fin=-1∨(e.beg<e.fin∧e.fin<L.length))
 act:∀ (i k:Nat),nt L i=2*k+1->∃ (e:His.Ev) (c:Cl),E[id i]? = some e∧e.thr=(i:Int)∧e.fin=-1∧(cl i)[k]? = some c∧e.op=c.po∧e.a=c.ca∧e.b=c.cb
 two:∀ (m m':Nat) (e e':His.Ev),m'<m->E[m]? = some e->E[m']? = some e'->e.thr=e'.thr->Bb e' e=true
 open_:∀ (m:Nat) (e:His.Ev) (i:Nat),E[m]? = some e->e.thr=(i:Int)->e.fin=-1->(nt L i % 2=1∧m=id i)∨∃ (q:Nat) (a:Int×Int),q<nt L i / 2∧(an i)[q]? = some a∧a.1=4
 nodup:ord.Nodup
 over:∀ (m:Nat),m∈ord->∃ (e:His.Ev),E[m]? = some e∧e.over=true
 all:∀ (m:Nat) (e:His.Ev),E[m]? = some e->e.over=true->m∈ord
 ord_:ord.Pairwise fun m m'=>(E.getD m ev0).fin<(E.getD m' ev0).fin
 acc:AccTo ways t0 (ord.map fun m=>E.getD m ev0) t
theorem Ed {E:List His.Ev}{m:Nat}{e:His.Ev}(h:E[m]? = some e):E.getD m ev0=e:=by rw[List.getD_eq_getElem?_getD,h];rfl
theorem Eb {e:His.Ev}:e.over=true↔e.fin≠-1:=over_iff
section
variable {cl:Nat->List Cl}{an:Nat->List (Int×Int)}{τ:Type}{ways:Ways τ}{t0 t:τ}{L:List Stp}{E:List His.Ev}{id:Nat->Nat}{ord:List Nat}
theorem EvI.skip (h:EvI cl an ways t0 L E id ord t) (x:Stp) (ha:∀ (i k:Nat),nt (L++[x]) i=2*k+1->nt L i=2*k+1) (ho:∀ (i m:Nat),nt L i % 2=1->m=id i->nt (L++[x]) i=nt L i∨∃ (q:Nat) (a:Int×Int),q<nt (L++[x]) i / 2∧(an i)[q]? = some a∧a.1=4):EvI cl an ways t0 (L++[x]) E id ord t:=by
 refine ⟨fun m e he=>?_,fun i k hn=>h.act i k (ha i k hn),h.two,fun m e i he hi hf=>?_,h.nodup,h.over,h.all,h.ord_,h.acc⟩
 ·have:=h.timed m e he
  rw[List.length_append,List.length_singleton]
  refine ⟨this.1,by omega,?_⟩
  rcases this.2.2 with h|h
  ·exact .inl h
  ·exact .inr ⟨h.1,by omega⟩
 ·rcases h.open_ m e i he hi hf with ⟨h1,h2⟩|⟨q,a,h1,h2,h3⟩
  ·rcases ho i m h1 h2 with e|e
   ·exact .inl ⟨by rw[e];exact h1,h2⟩
   ·exact .inr e
  ·exact .inr ⟨q,a,by have:=nt_le L x i;omega,h2,h3⟩
theorem EvI.begin (h:EvI cl an ways t0 L E id ord t) {i k:Nat}{c:Cl}(hn:nt L i=2*k) (hc:(cl i)[k]? = some c) (h4:No4 (an i) k):EvI cl an ways t0 (L++[⟨i,-1,9,k,0⟩]) (E++[⟨i,c.po,c.ca,c.cb,L.length,-1,4,0⟩]) (upd id i E.length) ord t:=by
 have get:∀ (m:Nat) (e:His.Ev),(E++[(⟨i,c.po,c.ca,c.cb,L.length,-1,4,0⟩:His.Ev)])[m]? = some e->E[m]? = some e∨(m=E.length∧e=⟨i,c.po,c.ca,c.cb,L.length,-1,4,0⟩):=fun m e he=>by
  rw[List.getElem?_append] at he
  split at he
  ·exact .inl he
  ·right
   have:m - E.length=0:=by have:=(List.getElem?_eq_some_iff.1 he).1;simp at this;omega
   rw[this] at he
   exact ⟨by omega,by simpa using he.symm⟩
 have lift:∀ (m:Nat) (e:His.Ev),E[m]? = some e->(E++[(⟨i,c.po,c.ca,c.cb,L.length,-1,4,0⟩:His.Ev)])[m]? = some e:=fun m e he=>by rw[List.getElem?_append_left (List.getElem?_eq_some_iff.1 he).1];exact he
 have own:nt (L++[⟨i,-1,9,k,0⟩]) i=2*k+1:=by rw[Ce _ _ _ _ (.inl rfl),hn]
 have oth:∀ j,j≠i->nt (L++[⟨i,-1,9,k,0⟩]) j=nt L j:=fun j hj=>C9 _ hj _ _ _
 have mem:∀ (m:Nat),m∈ord->(E++[(⟨i,c.po,c.ca,c.cb,L.length,-1,4,0⟩:His.Ev)]).getD m ev0=E.getD m ev0:=fun m hm=>by
  obtain ⟨e,he,_⟩:=h.over m hm
  rw[Ed he,Ed (lift m e he)]
 refine ⟨fun m e he=>?_,fun j q hq=>?_,fun m m' e e' hlt he he' ht=>?_,fun m e j he hj hf=>?_,h.nodup,fun m hm=>?_,fun m e he ho=>?_,?_,?_⟩
 ·rw[List.length_append,List.length_singleton]
  rcases get m e he with he|⟨_,rfl⟩
  ·have:=h.timed m e he
   refine ⟨this.1,by omega,?_⟩
   rcases this.2.2 with h|h
   ·exact .inl h
   ·exact .inr ⟨h.1,by omega⟩
  ·exact ⟨by show (0:Int)≤(L.length:Int);omega,by show (L.length:Int)<((L.length+1:Nat):Int);omega,.inl rfl⟩
 ·by_cases e:j=i
  ·subst e
   have:q=k:=by omega
   subst this
   rw[upd_same]
   exact ⟨⟨j,c.po,c.ca,c.cb,L.length,-1,4,0⟩,c,by rw[List.getElem?_append_right (Nat.le_refl _)];simp,rfl,rfl,hc,rfl,rfl,rfl⟩
  ·rw[oth j e] at hq
   obtain ⟨e1,c1,k1,k2⟩:=h.act j q hq
   rw[upd_ne _ _ e]
   exact ⟨e1,c1,lift _ _ k1,k2⟩
 ·rcases get m e he with he|⟨rfl,rfl⟩
  ·rcases get m' e' he' with he'|⟨rfl,_⟩
   ·exact h.two m m' e e' hlt he he' ht
   ·have:=(List.getElem?_eq_some_iff.1 he).1;omega
  ·rcases get m' e' he' with he'|⟨rfl,_⟩
   ·have hfin:e'.fin≠-1:=fun hf=>by
     rcases h.open_ m' e' i he' ht.symm hf with ⟨h1,_⟩|⟨q,a,h1,h2,h3⟩
     ·omega
     ·exact h4 q a (by omega) h2 h3
    have:=(h.timed m' e' he').2.2
    unfold Bb
    rw[Eb.2 hfin,Bool.true_and]
    exact decide_eq_true (by show e'.fin<(L.length:Int);rcases this with h|h;exact absurd h hfin;exact h.2)
   ·omega
 ·rcases get m e he with hE|⟨rfl,rfl⟩
  ·by_cases ej:j=i
   ·subst ej
    rcases h.open_ m e j hE hj hf with ⟨h1,_⟩|⟨q,a,h1,h2,h3⟩
    ·omega
    ·exact .inr ⟨q,a,by omega,h2,h3⟩
   ·rw[oth j ej,upd_ne _ _ ej]
    exact h.open_ m e j hE hj hf
  ·have:(i:Int)=j:=hj
   obtain rfl:j=i:=by omega
   exact .inl ⟨by omega,by rw[upd_same]⟩
 ·obtain ⟨e,he,ho⟩:=h.over m hm
  exact ⟨e,lift m e he,ho⟩
 ·rcases get m e he with he|⟨rfl,rfl⟩
  ·exact h.all m e he ho
  ·exact absurd rfl (Eb.1 ho)
 ·exact h.ord_.imp_of_mem fun ha hb hlt=>by rw[mem _ ha,mem _ hb];exact hlt
 ·have:ord.map (fun m=>(E++[(⟨i,c.po,c.ca,c.cb,L.length,-1,4,0⟩:His.Ev)]).getD m ev0)=ord.map fun m=>E.getD m ev0:=List.map_congr_left mem
  rw[this];exact h.acc
theorem EvI.finish (h:EvI cl an ways t0 L E id ord t) {i k:Nat}{a:Int×Int}{e0:His.Ev}{o:(Int×Int)×τ}(hn:nt L i=2*k+1) (he0:E[id i]? = some e0) (hf0:e0.fin=-1) (ht0:e0.thr=(i:Int)) (ho:o∈ways t ⟨e0.thr,e0.op,e0.a,e0.b,e0.beg,L.length,a.1,a.2⟩) (hoa:o.1=a) :
 EvI cl an ways t0 (L++[⟨i,-1,10,k,a.1⟩]) (E.set (id i) ⟨e0.thr,e0.op,e0.a,e0.b,e0.beg,L.length,a.1,a.2⟩) id (ord++[id i]) o.2:=by
 have hlt0:id i<E.length:=(List.getElem?_eq_some_iff.1 he0).1
 have get:∀ (m:Nat) (e:His.Ev),(E.set (id i) (⟨e0.thr,e0.op,e0.a,e0.b,e0.beg,L.length,a.1,a.2⟩:His.Ev))[m]? = some e->(m≠id i∧E[m]? = some e)∨(m=id i∧e=⟨e0.thr,e0.op,e0.a,e0.b,e0.beg,L.length,a.1,a.2⟩):=fun m e he=>by
  rw[List.getElem?_set] at he
  by_cases em:id i=m
  ·rw[if_pos em,if_pos hlt0] at he
   exact .inr ⟨em.symm,(Option.some.inj he).symm⟩
  ·rw[if_neg em] at he
   exact .inl ⟨fun x=>em x.symm,he⟩
 have put:(E.set (id i) (⟨e0.thr,e0.op,e0.a,e0.b,e0.beg,L.length,a.1,a.2⟩:His.Ev))[id i]? = some ⟨e0.thr,e0.op,e0.a,e0.b,e0.beg,L.length,a.1,a.2⟩:=by rw[List.getElem?_set,if_pos rfl,if_pos hlt0]
 have lift:∀ (m:Nat) (e:His.Ev),m≠id i->E[m]? = some e->(E.set (id i) (⟨e0.thr,e0.op,e0.a,e0.b,e0.beg,L.length,a.1,a.2⟩:His.Ev))[m]? = some e:=fun m e hm he=>by rw[List.getElem?_set,if_neg (fun x=>hm x.symm)];exact he
 have nin:id i ∉ ord:=fun hm=>by
  obtain ⟨e,he,hov⟩:=h.over _ hm
  rw[he0] at he
  cases he
  exact Eb.1 hov hf0
 have mem:∀ (m:Nat),m∈ord->(E.set (id i) (⟨e0.thr,e0.op,e0.a,e0.b,e0.beg,L.length,a.1,a.2⟩:His.Ev)).getD m ev0=E.getD m ev0:=fun m hm=>by
  obtain ⟨e,he,_⟩:=h.over m hm
  rw[Ed he,Ed (lift m e (fun x=>nin (x▸hm)) he)]
 have own:nt (L++[⟨i,-1,10,k,a.1⟩]) i=2*(k+1):=by rw[Ce _ _ _ _ (.inr rfl),hn];omega
 have oth:∀ j,j≠i->nt (L++[⟨i,-1,10,k,a.1⟩]) j=nt L j:=fun j hj=>C9 _ hj _ _ _
 have hb0:=h.timed _ _ he0
 have hov:(⟨e0.thr,e0.op,e0.a,e0.b,e0.beg,L.length,a.1,a.2⟩:His.Ev).over=true:=Eb.2 (by show (L.length:Int)≠-1;omega)
 refine ⟨fun m e he=>?_,fun j q hq=>?_,fun m m' e e' hlt he he' ht=>?_,fun m e j he hj hf=>?_,?_,fun m hm=>?_,fun m e he ho=>?_,?_,?_⟩
 ·rw[List.length_append,List.length_singleton]
  rcases get m e he with ⟨_,he⟩|⟨_,rfl⟩
  ·have:=h.timed m e he
   refine ⟨this.1,by omega,?_⟩
   rcases this.2.2 with h|h
   ·exact .inl h
   ·exact .inr ⟨h.1,by omega⟩
  ·exact ⟨hb0.1,by have:=hb0.2.1;show e0.beg<((L.length+1:Nat):Int);omega,.inr ⟨hb0.2.1,by show (L.length:Int)<((L.length+1:Nat):Int);omega⟩⟩
 ·by_cases e:j=i
  ·subst e;omega
  ·rw[oth j e] at hq
   obtain ⟨e1,c1,k1,k2,k3⟩:=h.act j q hq
   have:id j≠id i:=fun x=>by
    rw[x,he0] at k1
    cases k1
    rw[ht0] at k2
    exact e (by omega)
   exact ⟨e1,c1,lift _ _ this k1,k2,k3⟩
 ·rcases get m e he with ⟨_,he⟩|⟨rfl,rfl⟩
  ·rcases get m' e' he' with ⟨_,he'⟩|⟨rfl,rfl⟩
   ·exact h.two m m' e e' hlt he he' ht
   ·have:=evAhead_over (h.two m _ e e0 hlt he he0 ht)
    exact absurd hf0 (Eb.1 this)
  ·rcases get m' e' he' with ⟨_,he'⟩|⟨rfl,_⟩
   ·exact h.two _ m' e0 e' hlt he0 he' ht
   ·omega
 ·rcases get m e he with ⟨hm,hE⟩|⟨rfl,rfl⟩
  ·by_cases ej:j=i
   ·subst ej
    rcases h.open_ m e j hE hj hf with ⟨_,h1⟩|⟨q,b,h1,h2,h3⟩
    ·exact absurd h1 hm
    ·exact .inr ⟨q,b,by omega,h2,h3⟩
   ·rw[oth j ej]
    exact h.open_ m e j hE hj hf
  ·exact absurd hf (Eb.1 hov)
 ·exact List.nodup_append.2 ⟨h.nodup,by simp,fun x hx y hy=>by rw[List.mem_singleton] at hy;subst hy;exact fun e=>nin (e▸hx)⟩
 ·rw[List.mem_append,List.mem_singleton] at hm
  rcases hm with hm|rfl
  ·obtain ⟨e,he,ho⟩:=h.over m hm
   exact ⟨e,lift m e (fun x=>nin (x▸hm)) he,ho⟩
  ·exact ⟨_,put,hov⟩
 ·rw[List.mem_append,List.mem_singleton]
  rcases get m e he with ⟨_,he⟩|⟨rfl,_⟩
  ·exact .inl (h.all m e he ho)
  ·exact .inr rfl
 ·rw[List.pairwise_append]
  refine ⟨h.ord_.imp_of_mem fun ha hb hlt=>by rw[mem _ ha,mem _ hb];exact hlt,List.pairwise_singleton _ _,fun x hx y hy=>?_⟩
  rw[List.mem_singleton] at hy
  subst hy
  obtain ⟨e,he,ho⟩:=h.over x hx
  rw[mem _ hx,Ed he,Ed put]
  have:=(h.timed x e he).2.2
  rcases this with h|h
  ·exact absurd h (Eb.1 ho)
  ·exact h.2
 ·have e1:ord.map (fun m=>(E.set (id i) (⟨e0.thr,e0.op,e0.a,e0.b,e0.beg,L.length,a.1,a.2⟩:His.Ev)).getD m ev0)=ord.map fun m=>E.getD m ev0:=List.map_congr_left mem
  rw[List.map_append,e1,List.map_singleton,Ed put]
  exact h.acc.snoc ho (by rw[hoa];rfl)
end
theorem EvI.hist {cl:Nat->List Cl}{an:Nat->List (Int×Int)}{τ:Type}{ways:Ways τ}{t0 t:τ}{L:List Stp}{E:List His.Ev}{id:Nat->Nat}{ord:List Nat}(h:EvI cl an ways t0 L E id ord t):Hist E:=fun i hi=>by
 have hg:∀ m,m<E.length->E[m]? = some (E.getD m ev0):=fun m hm=>by rw[List.getD_eq_getElem?_getD,List.getElem?_eq_getElem hm];rfl
 refine ⟨?_,fun k hk ht=>.inr (h.two i k _ _ hk (hg i hi) (hg k (by omega)) ht)⟩
 have:=h.timed i _ (hg i hi)
 exact ⟨this.1,this.2.2.imp (fun x=>x) (·.1)⟩
theorem EvI.lin {cl:Nat->List Cl}{an:Nat->List (Int×Int)}{τ:Type}{ways:Ways τ}{t0 t:τ}{L:List Stp}{E:List His.Ev}{id:Nat->Nat}{ord:List Nat}(h:EvI cl an ways t0 L E id ord t):Lin ways t0 E:=by
 have hg:∀ m,m<E.length->E[m]? = some (E.getD m ev0):=fun m hm=>by rw[List.getD_eq_getElem?_getD,List.getElem?_eq_getElem hm];rfl
 refine ⟨ord,h.nodup,fun m hm=>?_,fun m hm ho=>h.all m _ (hg m hm) ho,h.ord_.imp_of_mem fun ha hb hlt=>?_,h.acc.acc⟩
 ·obtain ⟨e,he,_⟩:=h.over m hm
  exact (List.getElem?_eq_some_iff.1 he).1
 ·obtain ⟨e,he,ho⟩:=h.over _ ha
  rw[Ed he] at hlt ⊢
  unfold Bb
  rw[Bool.and_eq_false_iff]
  right
  refine decide_eq_false ?_
  have:=(h.timed _ e he).2.2
  rcases this with h|h
  ·exact absurd h (Eb.1 ho)
  ·omega
def Eu (s:Stp):R3.Step:=⟨s.th,s.ce,s.op,s.ol,s.ne⟩
def toCall (c:Cl):R3.Call:=⟨c.po,c.ca,c.cb,c.cc⟩
def scL (N:Nat) (cl:Nat->List Cl):List (List R3.Call):=(List.range N).map fun i=>(cl i).map toCall
def anL (N:Nat) (an:Nat->List (Int×Int)):List (List (Int×Int)):=(List.range N).map an
def De (L:List Stp) (id:Nat->Nat):Nat->Nat×Nat×Nat:=fun t=>((nt L t+1) / 2,nt L t / 2,id t)
theorem Ec (N:Nat) (cl:Nat->List Cl):(scL N cl).length=N:=by simp[scL]
theorem anL_len (N:Nat) (an:Nat->List (Int×Int)):(anL N an).length=N:=by simp[anL]
theorem scL_get {N:Nat}(cl:Nat->List Cl) {i:Nat}(h:i<N):(scL N cl).getD i []=(cl i).map toCall:=by
 simp[scL,List.getD_eq_getElem?_getD,h]
theorem anL_get {N:Nat}(an:Nat->List (Int×Int)) {i:Nat}(h:i<N):(anL N an).getD i []=an i:=by
 simp[anL,List.getD_eq_getElem?_getD,h]
theorem alike_of {N:Nat}{cl:Nat->List Cl}{an:Nat->List (Int×Int)}(hl:∀ i,i<N->(an i).length=(cl i).length):R3.Alike (scL N cl) (anL N an):=by
 refine ⟨by rw[Ec,anL_len],fun i hi=>?_⟩
 rw[Ec] at hi
 rw[scL_get cl hi,anL_get an hi,List.length_map,hl i hi]
theorem Fz {N:Nat}{cl:Nat->List Cl}{an:Nat->List (Int×Int)}{M:List Stp}(h:Fit9 N cl an M):∀ (L:List Stp) (x:Stp),M=L++[x]->Fit9 N cl an L∧((x.op=9∨x.op=10)->∃ i:Nat,x.th=(i:Int)∧i<N):=by
 cases h with
 |nil=>intro L x e;exact absurd e.symm (by simp)
 |other h h9 h10 =>
  intro L x e
  obtain ⟨rfl,rfl⟩:=snoc_inj e
  exact ⟨h,fun hh=>by rcases hh with hh|hh;exact absurd hh h9;exact absurd hh h10⟩
 |beg h hi hn hk h4 =>
  intro L x e
  obtain ⟨rfl,rfl⟩:=snoc_inj e
  exact ⟨h,fun _=>⟨_,rfl,hi⟩⟩
 |fin h hi hn hk ha =>
  intro L x e
  obtain ⟨rfl,rfl⟩:=snoc_inj e
  exact ⟨h,fun _=>⟨_,rfl,hi⟩⟩
theorem ofs_ev {N:Nat}{cl:Nat->List Cl}{an:Nat->List (Int×Int)}(hl:∀ i,i<N->(an i).length=(cl i).length) {L:List Stp}{E:List His.Ev}{id:Nat->Nat}(h:Ev9 cl an L E id) :
 Fit9 N cl an L->∀ l r,R3.Ofs (scL N cl) (anL N an) 0 (L.map Eu++l) R3.st0 r->R3.Ofs (scL N cl) (anL N an) L.length l ⟨E,De L id⟩ r:=by
 induction h with
 |nil =>
  intro _ l r ho
  have et:De [] (fun _=>0)=fun _=>(0,0,0):=funext fun t=>by simp[De,nt]
  rw[et];exact ho
 |@other L x E id h h9 h10 ih =>
  intro hF l r ho
  obtain ⟨hF,_⟩:=Fz hF _ _ rfl
  rw[List.map_append,List.append_assoc] at ho
  have:=R3.ofs_skip (show (Eu x).op≠9 from h9) (show (Eu x).op≠10 from h10) (ih hF _ _ ho)
  have et:De (L++[x]) id=De L id:=funext fun t=>by simp only[De,Fb h9 h10]
  rw[List.length_append,List.length_singleton,et]
  exact this
 |@beg L E id i k c h hn hc ih =>
  intro hF l r ho
  obtain ⟨hF,hi⟩:=Fz hF _ _ rfl
  obtain ⟨j,hj,hi⟩:=hi (.inl rfl)
  have hj:(i:Int)=j:=hj
  obtain rfl:i=j:=by omega
  rw[List.map_append,List.append_assoc] at ho
  have hk:k<(cl i).length:=(List.getElem?_eq_some_iff.1 hc).1
  have t1:(De L id i).1=k:=by show (nt L i+1) / 2=k;omega
  have t2:(De L id i).2.1=k:=by show nt L i / 2=k;omega
  have:=R3.ofs_begin (t:=i) (show (Eu ⟨i,-1,9,k,0⟩).op=9 from rfl) rfl (by rw[Ec];exact hi) ⟨by rw[t1,t2],by rw[t1,anL_get an hi,hl i hi];exact hk,by rw[t1];rfl,rfl⟩ (ih hF _ _ ho)
  have es:R3.Cg (scL N cl) ⟨E,De L id⟩ i L.length=⟨E++[⟨i,c.po,c.ca,c.cb,L.length,-1,4,0⟩],De (L++[⟨i,-1,9,k,0⟩]) (upd id i E.length)⟩:=by
   unfold R3.Cg
   simp only[t1,t2,scL_get cl hi]
   have e1:((cl i).map toCall).getD k R3.Et=toCall c:=by simp[List.getD_eq_getElem?_getD,hc]
   rw[e1]
   congr 1
   funext t
   by_cases e:t=i
   ·subst e
    simp only[R3.upd,if_pos,De,upd_same,Ce _ _ _ _ (.inl rfl),hn]
    congr 1
    ·omega
    ·congr 1;omega
   ·simp only[R3.upd,if_neg e,De,upd_ne _ _ e,C9 _ e]
  rw[List.length_append,List.length_singleton,←es]
  exact this
 |@stuck L E id i k a h hn ha h4 ih =>
  intro hF l r ho
  obtain ⟨hF,hi⟩:=Fz hF _ _ rfl
  obtain ⟨j,hj,hi⟩:=hi (.inr rfl)
  have hj:(i:Int)=j:=hj
  obtain rfl:i=j:=by omega
  rw[List.map_append,List.append_assoc] at ho
  have t1:(De L id i).1=k+1:=by show (nt L i+1) / 2=k+1;omega
  have t2:(De L id i).2.1=k:=by show nt L i / 2=k;omega
  have ea:(an i).getD k (0,0)=a:=by simp[List.getD_eq_getElem?_getD,ha]
  have:=R3.ofs_end (t:=i) (show (Eu ⟨i,-1,10,k,a.1⟩).op=10 from rfl) rfl (by rw[Ec];exact hi) ⟨by rw[t1,t2];omega,by rw[t2];rfl,by rw[t2,anL_get an hi,ea];rfl⟩ (ih hF _ _ ho)
  have es:R3.endSt (anL N an) ⟨E,De L id⟩ i L.length=⟨E,De (L++[⟨i,-1,10,k,a.1⟩]) id⟩:=by
   unfold R3.endSt
   simp only[t1,t2,anL_get an hi,ea,h4,if_pos]
   congr 1
   funext t
   by_cases e:t=i
   ·subst e
    simp only[R3.upd,if_pos,De,Ce _ _ _ _ (.inr rfl),hn]
    congr 1
    ·omega
    ·congr 1;omega
   ·simp only[R3.upd,if_neg e,De,C9 _ e]
  rw[List.length_append,List.length_singleton,←es]
  exact this
 |@fin L E id i k a e h hn ha h4 he ih =>
  intro hF l r ho
  obtain ⟨hF,hi⟩:=Fz hF _ _ rfl
  obtain ⟨j,hj,hi⟩:=hi (.inr rfl)
  have hj:(i:Int)=j:=hj
  obtain rfl:i=j:=by omega
  rw[List.map_append,List.append_assoc] at ho
  have t1:(De L id i).1=k+1:=by show (nt L i+1) / 2=k+1;omega
  have t2:(De L id i).2.1=k:=by show nt L i / 2=k;omega
  have t3:(De L id i).2.2=id i:=rfl
  have ea:(an i).getD k (0,0)=a:=by simp[List.getD_eq_getElem?_getD,ha]
  have:=R3.ofs_end (t:=i) (show (Eu ⟨i,-1,10,k,a.1⟩).op=10 from rfl) rfl (by rw[Ec];exact hi) ⟨by rw[t1,t2];omega,by rw[t2];rfl,by rw[t2,anL_get an hi,ea];rfl⟩ (ih hF _ _ ho)
  have es:R3.endSt (anL N an) ⟨E,De L id⟩ i L.length=⟨E.set (id i) ⟨e.thr,e.op,e.a,e.b,e.beg,L.length,a.1,a.2⟩,De (L++[⟨i,-1,10,k,a.1⟩]) id⟩:=by
   unfold R3.endSt
   simp only[t1,t2,t3,anL_get an hi,ea,h4,if_neg,not_false_eq_true]
   rw[Ed he]
   unfold R3.ended
   congr 1
   funext t
   by_cases e:t=i
   ·subst e
    simp only[R3.upd,if_pos,De,Ce _ _ _ _ (.inr rfl),hn]
    congr 1
    ·omega
    ·congr 1;omega
   ·simp only[R3.upd,if_neg e,De,C9 _ e]
  rw[List.length_append,List.length_singleton,←es]
  exact this
theorem ofs_is {N:Nat}{cl:Nat->List Cl}{an:Nat->List (Int×Int)}(hl:∀ i,i<N->(an i).length=(cl i).length) {L:List Stp}{E:List His.Ev}{id:Nat->Nat}(h:Ev9 cl an L E id) (hF:Fit9 N cl an L) {r:Option R3.St}
 (ho:R3.Ofs (scL N cl) (anL N an) 0 (L.map Eu) R3.st0 r):r=some ⟨E,De L id⟩ :=
 ofs_ev hl h hF [] r (by rw[List.append_nil];exact ho)
end Go.Proofs.YtcfmffmcammbjaaDoor.Gen
namespace Go.Proofs.YtcfmffmcammbjaaDoor.Gen
open Go Go.Lift Go.Conc Go.RowKit
def InR (x:Int):Prop:=-9223372036854775808≤x∧x<9223372036854775808
def Cl.ok (c:Cl):Prop:=InR c.cb∧InR c.cc
structure InI (W:World) (p:Option Addr) (b o:Nat) (xs:List Int):Prop where
 at_:0<xs.length->p=some ⟨b,o,none⟩
 cell:∀ k x,xs[k]? = some x->W.cell? ⟨b,o+k,none⟩=some (I x)
 inr:∀ x∈xs,InR x
 len:xs.length≤17592186043904
theorem InI.grows {W W':World}{p:Option Addr}{b o:Nat}{xs:List Int}(h:InI W p b o xs) (g:Grows W W'):InI W' p b o xs :=
 ⟨h.at_,fun k x hk=>g.cell (h.cell k x hk),h.inr,h.len⟩
structure InS (W:World) (p:Option Addr) (b o n:Nat) (pc:Nat->Option Addr) (ln cp rb:Nat->Nat) (cl:Nat->List Cl):Prop where
 at_:0<n->p=some ⟨b,o,none⟩
 row:∀ k,k<n->W.cell? ⟨b,o+k,none⟩=some (.slice (pc k) (ln k) (cp k))
 len:∀ j,j<n->(cl j).length=ln j
 pq:∀ j,j<n->0<ln j->pc j=some ⟨rb j,roOf (pc j),none⟩
 call:∀ j,j<n->∀ (k:Nat) (c:Cl),(cl j)[k]? = some c->W.cell? ⟨rb j,roOf (pc j)+k*4,none⟩=some (I c.po)∧W.cell? ⟨rb j,roOf (pc j)+k*4+1,none⟩=some (I c.ca)∧W.cell? ⟨rb j,roOf (pc j)+k*4+2,none⟩=some (I c.cb)∧W.cell? ⟨rb j,roOf (pc j)+k*4+3,none⟩=some (I c.cc)
 ok:∀ j,j<n->∀ c∈cl j,InR c.ca∧c.ok
 n:n≤17592186043904
theorem InS.grows {W W':World}{p:Option Addr}{b o n:Nat}{pc:Nat->Option Addr}{ln cp rb:Nat->Nat}{cl:Nat->List Cl}(h:InS W p b o n pc ln cp rb cl) (g:Grows W W'):InS W' p b o n pc ln cp rb cl :=
 ⟨h.at_,fun k hk=>g.cell (h.row k hk),h.len,h.pq,fun j hj k c hc=>by
  have:=h.call j hj k c hc
  exact ⟨g.cell this.1,g.cell this.2.1,g.cell this.2.2.1,g.cell this.2.2.2⟩,h.ok,h.n⟩
theorem lens_scrs (mc:Mc) (fid:FuncId) (caps:Array Value) (pk:Nat->Option Obj) (N n:Nat) (K:List (Nat×Int)) (pc:Nat->Option Addr) (ln cp rb:Nat->Nat) (cl:Nat->List Cl) (hl:∀ j,j<n->(cl j).length≤64):lens (scrs mc fid caps pk N n K pc ln cp rb cl)≤64*n:=by
 unfold lens scrs
 rw[List.map_map]
 have:∀ (m j:Nat),j+m≤n->((List.range' j m).map ((fun s:Scr mc=>s.calls.length) ∘ Hv mc fid caps pk N n (K.map (·.1)) pc ln cp rb cl)).sum≤64*m:=by
  intro m
  induction m with
  |zero=>intro j _;simp
  |succ m ih =>
   intro j hj
   rw[List.range'_succ,List.map_cons,List.sum_cons]
   have h1:=ih (j+1) (by omega)
   have h2:((fun s:Scr mc=>s.calls.length) ∘ Hv mc fid caps pk N n (K.map (·.1)) pc ln cp rb cl) j≤64:=hl j (by omega)
   omega
 exact this n 0 (by omega)
theorem scrs_len (mc:Mc) (fid:FuncId) (caps:Array Value) (pk:Nat->Option Obj) (N n:Nat) (K:List (Nat×Int)) (pc:Nat->Option Addr) (ln cp rb:Nat->Nat) (cl:Nat->List Cl):(scrs mc fid caps pk N n K pc ln cp rb cl).length=n:=by simp[scrs]
theorem asked_of {W v:World}{p:Option Addr}{b o n:Nat}{pc:Nat->Option Addr}{ln cp rb:Nat->Nat}{cl:Nat->List Cl}(h:InS W p b o n pc ln cp rb cl) {xs:List Int}{wb bk:Nat}{sc:Value}(hn:IsNew W xs wb bk sc v) (h64:∀ j,j<n->ln j≤64) (h0:0<n):Asked v (newS wb bk W.heap.size sc xs) n b o pc ln cp rb cl:=by
 have g:=h.grows hn.old
 have far:∀ (a:Addr) (x:Value),W.cell? a=some x->¬ Own (newS wb bk W.heap.size sc xs) [] a.block:=fun a x ha ho=>by
  have:=hn.new _ (.inl ho)
  have:=World.block_lt_of_cell? _ _ ha
  omega
 refine ⟨fun j hj=>⟨h.len j hj,h64 j hj⟩,g.row,far _ _ (h.row 0 h0),fun j hj hl=>⟨h.pq j hj hl,?_⟩,g.call,fun j hj c hc=>(h.ok j hj c hc).1⟩
 obtain ⟨c,hc⟩:∃ c,(cl j)[0]? = some c:=⟨_,List.getElem?_eq_getElem (by rw[h.len j hj];exact hl)⟩
 exact far _ _ (h.call j hj 0 c hc).1
end Go.Proofs.YtcfmffmcammbjaaDoor.Gen
namespace Go.Proofs.YtcfmffmcammbjaaDoor.Gen
open Go Go.Lift Go.Conc Go.RowKit
open Go.Proofs.YtcfmffmcammbjaaDoor.His
open Go.ConcN (upd upd_same upd_ne)
theorem flat_inj:∀ {L L':List Stp},flat L=flat L'->L=L'
 | [],[],_=>rfl
 | [],_ :: _,h=>by simp[flat] at h
 |_ :: _,[],h=>by simp[flat] at h
 |⟨a1,a2,a3,a4,a5⟩ :: l,⟨b1,b2,b3,b4,b5⟩ :: l',h=>by
  simp only[flat,List.flatMap_cons,List.cons_append,List.nil_append,List.cons.injEq,Value.int.injEq,true_and] at h
  obtain ⟨rfl,rfl,rfl,rfl,rfl,h⟩:=h
  rw[flat_inj (L:=l) (L':=l') h]
def sumG (f:Nat->Nat):Nat->Nat
 |0=>0
 |n+1=>sumG f n+f n
theorem Hu {f g:Nat->Nat}:∀ (n:Nat),(∀ i,i<n->f i=g i)->sumG f n=sumG g n
 |0,_=>rfl
 |n+1,h=>by rw[sumG,sumG,Hu n (fun i hi=>h i (by omega)),h n (by omega)]
theorem sumG_one {f g:Nat->Nat}{j d:Nat}(hj:g j=f j+d) (ho:∀ i,i≠j->g i=f i):∀ (n:Nat),j<n->sumG g n=sumG f n+d
 |0,h=>absurd h (Nat.not_lt_zero _)
 |n+1,h=>by
  rw[sumG,sumG]
  by_cases e:j=n
  ·subst e
   rw[Hu (f:=g) (g:=f) j (fun i hi=>ho i (by omega)),hj];omega
  ·rw[sumG_one hj ho n (by omega),ho n (fun x=>e x.symm)];omega
theorem sumG_le {f g:Nat->Nat}:∀ (n:Nat),(∀ i,i<n->f i≤g i)->sumG f n≤sumG g n
 |0,_=>Nat.le_refl _
 |n+1,h=>by have:=sumG_le n (fun i hi=>h i (by omega));have:=h n (by omega);show sumG f n+f n≤sumG g n+g n;omega
theorem ev_len {N:Nat}{cl:Nat->List Cl}{an:Nat->List (Int×Int)}{L:List Stp}{E:List His.Ev}{id:Nat->Nat}(h:Ev9 cl an L E id):Fit9 N cl an L->E.length=sumG (fun i=>(nt L i+1) / 2) N:=by
 have one:∀ {L:List Stp} {i k:Nat} {a:Int},i<N->nt L i=2*k+1->sumG (fun j=>(nt (L++[⟨i,-1,10,k,a⟩]) j+1) / 2) N=sumG (fun j=>(nt L j+1) / 2) N:=fun {L i k a} hi hn=>Hu N fun j _=>by
  by_cases e:j=i
  ·subst e;rw[Ce _ _ _ _ (.inr rfl)];omega
  ·rw[C9 _ e]
 induction h with
 |nil =>
  intro _
  rw[Hu (g:=fun _=>0) N (fun i _=>by simp[nt])]
  have:∀ n,sumG (fun _=>0) n=0:=fun n=>by induction n with|zero=>rfl|succ n ih=>rw[sumG,ih]
  rw[this];rfl
 |@other L x E id h h9 h10 ih =>
  intro hF
  rw[ih (Fz hF _ _ rfl).1]
  exact Hu N fun i _=>by rw[Fb h9 h10]
 |@beg L E id i k c h hn hc ih =>
  intro hF
  obtain ⟨hF,hi⟩:=Fz hF _ _ rfl
  obtain ⟨j,hj,hi⟩:=hi (.inl rfl)
  have hj:(i:Int)=j:=hj
  obtain rfl:i=j:=by omega
  rw[List.length_append,List.length_singleton,ih hF]
  exact (sumG_one (j:=i) (d:=1) (by rw[Ce _ _ _ _ (.inl rfl),hn];omega) (fun j hj=>by rw[C9 _ hj]) N hi).symm
 |@stuck L E id i k a h hn ha h4 ih =>
  intro hF
  obtain ⟨hF,hi⟩:=Fz hF _ _ rfl
  obtain ⟨j,hj,hi⟩:=hi (.inr rfl)
  have hj:(i:Int)=j:=hj
  obtain rfl:i=j:=by omega
  rw[ih hF,one hi hn]
 |@fin L E id i k a e h hn ha h4 he ih =>
  intro hF
  obtain ⟨hF,hi⟩:=Fz hF _ _ rfl
  obtain ⟨j,hj,hi⟩:=hi (.inr rfl)
  have hj:(i:Int)=j:=hj
  obtain rfl:i=j:=by omega
  rw[List.length_set,ih hF,one hi hn]
theorem fit_nt {N:Nat}{cl:Nat->List Cl}{an:Nat->List (Int×Int)}{L:List Stp}(h:Fit9 N cl an L):∀ i,nt L i≤2*(cl i).length:=by
 induction h with
 |nil=>intro i;simp[nt]
 |other h h9 h10 ih=>intro i;rw[Fb h9 h10];exact ih i
 |@beg L i k h hi hn hk h4 ih =>
  intro j
  by_cases e:j=i
  ·subst e;rw[Ce _ _ _ _ (.inl rfl)];omega
  ·rw[C9 _ e];exact ih j
 |@fin L i k a h hi hn hk ha ih =>
  intro j
  by_cases e:j=i
  ·subst e;rw[Ce _ _ _ _ (.inr rfl)];omega
  ·rw[C9 _ e];exact ih j
theorem sumL_sc (N:Nat) (cl:Nat->List Cl):∀ k,k≤N->R3.sumL (scL N cl) k=sumG (fun i=>(cl i).length) k
 |0,_=>rfl
 |k+1,h=>by rw[R3.sumL,sumG,sumL_sc N cl k (by omega),scL_get cl (by omega),List.length_map]
theorem ev_le {N:Nat}{cl:Nat->List Cl}{an:Nat->List (Int×Int)}{L:List Stp}{E:List His.Ev}{id:Nat->Nat}(h:Ev9 cl an L E id) (hF:Fit9 N cl an L):E.length≤R3.sumL (scL N cl) (scL N cl).length:=by
 rw[Ec,sumL_sc N cl N (Nat.le_refl _),ev_len h hF]
 exact sumG_le N fun i _=>by have:=fit_nt hF i;omega
theorem SLw_grows {α:Type}{n:Nat}{enc:α->List Value}{w w':World}{v:Value}{l:List α}(hg:Grows w w') (h:R3.SLw n enc w v l):R3.SLw n enc w' v l:=by
 obtain ⟨p,cap,rfl,h1,h2,h3⟩:=h
 refine ⟨p,cap,rfl,h1,h2,fun i a hi=>?_⟩
 obtain ⟨blk,off,e,hlt,hr⟩:=h3 i a hi
 exact ⟨blk,off,e,Nat.lt_of_lt_of_le hlt hg.size,fun j u hj=>hg.cell (hr j u hj)⟩
theorem SSw_grows {α:Type}{n:Nat}{enc:α->List Value}{w w':World}{v:Value}{ll:List (List α)}(hg:Grows w w') (h:R3.SSw n enc w v ll):R3.SSw n enc w' v ll:=by
 obtain ⟨p,cap,rfl,h1,h2,h3⟩:=h
 refine ⟨p,cap,rfl,h1,h2,fun i l hi=>?_⟩
 obtain ⟨blk,off,vi,e,hc,hs⟩:=h3 i l hi
 exact ⟨blk,off,vi,e,hg.cell hc,SLw_grows hg hs⟩
theorem ss_scripts {W:World}{p:Option Addr}{b o n cap:Nat}{pc:Nat->Option Addr}{ln cp rb:Nat->Nat}{cl:Nat->List Cl}(h:InS W p b o n pc ln cp rb cl) (h64:∀ j,j<n->ln j≤64) (hn:n≤8):R3.SSw 4 R3.callL W (.slice p n cap) (scL n cl):=by
 refine ⟨p,cap,by rw[Ec],by rw[Ec];omega,Nat.le_refl _,fun i l hi=>?_⟩
 have hin:i<n:=by have:=(List.getElem?_eq_some_iff.1 hi).1;rwa [Ec] at this
 obtain rfl:l=(cl i).map toCall:=by simpa [scL,hin] using hi.symm
 refine ⟨b,o,_,h.at_ (by omega),h.row i hin,pc i,cp i,by rw[List.length_map,h.len i hin],by rw[List.length_map,h.len i hin];have:=h64 i hin;omega,Nat.le_refl _,fun k a hk=>?_⟩
 rw[List.getElem?_map] at hk
 cases hc:(cl i)[k]? with
 |none=>rw[hc] at hk;cases hk
 |some c =>
  rw[hc] at hk
  obtain rfl:toCall c=a:=by simpa using hk
  have hl:0<ln i:=by have:=(List.getElem?_eq_some_iff.1 hc).1;rw[h.len i hin] at this;omega
  obtain ⟨c0,c1,c2,c3⟩:=h.call i hin k c hc
  refine ⟨rb i,roOf (pc i),h.pq i hin hl,World.block_lt_of_cell? _ _ c0,fun j u hj=>?_⟩
  match j,hj with
  |0,hj=>cases hj;exact c0
  |1,hj=>cases hj;exact c1
  |2,hj=>cases hj;exact c2
  |3,hj=>cases hj;exact c3
  |j+4,hj=>simp[R3.callL] at hj
theorem ss_answers {W:World}{n M:Nat}{A ln:Nat->Nat}{l:Nat->Ph}{t:TypeId}(h64:∀ j,j<n->ln j≤64) (hn:n≤8) (hrow:∀ j,j<n->W.cell? ⟨M,j,none⟩=some (.slice (some ⟨A j,0,none⟩) (ln j) (ln j))) (hans:∀ j,j<n->(l j).ans.length=ln j∧(0<ln j->W.heap[A j]? = some (.cells (arow (l j).ans).toArray t (0,0)))) :
 R3.SSw 2 R3.ansL W (.slice (some ⟨M,0,none⟩) n n) (anL n fun i=>(l i).ans):=by
 refine ⟨some ⟨M,0,none⟩,n,by rw[anL_len],by rw[anL_len];omega,Nat.le_refl _,fun i a hi=>?_⟩
 have hin:i<n:=by have:=(List.getElem?_eq_some_iff.1 hi).1;rwa [anL_len] at this
 obtain rfl:a=(l i).ans:=by simpa [anL,hin] using hi.symm
 refine ⟨M,0,_,rfl,by rw[Nat.zero_add];exact hrow i hin,some ⟨A i,0,none⟩,ln i,by rw[(hans i hin).1],by rw[(hans i hin).1];have:=h64 i hin;omega,Nat.le_refl _,fun k q hk=>?_⟩
 have hl:0<ln i:=by have:=(List.getElem?_eq_some_iff.1 hk).1;rw[(hans i hin).1] at this;omega
 have hb:=(hans i hin).2 hl
 obtain ⟨a0,a1⟩:=arow_get _ _ _ hk
 have c0:W.cell? ⟨A i,k*2,none⟩=some (I q.1):=cell_of hb (by rw[List.getElem?_toArray];exact a0)
 have c1:W.cell? ⟨A i,k*2+1,none⟩=some (I q.2):=cell_of hb (by rw[List.getElem?_toArray];exact a1)
 refine ⟨A i,0,rfl,World.block_lt_of_cell? _ _ c0,fun j u hj=>?_⟩
 rw[Nat.zero_add]
 match j,hj with
 |0,hj=>cases hj;exact c0
 |1,hj=>cases hj;exact c1
 |j+2,hj=>simp[R3.ansL] at hj
theorem sl_trace {W:World}{p:Option Addr}{g cap m:Nat}{L:List Stp}(hm:m=L.length) (hs:m≤400000) (hp:0<m->p=some ⟨g,0,none⟩) (hc:∀ j u,(flat L)[j]? = some u->W.cell? ⟨g,j,none⟩=some u):R3.SLw 5 R3.Ga W (.slice p m cap) (L.map Eu):=by
 subst hm
 refine ⟨p,cap,by rw[List.length_map],by rw[List.length_map];omega,Nat.le_refl _,fun i a hi=>?_⟩
 rw[List.getElem?_map] at hi
 cases hs:L[i]? with
 |none=>rw[hs] at hi;cases hi
 |some s =>
  rw[hs] at hi
  obtain rfl:Eu s=a:=by simpa using hi
  have hl:=(List.getElem?_eq_some_iff.1 hs).1
  obtain ⟨f0,f1,f2,f3,f4⟩:=flat_get L i s hs
  refine ⟨g,0,hp (by omega),World.block_lt_of_cell? _ _ (hc _ _ f0),fun j u hj=>?_⟩
  rw[Nat.zero_add]
  match j,hj with
  |0,hj=>cases hj;exact hc _ _ f0
  |1,hj=>cases hj;exact hc _ _ f1
  |2,hj=>cases hj;exact hc _ _ f2
  |3,hj=>cases hj;exact hc _ _ f3
  |4,hj=>cases hj;exact hc _ _ f4
  |j+5,hj=>simp[R3.Ga] at hj
end Go.Proofs.YtcfmffmcammbjaaDoor.Gen
namespace Go.Proofs.YtcfmffmcammbjaaDoor.Gen
open Go Go.Lift Go.Conc Go.RowKit
noncomputable def LB13:Code:=Tryd.f13.body.getD .skip
noncomputable def l13a:Code:=seq1 (seq2 (seq2 LB13))
noncomputable def l13b:Code:=seq1 (seq2 (seq2 (seq2 LB13)))
noncomputable def l13c:Code:=seq1 (seq2 (seq2 (seq2 (seq2 LB13))))
noncomputable def l13d:Code:=seq1 (seq2 (seq2 (seq2 (seq2 (seq2 LB13)))))
noncomputable def l13e:Code:=(seq2 (seq2 (seq2 (seq2 (seq2 (seq2 LB13))))))
noncomputable def P13:Code:=.seq l13a (.seq l13b (.seq l13c (.seq l13d l13e)))
theorem eLB13:LB13=.seq (seq1 LB13) (.seq (seq1 (seq2 LB13)) P13):=by kernel_rfl
theorem l13c_wp {v:World}{a:Act}{n0:Int}{wb:Nat}{sc an:Value}  (hA:Fl 43 [(1,I n0),(2,sc),(8,Pt wb 0),(9,an),(7,.bool true),(10,I 0)] a):l13c.wp Tryd.prog (fun e a' w'=>e=.normal∧Fl 43 [(1,I n0),(2,sc),(8,Pt wb 0),(9,an)] a'∧w'.heap=v.heap∧w'.os=v.os∧w'.output=v.output) a v:=by
 obtain ⟨hsz,hd,hp⟩:=hA
 obtain ⟨u,rfl,hg⟩:=litN hsz hd
 simp only[List.forall_mem_cons,hg] at hp
 obtain ⟨u1,u2,u8,u9,u7,u10,-⟩:=hp
 clear hg hsz hd
 unfold l13c LB13 Tryd.f13 seq2 seq1
 simp only[Option.getD_some,lits,Nat.reduceAdd,u1,u2,u8,u9,u7,u10]
 clear u1 u2 u8 u9 u7 u10
 go_wp2_with fail
 first
  |exact ⟨rfl,rfl,by
    intro p hp
    simp only[List.mem_cons,List.not_mem_nil,or_false] at hp
    rcases hp with rfl|rfl|rfl|rfl<;>rfl⟩
  |exact ⟨⟨rfl,rfl,by
    intro p hp
    simp only[List.mem_cons,List.not_mem_nil,or_false] at hp
    rcases hp with rfl|rfl|rfl|rfl<;>rfl⟩,rfl⟩
  |exact ⟨⟨rfl,rfl,by
    intro p hp
    simp only[List.mem_cons,List.not_mem_nil,or_false] at hp
    rcases hp with rfl|rfl|rfl|rfl<;>rfl⟩,rfl,rfl⟩
  |exact ⟨⟨rfl,rfl,by
    intro p hp
    simp only[List.mem_cons,List.not_mem_nil,or_false] at hp
    rcases hp with rfl|rfl|rfl|rfl<;>rfl⟩,rfl,rfl,rfl⟩
  |exact ⟨⟨rfl,rfl,by
    intro p hp
    simp only[List.mem_cons,List.not_mem_nil,or_false] at hp
    rcases hp with rfl|rfl|rfl|rfl<;>rfl⟩,rfl,rfl,rfl,rfl⟩
  |exact ⟨⟨rfl,rfl,by
    intro p hp
    simp only[List.mem_cons,List.not_mem_nil,or_false] at hp
    rcases hp with rfl|rfl|rfl|rfl<;>rfl⟩,rfl,rfl,rfl,rfl,rfl⟩
theorem l13c_wpa {v:World}{a:Act}{n0:Int}{wb:Nat}{sc an:Value}{E:Int}(h1:E=1) (hA:Fl 43 [(1,I n0),(2,sc),(8,Pt wb 0),(9,an),(7,.bool true),(10,I E)] a):l13c.wp Tryd.prog (fun e a' w'=>e=.ret∧Fl 43 [(6,.bool true)] a'∧w'.heap=v.heap∧w'.os=v.os∧w'.output=v.output) a v:=by
 obtain ⟨hsz,hd,hp⟩:=hA
 obtain ⟨u,rfl,hg⟩:=litN hsz hd
 simp only[List.forall_mem_cons,hg] at hp
 obtain ⟨u1,u2,u8,u9,u7,u10,-⟩:=hp
 clear hg hsz hd
 subst h1
 unfold l13c LB13 Tryd.f13 seq2 seq1
 simp only[Option.getD_some,lits,Nat.reduceAdd,u1,u2,u8,u9,u7,u10]
 clear u1 u2 u8 u9 u7 u10
 go_wp2_with fail
 first
  |exact ⟨rfl,rfl,by
    intro p hp
    simp only[List.mem_cons,List.not_mem_nil,or_false] at hp
    rcases hp with rfl<;>rfl⟩
  |exact ⟨⟨rfl,rfl,by
    intro p hp
    simp only[List.mem_cons,List.not_mem_nil,or_false] at hp
    rcases hp with rfl<;>rfl⟩,rfl⟩
  |exact ⟨⟨rfl,rfl,by
    intro p hp
    simp only[List.mem_cons,List.not_mem_nil,or_false] at hp
    rcases hp with rfl<;>rfl⟩,rfl,rfl⟩
  |exact ⟨⟨rfl,rfl,by
    intro p hp
    simp only[List.mem_cons,List.not_mem_nil,or_false] at hp
    rcases hp with rfl<;>rfl⟩,rfl,rfl,rfl⟩
  |exact ⟨⟨rfl,rfl,by
    intro p hp
    simp only[List.mem_cons,List.not_mem_nil,or_false] at hp
    rcases hp with rfl<;>rfl⟩,rfl,rfl,rfl,rfl⟩
  |exact ⟨⟨rfl,rfl,by
    intro p hp
    simp only[List.mem_cons,List.not_mem_nil,or_false] at hp
    rcases hp with rfl<;>rfl⟩,rfl,rfl,rfl,rfl,rfl⟩
theorem l13c_wpb {v:World}{a:Act}{n0:Int}{wb:Nat}{sc an:Value}{E:Int}(h1:E=2) (hA:Fl 43 [(1,I n0),(2,sc),(8,Pt wb 0),(9,an),(7,.bool true),(10,I E)] a):l13c.wp Tryd.prog (fun e a' w'=>e=.ret∧Fl 43 [(6,.bool true)] a'∧w'.heap=v.heap∧w'.os=v.os∧w'.output=v.output) a v:=by
 obtain ⟨hsz,hd,hp⟩:=hA
 obtain ⟨u,rfl,hg⟩:=litN hsz hd
 simp only[List.forall_mem_cons,hg] at hp
 obtain ⟨u1,u2,u8,u9,u7,u10,-⟩:=hp
 clear hg hsz hd
 subst h1
 unfold l13c LB13 Tryd.f13 seq2 seq1
 simp only[Option.getD_some,lits,Nat.reduceAdd,u1,u2,u8,u9,u7,u10]
 clear u1 u2 u8 u9 u7 u10
 go_wp2_with fail
 first
  |exact ⟨rfl,rfl,by
    intro p hp
    simp only[List.mem_cons,List.not_mem_nil,or_false] at hp
    rcases hp with rfl<;>rfl⟩
  |exact ⟨⟨rfl,rfl,by
    intro p hp
    simp only[List.mem_cons,List.not_mem_nil,or_false] at hp
    rcases hp with rfl<;>rfl⟩,rfl⟩
  |exact ⟨⟨rfl,rfl,by
    intro p hp
    simp only[List.mem_cons,List.not_mem_nil,or_false] at hp
    rcases hp with rfl<;>rfl⟩,rfl,rfl⟩
  |exact ⟨⟨rfl,rfl,by
    intro p hp
    simp only[List.mem_cons,List.not_mem_nil,or_false] at hp
    rcases hp with rfl<;>rfl⟩,rfl,rfl,rfl⟩
  |exact ⟨⟨rfl,rfl,by
    intro p hp
    simp only[List.mem_cons,List.not_mem_nil,or_false] at hp
    rcases hp with rfl<;>rfl⟩,rfl,rfl,rfl,rfl⟩
  |exact ⟨⟨rfl,rfl,by
    intro p hp
    simp only[List.mem_cons,List.not_mem_nil,or_false] at hp
    rcases hp with rfl<;>rfl⟩,rfl,rfl,rfl,rfl,rfl⟩
theorem l13c_no {v:World}{a:Act}{n0:Int}{wb:Nat}{sc an:Value}{E:Int}(h1:E=1∨E=2) (hA:Fl 43 [(1,I n0),(2,sc),(8,Pt wb 0),(9,an),(7,.bool true),(10,I E)] a):l13c.wp Tryd.prog (fun e a' w'=>e=.ret∧Fl 43 [(6,.bool true)] a'∧w'.heap=v.heap∧w'.os=v.os∧w'.output=v.output) a v:=h1.elim (fun h=>l13c_wpa h hA) (fun h=>l13c_wpb h hA)
theorem l13a_wp {v:World}{a:Act}{s1 s2:Value}(p:Option Addr) (cap vb vo:Nat) (xs:List Int) (hp:0<xs.length->p=some ⟨vb,vo,none⟩) (hx1:xs.length≤17592186043904) (hv:∀ k x,xs[k]? = some x->v.cell? ⟨vb,vo+k,none⟩=some (I x)) (hA:Fl 43 [(0,.slice p xs.length cap),(1,s1),(2,s2),(7,.bool true)] a) :
 l13a.wp Tryd.prog (fun e a w'=>e=.normal∧∃ wb bk sc,Fl 43 [(1,s1),(2,s2),(7,.bool true),(8,Pt wb 0)] a∧IsNew v xs wb bk sc w') a v:=by
 have H7:Hid (Calls Tryd.prog 17 #[.slice p xs.length cap] v _):=⟨(body7A p vb vo cap xs hp hx1 hv).calls Tryd.func17 rfl⟩
 clear hp hx1 hv
 obtain ⟨hsz,hd,hp⟩:=hA
 obtain ⟨u,rfl,hg⟩:=litN hsz hd
 have u0:=(hg 0).symm.trans (hp (0,.slice p xs.length cap) (by simp))
 have u1:=(hg 1).symm.trans (hp (1,s1) (by simp))
 have u2:=(hg 2).symm.trans (hp (2,s2) (by simp))
 have u7:=(hg 7).symm.trans (hp (7,.bool true) (by simp))
 clear hg hp hsz hd
 unfold l13a LB13 Tryd.f13 seq2 seq1
 simp only[Option.getD_some,lits,Nat.reduceAdd,u0,u1,u2,u7]
 clear u0 u1 u2 u7
 go_wp2_with (first
  |(go_at_call 17;refine H7.out.mono ?_;rintro e w1 ⟨_,rfl,wb,bk,sc,rfl,hnew⟩))
 first
  |exact ⟨wb,bk,sc,⟨rfl,rfl,by
    intro p hp
    simp only[List.mem_cons,List.not_mem_nil,or_false] at hp
    rcases hp with rfl|rfl|rfl|rfl<;>rfl⟩,hnew⟩
  |exact ⟨wb,⟨rfl,rfl,by
    intro p hp
    simp only[List.mem_cons,List.not_mem_nil,or_false] at hp
    rcases hp with rfl|rfl|rfl|rfl<;>rfl⟩,bk,sc,hnew⟩
theorem l13d_wp {v:World}{a:Act}{n0:Int}{sc an:Value}{S:TS}{z:Nat->Option Nat}(hR:Rep z S v) (hn:S.n*40≤140737488355328) (h1:∀ u∈S.tr,u.oneCell'=true) (hA:Fl 43 [(1,I n0),(2,sc),(8,Pt S.wb 0),(9,an)] a) :
 l13d.wp Tryd.prog (fun e a w'=>e=.normal∧∃ p g cap,Fl 43 [(1,I n0),(2,sc),(8,Pt S.wb 0),(9,an),(11,.slice p S.n cap)] a∧(0<S.n->p=some ⟨g,0,none⟩∧v.heap.size≤g)∧(∀ j u,S.tr[j]? = some u->w'.cell? ⟨g,j,none⟩=some u)∧Grows v w') a v:=by
 have H9:Hid (Calls Tryd.prog 23 #[Pt S.wb 0] v _):=⟨(body9A hR hn h1).calls Tryd.func23 rfl⟩
 clear hR hn h1
 obtain ⟨hsz,hd,hp⟩:=hA
 obtain ⟨u,rfl,hg⟩:=litN hsz hd
 have u1:=(hg 1).symm.trans (hp (1,I n0) (by simp))
 have u2:=(hg 2).symm.trans (hp (2,sc) (by simp))
 have u8:=(hg 8).symm.trans (hp (8,Pt S.wb 0) (by simp))
 have u9:=(hg 9).symm.trans (hp (9,an) (by simp))
 clear hg hp hsz hd
 unfold l13d LB13 Tryd.f13 seq2 seq1
 simp only[Option.getD_some,lits,Nat.reduceAdd,u1,u2,u8,u9]
 clear u1 u2 u8 u9
 go_wp2_with (first
  |(go_at_call 23;refine H9.out.mono ?_;rintro e w1 ⟨_,rfl,p,g,cap,rfl,k1,k2,k3⟩))
 first
  |exact ⟨p,g,cap,⟨rfl,rfl,by
    intro p hp
    simp only[List.mem_cons,List.not_mem_nil,or_false] at hp
    rcases hp with rfl|rfl|rfl|rfl|rfl<;>rfl⟩,k1,k2,k3⟩
  |exact ⟨p,⟨cap,⟨rfl,rfl,by
    intro p hp
    simp only[List.mem_cons,List.not_mem_nil,or_false] at hp
    rcases hp with rfl|rfl|rfl|rfl|rfl<;>rfl⟩⟩,g,k1,k2⟩
  |exact ⟨p,⟨cap,⟨rfl,rfl,by
    intro p hp
    simp only[List.mem_cons,List.not_mem_nil,or_false] at hp
    rcases hp with rfl|rfl|rfl|rfl|rfl<;>rfl⟩⟩,g,k1,k2,k3⟩
theorem l13e_wp {v:World}{a:Act}{n0:Int}{sc an tv:Value}(H:Calls Tryd.prog 24 #[I 3,I 0,I 2,sc,an,tv] v fun e w'=>e=.returned (.bool true)∧Below v.heap.size v w') (hA:Fl 43 [(1,I n0),(2,sc),(9,an),(11,tv)] a) :
 l13e.wp Tryd.prog (fun e a w'=>e=.ret∧Fl 43 [(6,.bool true)] a∧Below v.heap.size v w') a v:=by
 have H9:Hid (Calls Tryd.prog 24 #[I 3,I 0,I 2,sc,an,tv] v _):=⟨H⟩
 clear H
 obtain ⟨hsz,hd,hp⟩:=hA
 obtain ⟨u,rfl,hg⟩:=litN hsz hd
 have u1:=(hg 1).symm.trans (hp (1,I n0) (by simp))
 have u2:=(hg 2).symm.trans (hp (2,sc) (by simp))
 have u9:=(hg 9).symm.trans (hp (9,an) (by simp))
 have u11:=(hg 11).symm.trans (hp (11,tv) (by simp))
 clear hg hp hsz hd
 unfold l13e LB13 Tryd.f13 seq2
 simp only[Option.getD_some,lits,Nat.reduceAdd,u1,u2,u9,u11]
 clear u1 u2 u9 u11
 go_wp2_with (first
  |(go_at_call 24;refine H9.out.mono ?_;rintro e w1 ⟨rfl,k3⟩))
 exact ⟨rfl,rfl,by
  intro p hp
  simp only[List.mem_cons,List.not_mem_nil,or_false] at hp
  rcases hp with rfl<;>rfl⟩
theorem fine_l13c:Av Tryd.prog true LV l13c:=Bu A7 extT (by kernel_rfl)
theorem fine_l13a:Av Tryd.prog true LV l13a:=Bu A7 extT (by kernel_rfl)
theorem fine_l13d:Av Tryd.prog true LV l13d:=Bu A7 extT (by kernel_rfl)
theorem fine_l13e:Av Tryd.prog true LX3 l13e:=Bu Az extT (by kernel_rfl)
theorem gx_same {v v':World}(e:v'.heap=v.heap) (e1:v'.os=v.os) (e2:v'.output=v.output):Grows v v':=⟨by rw[e];exact Nat.le_refl _,fun b _=>by rw[e],e1,e2⟩
noncomputable def P13s:Code:=.seq l13d l13e
theorem eP13:P13=.seq l13a (.seq l13b (.seq l13c P13s)):=rfl
theorem law13_in {Ch:Nat->Prop}{Stop:Goroutine->World->Prop}{main:Bool}{w:World}(x0:Value) (x1:Value) (x2:Value)
 (hk:∀ (w':World) (bd:Frame) (ad:Act) (od:Array Oper) (qd:Nat) (rd:List Nat) (oe:Oper) (kd:List Item),(∃ d,w'=w.at d)->od[qd]? = some oe ->
   (∀ (Ch:Nat->Prop) (Stop:Goroutine->World->Prop) (w1:World),(∀ a,Fl 43 [(0,x0),(1,x1),(2,x2),(7,.bool true)] a->GoesI Tryd.prog main (DT (ScZ zn) Ch) Stop (G ((base 13).at a [.code P13]) []) w1)->GoesI Tryd.prog main (DT (ScZ zn) Ch) Stop (G (bd.at (ad.put oe.dst (.bool true)) (.inRegion od rd :: kd)) []) w1) ->
   GoesI Tryd.prog main (DT (ScZ zn) Ch) Stop (G ((base 51).at { tmps:=Array.replicate 28 undef,defers:=[] } [.code B51]) [bd.at ad (.inRegion od (qd :: rd) :: kd)]) w') :
 GoesI Tryd.prog main (DT (ScZ zn) Ch) Stop (G ((base 13).at { tmps:=#[x0,x1,x2]++Array.replicate 40 undef,defers:=[] } [.code LB13]) []) w:=by
 rw[eLB13]
 simp only[Array.replicate_succ,Array.replicate_zero,List.push_toArray,List.append_toArray,List.nil_append,List.cons_append]
 refine Ad (Aa _ _) ?_
 generalize hR:P13=R9 at hk ⊢
 unfold LB13 Tryd.f13 seq1 seq2
 simp only[Option.getD_some]
 refine Ag (Aa _ _) ?_
 simp only[List.size_toArray,List.length_cons,List.length_nil,Nat.reduceAdd,Nat.zero_add,List.range,List.range.loop]
 iterate 1
  (refine Ah rfl rfl (by decide) (fun d K hK=>?_)
   go_simp
   refine hK _ _ ⟨Aj (fun e he=>?_),GoesI.at ?_ d⟩
   ·have hm:=mem_listed he
    simp[go_sem, *] at hm
    try exact ⟨_,_,hm⟩
   clear hK K)
 refine Ac (Aa _ _) ?_
 refine Ad (Aa _ _) ?_
 refine Ag (Aa _ _) ?_
 simp only[List.size_toArray,List.length_cons,List.length_nil,Nat.reduceAdd,Nat.zero_add,List.range,List.range.loop]
 refine Bo (f:=51) (fn:=Tryd.f51) (args:=#[]) (Aa _ _) rfl rfl (by decide) rfl (by simp[Act.eval]) Tryd.func51 (by decide) rfl ?_
 refine hk w _ _ _ _ _ _ _ ⟨w.drawn,rfl⟩ rfl (fun Ch Stop w1 hg=>?_)
 clear hk
 iterate 1
  (refine Ah rfl rfl (by decide) (fun d K hK=>?_)
   go_simp
   refine hK _ _ ⟨Aj (fun e he=>?_),GoesI.at ?_ d⟩
   ·have hm:=mem_listed he
    simp[go_sem, *] at hm
    try exact ⟨_,_,hm⟩
   clear hK K)
 refine Ac (Aa _ _) ?_
 exact hg _ ⟨rfl,rfl,by
  intro p hp
  simp only[List.mem_cons,List.not_mem_nil,or_false] at hp
  rcases hp with rfl|rfl|rfl|rfl<;>rfl⟩
theorem end13 {a:Act}{todo:List Item}{w:World}(hd:a.defers=[]) (h4:a.tmps.getD 6 undef=.bool true):stepG Tryd.prog true (G { (base 13).at a todo with mode:=.returning } []) w=.ended (.done (.bool true)) w #[]:=by
 have hr:(results Tryd.f13 a.tmps).run Tryd.prog w=.ok (.bool true) w:=by rw[results_tmp (t:=6) rfl,h4]
 have he:(results Tryd.f13 a.tmps).events Tryd.prog w #[]=#[]:=by simp[results,go_sem,Tryd.f13]
 simp[G,stepG,unwind,Frame.at,hd,Tryd.func13,base,hr,he,doReturn,GStep.after,seen]
theorem law13_b {Ch:Nat->Prop}{Stop:Goroutine->World->Prop}{main:Bool}{v w:World}(p:Option Addr) (cap vb vo:Nat) (xs:List Int) (hp:0<xs.length->p=some ⟨vb,vo,none⟩) (hx1:xs.length≤17592186043904) (hv:∀ k x,xs[k]? = some x->v.cell? ⟨vb,vo+k,none⟩=some (I x)) (s1 s2:Value) (hvw:Rel zn v w) (hn:Ak Ch v)
 (hk:∀ (v' w':World) (wb bk:Nat) (sc:Value) (bd:Frame) (ad:Act) (od:Array Oper) (qd:Nat) (rd:List Nat) (oe:Oper) (kd:List Item),Rel zn v' w'->Ak Ch v'->IsNew v xs wb bk sc v'->od[qd]? = some oe ->
   (∀ (Ch:Nat->Prop) (Stop:Goroutine->World->Prop) (w2:World) (A:Value) (E:Int),(∀ a,Fl 43 [(1,s1),(2,s2),(7,.bool true),(8,Pt wb 0),(9,A),(10,I E)] a->GoesI Tryd.prog main (DT (ScZ zn) Ch) Stop (G ((base 13).at a [.code (.seq l13c P13s)]) []) w2) ->
     GoesI Tryd.prog main (DT (ScZ zn) Ch) Stop (G (bd.at (ad.put oe.dst (.tuple #[A,I E])) (.inRegion od rd :: kd)) []) w2) ->
   GoesI Tryd.prog main (DT (ScZ zn) Ch) Stop (G ((base 52).at { tmps:=#[Pt wb 0,s1,s2]++Array.replicate 25 undef,defers:=[] } [.code B52]) [bd.at ad (.inRegion od (qd :: rd) :: kd)]) w') :
 ∀ a,Fl 43 [(0,.slice p xs.length cap),(1,s1),(2,s2),(7,.bool true)] a->GoesI Tryd.prog main (DT (ScZ zn) Ch) Stop (G ((base 13).at a [.code P13]) []) w:=by
 intro a0 hA0
 rw[eP13]
 refine Ad (Aa _ _) ?_
 refine Ax (z:=zn) (wr:=true) (L:=LV) (I:=Ak Ch) hE Gc Ap (fun v v' w w' es hi hr ho he=>Be v v' w w' es hi hr ho he) hvw fine_l13a hA0.2.1 (by simp[base]) hn
  (Q:=fun a w'=>∃ wb bk sc,Fl 43 [(1,s1),(2,s2),(7,.bool true),(8,Pt wb 0)] a∧IsNew v xs wb bk sc w') (fun τ=>wp_mono (l13a_wp (v:=Ao v τ 0) p cap vb vo xs hp hx1 hv hA0) (fun e a w' hq=>⟨hq.1,by
    obtain ⟨_,wb,bk,sc,h1,h2⟩:=hq
    exact ⟨wb,bk,sc,h1,h2.mem,h2.opn,h2.new,⟨h2.old.size,h2.old.old,h2.old.os,h2.old.output⟩⟩⟩)) ?_
 rintro a1 v1 w1 ⟨wb,bk,sc,hB,hnew⟩ hr1 hn1 -
 obtain ⟨hsz,hd,hpp⟩:=hB
 obtain ⟨u,rfl,hg⟩:=litN hsz hd
 have u1:=(hg 1).symm.trans (hpp (1,s1) (by simp))
 have u2:=(hg 2).symm.trans (hpp (2,s2) (by simp))
 have u7:=(hg 7).symm.trans (hpp (7,.bool true) (by simp))
 have u8:=(hg 8).symm.trans (hpp (8,Pt wb 0) (by simp))
 clear hg hpp hsz hd hA0
 refine Ad (Aa _ _) ?_
 clear hvw hn hp hx1 hv
 generalize hT:Code.seq l13c P13s=T at hk ⊢
 unfold l13b LB13 Tryd.f13 seq1 seq2
 simp only[Option.getD_some,lits,Nat.reduceAdd,u1,u2,u7,u8]
 clear u1 u2 u7 u8
 refine Ag (Aa _ _) ?_
 simp only[List.size_toArray,List.length_cons,List.length_nil,Nat.reduceAdd,Nat.zero_add,List.range,List.range.loop]
 iterate 3
  (refine Ah rfl rfl (by decide) (fun d K hK=>?_)
   go_simp
   refine hK _ _ ⟨Aj (fun e he=>?_),GoesI.at ?_ d⟩
   ·have hm:=mem_listed he
    simp[go_sem, *] at hm
    try exact ⟨_,_,hm⟩
   clear hK K)
 refine Bo (f:=52) (fn:=Tryd.f52) (args:=#[Pt wb 0,s1,s2]) (Aa _ _) rfl rfl (by decide) rfl (by simp[Act.eval]) Tryd.func52 (by decide) rfl ?_
 refine hk v1 w1 wb bk sc _ _ _ _ _ _ _ hr1 hn1 hnew rfl (fun Ch Stop w2 A E hwp=>?_)
 clear hk hnew hr1 hn1
 iterate 5
  (refine Ah rfl rfl (by decide) (fun d K hK=>?_)
   go_simp
   refine hK _ _ ⟨Aj (fun e he=>?_),GoesI.at ?_ d⟩
   ·have hm:=mem_listed he
    simp[go_sem, *] at hm
    try exact ⟨_,_,hm⟩
   clear hK K)
 refine Ac (Aa _ _) ?_
 subst hT
 exact hwp _ ⟨rfl,rfl,by
  intro p hp
  simp only[List.mem_cons,List.not_mem_nil,or_false] at hp
  rcases hp with rfl|rfl|rfl|rfl|rfl|rfl<;>rfl⟩
theorem law13_no {Ch:Nat->Prop}{Stop:Goroutine->World->Prop}{main:Bool}{v w:World}{a:Act}{n0:Int}{wb:Nat}{sc an:Value}{E:Int}(hE1:E=1∨E=2) (hvw:Rel zn v w) (hn:Ak Ch v) (hA:Fl 43 [(1,I n0),(2,sc),(8,Pt wb 0),(9,an),(7,.bool true),(10,I E)] a)
 (hend:∀ a' v' w' todo,Rel zn v' w'->Grows v v'->a'.defers=[]->a'.tmps.getD 6 undef=.bool true->GoesI Tryd.prog main (DT (ScZ zn) Ch) Stop (G { (base 13).at a' todo with mode:=.returning } []) w') :
 GoesI Tryd.prog main (DT (ScZ zn) Ch) Stop (G ((base 13).at a [.code (.seq l13c P13s)]) []) w:=by
 refine Ad (Aa _ _) ?_
 refine goesI_retZ (Q:=fun a w'=>Fl 43 [(6,.bool true)] a∧w'.heap=v.heap∧w'.os=v.os∧w'.output=v.output) hvw hn fine_l13c hA.2.1 (fun τ=>l13c_no (v:=Ao v τ 0) hE1 hA) (fun a' v' w' todo hQ hd hr hn'=>hend a' v' w' todo hr (gx_same hQ.2.1 hQ.2.2.1 hQ.2.2.2) hd (hQ.1.at 6 (.bool true) (by simp)))
theorem law13_yes {Ch:Nat->Prop}{Stop:Goroutine->World->Prop}{main:Bool}{v w:World}{a:Act}{n0:Int}{S:TS}{L:List Stp}{sv av:Value}
 (hS:Rep zn S v) (htr:S.tr=flat L) (hSn:S.n=L.length) (hs4:S.n≤400000)
 (hX:∀ (u:World) (tv:Value),Grows v u->R3.SLw 5 R3.Ga u tv (L.map Eu)->Calls Tryd.prog 24 #[I 3,I 0,I 2,sv,av,tv] u fun e w'=>e=.returned (.bool true)∧Below u.heap.size u w')
 (hvw:Rel zn v w) (hn:Ak Ch v) (hA:Fl 43 [(1,I n0),(2,sv),(8,Pt S.wb 0),(9,av),(7,.bool true),(10,I 0)] a)
 (hend:∀ a' v' w' todo,Rel zn v' w'->Grows v v'->a'.defers=[]->a'.tmps.getD 6 undef=.bool true->GoesI Tryd.prog main (DT (ScZ zn) Ch) Stop (G { (base 13).at a' todo with mode:=.returning } []) w') :
 GoesI Tryd.prog main (DT (ScZ zn) Ch) Stop (G ((base 13).at a [.code (.seq l13c P13s)]) []) w:=by
 refine Ad (Aa _ _) ?_
 refine Ax (z:=zn) (wr:=true) (L:=LV) (I:=Ak Ch) hE Gc Ap (fun v v' w w' es hi hr ho he=>Be v v' w w' es hi hr ho he) hvw fine_l13c hA.2.1 (by simp[base]) hn (Q:=fun a w'=>Fl 43 [(1,I n0),(2,sv),(8,Pt S.wb 0),(9,av)] a∧w'.heap=v.heap∧w'.os=v.os∧w'.output=v.output) (fun τ=>l13c_wp (v:=Ao v τ 0) hA) ?_
 rintro a1 v1 w1 ⟨hA1,q1,o1,u1⟩ hr1 hn1 -
 unfold P13s
 refine Ad (Aa _ _) ?_
 refine Ax (z:=zn) (wr:=true) (L:=LV) (I:=Ak Ch) hE Gc Ap (fun v v' w w' es hi hr ho he=>Be v v' w w' es hi hr ho he) hr1 fine_l13d hA1.2.1 (by simp[base]) hn1 (Q:=fun a w'=>∃ p g ct,Fl 43 [(1,I n0),(2,sv),(8,Pt S.wb 0),(9,av),(11,.slice p S.n ct)] a∧(0<S.n->p=some ⟨g,0,none⟩∧v1.heap.size≤g)∧(∀ j u,S.tr[j]? = some u->w'.cell? ⟨g,j,none⟩=some u)∧Grows v1 w') (fun τ=>wp_mono (l13d_wp (v:=Ao v1 τ 0) (S:=S) (hS.same (v':=Ao v1 τ 0) q1) (by omega) (by rw[htr];exact flat_one L) hA1) (fun e a w' hq=>⟨hq.1,by
  obtain ⟨_,p,g,ct,k1,k2,k3,k4⟩:=hq
  exact ⟨p,g,ct,k1,k2,k3,⟨k4.size,k4.old,k4.os,k4.output⟩⟩⟩)) ?_
 rintro a2 v2 w2 ⟨p,g,ct,hA2,hp,htc,g2⟩ hr2 hn2 -
 have gv:Grows v v2:=gx_trans (gx_same q1 o1 u1) g2
 have hT2:R3.SLw 5 R3.Ga v2 (.slice p S.n ct) (L.map Eu):=sl_trace hSn hs4 (fun h=>(hp h).1) (fun j u hj=>htc j u (by rw[htr];exact hj))
 refine goesI_retX (Q:=fun a w'=>Fl 43 [(6,.bool true)] a∧Grows v2 w') hr2 hn2 fine_l13e hA2.2.1 (fun τ=>wp_mono (l13e_wp (n0:=n0) (v:=Ao v2 τ 0) (hX (Ao v2 τ 0) (.slice p S.n ct) ⟨gv.size,gv.old,gv.os,gv.output⟩ (SLw_grows ⟨Nat.le_refl _,fun _ _=>rfl,rfl,rfl⟩ hT2)) (hA2.sub (by simp))) (fun e a w' hq=>⟨hq.1,hq.2.1,⟨hq.2.2.size,fun b hb=>hq.2.2.block b hb,hq.2.2.os,hq.2.2.output⟩⟩)) (fun a' v' w' todo hQ hd hr hn'=>hend a' v' w' todo hr (gx_trans gv hQ.2) hd (hQ.1.at 6 (.bool true) (by simp)))
theorem going_wb (S:TS) (i:Nat) (t:Thr):(going S i t).wb=S.wb:=by
 unfold going
 first
  |rfl
  |(unfold picked;split<;>rfl)
  |(split<;>rfl)
theorem pturn_wb {mc:Mc}{p p':PSt}(h:Cs mc p=some p'):p'.S.wb=p.S.wb:=by
 unfold Cs at h
 split at h
 ·split at h
  ·cases h;rfl
  ·cases h
 ·cases h
  exact (Cv _ _ _ _ _).wb.trans (going_wb _ _ _)
theorem turns_wb {mc:Mc}{m:Nat}{p p':PSt}(h:Turns mc m p p'):p'.S.wb=p.S.wb:=by
 induction h with
 |stop _=>rfl
 |step h1 _ ih=>exact ih.trans (pturn_wb h1)
theorem hires_wb {mc:Mc}{k:Nat}{ss:List (Scr mc)}{S S':TS}{l l':Nat->Ph}(h:Hires mc k ss S l S' l'):S'.wb=S.wb:=by
 induction h with
 |nil=>rfl
 |cons tv tb gc _ ih=>exact ih.trans (Di _ _ _ _ _ _ _).wb
structure Fm (tb cb:Nat) (x:Int) (v:World):Prop where
 thr:v.cell? ⟨tb,0,none⟩=some (.pointer none)
 ne:tb≠cb
 cel:v.heap[cb]? = some (.cells #[I 0,I x] 149 (0,0))
structure Fto (tb cb:Nat) (x:Int) (v v':World):Prop where
 fm:Fm tb cb x v'
 old:∀ b,b≠cb->v'.heap[b]? = v.heap[b]?
 size:v'.heap.size=v.heap.size
 os:v'.os=v.os
 out:v'.output=v.output
section
variable {tb cb:Nat}{x y:Int}{v v' v'':World}
theorem Fm.cells (h:Fm tb cb x v):v.cell? ⟨tb,0,none⟩=some (.pointer none)∧v.cell? ⟨cb,0,none⟩=some (I 0)∧v.cell? ⟨cb,1,none⟩=some (I x)∧v.frozen? ⟨cb,1,none⟩=false:=by
 refine ⟨h.thr,?_,?_,?_⟩
 ·unfold World.cell?;rw[show v.heap[cb]? = _ from h.cel];rfl
 ·unfold World.cell?;rw[show v.heap[cb]? = _ from h.cel];rfl
 ·unfold World.frozen?;rw[show v.heap[cb]? = _ from h.cel];rfl
theorem Fm.same (h:Fm tb cb x v) (e:v'.heap=v.heap):Fm tb cb x v':=⟨by rw[World.cell?_of_block (w:=v) (by rw[e])];exact h.thr,h.ne,by rw[e];exact h.cel⟩
theorem Fto.refl (h:Fm tb cb x v):Fto tb cb x v v:=⟨h,fun _ _=>rfl,rfl,rfl,rfl⟩
theorem Fto.same (h:Fto tb cb x v v') (e1:v''.heap=v'.heap) (e2:v''.os=v'.os) (e3:v''.output=v'.output):Fto tb cb x v v'' :=
 ⟨h.fm.same e1,fun b hb=>by rw[e1];exact h.old b hb,by rw[e1];exact h.size,e2.trans h.os,e3.trans h.out⟩
theorem Fto.set (h:Fm tb cb x v) (y:Int):Fto tb cb y v (v.setCell ⟨cb,1,none⟩ (I y)) :=
 ⟨⟨by rw[World.cell?_of_block (Below.heap_setCell _ _ _ _ h.ne)];exact h.thr,h.ne,heap_setCell_same h.cel _⟩,fun b hb=>Below.heap_setCell _ _ _ _ hb,by simp[World.setCell],rfl,rfl⟩
theorem Fto.base (h:Fto tb cb x v v') (e1:v.heap=v''.heap) (e2:v.os=v''.os) (e3:v.output=v''.output):Fto tb cb x v'' v' :=
 ⟨h.fm,fun b hb=>by rw[←e1];exact h.old b hb,by rw[←e1];exact h.size,h.os.trans e2,h.out.trans e3⟩
end
section
variable {tb c c':Nat}{x y:Int}{v v' v'':World}
theorem Fto.stay (h:Fto tb c x v v') (m:Fm tb c x v):v'.heap=v.heap:=by
 apply Array.ext_getElem?
 intro b
 by_cases e:b=c
 ·rw[e,h.fm.cel,m.cel]
 ·exact h.old b e
theorem Fto.other (h:Fto tb c x v v') (m:Fm tb c' y v) (hne:c'≠c):Fm tb c' y v':=⟨h.fm.thr,m.ne,by rw[h.old c' hne];exact m.cel⟩
theorem Fto.cell (h:Fto tb c x v v') {b j:Nat}{u:Value}(hb:b≠c) (hc:v.cell? ⟨b,j,none⟩=some u):v'.cell? ⟨b,j,none⟩=some u:=by
 rw[World.cell?_of_block (w:=v) (w':=v') (h.old b hb)];exact hc
theorem Fto.then (h:Fto tb c x v v') (k:Fto tb c' y v' v'') (m:Fm tb c' y v'):Fto tb c x v v'':=h.same (k.stay m) k.os k.out
end
structure Ftg (cb:Nat) (y:Int) (v v':World):Prop where
 cel:v'.heap[cb]? = some (.cells #[I 0,I y] 149 (0,0))
 old:∀ b,b<v.heap.size->b≠cb->v'.heap[b]? = v.heap[b]?
 size:v.heap.size≤v'.heap.size
 os:v'.os=v.os
 out:v'.output=v.output
section
variable {Ch:Nat->Prop}{Stop:Goroutine->World->Prop}{main:Bool}{v w:World}{tb c cb sb s i:Nat}{kb:List Nat}{x:Int}
theorem Fm.grows {v':World}(m:Fm tb cb x v) (g:Grows v v'):Fm tb cb x v':=⟨gx_cell g m.thr,m.ne,by
 have hlt:cb<v.heap.size:=(Array.getElem?_eq_some_iff.1 m.cel).1
 rw[g.old cb hlt];exact m.cel⟩
end
structure Fcs (v:World) (c sb s:Nat) (kb:List Nat) (xs:List Int):Prop where
 ctr:Ctr v c sb s kb
 len:xs.length=s
 klen:kb.length=s
 cel:∀ (j cb:Nat) (x:Int),kb[j]? = some cb->xs[j]? = some x->v.heap[cb]? = some (.cells #[I 0,I x] 149 (0,0))
 nd:kb.Nodup
 csb:c≠sb
 ckb:∀ cb∈kb,cb≠c∧cb≠sb
structure Bl (B:Nat) (v v':World):Prop where
 old:∀ b,b<B->v'.heap[b]? = v.heap[b]?
 size:v.heap.size≤v'.heap.size
 os:v'.os=v.os
 out:v'.output=v.output
section
variable {B c sb s tb:Nat}{kb:List Nat}{xs:List Int}{v v' v'':World}
theorem Bl.trans (h:Bl B v v') (g:Bl B v' v''):Bl B v v'':=⟨fun b hb=>by rw[g.old b hb,h.old b hb],Nat.le_trans h.size g.size,g.os.trans h.os,g.out.trans h.out⟩
theorem Bl.refl:Bl B v v:=⟨fun _ _=>rfl,Nat.le_refl _,rfl,rfl⟩
theorem Bl.same (h:Bl B v v') (e1:v''.heap=v'.heap) (e2:v''.os=v'.os) (e3:v''.output=v'.output):Bl B v v'':=⟨fun b hb=>by rw[e1];exact h.old b hb,by rw[e1];exact h.size,e2.trans h.os,e3.trans h.out⟩
theorem Bl.grows (h:Bl v.heap.size v v'):Grows v v':=⟨h.size,h.old,h.os,h.out⟩
theorem Bl.cell (h:Bl B v v') {b j:Nat}{x:Value}(hb:b<B) (hx:v.cell? ⟨b,j,none⟩=some x):v'.cell? ⟨b,j,none⟩=some x:=by
 rw[World.cell?_of_block (w:=v) (w':=v') (h.old b hb)];exact hx
theorem Grows.bl (h:Grows v v') (hB:B≤v.heap.size):Bl B v v':=⟨fun b hb=>h.old b (by omega),h.size,h.os,h.output⟩
theorem Fcs.lt (h:Fcs v c sb s kb xs):c<v.heap.size∧sb<v.heap.size∧∀ cb∈kb,cb<v.heap.size:=by
 refine ⟨World.block_lt_of_cell? _ _ h.ctr.row,?_,fun cb hcb=>?_⟩
 ·obtain ⟨cb,_,e⟩:=h.ctr.cel 0 h.ctr.s0
  exact World.block_lt_of_cell? _ _ e
 ·obtain ⟨j,hj,e⟩:=List.getElem_of_mem hcb
  obtain ⟨x,hx⟩:∃ x,xs[j]? = some x:=⟨_,List.getElem?_eq_getElem (by rw[h.len,←h.klen];exact hj)⟩
  exact (Array.getElem?_eq_some_iff.1 (h.cel j cb x (by rw[List.getElem?_eq_getElem hj,e]) hx)).1
theorem Fcs.bl (h:Fcs v c sb s kb xs) (g:Bl v.heap.size v v'):Fcs v' c sb s kb xs:=by
 obtain ⟨l1,l2,l3⟩:=h.lt
 refine ⟨⟨g.cell l1 h.ctr.row,fun j hj=>?_,h.ctr.s0,h.ctr.s1⟩,h.len,h.klen,fun j cb x hc hx=>?_,h.nd,h.csb,h.ckb⟩
 ·obtain ⟨cb,e1,e2⟩:=h.ctr.cel j hj
  exact ⟨cb,e1,g.cell l2 e2⟩
 ·rw[g.old cb (l3 cb (List.mem_of_getElem? hc))];exact h.cel j cb x hc hx
theorem Fcs.fm (h:Fcs v c sb s kb xs) {j cb:Nat}{x:Int}(h1:kb[j]? = some cb) (h2:xs[j]? = some x) (ht:v.cell? ⟨tb,0,none⟩=some (.pointer none)):Fm tb cb x v:=⟨ht,fun e=>by
 have:=h.cel j cb x h1 h2
 rw[e,World.cell?,this] at ht
 simp at ht,h.cel j cb x h1 h2⟩
end
section
variable {Ch:Nat->Prop}{Stop:Goroutine->World->Prop}{main:Bool}{v w:World}{tb c cb sb s i nb fb k:Nat}{kb:List Nat}{xs:List Int}{x:Int}
end
def kbN (N k:Nat):List (Nat×Int):=(List.range k).map fun j=>(N+2+j,0)
theorem kbN_len (N k:Nat):(kbN N k).length=k:=by simp[kbN]
theorem kbN_succ (N k:Nat):kbN N (k+1)=kbN N k++[(N+2+k,0)]:=by simp[kbN,List.range_succ]
structure NwC (v:World) (s N k:Nat) (u:World):Prop where
 row:u.heap[N]? = some (objP s (kbN N k))
 ctr:u.heap[N+1]? = some (.cells #[.slice (some ⟨N,0,none⟩) s s] 136 (0,0))
 cel:∀ j,j<k->u.heap[N+2+j]? = some (.cells #[I 0,I 0] 149 (0,0))
 size:u.heap.size=N+2+k
 old:∀ b,b<N->u.heap[b]? = v.heap[b]?
 os:u.os=v.os
 out:u.output=v.output
theorem NwC.same {v u u':World}{s N k:Nat}(h:NwC v s N k u) (e1:u'.heap=u.heap) (e2:u'.os=u.os) (e3:u'.output=u.output):NwC v s N k u' :=
 ⟨by rw[e1];exact h.row,by rw[e1];exact h.ctr,fun j hj=>by rw[e1];exact h.cel j hj,by rw[e1];exact h.size,fun b hb=>by rw[e1];exact h.old b hb,e2.trans h.os,e3.trans h.out⟩
theorem NwC.next {v u u':World}{s N k:Nat}(h:NwC v s N k u) (hk:k<s) (e1:u'.heap=u.heap.push (.cells #[I 0,I 0] 149 (0,0))) (e2:u'.os=u.os) (e3:u'.output=u.output):NwC v s N (k+1) (u'.setCell ⟨N,k,none⟩ (Pt u.heap.size 0)):=by
 have oth:∀ b,b≠N->(u'.setCell ⟨N,k,none⟩ (Pt u.heap.size 0)).heap[b]? = u'.heap[b]?:=fun b hb=>Below.heap_setCell _ _ _ _ hb
 have at_:∀ b,b<u.heap.size->u'.heap[b]? = u.heap[b]?:=fun b hb=>by rw[e1,Array.getElem?_push,if_neg (by omega)]
 have hs:=h.size
 refine ⟨?_,?_,fun j hj=>?_,?_,fun b hb=>?_,?_,?_⟩
 ·have h0:u'.heap[N]? = some (.cells (rowP s (kbN N k)).toArray 102 (0,0)):=by rw[at_ N (by omega)];exact h.row
  have:=heap_setCell_same (o:=k) h0 (Pt u.heap.size 0)
  rw[this]
  have h1:=rowP_next (s:=s) (K:=kbN N k) (N+2+k,0) (by rw[kbN_len];exact hk)
  rw[kbN_len] at h1
  rw[hs,h1,←kbN_succ]
  rfl
 ·rw[oth _ (by omega),at_ _ (by omega)];exact h.ctr
 ·rw[oth _ (by omega)]
  by_cases e:j=k
  ·subst e
   rw[e1,←hs,Array.getElem?_push_size]
  ·rw[at_ _ (by omega)];exact h.cel j (by omega)
 ·have:(u'.setCell ⟨N,k,none⟩ (Pt u.heap.size 0)).heap.size=u'.heap.size:=by simp[World.setCell]
  rw[this,e1,Array.size_push];omega
 ·rw[oth _ (by omega),at_ _ (by omega)];exact h.old b hb
 ·exact e2.trans h.os
 ·exact e3.trans h.out
theorem NwC.fcs {v u:World}{s:Nat}(h:NwC v s v.heap.size s u) (h0:0<s) (h1:s≤16):Fcs u (v.heap.size+1) v.heap.size s ((List.range s).map fun j=>v.heap.size+2+j) (List.replicate s 0):=by
 refine ⟨⟨cell_of h.ctr rfl,fun j hj=>⟨v.heap.size+2+j,by simp[hj],cell_of h.row ?_⟩,h0,h1⟩,by simp,by simp,fun j cb x e1 e2=>?_,?_,by omega,fun cb hcb=>?_⟩
 ·unfold rowP kbN
  simp[hj]
 ·by_cases hj:j<s
  ·simp[hj] at e1 e2
   rw[←e1,←e2];exact h.cel j hj
  ·simp[hj] at e1
 ·refine List.pairwise_map.2 (List.Pairwise.imp ?_ List.nodup_range)
  intro a b hab;omega
 ·obtain ⟨j,_,rfl⟩:=List.mem_map.1 hcb
  omega
noncomputable def LB15:Code:=Tryd.f15.body.getD .skip
noncomputable def y1:Code:=seq1 (seq2 LB15)
noncomputable def y2:Code:=seq1 (seq2 (seq2 LB15))
noncomputable def y3:Code:=seq1 (seq2 (seq2 (seq2 LB15)))
theorem Fcs.keep {v v':World}{c sb s:Nat}{kb:List Nat}{xs:List Int}(h:Fcs v c sb s kb xs) (hs:∀ b,b=c∨b=sb∨b∈kb->v'.heap[b]? = v.heap[b]?):Fcs v' c sb s kb xs:=by
 refine ⟨⟨?_,fun j hj=>?_,h.ctr.s0,h.ctr.s1⟩,h.len,h.klen,fun j cb x hc hx=>?_,h.nd,h.csb,h.ckb⟩
 ·rw[World.cell?_of_block (w:=v) (w':=v') (hs c (.inl rfl))];exact h.ctr.row
 ·obtain ⟨cb,e1,e2⟩:=h.ctr.cel j hj
  exact ⟨cb,e1,by rw[World.cell?_of_block (w:=v) (w':=v') (hs sb (.inr (.inl rfl)))];exact e2⟩
 ·rw[hs cb (.inr (.inr (List.mem_of_getElem? hc)))];exact h.cel j cb x hc hx
theorem Fcs.ftg {v v':World}{c sb s cb j:Nat}{kb:List Nat}{xs:List Int}{y:Int}(h:Fcs v c sb s kb xs) (hj:kb[j]? = some cb) (f:Ftg cb y v v'):Fcs v' c sb s kb (xs.set j y):=by
 obtain ⟨l1,l2,l3⟩:=h.lt
 obtain ⟨n1,n2⟩:=h.ckb cb (List.mem_of_getElem? hj)
 refine ⟨⟨?_,fun j hj=>?_,h.ctr.s0,h.ctr.s1⟩,by rw[List.length_set];exact h.len,h.klen,fun j' cb' x hc hx=>?_,h.nd,h.csb,h.ckb⟩
 ·rw[World.cell?_of_block (w:=v) (w':=v') (f.old c l1 (Ne.symm n1))];exact h.ctr.row
 ·obtain ⟨cb,e1,e2⟩:=h.ctr.cel j hj
  exact ⟨cb,e1,by rw[World.cell?_of_block (w:=v) (w':=v') (f.old sb l2 (Ne.symm n2))];exact e2⟩
 ·rw[List.getElem?_set] at hx
  by_cases e:j=j'
  ·subst e
   rw[if_pos rfl] at hx
   split at hx
   ·cases hx
    rw[hj] at hc
    cases hc
    exact f.cel
   ·cases hx
  ·rw[if_neg e] at hx
   have hne:cb'≠cb:=fun e2=>by
    subst e2
    exact e ((List.getElem?_inj (List.getElem?_eq_some_iff.1 hj).1 h.nd).1 (hj.trans hc.symm))
   rw[f.old cb' (l3 cb' (List.mem_of_getElem? hc)) hne]
   exact h.cel j' cb' x hc hx
structure M15 (u0:World) (c sb s ab:Nat) (kb:List Nat) (xs:List Int) (v:World):Prop where
 fcs:Fcs v c sb s kb xs
 am:v.heap[ab]? = some (rowI (xs.map R1.amtS))
 abn:ab≠c∧ab≠sb∧ab ∉ kb
 bl:Bl u0.heap.size u0 v
 lo:u0.heap.size≤c∧u0.heap.size≤sb∧u0.heap.size≤ab∧∀ cb∈kb,u0.heap.size≤cb
section
variable {u0 v v' v3 v4 v5:World}{c sb s ab cb j:Nat}{kb:List Nat}{xs:List Int}{x y:Int}
theorem M15.ablt (h:M15 u0 c sb s ab kb xs v):ab<v.heap.size:=(Array.getElem?_eq_some_iff.1 h.am).1
theorem M15.grows (h:M15 u0 c sb s ab kb xs v) (g:Grows v v'):M15 u0 c sb s ab kb xs v' :=
 ⟨h.fcs.bl ⟨g.old,g.size,g.os,g.output⟩,by rw[g.old ab h.ablt];exact h.am,h.abn,h.bl.trans (Grows.bl g h.bl.size),h.lo⟩
theorem M15.same (h:M15 u0 c sb s ab kb xs v) (e:v'.heap=v.heap) (e1:v'.os=v.os) (e2:v'.output=v.output):M15 u0 c sb s ab kb xs v' :=
 h.grows ⟨by rw[e];exact Nat.le_refl _,fun b _=>by rw[e],e1,e2⟩
theorem M15.am4 (h:M15 u0 c sb s ab kb xs v3) (hj:kb[j]? = some cb) (f:Ftg cb (R1.addI y x) v3 v4):v4.heap[ab]? = some (rowI (xs.map R1.amtS)):=by
 rw[f.old ab h.ablt (fun e=>h.abn.2.2 (e▸List.mem_of_getElem? hj))];exact h.am
theorem M15.bl4 (h:M15 u0 c sb s ab kb xs v3) (hj:kb[j]? = some cb) (f:Ftg cb (R1.addI y x) v3 v4):Bl u0.heap.size u0 v4 :=
 h.bl.trans ⟨fun b hb=>f.old b (by have:=h.bl.size;omega) (fun e=>by have:=h.lo.2.2.2 cb (List.mem_of_getElem? hj);omega),f.size,f.os,f.out⟩
theorem M15.next (h:M15 u0 c sb s ab kb xs v3) (hj:kb[j]? = some cb) (hy:xs[j]? = some y) (f:Ftg cb (R1.addI y x) v3 v4) (e5:v5.heap=(v4.setCell ⟨ab,j,none⟩ (I (R1.wr56 (wrap64 (R1.amtS y+x.tmod 4294967296))))).heap) (o5:v5.os=v4.os) (u5:v5.output=v4.output):M15 u0 c sb s ab kb (xs.set j (R1.addI y x)) v5:=by
 have oth:∀ b,b≠ab->v5.heap[b]? = v4.heap[b]?:=fun b hb=>by rw[e5];exact Below.heap_setCell _ _ _ _ hb
 refine ⟨(h.fcs.ftg hj f).keep (fun b hb=>oth b (fun e=>?_)),?_,h.abn,(h.bl4 hj f).trans ⟨fun b hb=>oth b (by have:=h.lo.2.2.1;omega),by rw[e5];simp[World.setCell],o5,u5⟩,h.lo⟩
 ·subst e
  rcases hb with e|e|e
  ·exact h.abn.1 e
  ·exact h.abn.2.1 e
  ·exact h.abn.2.2 e
 ·rw[e5,R1.amtS_add,rowI_set (h.am4 hj f) j,List.map_set]
end
def InN (w:World) (lb lo:Nat) (xs:List Int):Prop:=∀ (k:Nat) (c:Int),xs[k]? = some c->w.cell? ⟨lb,lo+k,none⟩=some (I c)
theorem InN.bl {v v':World}{lb lo:Nat}{xs:List Int}(h:InN v lb lo xs) (g:Bl v.heap.size v v'):InN v' lb lo xs:=fun k c hc=>g.cell (World.block_lt_of_cell? _ _ (h k c hc)) (h k c hc)
section
variable {Ch:Nat->Prop}{Stop:Goroutine->World->Prop}{main:Bool}{v w:World}{a:Act}{u0:World}{c sb s ab i:Nat}{kb:List Nat}{xs:List Int}{b1 o1 n1 cap1 b2 o2 n2 cap2:Nat}{p2:Option Addr}{ad wh:List Int}
end
section
variable {Ch:Nat->Prop}{Stop:Goroutine->World->Prop}{main:Bool}{u0:World}{c sb s ab:Nat}{kb:List Nat}{b1 o1 n1 cap1 b2 o2 n2 cap2:Nat}{p1 p2:Option Addr}{ad wh:List Int}
end
theorem alone_ends {gs:Array Goroutine}{w:World}{T:Trace}{q:Nat->Nat}(A:Alone gs w T q) {a:Goroutine}(hg:gs[0]? = some a) (sl:Option (Nat×Nat)) {Post:Value->World->Prop}(hE:∀ B,∀ d,AtEnd Tryd.prog (fun _=>False) B Post a (w.at d)) :
 ∃ N last o w' t',runNT Tryd.prog (N+1) (crowd gs w sl) T=(.ended o w',t')∧runN Tryd.prog N (crowd gs w sl)=.next last∧step Tryd.prog last=.ended o w'∧Go.Conc.Good Tryd.prog Post last o w' t':=by
 obtain ⟨B,hB,hP⟩:=A.past
 refine beside_ends (D:=fun _ _ es=>es=#[]) (Shun:=fun _=>False) (B:=B) (n:=0) (fun _ _ es h e he=>by subst h;simp at he) hg A.left hP ?_
 rintro w1 ⟨d,rfl⟩
 exact hE B d
end Go.Proofs.YtcfmffmcammbjaaDoor.Gen
