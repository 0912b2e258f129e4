/- Of the proof of LatchLinear. Part 20 of 27. (Joined, by program, and written short, of: GEvs2, GOfs, GIns, GLinE, La11a, GWb.) -/
import Derived.Test.YtfjjoohflcchnaaLatchLinear13
import Derived.Test.YtfjjoohflcchnaaLatchLinear14
import Derived.Test.YtfjjoohflcchnaaLatchLinear16
import Derived.Test.YtfjjoohflcchnaaLatchLinear17
import Derived.Test.YtfjjoohflcchnaaLatchLinear18
import Derived.Test.YtfjjoohflcchnaaLatchLinear19
import Derived.BigQuiet
import Derived.Deep.RegionHeld3
import Derived.BigRegion
import Derived.Deep.RegionLaw
set_option linter.unusedSimpArgs false
set_option linter.unusedVariables false
set_option maxHeartbeats 4000000
set_option maxRecDepth 100000
namespace Go.Proofs.Ytfjjoohflcchnaa.Gen
open Go Go.Lift Go.Conc Go.RowKit
open Go.Proofs.Ytfjjoohflcchnaa.His
open Go.ConcN (upd upd_same upd_ne)
inductive Ev9 (cl:Nat→List Cl) (an:Nat→List (Int×Int)):List Stp→List His.Ev→(Nat→Nat)→Prop
 |nil:Ev9 cl an [] [] (fun _=>0)
 |other {L:List Stp} {x:Stp} {E:List His.Ev} {id:Nat→Nat}:Ev9 cl an L E id→x.op≠9→x.op≠10→Ev9 cl an (L++[x]) E id
 |beg {L:List Stp} {E:List His.Ev} {id:Nat→Nat} {i k:Nat} {c:Cl}:Ev9 cl an L E id→nt L i=2*k→(cl i)[k]? = some c→Ev9 cl an (L++[⟨i,-1,9,k,0⟩]) (E++[⟨i,c.po,c.ca,c.cb,L.length,-1,4,0⟩]) (upd id i E.length)
 |stuck {L:List Stp} {E:List His.Ev} {id:Nat→Nat} {i k:Nat} {a:Int×Int}:Ev9 cl an L E id→nt L i=2*k+1→(an i)[k]? = some a→a.1=4→Ev9 cl an (L++[⟨i,-1,10,k,a.1⟩]) E id
 |fin {L:List Stp} {E:List His.Ev} {id:Nat→Nat} {i k:Nat} {a:Int×Int} {e:His.Ev}:Ev9 cl an L E id→nt L i=2*k+1→(an i)[k]? = some a→a.1≠4→E[id i]? = some e→Ev9 cl an (L++[⟨i,-1,10,k,a.1⟩]) (E.set (id i) ⟨e.thr,e.op,e.a,e.b,e.beg,L.length,a.1,a.2⟩) id
def AccTo {τ:Type} (ways:Ways τ):τ→List His.Ev→τ→Prop
 |s,[],t=>s=t
 |s,e :: r,t=>∃ o,o∈ways s e∧o.1=e.ans∧AccTo ways o.2 r t
theorem AccTo.acc {τ:Type} {ways:Ways τ}:∀ {l:List His.Ev} {s t:τ},AccTo ways s l t→Acc ways s l
 | [],_,_,_=>trivial
 |e :: r,s,t,h=>by obtain ⟨o,h1,h2,h3⟩:=h;exact ⟨o,h1,fun _=>h2,AccTo.acc h3⟩
theorem AccTo.snoc {τ:Type} {ways:Ways τ} {e:His.Ev} {o:(Int×Int)×τ}:∀ {l:List His.Ev} {s t:τ},AccTo ways s l t→o∈ways t e→o.1=e.ans→AccTo ways s (l++[e]) o.2
 | [],s,t,h,h1,h2=>by have:s=t:=h;subst this;exact ⟨o,h1,h2,rfl⟩
 |x :: r,s,t,h,h1,h2=>by obtain ⟨p,k1,k2,k3⟩:=h;exact ⟨p,k1,k2,AccTo.snoc k3 h1 h2⟩
structure EvI (cl:Nat→List Cl) (an:Nat→List (Int×Int)) {τ:Type} (ways:Ways τ) (t0:τ) (L:List Stp) (E:List His.Ev) (id:Nat→Nat) (ord:List Nat) (t:τ):Prop where
 timed:∀ (m:Nat) (e:His.Ev),E[m]? = some e→0≤e.beg∧e.beg<L.length∧(e.fin=-1∨(e.beg<e.fin∧e.fin<L.length))
 act:∀ (i k:Nat),nt L i=2*k+1→∃ (e:His.Ev) (c:Cl),E[id i]? = some e∧e.thr=(i:Int)∧e.fin=-1∧(cl i)[k]? = some c∧e.op=c.po∧e.a=c.ca∧e.b=c.cb
 two:∀ (m m':Nat) (e e':His.Ev),m'<m→E[m]? = some e→E[m']? = some e'→e.thr=e'.thr→evAhead e' e=true
 open_:∀ (m:Nat) (e:His.Ev) (i:Nat),E[m]? = some e→e.thr=(i:Int)→e.fin=-1→(nt L i % 2=1∧m=id i)∨∃ (q:Nat) (a:Int×Int),q<nt L i / 2∧(an i)[q]? = some a∧a.1=4
 nodup:ord.Nodup
 over:∀ (m:Nat),m∈ord→∃ (e:His.Ev),E[m]? = some e∧e.over=true
 all:∀ (m:Nat) (e:His.Ev),E[m]? = some e→e.over=true→m∈ord
 ord_:ord.Pairwise fun m m'=>(E.getD m ev0).fin<(E.getD m' ev0).fin
 acc:AccTo ways t0 (ord.map fun m=>E.getD m ev0) t
theorem getD_ev {E:List His.Ev} {m:Nat} {e:His.Ev} (h:E[m]? = some e):E.getD m ev0=e:=by rw [List.getD_eq_getElem?_getD,h];rfl
theorem over_fin {e:His.Ev}:e.over=true↔e.fin≠-1:=over_iff
section
variable {cl:Nat→List Cl} {an:Nat→List (Int×Int)} {τ:Type} {ways:Ways τ} {t0 t:τ} {L:List Stp} {E:List His.Ev} {id:Nat→Nat} {ord:List Nat}
theorem EvI.skip (h:EvI cl an ways t0 L E id ord t) (x:Stp) (ha:∀ (i k:Nat),nt (L++[x]) i=2*k+1→nt L i=2*k+1) (ho:∀ (i m:Nat),nt L i % 2=1→m=id i→nt (L++[x]) i=nt L i∨∃ (q:Nat) (a:Int×Int),q<nt (L++[x]) i / 2∧(an i)[q]? = some a∧a.1=4):EvI cl an ways t0 (L++[x]) E id ord t:=by
 refine ⟨fun m e he=>?_,fun i k hn=>h.act i k (ha i k hn),h.two,fun m e i he hi hf=>?_,h.nodup,h.over,h.all,h.ord_,h.acc⟩
 ·have:=h.timed m e he
  rw [List.length_append,List.length_singleton]
  refine ⟨this.1,by omega,?_⟩
  rcases this.2.2 with h|h
  ·exact .inl h
  ·exact .inr ⟨h.1,by omega⟩
 ·rcases h.open_ m e i he hi hf with ⟨h1,h2⟩|⟨q,a,h1,h2,h3⟩
  ·rcases ho i m h1 h2 with e|e
   ·exact .inl ⟨by rw [e];exact h1,h2⟩
   ·exact .inr e
  ·exact .inr ⟨q,a,by have:=nt_le L x i;omega,h2,h3⟩
theorem EvI.begin (h:EvI cl an ways t0 L E id ord t) {i k:Nat} {c:Cl} (hn:nt L i=2*k) (hc:(cl i)[k]? = some c) (h4:No4 (an i) k):EvI cl an ways t0 (L++[⟨i,-1,9,k,0⟩]) (E++[⟨i,c.po,c.ca,c.cb,L.length,-1,4,0⟩]) (upd id i E.length) ord t:=by
 have get:∀ (m:Nat) (e:His.Ev),(E++[(⟨i,c.po,c.ca,c.cb,L.length,-1,4,0⟩:His.Ev)])[m]? = some e→E[m]? = some e∨(m=E.length∧e=⟨i,c.po,c.ca,c.cb,L.length,-1,4,0⟩):=fun m e he=>by
  rw [List.getElem?_append] at he
  split at he
  ·exact .inl he
  ·right
   have:m - E.length=0:=by have:=(List.getElem?_eq_some_iff.1 he).1;simp at this;omega
   rw [this] at he
   exact ⟨by omega,by simpa using he.symm⟩
 have lift:∀ (m:Nat) (e:His.Ev),E[m]? = some e→(E++[(⟨i,c.po,c.ca,c.cb,L.length,-1,4,0⟩:His.Ev)])[m]? = some e:=fun m e he=>by rw [List.getElem?_append_left (List.getElem?_eq_some_iff.1 he).1];exact he
 have own:nt (L++[⟨i,-1,9,k,0⟩]) i=2*k+1:=by rw [nt_own _ _ _ _ (.inl rfl),hn]
 have oth:∀ j,j≠i→nt (L++[⟨i,-1,9,k,0⟩]) j=nt L j:=fun j hj=>nt_oth _ hj _ _ _
 have mem:∀ (m:Nat),m∈ord→(E++[(⟨i,c.po,c.ca,c.cb,L.length,-1,4,0⟩:His.Ev)]).getD m ev0=E.getD m ev0:=fun m hm=>by
  obtain ⟨e,he,_⟩:=h.over m hm
  rw [getD_ev he,getD_ev (lift m e he)]
 refine ⟨fun m e he=>?_,fun j q hq=>?_,fun m m' e e' hlt he he' ht=>?_,fun m e j he hj hf=>?_,h.nodup,fun m hm=>?_,fun m e he ho=>?_,?_,?_⟩
 ·rw [List.length_append,List.length_singleton]
  rcases get m e he with he|⟨_,rfl⟩
  ·have:=h.timed m e he
   refine ⟨this.1,by omega,?_⟩
   rcases this.2.2 with h|h
   ·exact .inl h
   ·exact .inr ⟨h.1,by omega⟩
  ·exact ⟨by show (0:Int)≤(L.length:Int);omega,by show (L.length:Int)<((L.length+1:Nat):Int);omega,.inl rfl⟩
 ·by_cases e:j=i
  ·subst e
   have:q=k:=by omega
   subst this
   rw [upd_same]
   exact ⟨⟨j,c.po,c.ca,c.cb,L.length,-1,4,0⟩,c,by rw [List.getElem?_append_right (Nat.le_refl _)];simp,rfl,rfl,hc,rfl,rfl,rfl⟩
  ·rw [oth j e] at hq
   obtain ⟨e1,c1,k1,k2⟩:=h.act j q hq
   rw [upd_ne _ _ e]
   exact ⟨e1,c1,lift _ _ k1,k2⟩
 ·rcases get m e he with he|⟨rfl,rfl⟩
  ·rcases get m' e' he' with he'|⟨rfl,_⟩
   ·exact h.two m m' e e' hlt he he' ht
   ·have:=(List.getElem?_eq_some_iff.1 he).1;omega
  ·rcases get m' e' he' with he'|⟨rfl,_⟩
   ·have hfin:e'.fin≠-1:=fun hf=>by
     rcases h.open_ m' e' i he' ht.symm hf with ⟨h1,_⟩|⟨q,a,h1,h2,h3⟩
     ·omega
     ·exact h4 q a (by omega) h2 h3
    have:=(h.timed m' e' he').2.2
    unfold evAhead
    rw [over_fin.2 hfin,Bool.true_and]
    exact decide_eq_true (by show e'.fin<(L.length:Int);rcases this with h|h;exact absurd h hfin;exact h.2)
   ·omega
 ·rcases get m e he with hE|⟨rfl,rfl⟩
  ·by_cases ej:j=i
   ·subst ej
    rcases h.open_ m e j hE hj hf with ⟨h1,_⟩|⟨q,a,h1,h2,h3⟩
    ·omega
    ·exact .inr ⟨q,a,by omega,h2,h3⟩
   ·rw [oth j ej,upd_ne _ _ ej]
    exact h.open_ m e j hE hj hf
  ·have:(i:Int)=j:=hj
   obtain rfl:j=i:=by omega
   exact .inl ⟨by omega,by rw [upd_same]⟩
 ·obtain ⟨e,he,ho⟩:=h.over m hm
  exact ⟨e,lift m e he,ho⟩
 ·rcases get m e he with he|⟨rfl,rfl⟩
  ·exact h.all m e he ho
  ·exact absurd rfl (over_fin.1 ho)
 ·exact h.ord_.imp_of_mem fun ha hb hlt=>by rw [mem _ ha,mem _ hb];exact hlt
 ·have:ord.map (fun m=>(E++[(⟨i,c.po,c.ca,c.cb,L.length,-1,4,0⟩:His.Ev)]).getD m ev0)=ord.map fun m=>E.getD m ev0:=List.map_congr_left mem
  rw [this];exact h.acc
theorem EvI.finish (h:EvI cl an ways t0 L E id ord t) {i k:Nat} {a:Int×Int} {e0:His.Ev} {o:(Int×Int)×τ} (hn:nt L i=2*k+1) (he0:E[id i]? = some e0) (hf0:e0.fin=-1) (ht0:e0.thr=(i:Int)) (ho:o∈ways t ⟨e0.thr,e0.op,e0.a,e0.b,e0.beg,L.length,a.1,a.2⟩) (hoa:o.1=a) :
 EvI cl an ways t0 (L++[⟨i,-1,10,k,a.1⟩]) (E.set (id i) ⟨e0.thr,e0.op,e0.a,e0.b,e0.beg,L.length,a.1,a.2⟩) id (ord++[id i]) o.2:=by
 have hlt0:id i<E.length:=(List.getElem?_eq_some_iff.1 he0).1
 have get:∀ (m:Nat) (e:His.Ev),(E.set (id i) (⟨e0.thr,e0.op,e0.a,e0.b,e0.beg,L.length,a.1,a.2⟩:His.Ev))[m]? = some e→(m≠id i∧E[m]? = some e)∨(m=id i∧e=⟨e0.thr,e0.op,e0.a,e0.b,e0.beg,L.length,a.1,a.2⟩):=fun m e he=>by
  rw [List.getElem?_set] at he
  by_cases em:id i=m
  ·rw [if_pos em,if_pos hlt0] at he
   exact .inr ⟨em.symm,(Option.some.inj he).symm⟩
  ·rw [if_neg em] at he
   exact .inl ⟨fun x=>em x.symm,he⟩
 have put:(E.set (id i) (⟨e0.thr,e0.op,e0.a,e0.b,e0.beg,L.length,a.1,a.2⟩:His.Ev))[id i]? = some ⟨e0.thr,e0.op,e0.a,e0.b,e0.beg,L.length,a.1,a.2⟩:=by rw [List.getElem?_set,if_pos rfl,if_pos hlt0]
 have lift:∀ (m:Nat) (e:His.Ev),m≠id i→E[m]? = some e→(E.set (id i) (⟨e0.thr,e0.op,e0.a,e0.b,e0.beg,L.length,a.1,a.2⟩:His.Ev))[m]? = some e:=fun m e hm he=>by rw [List.getElem?_set,if_neg (fun x=>hm x.symm)];exact he
 have nin:id i ∉ ord:=fun hm=>by
  obtain ⟨e,he,hov⟩:=h.over _ hm
  rw [he0] at he
  cases he
  exact over_fin.1 hov hf0
 have mem:∀ (m:Nat),m∈ord→(E.set (id i) (⟨e0.thr,e0.op,e0.a,e0.b,e0.beg,L.length,a.1,a.2⟩:His.Ev)).getD m ev0=E.getD m ev0:=fun m hm=>by
  obtain ⟨e,he,_⟩:=h.over m hm
  rw [getD_ev he,getD_ev (lift m e (fun x=>nin (x▸hm)) he)]
 have own:nt (L++[⟨i,-1,10,k,a.1⟩]) i=2*(k+1):=by rw [nt_own _ _ _ _ (.inr rfl),hn];omega
 have oth:∀ j,j≠i→nt (L++[⟨i,-1,10,k,a.1⟩]) j=nt L j:=fun j hj=>nt_oth _ hj _ _ _
 have hb0:=h.timed _ _ he0
 have hov:(⟨e0.thr,e0.op,e0.a,e0.b,e0.beg,L.length,a.1,a.2⟩:His.Ev).over=true:=over_fin.2 (by show (L.length:Int)≠-1;omega)
 refine ⟨fun m e he=>?_,fun j q hq=>?_,fun m m' e e' hlt he he' ht=>?_,fun m e j he hj hf=>?_,?_,fun m hm=>?_,fun m e he ho=>?_,?_,?_⟩
 ·rw [List.length_append,List.length_singleton]
  rcases get m e he with ⟨_,he⟩|⟨_,rfl⟩
  ·have:=h.timed m e he
   refine ⟨this.1,by omega,?_⟩
   rcases this.2.2 with h|h
   ·exact .inl h
   ·exact .inr ⟨h.1,by omega⟩
  ·exact ⟨hb0.1,by have:=hb0.2.1;show e0.beg<((L.length+1:Nat):Int);omega,.inr ⟨hb0.2.1,by show (L.length:Int)<((L.length+1:Nat):Int);omega⟩⟩
 ·by_cases e:j=i
  ·subst e;omega
  ·rw [oth j e] at hq
   obtain ⟨e1,c1,k1,k2,k3⟩:=h.act j q hq
   have:id j≠id i:=fun x=>by
    rw [x,he0] at k1
    cases k1
    rw [ht0] at k2
    exact e (by omega)
   exact ⟨e1,c1,lift _ _ this k1,k2,k3⟩
 ·rcases get m e he with ⟨_,he⟩|⟨rfl,rfl⟩
  ·rcases get m' e' he' with ⟨_,he'⟩|⟨rfl,rfl⟩
   ·exact h.two m m' e e' hlt he he' ht
   ·have:=evAhead_over (h.two m _ e e0 hlt he he0 ht)
    exact absurd hf0 (over_fin.1 this)
  ·rcases get m' e' he' with ⟨_,he'⟩|⟨rfl,_⟩
   ·exact h.two _ m' e0 e' hlt he0 he' ht
   ·omega
 ·rcases get m e he with ⟨hm,hE⟩|⟨rfl,rfl⟩
  ·by_cases ej:j=i
   ·subst ej
    rcases h.open_ m e j hE hj hf with ⟨_,h1⟩|⟨q,b,h1,h2,h3⟩
    ·exact absurd h1 hm
    ·exact .inr ⟨q,b,by omega,h2,h3⟩
   ·rw [oth j ej]
    exact h.open_ m e j hE hj hf
  ·exact absurd hf (over_fin.1 hov)
 ·exact List.nodup_append.2 ⟨h.nodup,by simp,fun x hx y hy=>by rw [List.mem_singleton] at hy;subst hy;exact fun e=>nin (e▸hx)⟩
 ·rw [List.mem_append,List.mem_singleton] at hm
  rcases hm with hm|rfl
  ·obtain ⟨e,he,ho⟩:=h.over m hm
   exact ⟨e,lift m e (fun x=>nin (x▸hm)) he,ho⟩
  ·exact ⟨_,put,hov⟩
 ·rw [List.mem_append,List.mem_singleton]
  rcases get m e he with ⟨_,he⟩|⟨rfl,_⟩
  ·exact .inl (h.all m e he ho)
  ·exact .inr rfl
 ·rw [List.pairwise_append]
  refine ⟨h.ord_.imp_of_mem fun ha hb hlt=>by rw [mem _ ha,mem _ hb];exact hlt,List.pairwise_singleton _ _,fun x hx y hy=>?_⟩
  rw [List.mem_singleton] at hy
  subst hy
  obtain ⟨e,he,ho⟩:=h.over x hx
  rw [mem _ hx,getD_ev he,getD_ev put]
  have:=(h.timed x e he).2.2
  rcases this with h|h
  ·exact absurd h (over_fin.1 ho)
  ·exact h.2
 ·have e1:ord.map (fun m=>(E.set (id i) (⟨e0.thr,e0.op,e0.a,e0.b,e0.beg,L.length,a.1,a.2⟩:His.Ev)).getD m ev0)=ord.map fun m=>E.getD m ev0:=List.map_congr_left mem
  rw [List.map_append,e1,List.map_singleton,getD_ev put]
  exact h.acc.snoc ho (by rw [hoa];rfl)
end
theorem run_lin {σ τ:Type} {N:Nat} {cl:Nat→List Cl} {an:Nat→List (Int×Int)} {st:σ→Cl→Int×Int→σ→Prop} {s0 s:σ} {ways:Ways τ} (f:σ→τ) (hw:∀ (s:σ) (c:Cl) (a:Int×Int) (s':σ) (e:His.Ev),st s c a s'→e.op=c.po→e.a=c.ca→e.b=c.cb→e.ans=a→∃ o,o∈ways (f s) e∧o.1=a∧o.2=f s') {L:List Stp} (h:Run9 N cl an st s0 L s) :
 ∃ E id ord,Ev9 cl an L E id∧EvI cl an ways (f s0) L E id ord (f s):=by
 induction h with
 |nil=>exact ⟨[],_,[],.nil,⟨fun m e he=>by simp at he,fun i k hn=>by simp [nt] at hn,fun m m' e e' _ he=>by simp at he,fun m e i he=>by simp at he,List.nodup_nil,fun m hm=>(nomatch hm),fun m e he=>by simp at he,.nil,rfl⟩⟩
 |@other L x s h h9 h10 ih =>
  obtain ⟨E,id,ord,h1,h2⟩:=ih
  exact ⟨E,id,ord,.other h1 h9 h10,h2.skip x (fun i k hn=>by rw [nt_no h9 h10] at hn;exact hn) (fun i m _ _=>.inl (nt_no h9 h10 i))⟩
 |beg h hi hn hc h4 ih =>
  obtain ⟨E,id,ord,h1,h2⟩:=ih
  exact ⟨_,_,ord,.beg h1 hn hc,h2.begin hn hc h4⟩
 |@stuck L i k a s h hi hn ha h4 ih =>
  obtain ⟨E,id,ord,h1,h2⟩:=ih
  refine ⟨E,id,ord,.stuck h1 hn ha h4,h2.skip _ (fun j q hq=>?_) (fun j m _ _=>?_)⟩
  ·by_cases e:j=i
   ·subst e;rw [nt_own _ _ _ _ (.inr rfl),hn] at hq;omega
   ·rw [nt_oth _ e] at hq;exact hq
  ·by_cases e:j=i
   ·subst e;exact .inr ⟨k,a,by rw [nt_own _ _ _ _ (.inr rfl),hn];omega,ha,h4⟩
   ·exact .inl (nt_oth _ e _ _ _)
 |@fin L i k c a s s' h hi hn hc ha h4 hs ih =>
  obtain ⟨E,id,ord,h1,h2⟩:=ih
  obtain ⟨e0,c0,k1,k2,k3,k4,k5,k6,k7⟩:=h2.act i k hn
  obtain rfl:c=c0:=by rw [hc] at k4;exact Option.some.inj k4
  obtain ⟨o,w1,w2,w3⟩:=hw s c a s' ⟨e0.thr,e0.op,e0.a,e0.b,e0.beg,L.length,a.1,a.2⟩ hs k5 k6 k7 rfl
  refine ⟨_,_,ord++[id i],.fin h1 hn ha h4 k1,?_⟩
  rw [←w3]
  exact h2.finish hn k1 k3 k2 w1 w2
theorem EvI.hist {cl:Nat→List Cl} {an:Nat→List (Int×Int)} {τ:Type} {ways:Ways τ} {t0 t:τ} {L:List Stp} {E:List His.Ev} {id:Nat→Nat} {ord:List Nat} (h:EvI cl an ways t0 L E id ord t):Hist E:=fun i hi=>by
 have hg:∀ m,m<E.length→E[m]? = some (E.getD m ev0):=fun m hm=>by rw [List.getD_eq_getElem?_getD,List.getElem?_eq_getElem hm];rfl
 refine ⟨?_,fun k hk ht=>.inr (h.two i k _ _ hk (hg i hi) (hg k (by omega)) ht)⟩
 have:=h.timed i _ (hg i hi)
 exact ⟨this.1,this.2.2.imp (fun x=>x) (·.1)⟩
theorem EvI.lin {cl:Nat→List Cl} {an:Nat→List (Int×Int)} {τ:Type} {ways:Ways τ} {t0 t:τ} {L:List Stp} {E:List His.Ev} {id:Nat→Nat} {ord:List Nat} (h:EvI cl an ways t0 L E id ord t):Lin ways t0 E:=by
 have hg:∀ m,m<E.length→E[m]? = some (E.getD m ev0):=fun m hm=>by rw [List.getD_eq_getElem?_getD,List.getElem?_eq_getElem hm];rfl
 refine ⟨ord,h.nodup,fun m hm=>?_,fun m hm ho=>h.all m _ (hg m hm) ho,h.ord_.imp_of_mem fun ha hb hlt=>?_,h.acc.acc⟩
 ·obtain ⟨e,he,_⟩:=h.over m hm
  exact (List.getElem?_eq_some_iff.1 he).1
 ·obtain ⟨e,he,ho⟩:=h.over _ ha
  rw [getD_ev he] at hlt ⊢
  unfold evAhead
  rw [Bool.and_eq_false_iff]
  right
  refine decide_eq_false ?_
  have:=(h.timed _ e he).2.2
  rcases this with h|h
  ·exact absurd h (over_fin.1 ho)
  ·omega
def toStep (s:Stp):R3.Step:=⟨s.th,s.ce,s.op,s.ol,s.ne⟩
def toCall (c:Cl):R3.Call:=⟨c.po,c.ca,c.cb,c.cc⟩
def scL (N:Nat) (cl:Nat→List Cl):List (List R3.Call):=(List.range N).map fun i=>(cl i).map toCall
def anL (N:Nat) (an:Nat→List (Int×Int)):List (List (Int×Int)):=(List.range N).map an
def tabOf (L:List Stp) (id:Nat→Nat):Nat→Nat×Nat×Nat:=fun t=>((nt L t+1) / 2,nt L t / 2,id t)
theorem scL_len (N:Nat) (cl:Nat→List Cl):(scL N cl).length=N:=by simp [scL]
theorem anL_len (N:Nat) (an:Nat→List (Int×Int)):(anL N an).length=N:=by simp [anL]
theorem scL_get {N:Nat} (cl:Nat→List Cl) {i:Nat} (h:i<N):(scL N cl).getD i []=(cl i).map toCall:=by
 simp [scL,List.getD_eq_getElem?_getD,h]
theorem anL_get {N:Nat} (an:Nat→List (Int×Int)) {i:Nat} (h:i<N):(anL N an).getD i []=an i:=by
 simp [anL,List.getD_eq_getElem?_getD,h]
theorem alike_of {N:Nat} {cl:Nat→List Cl} {an:Nat→List (Int×Int)} (hl:∀ i,i<N→(an i).length=(cl i).length):R3.Alike (scL N cl) (anL N an):=by
 refine ⟨by rw [scL_len,anL_len],fun i hi=>?_⟩
 rw [scL_len] at hi
 rw [scL_get cl hi,anL_get an hi,List.length_map,hl i hi]
theorem fit_last {N:Nat} {cl:Nat→List Cl} {an:Nat→List (Int×Int)} {M:List Stp} (h:Fit9 N cl an M):∀ (L:List Stp) (x:Stp),M=L++[x]→Fit9 N cl an L∧((x.op=9∨x.op=10)→∃ i:Nat,x.th=(i:Int)∧i<N):=by
 cases h with
 |nil=>intro L x e;exact absurd e.symm (by simp)
 |other h h9 h10 =>
  intro L x e
  obtain ⟨rfl,rfl⟩:=snoc_inj e
  exact ⟨h,fun hh=>by rcases hh with hh|hh;exact absurd hh h9;exact absurd hh h10⟩
 |beg h hi hn hk h4 =>
  intro L x e
  obtain ⟨rfl,rfl⟩:=snoc_inj e
  exact ⟨h,fun _=>⟨_,rfl,hi⟩⟩
 |fin h hi hn hk ha =>
  intro L x e
  obtain ⟨rfl,rfl⟩:=snoc_inj e
  exact ⟨h,fun _=>⟨_,rfl,hi⟩⟩
theorem ofs_ev {N:Nat} {cl:Nat→List Cl} {an:Nat→List (Int×Int)} (hl:∀ i,i<N→(an i).length=(cl i).length) {L:List Stp} {E:List His.Ev} {id:Nat→Nat} (h:Ev9 cl an L E id) :
 Fit9 N cl an L→∀ l r,R3.Ofs (scL N cl) (anL N an) 0 (L.map toStep++l) R3.st0 r→R3.Ofs (scL N cl) (anL N an) L.length l ⟨E,tabOf L id⟩ r:=by
 induction h with
 |nil =>
  intro _ l r ho
  have et:tabOf [] (fun _=>0)=fun _=>(0,0,0):=funext fun t=>by simp [tabOf,nt]
  rw [et];exact ho
 |@other L x E id h h9 h10 ih =>
  intro hF l r ho
  obtain ⟨hF,_⟩:=fit_last hF _ _ rfl
  rw [List.map_append,List.append_assoc] at ho
  have:=R3.ofs_skip (show (toStep x).op≠9 from h9) (show (toStep x).op≠10 from h10) (ih hF _ _ ho)
  have et:tabOf (L++[x]) id=tabOf L id:=funext fun t=>by simp only [tabOf,nt_no h9 h10]
  rw [List.length_append,List.length_singleton,et]
  exact this
 |@beg L E id i k c h hn hc ih =>
  intro hF l r ho
  obtain ⟨hF,hi⟩:=fit_last hF _ _ rfl
  obtain ⟨j,hj,hi⟩:=hi (.inl rfl)
  have hj:(i:Int)=j:=hj
  obtain rfl:i=j:=by omega
  rw [List.map_append,List.append_assoc] at ho
  have hk:k<(cl i).length:=(List.getElem?_eq_some_iff.1 hc).1
  have t1:(tabOf L id i).1=k:=by show (nt L i+1) / 2=k;omega
  have t2:(tabOf L id i).2.1=k:=by show nt L i / 2=k;omega
  have:=R3.ofs_begin (t:=i) (show (toStep ⟨i,-1,9,k,0⟩).op=9 from rfl) rfl (by rw [scL_len];exact hi) ⟨by rw [t1,t2],by rw [t1,anL_get an hi,hl i hi];exact hk,by rw [t1];rfl,rfl⟩ (ih hF _ _ ho)
  have es:R3.beginSt (scL N cl) ⟨E,tabOf L id⟩ i L.length=⟨E++[⟨i,c.po,c.ca,c.cb,L.length,-1,4,0⟩],tabOf (L++[⟨i,-1,9,k,0⟩]) (upd id i E.length)⟩:=by
   unfold R3.beginSt
   simp only [t1,t2,scL_get cl hi]
   have e1:((cl i).map toCall).getD k R3.call0=toCall c:=by simp [List.getD_eq_getElem?_getD,hc]
   rw [e1]
   congr 1
   funext t
   by_cases e:t=i
   ·subst e
    simp only [R3.upd,if_pos,tabOf,upd_same,nt_own _ _ _ _ (.inl rfl),hn]
    congr 1
    ·omega
    ·congr 1;omega
   ·simp only [R3.upd,if_neg e,tabOf,upd_ne _ _ e,nt_oth _ e]
  rw [List.length_append,List.length_singleton,←es]
  exact this
 |@stuck L E id i k a h hn ha h4 ih =>
  intro hF l r ho
  obtain ⟨hF,hi⟩:=fit_last hF _ _ rfl
  obtain ⟨j,hj,hi⟩:=hi (.inr rfl)
  have hj:(i:Int)=j:=hj
  obtain rfl:i=j:=by omega
  rw [List.map_append,List.append_assoc] at ho
  have t1:(tabOf L id i).1=k+1:=by show (nt L i+1) / 2=k+1;omega
  have t2:(tabOf L id i).2.1=k:=by show nt L i / 2=k;omega
  have ea:(an i).getD k (0,0)=a:=by simp [List.getD_eq_getElem?_getD,ha]
  have:=R3.ofs_end (t:=i) (show (toStep ⟨i,-1,10,k,a.1⟩).op=10 from rfl) rfl (by rw [scL_len];exact hi) ⟨by rw [t1,t2];omega,by rw [t2];rfl,by rw [t2,anL_get an hi,ea];rfl⟩ (ih hF _ _ ho)
  have es:R3.endSt (anL N an) ⟨E,tabOf L id⟩ i L.length=⟨E,tabOf (L++[⟨i,-1,10,k,a.1⟩]) id⟩:=by
   unfold R3.endSt
   simp only [t1,t2,anL_get an hi,ea,h4,if_pos]
   congr 1
   funext t
   by_cases e:t=i
   ·subst e
    simp only [R3.upd,if_pos,tabOf,nt_own _ _ _ _ (.inr rfl),hn]
    congr 1
    ·omega
    ·congr 1;omega
   ·simp only [R3.upd,if_neg e,tabOf,nt_oth _ e]
  rw [List.length_append,List.length_singleton,←es]
  exact this
 |@fin L E id i k a e h hn ha h4 he ih =>
  intro hF l r ho
  obtain ⟨hF,hi⟩:=fit_last hF _ _ rfl
  obtain ⟨j,hj,hi⟩:=hi (.inr rfl)
  have hj:(i:Int)=j:=hj
  obtain rfl:i=j:=by omega
  rw [List.map_append,List.append_assoc] at ho
  have t1:(tabOf L id i).1=k+1:=by show (nt L i+1) / 2=k+1;omega
  have t2:(tabOf L id i).2.1=k:=by show nt L i / 2=k;omega
  have t3:(tabOf L id i).2.2=id i:=rfl
  have ea:(an i).getD k (0,0)=a:=by simp [List.getD_eq_getElem?_getD,ha]
  have:=R3.ofs_end (t:=i) (show (toStep ⟨i,-1,10,k,a.1⟩).op=10 from rfl) rfl (by rw [scL_len];exact hi) ⟨by rw [t1,t2];omega,by rw [t2];rfl,by rw [t2,anL_get an hi,ea];rfl⟩ (ih hF _ _ ho)
  have es:R3.endSt (anL N an) ⟨E,tabOf L id⟩ i L.length=⟨E.set (id i) ⟨e.thr,e.op,e.a,e.b,e.beg,L.length,a.1,a.2⟩,tabOf (L++[⟨i,-1,10,k,a.1⟩]) id⟩:=by
   unfold R3.endSt
   simp only [t1,t2,t3,anL_get an hi,ea,h4,if_neg,not_false_eq_true]
   rw [getD_ev he]
   unfold R3.ended
   congr 1
   funext t
   by_cases e:t=i
   ·subst e
    simp only [R3.upd,if_pos,tabOf,nt_own _ _ _ _ (.inr rfl),hn]
    congr 1
    ·omega
    ·congr 1;omega
   ·simp only [R3.upd,if_neg e,tabOf,nt_oth _ e]
  rw [List.length_append,List.length_singleton,←es]
  exact this
theorem ofs_is {N:Nat} {cl:Nat→List Cl} {an:Nat→List (Int×Int)} (hl:∀ i,i<N→(an i).length=(cl i).length) {L:List Stp} {E:List His.Ev} {id:Nat→Nat} (h:Ev9 cl an L E id) (hF:Fit9 N cl an L) {r:Option R3.St}
 (ho:R3.Ofs (scL N cl) (anL N an) 0 (L.map toStep) R3.st0 r):r=some ⟨E,tabOf L id⟩ :=
 ofs_ev hl h hF [] r (by rw [List.append_nil];exact ho)
end Go.Proofs.Ytfjjoohflcchnaa.Gen
namespace Go.Proofs.Ytfjjoohflcchnaa.Gen
open Go Go.Lift Go.Conc Go.RowKit
def InR (x:Int):Prop:=-9223372036854775808≤x∧x<9223372036854775808
def Cl.ok (c:Cl):Prop:=InR c.cb∧InR c.cc
structure InI (W:World) (p:Option Addr) (b o:Nat) (xs:List Int):Prop where
 at_:0<xs.length→p=some ⟨b,o,none⟩
 cell:∀ k x,xs[k]? = some x→W.cell? ⟨b,o+k,none⟩=some (I x)
 inr:∀ x∈xs,InR x
 len:xs.length≤17592186043904
theorem InI.grows {W W':World} {p:Option Addr} {b o:Nat} {xs:List Int} (h:InI W p b o xs) (g:Grows W W'):InI W' p b o xs :=
 ⟨h.at_,fun k x hk=>g.cell (h.cell k x hk),h.inr,h.len⟩
structure InS (W:World) (p:Option Addr) (b o n:Nat) (pc:Nat→Option Addr) (ln cp rb:Nat→Nat) (cl:Nat→List Cl):Prop where
 at_:0<n→p=some ⟨b,o,none⟩
 row:∀ k,k<n→W.cell? ⟨b,o+k,none⟩=some (.slice (pc k) (ln k) (cp k))
 len:∀ j,j<n→(cl j).length=ln j
 pq:∀ j,j<n→0<ln j→pc j=some ⟨rb j,roOf (pc j),none⟩
 call:∀ j,j<n→∀ (k:Nat) (c:Cl),(cl j)[k]? = some c→W.cell? ⟨rb j,roOf (pc j)+k*4,none⟩=some (I c.po)∧W.cell? ⟨rb j,roOf (pc j)+k*4+1,none⟩=some (I c.ca)∧W.cell? ⟨rb j,roOf (pc j)+k*4+2,none⟩=some (I c.cb)∧W.cell? ⟨rb j,roOf (pc j)+k*4+3,none⟩=some (I c.cc)
 ok:∀ j,j<n→∀ c∈cl j,InR c.ca∧c.ok
 n:n≤17592186043904
theorem InS.grows {W W':World} {p:Option Addr} {b o n:Nat} {pc:Nat→Option Addr} {ln cp rb:Nat→Nat} {cl:Nat→List Cl} (h:InS W p b o n pc ln cp rb cl) (g:Grows W W'):InS W' p b o n pc ln cp rb cl :=
 ⟨h.at_,fun k hk=>g.cell (h.row k hk),h.len,h.pq,fun j hj k c hc=>by
  have:=h.call j hj k c hc
  exact ⟨g.cell this.1,g.cell this.2.1,g.cell this.2.2.1,g.cell this.2.2.2⟩,h.ok,h.n⟩
theorem lens_scrs (mc:Mc) (fid:FuncId) (caps:Array Value) (pk:Nat→Option Obj) (N n:Nat) (K:List (Nat×Int)) (pc:Nat→Option Addr) (ln cp rb:Nat→Nat) (cl:Nat→List Cl) (hl:∀ j,j<n→(cl j).length≤64):lens (scrs mc fid caps pk N n K pc ln cp rb cl)≤64*n:=by
 unfold lens scrs
 rw [List.map_map]
 have:∀ (m j:Nat),j+m≤n→((List.range' j m).map ((fun s:Scr mc=>s.calls.length) ∘ scrOf mc fid caps pk N n (K.map (·.1)) pc ln cp rb cl)).sum≤64*m:=by
  intro m
  induction m with
  |zero=>intro j _;simp
  |succ m ih =>
   intro j hj
   rw [List.range'_succ,List.map_cons,List.sum_cons]
   have h1:=ih (j+1) (by omega)
   have h2:((fun s:Scr mc=>s.calls.length) ∘ scrOf mc fid caps pk N n (K.map (·.1)) pc ln cp rb cl) j≤64:=hl j (by omega)
   omega
 exact this n 0 (by omega)
theorem scrs_len (mc:Mc) (fid:FuncId) (caps:Array Value) (pk:Nat→Option Obj) (N n:Nat) (K:List (Nat×Int)) (pc:Nat→Option Addr) (ln cp rb:Nat→Nat) (cl:Nat→List Cl):(scrs mc fid caps pk N n K pc ln cp rb cl).length=n:=by simp [scrs]
theorem asked_of {W v:World} {p:Option Addr} {b o n:Nat} {pc:Nat→Option Addr} {ln cp rb:Nat→Nat} {cl:Nat→List Cl} (h:InS W p b o n pc ln cp rb cl) {xs:List Int} {wb bk:Nat} {sc:Value} (hn:IsNew W xs wb bk sc v) (h64:∀ j,j<n→ln j≤64) (h0:0<n):Asked v (newS wb bk W.heap.size sc xs) n b o pc ln cp rb cl:=by
 have g:=h.grows hn.old
 have far:∀ (a:Addr) (x:Value),W.cell? a=some x→¬ Own (newS wb bk W.heap.size sc xs) [] a.block:=fun a x ha ho=>by
  have:=hn.new _ (.inl ho)
  have:=World.block_lt_of_cell? _ _ ha
  omega
 refine ⟨fun j hj=>⟨h.len j hj,h64 j hj⟩,g.row,far _ _ (h.row 0 h0),fun j hj hl=>⟨h.pq j hj hl,?_⟩,g.call,fun j hj c hc=>(h.ok j hj c hc).1⟩
 obtain ⟨c,hc⟩:∃ c,(cl j)[0]? = some c:=⟨_,List.getElem?_eq_getElem (by rw [h.len j hj];exact hl)⟩
 exact far _ _ (h.call j hj 0 c hc).1
end Go.Proofs.Ytfjjoohflcchnaa.Gen
namespace Go.Proofs.Ytfjjoohflcchnaa.Gen
open Go Go.Lift Go.Conc Go.RowKit
open Go.Proofs.Ytfjjoohflcchnaa.His
open Go.ConcN (upd upd_same upd_ne)
theorem flat_inj:∀ {L L':List Stp},flat L=flat L'→L=L'
 | [],[],_=>rfl
 | [],_ :: _,h=>by simp [flat] at h
 |_ :: _,[],h=>by simp [flat] at h
 |⟨a1,a2,a3,a4,a5⟩ :: l,⟨b1,b2,b3,b4,b5⟩ :: l',h=>by
  simp only [flat,List.flatMap_cons,List.cons_append,List.nil_append,List.cons.injEq,Value.int.injEq,true_and] at h
  obtain ⟨rfl,rfl,rfl,rfl,rfl,h⟩:=h
  rw [flat_inj (L:=l) (L':=l') h]
def sumG (f:Nat→Nat):Nat→Nat
 |0=>0
 |n+1=>sumG f n+f n
theorem sumG_same {f g:Nat→Nat}:∀ (n:Nat),(∀ i,i<n→f i=g i)→sumG f n=sumG g n
 |0,_=>rfl
 |n+1,h=>by rw [sumG,sumG,sumG_same n (fun i hi=>h i (by omega)),h n (by omega)]
theorem sumG_one {f g:Nat→Nat} {j d:Nat} (hj:g j=f j+d) (ho:∀ i,i≠j→g i=f i):∀ (n:Nat),j<n→sumG g n=sumG f n+d
 |0,h=>absurd h (Nat.not_lt_zero _)
 |n+1,h=>by
  rw [sumG,sumG]
  by_cases e:j=n
  ·subst e
   rw [sumG_same (f:=g) (g:=f) j (fun i hi=>ho i (by omega)),hj];omega
  ·rw [sumG_one hj ho n (by omega),ho n (fun x=>e x.symm)];omega
theorem sumG_le {f g:Nat→Nat}:∀ (n:Nat),(∀ i,i<n→f i≤g i)→sumG f n≤sumG g n
 |0,_=>Nat.le_refl _
 |n+1,h=>by have:=sumG_le n (fun i hi=>h i (by omega));have:=h n (by omega);show sumG f n+f n≤sumG g n+g n;omega
theorem ev_len {N:Nat} {cl:Nat→List Cl} {an:Nat→List (Int×Int)} {L:List Stp} {E:List His.Ev} {id:Nat→Nat} (h:Ev9 cl an L E id):Fit9 N cl an L→E.length=sumG (fun i=>(nt L i+1) / 2) N:=by
 have one:∀ {L:List Stp} {i k:Nat} {a:Int},i<N→nt L i=2*k+1→sumG (fun j=>(nt (L++[⟨i,-1,10,k,a⟩]) j+1) / 2) N=sumG (fun j=>(nt L j+1) / 2) N:=fun {L i k a} hi hn=>sumG_same N fun j _=>by
  by_cases e:j=i
  ·subst e;rw [nt_own _ _ _ _ (.inr rfl)];omega
  ·rw [nt_oth _ e]
 induction h with
 |nil =>
  intro _
  rw [sumG_same (g:=fun _=>0) N (fun i _=>by simp [nt])]
  have:∀ n,sumG (fun _=>0) n=0:=fun n=>by induction n with|zero=>rfl|succ n ih=>rw [sumG,ih]
  rw [this];rfl
 |@other L x E id h h9 h10 ih =>
  intro hF
  rw [ih (fit_last hF _ _ rfl).1]
  exact sumG_same N fun i _=>by rw [nt_no h9 h10]
 |@beg L E id i k c h hn hc ih =>
  intro hF
  obtain ⟨hF,hi⟩:=fit_last hF _ _ rfl
  obtain ⟨j,hj,hi⟩:=hi (.inl rfl)
  have hj:(i:Int)=j:=hj
  obtain rfl:i=j:=by omega
  rw [List.length_append,List.length_singleton,ih hF]
  exact (sumG_one (j:=i) (d:=1) (by rw [nt_own _ _ _ _ (.inl rfl),hn];omega) (fun j hj=>by rw [nt_oth _ hj]) N hi).symm
 |@stuck L E id i k a h hn ha h4 ih =>
  intro hF
  obtain ⟨hF,hi⟩:=fit_last hF _ _ rfl
  obtain ⟨j,hj,hi⟩:=hi (.inr rfl)
  have hj:(i:Int)=j:=hj
  obtain rfl:i=j:=by omega
  rw [ih hF,one hi hn]
 |@fin L E id i k a e h hn ha h4 he ih =>
  intro hF
  obtain ⟨hF,hi⟩:=fit_last hF _ _ rfl
  obtain ⟨j,hj,hi⟩:=hi (.inr rfl)
  have hj:(i:Int)=j:=hj
  obtain rfl:i=j:=by omega
  rw [List.length_set,ih hF,one hi hn]
theorem fit_nt {N:Nat} {cl:Nat→List Cl} {an:Nat→List (Int×Int)} {L:List Stp} (h:Fit9 N cl an L):∀ i,nt L i≤2*(cl i).length:=by
 induction h with
 |nil=>intro i;simp [nt]
 |other h h9 h10 ih=>intro i;rw [nt_no h9 h10];exact ih i
 |@beg L i k h hi hn hk h4 ih =>
  intro j
  by_cases e:j=i
  ·subst e;rw [nt_own _ _ _ _ (.inl rfl)];omega
  ·rw [nt_oth _ e];exact ih j
 |@fin L i k a h hi hn hk ha ih =>
  intro j
  by_cases e:j=i
  ·subst e;rw [nt_own _ _ _ _ (.inr rfl)];omega
  ·rw [nt_oth _ e];exact ih j
theorem sumL_sc (N:Nat) (cl:Nat→List Cl):∀ k,k≤N→R3.sumL (scL N cl) k=sumG (fun i=>(cl i).length) k
 |0,_=>rfl
 |k+1,h=>by rw [R3.sumL,sumG,sumL_sc N cl k (by omega),scL_get cl (by omega),List.length_map]
theorem ev_le {N:Nat} {cl:Nat→List Cl} {an:Nat→List (Int×Int)} {L:List Stp} {E:List His.Ev} {id:Nat→Nat} (h:Ev9 cl an L E id) (hF:Fit9 N cl an L):E.length≤R3.sumL (scL N cl) (scL N cl).length:=by
 rw [scL_len,sumL_sc N cl N (Nat.le_refl _),ev_len h hF]
 exact sumG_le N fun i _=>by have:=fit_nt hF i;omega
theorem SLw_grows {α:Type} {n:Nat} {enc:α→List Value} {w w':World} {v:Value} {l:List α} (hg:Grows w w') (h:R3.SLw n enc w v l):R3.SLw n enc w' v l:=by
 obtain ⟨p,cap,rfl,h1,h2,h3⟩:=h
 refine ⟨p,cap,rfl,h1,h2,fun i a hi=>?_⟩
 obtain ⟨blk,off,e,hlt,hr⟩:=h3 i a hi
 exact ⟨blk,off,e,Nat.lt_of_lt_of_le hlt hg.size,fun j u hj=>hg.cell (hr j u hj)⟩
theorem SSw_grows {α:Type} {n:Nat} {enc:α→List Value} {w w':World} {v:Value} {ll:List (List α)} (hg:Grows w w') (h:R3.SSw n enc w v ll):R3.SSw n enc w' v ll:=by
 obtain ⟨p,cap,rfl,h1,h2,h3⟩:=h
 refine ⟨p,cap,rfl,h1,h2,fun i l hi=>?_⟩
 obtain ⟨blk,off,vi,e,hc,hs⟩:=h3 i l hi
 exact ⟨blk,off,vi,e,hg.cell hc,SLw_grows hg hs⟩
theorem ss_scripts {W:World} {p:Option Addr} {b o n cap:Nat} {pc:Nat→Option Addr} {ln cp rb:Nat→Nat} {cl:Nat→List Cl} (h:InS W p b o n pc ln cp rb cl) (h64:∀ j,j<n→ln j≤64) (hn:n≤8):R3.SSw 4 R3.callL W (.slice p n cap) (scL n cl):=by
 refine ⟨p,cap,by rw [scL_len],by rw [scL_len];omega,Nat.le_refl _,fun i l hi=>?_⟩
 have hin:i<n:=by have:=(List.getElem?_eq_some_iff.1 hi).1;rwa [scL_len] at this
 obtain rfl:l=(cl i).map toCall:=by simpa [scL,hin] using hi.symm
 refine ⟨b,o,_,h.at_ (by omega),h.row i hin,pc i,cp i,by rw [List.length_map,h.len i hin],by rw [List.length_map,h.len i hin];have:=h64 i hin;omega,Nat.le_refl _,fun k a hk=>?_⟩
 rw [List.getElem?_map] at hk
 cases hc:(cl i)[k]? with
 |none=>rw [hc] at hk;cases hk
 |some c =>
  rw [hc] at hk
  obtain rfl:toCall c=a:=by simpa using hk
  have hl:0<ln i:=by have:=(List.getElem?_eq_some_iff.1 hc).1;rw [h.len i hin] at this;omega
  obtain ⟨c0,c1,c2,c3⟩:=h.call i hin k c hc
  refine ⟨rb i,roOf (pc i),h.pq i hin hl,World.block_lt_of_cell? _ _ c0,fun j u hj=>?_⟩
  match j,hj with
  |0,hj=>cases hj;exact c0
  |1,hj=>cases hj;exact c1
  |2,hj=>cases hj;exact c2
  |3,hj=>cases hj;exact c3
  |j+4,hj=>simp [R3.callL] at hj
theorem ss_answers {W:World} {n M:Nat} {A ln:Nat→Nat} {l:Nat→Ph} {t:TypeId} (h64:∀ j,j<n→ln j≤64) (hn:n≤8) (hrow:∀ j,j<n→W.cell? ⟨M,j,none⟩=some (.slice (some ⟨A j,0,none⟩) (ln j) (ln j))) (hans:∀ j,j<n→(l j).ans.length=ln j∧(0<ln j→W.heap[A j]? = some (.cells (arow (l j).ans).toArray t (0,0)))) :
 R3.SSw 2 R3.ansL W (.slice (some ⟨M,0,none⟩) n n) (anL n fun i=>(l i).ans):=by
 refine ⟨some ⟨M,0,none⟩,n,by rw [anL_len],by rw [anL_len];omega,Nat.le_refl _,fun i a hi=>?_⟩
 have hin:i<n:=by have:=(List.getElem?_eq_some_iff.1 hi).1;rwa [anL_len] at this
 obtain rfl:a=(l i).ans:=by simpa [anL,hin] using hi.symm
 refine ⟨M,0,_,rfl,by rw [Nat.zero_add];exact hrow i hin,some ⟨A i,0,none⟩,ln i,by rw [(hans i hin).1],by rw [(hans i hin).1];have:=h64 i hin;omega,Nat.le_refl _,fun k q hk=>?_⟩
 have hl:0<ln i:=by have:=(List.getElem?_eq_some_iff.1 hk).1;rw [(hans i hin).1] at this;omega
 have hb:=(hans i hin).2 hl
 obtain ⟨a0,a1⟩:=arow_get _ _ _ hk
 have c0:W.cell? ⟨A i,k*2,none⟩=some (I q.1):=cell_of hb (by rw [List.getElem?_toArray];exact a0)
 have c1:W.cell? ⟨A i,k*2+1,none⟩=some (I q.2):=cell_of hb (by rw [List.getElem?_toArray];exact a1)
 refine ⟨A i,0,rfl,World.block_lt_of_cell? _ _ c0,fun j u hj=>?_⟩
 rw [Nat.zero_add]
 match j,hj with
 |0,hj=>cases hj;exact c0
 |1,hj=>cases hj;exact c1
 |j+2,hj=>simp [R3.ansL] at hj
theorem sl_trace {W:World} {p:Option Addr} {g cap m:Nat} {L:List Stp} (hm:m=L.length) (hs:m≤400000) (hp:0<m→p=some ⟨g,0,none⟩) (hc:∀ j u,(flat L)[j]? = some u→W.cell? ⟨g,j,none⟩=some u):R3.SLw 5 R3.stepL W (.slice p m cap) (L.map toStep):=by
 subst hm
 refine ⟨p,cap,by rw [List.length_map],by rw [List.length_map];omega,Nat.le_refl _,fun i a hi=>?_⟩
 rw [List.getElem?_map] at hi
 cases hs:L[i]? with
 |none=>rw [hs] at hi;cases hi
 |some s =>
  rw [hs] at hi
  obtain rfl:toStep s=a:=by simpa using hi
  have hl:=(List.getElem?_eq_some_iff.1 hs).1
  obtain ⟨f0,f1,f2,f3,f4⟩:=flat_get L i s hs
  refine ⟨g,0,hp (by omega),World.block_lt_of_cell? _ _ (hc _ _ f0),fun j u hj=>?_⟩
  rw [Nat.zero_add]
  match j,hj with
  |0,hj=>cases hj;exact hc _ _ f0
  |1,hj=>cases hj;exact hc _ _ f1
  |2,hj=>cases hj;exact hc _ _ f2
  |3,hj=>cases hj;exact hc _ _ f3
  |4,hj=>cases hj;exact hc _ _ f4
  |j+5,hj=>simp [R3.stepL] at hj
end Go.Proofs.Ytfjjoohflcchnaa.Gen
namespace Go.Proofs.Ytfjjoohflcchnaa.Gen
open Go Go.Lift Go.Conc Go.RowKit
noncomputable def LB11:Code:=Try.f11.body.getD .skip
noncomputable def l11a:Code:=seq1 (seq2 (seq2 LB11))
noncomputable def l11b:Code:=seq1 (seq2 (seq2 (seq2 LB11)))
noncomputable def l11c:Code:=seq1 (seq2 (seq2 (seq2 (seq2 LB11))))
noncomputable def l11d:Code:=seq1 (seq2 (seq2 (seq2 (seq2 (seq2 LB11)))))
noncomputable def l11e:Code:=(seq2 (seq2 (seq2 (seq2 (seq2 (seq2 LB11))))))
noncomputable def P11:Code:=.seq l11a (.seq l11b (.seq l11c (.seq l11d l11e)))
theorem eLB11:LB11=.seq (seq1 LB11) (.seq (seq1 (seq2 LB11)) P11):=by kernel_rfl
theorem l11c_wp {v:World} {a:Act} {n0:Int} {wb:Nat} {sc an:Value}  (hA:Fl 36 [(1,I n0),(2,sc),(8,Pt wb 0),(9,an),(7,.bool true),(10,I 0)] a):l11c.wp Try.prog (fun e a' w'=>e=.normal∧Fl 36 [(1,I n0),(2,sc),(8,Pt wb 0),(9,an)] a'∧w'.heap=v.heap∧w'.os=v.os∧w'.output=v.output) a v:=by
 obtain ⟨hsz,hd,hp⟩:=hA
 obtain ⟨u,rfl,hg⟩:=litN hsz hd
 simp only [List.forall_mem_cons,hg] at hp
 obtain ⟨u1,u2,u8,u9,u7,u10,-⟩:=hp
 clear hg hsz hd
 unfold l11c LB11 Try.f11 seq2 seq1
 simp only [Option.getD_some,lits,Nat.reduceAdd,u1,u2,u8,u9,u7,u10]
 clear u1 u2 u8 u9 u7 u10
 go_wp2_with fail
 first
  |exact ⟨rfl,rfl,by
    intro p hp
    simp only [List.mem_cons,List.not_mem_nil,or_false] at hp
    rcases hp with rfl|rfl|rfl|rfl<;>rfl⟩
  |exact ⟨⟨rfl,rfl,by
    intro p hp
    simp only [List.mem_cons,List.not_mem_nil,or_false] at hp
    rcases hp with rfl|rfl|rfl|rfl<;>rfl⟩,rfl⟩
  |exact ⟨⟨rfl,rfl,by
    intro p hp
    simp only [List.mem_cons,List.not_mem_nil,or_false] at hp
    rcases hp with rfl|rfl|rfl|rfl<;>rfl⟩,rfl,rfl⟩
  |exact ⟨⟨rfl,rfl,by
    intro p hp
    simp only [List.mem_cons,List.not_mem_nil,or_false] at hp
    rcases hp with rfl|rfl|rfl|rfl<;>rfl⟩,rfl,rfl,rfl⟩
  |exact ⟨⟨rfl,rfl,by
    intro p hp
    simp only [List.mem_cons,List.not_mem_nil,or_false] at hp
    rcases hp with rfl|rfl|rfl|rfl<;>rfl⟩,rfl,rfl,rfl,rfl⟩
  |exact ⟨⟨rfl,rfl,by
    intro p hp
    simp only [List.mem_cons,List.not_mem_nil,or_false] at hp
    rcases hp with rfl|rfl|rfl|rfl<;>rfl⟩,rfl,rfl,rfl,rfl,rfl⟩
theorem l11c_wpa {v:World} {a:Act} {n0:Int} {wb:Nat} {sc an:Value} {E:Int} (h1:E=1) (hA:Fl 36 [(1,I n0),(2,sc),(8,Pt wb 0),(9,an),(7,.bool true),(10,I E)] a):l11c.wp Try.prog (fun e a' w'=>e=.ret∧Fl 36 [(6,.bool true)] a'∧w'.heap=v.heap∧w'.os=v.os∧w'.output=v.output) a v:=by
 obtain ⟨hsz,hd,hp⟩:=hA
 obtain ⟨u,rfl,hg⟩:=litN hsz hd
 simp only [List.forall_mem_cons,hg] at hp
 obtain ⟨u1,u2,u8,u9,u7,u10,-⟩:=hp
 clear hg hsz hd
 subst h1
 unfold l11c LB11 Try.f11 seq2 seq1
 simp only [Option.getD_some,lits,Nat.reduceAdd,u1,u2,u8,u9,u7,u10]
 clear u1 u2 u8 u9 u7 u10
 go_wp2_with fail
 first
  |exact ⟨rfl,rfl,by
    intro p hp
    simp only [List.mem_cons,List.not_mem_nil,or_false] at hp
    rcases hp with rfl<;>rfl⟩
  |exact ⟨⟨rfl,rfl,by
    intro p hp
    simp only [List.mem_cons,List.not_mem_nil,or_false] at hp
    rcases hp with rfl<;>rfl⟩,rfl⟩
  |exact ⟨⟨rfl,rfl,by
    intro p hp
    simp only [List.mem_cons,List.not_mem_nil,or_false] at hp
    rcases hp with rfl<;>rfl⟩,rfl,rfl⟩
  |exact ⟨⟨rfl,rfl,by
    intro p hp
    simp only [List.mem_cons,List.not_mem_nil,or_false] at hp
    rcases hp with rfl<;>rfl⟩,rfl,rfl,rfl⟩
  |exact ⟨⟨rfl,rfl,by
    intro p hp
    simp only [List.mem_cons,List.not_mem_nil,or_false] at hp
    rcases hp with rfl<;>rfl⟩,rfl,rfl,rfl,rfl⟩
  |exact ⟨⟨rfl,rfl,by
    intro p hp
    simp only [List.mem_cons,List.not_mem_nil,or_false] at hp
    rcases hp with rfl<;>rfl⟩,rfl,rfl,rfl,rfl,rfl⟩
theorem l11c_wpb {v:World} {a:Act} {n0:Int} {wb:Nat} {sc an:Value} {E:Int} (h1:E=2) (hA:Fl 36 [(1,I n0),(2,sc),(8,Pt wb 0),(9,an),(7,.bool true),(10,I E)] a):l11c.wp Try.prog (fun e a' w'=>e=.ret∧Fl 36 [(6,.bool true)] a'∧w'.heap=v.heap∧w'.os=v.os∧w'.output=v.output) a v:=by
 obtain ⟨hsz,hd,hp⟩:=hA
 obtain ⟨u,rfl,hg⟩:=litN hsz hd
 simp only [List.forall_mem_cons,hg] at hp
 obtain ⟨u1,u2,u8,u9,u7,u10,-⟩:=hp
 clear hg hsz hd
 subst h1
 unfold l11c LB11 Try.f11 seq2 seq1
 simp only [Option.getD_some,lits,Nat.reduceAdd,u1,u2,u8,u9,u7,u10]
 clear u1 u2 u8 u9 u7 u10
 go_wp2_with fail
 first
  |exact ⟨rfl,rfl,by
    intro p hp
    simp only [List.mem_cons,List.not_mem_nil,or_false] at hp
    rcases hp with rfl<;>rfl⟩
  |exact ⟨⟨rfl,rfl,by
    intro p hp
    simp only [List.mem_cons,List.not_mem_nil,or_false] at hp
    rcases hp with rfl<;>rfl⟩,rfl⟩
  |exact ⟨⟨rfl,rfl,by
    intro p hp
    simp only [List.mem_cons,List.not_mem_nil,or_false] at hp
    rcases hp with rfl<;>rfl⟩,rfl,rfl⟩
  |exact ⟨⟨rfl,rfl,by
    intro p hp
    simp only [List.mem_cons,List.not_mem_nil,or_false] at hp
    rcases hp with rfl<;>rfl⟩,rfl,rfl,rfl⟩
  |exact ⟨⟨rfl,rfl,by
    intro p hp
    simp only [List.mem_cons,List.not_mem_nil,or_false] at hp
    rcases hp with rfl<;>rfl⟩,rfl,rfl,rfl,rfl⟩
  |exact ⟨⟨rfl,rfl,by
    intro p hp
    simp only [List.mem_cons,List.not_mem_nil,or_false] at hp
    rcases hp with rfl<;>rfl⟩,rfl,rfl,rfl,rfl,rfl⟩
theorem l11c_no {v:World} {a:Act} {n0:Int} {wb:Nat} {sc an:Value} {E:Int} (h1:E=1∨E=2) (hA:Fl 36 [(1,I n0),(2,sc),(8,Pt wb 0),(9,an),(7,.bool true),(10,I E)] a):l11c.wp Try.prog (fun e a' w'=>e=.ret∧Fl 36 [(6,.bool true)] a'∧w'.heap=v.heap∧w'.os=v.os∧w'.output=v.output) a v:=h1.elim (fun h=>l11c_wpa h hA) (fun h=>l11c_wpb h hA)
theorem l11a_wp {v:World} {a:Act} {s1 s2:Value} (p:Option Addr) (cap vb vo:Nat) (xs:List Int) (hp:0<xs.length→p=some ⟨vb,vo,none⟩) (hx1:xs.length≤17592186043904) (hv:∀ k x,xs[k]? = some x→v.cell? ⟨vb,vo+k,none⟩=some (I x)) (hA:Fl 36 [(0,.slice p xs.length cap),(1,s1),(2,s2),(7,.bool true)] a) :
 l11a.wp Try.prog (fun e a w'=>e=.normal∧∃ wb bk sc,Fl 36 [(1,s1),(2,s2),(7,.bool true),(8,Pt wb 0)] a∧IsNew v xs wb bk sc w') a v:=by
 have H7:Hid (Calls Try.prog 18 #[.slice p xs.length cap] v _):=⟨(body7A p vb vo cap xs hp hx1 hv).calls Try.func18 rfl⟩
 clear hp hx1 hv
 obtain ⟨hsz,hd,hp⟩:=hA
 obtain ⟨u,rfl,hg⟩:=litN hsz hd
 have u0:=(hg 0).symm.trans (hp (0,.slice p xs.length cap) (by simp))
 have u1:=(hg 1).symm.trans (hp (1,s1) (by simp))
 have u2:=(hg 2).symm.trans (hp (2,s2) (by simp))
 have u7:=(hg 7).symm.trans (hp (7,.bool true) (by simp))
 clear hg hp hsz hd
 unfold l11a LB11 Try.f11 seq2 seq1
 simp only [Option.getD_some,lits,Nat.reduceAdd,u0,u1,u2,u7]
 clear u0 u1 u2 u7
 go_wp2_with (first
  |(go_at_call 18;refine H7.out.mono ?_;rintro e w1 ⟨_,rfl,wb,bk,sc,rfl,hnew⟩))
 first
  |exact ⟨wb,bk,sc,⟨rfl,rfl,by
    intro p hp
    simp only [List.mem_cons,List.not_mem_nil,or_false] at hp
    rcases hp with rfl|rfl|rfl|rfl<;>rfl⟩,hnew⟩
  |exact ⟨wb,⟨rfl,rfl,by
    intro p hp
    simp only [List.mem_cons,List.not_mem_nil,or_false] at hp
    rcases hp with rfl|rfl|rfl|rfl<;>rfl⟩,bk,sc,hnew⟩
theorem l11d_wp {v:World} {a:Act} {n0:Int} {sc an:Value} {S:TS} {z:Nat→Option Nat} (hR:Rep z S v) (hn:S.n*40≤140737488355328) (h1:∀ u∈S.tr,u.oneCell'=true) (hA:Fl 36 [(1,I n0),(2,sc),(8,Pt S.wb 0),(9,an)] a) :
 l11d.wp Try.prog (fun e a w'=>e=.normal∧∃ p g cap,Fl 36 [(1,I n0),(2,sc),(8,Pt S.wb 0),(9,an),(11,.slice p S.n cap)] a∧(0<S.n→p=some ⟨g,0,none⟩∧v.heap.size≤g)∧(∀ j u,S.tr[j]? = some u→w'.cell? ⟨g,j,none⟩=some u)∧Grows v w') a v:=by
 have H9:Hid (Calls Try.prog 20 #[Pt S.wb 0] v _):=⟨(body9A hR hn h1).calls Try.func20 rfl⟩
 clear hR hn h1
 obtain ⟨hsz,hd,hp⟩:=hA
 obtain ⟨u,rfl,hg⟩:=litN hsz hd
 have u1:=(hg 1).symm.trans (hp (1,I n0) (by simp))
 have u2:=(hg 2).symm.trans (hp (2,sc) (by simp))
 have u8:=(hg 8).symm.trans (hp (8,Pt S.wb 0) (by simp))
 have u9:=(hg 9).symm.trans (hp (9,an) (by simp))
 clear hg hp hsz hd
 unfold l11d LB11 Try.f11 seq2 seq1
 simp only [Option.getD_some,lits,Nat.reduceAdd,u1,u2,u8,u9]
 clear u1 u2 u8 u9
 go_wp2_with (first
  |(go_at_call 20;refine H9.out.mono ?_;rintro e w1 ⟨_,rfl,p,g,cap,rfl,k1,k2,k3⟩))
 first
  |exact ⟨p,g,cap,⟨rfl,rfl,by
    intro p hp
    simp only [List.mem_cons,List.not_mem_nil,or_false] at hp
    rcases hp with rfl|rfl|rfl|rfl|rfl<;>rfl⟩,k1,k2,k3⟩
  |exact ⟨p,⟨cap,⟨rfl,rfl,by
    intro p hp
    simp only [List.mem_cons,List.not_mem_nil,or_false] at hp
    rcases hp with rfl|rfl|rfl|rfl|rfl<;>rfl⟩⟩,g,k1,k2⟩
  |exact ⟨p,⟨cap,⟨rfl,rfl,by
    intro p hp
    simp only [List.mem_cons,List.not_mem_nil,or_false] at hp
    rcases hp with rfl|rfl|rfl|rfl|rfl<;>rfl⟩⟩,g,k1,k2,k3⟩
theorem l11e_wp {v:World} {a:Act} {n0:Int} {sc an tv:Value} (H:Calls Try.prog 43 #[I 4,I n0,I 2,sc,an,tv] v fun e w'=>e=.returned (.bool true)∧Below v.heap.size v w') (hA:Fl 36 [(1,I n0),(2,sc),(9,an),(11,tv)] a) :
 l11e.wp Try.prog (fun e a w'=>e=.ret∧Fl 36 [(6,.bool true)] a∧Below v.heap.size v w') a v:=by
 have H9:Hid (Calls Try.prog 43 #[I 4,I n0,I 2,sc,an,tv] v _):=⟨H⟩
 clear H
 obtain ⟨hsz,hd,hp⟩:=hA
 obtain ⟨u,rfl,hg⟩:=litN hsz hd
 have u1:=(hg 1).symm.trans (hp (1,I n0) (by simp))
 have u2:=(hg 2).symm.trans (hp (2,sc) (by simp))
 have u9:=(hg 9).symm.trans (hp (9,an) (by simp))
 have u11:=(hg 11).symm.trans (hp (11,tv) (by simp))
 clear hg hp hsz hd
 unfold l11e LB11 Try.f11 seq2
 simp only [Option.getD_some,lits,Nat.reduceAdd,u1,u2,u9,u11]
 clear u1 u2 u9 u11
 go_wp2_with (first
  |(go_at_call 43;refine H9.out.mono ?_;rintro e w1 ⟨rfl,k3⟩))
 exact ⟨rfl,rfl,by
  intro p hp
  simp only [List.mem_cons,List.not_mem_nil,or_false] at hp
  rcases hp with rfl<;>rfl⟩
theorem fine_l11c:fineCode Try.prog true LV l11c:=fineCode_askS callV extT (by kernel_rfl)
theorem fine_l11a:fineCode Try.prog true LV l11a:=fineCode_askS callV extT (by kernel_rfl)
theorem fine_l11d:fineCode Try.prog true LV l11d:=fineCode_askS callV extT (by kernel_rfl)
theorem fine_l11e:fineCode Try.prog true LX3 l11e:=fineCode_askS callX3 extT (by kernel_rfl)
theorem gx_same {v v':World} (e:v'.heap=v.heap) (e1:v'.os=v.os) (e2:v'.output=v.output):Grows v v':=⟨by rw [e];exact Nat.le_refl _,fun b _=>by rw [e],e1,e2⟩
theorem gx_trans {v v' v2:World} (a:Grows v v') (b:Grows v' v2):Grows v v2:=⟨Nat.le_trans a.size b.size,fun q hq=>by rw [b.old q (Nat.lt_of_lt_of_le hq a.size),a.old q hq],b.os.trans a.os,b.output.trans a.output⟩
noncomputable def P11s:Code:=.seq l11d l11e
theorem eP11:P11=.seq l11a (.seq l11b (.seq l11c P11s)):=rfl
theorem law11_in {Ch:Nat→Prop} {Stop:Goroutine→World→Prop} {main:Bool} {w:World} (x0:Value) (x1:Value) (x2:Value)
 (hk:∀ (w':World) (bd:Frame) (ad:Act) (od:Array Oper) (qd:Nat) (rd:List Nat) (oe:Oper) (kd:List Item),(∃ d,w'=w.at d)→od[qd]? = some oe →
   (∀ (Ch:Nat→Prop) (Stop:Goroutine→World→Prop) (w1:World),(∀ a,Fl 36 [(0,x0),(1,x1),(2,x2),(7,.bool true)] a→GoesI Try.prog main (DT (ScZ zn) Ch) Stop (G ((base 11).at a [.code P11]) []) w1)→GoesI Try.prog main (DT (ScZ zn) Ch) Stop (G (bd.at (ad.put oe.dst (.bool true)) (.inRegion od rd :: kd)) []) w1) →
   GoesI Try.prog main (DT (ScZ zn) Ch) Stop (G ((base 41).at { tmps:=Array.replicate 36 undef,defers:=[] } [.code B39]) [bd.at ad (.inRegion od (qd :: rd) :: kd)]) w') :
 GoesI Try.prog main (DT (ScZ zn) Ch) Stop (G ((base 11).at { tmps:=#[x0,x1,x2]++Array.replicate 33 undef,defers:=[] } [.code LB11]) []) w:=by
 rw [eLB11]
 simp only [Array.replicate_succ,Array.replicate_zero,List.push_toArray,List.append_toArray,List.nil_append,List.cons_append]
 refine goesI_seq (dt_idle _ _) ?_
 generalize hR:P11=R9 at hk ⊢
 unfold LB11 Try.f11 seq1 seq2
 simp only [Option.getD_some]
 refine goesI_region (dt_idle _ _) ?_
 simp only [List.size_toArray,List.length_cons,List.length_nil,Nat.reduceAdd,Nat.zero_add,List.range,List.range.loop]
 iterate 1
  (refine goesI_oper rfl rfl (by decide) (fun d K hK=>?_)
   go_simp
   refine hK _ _ ⟨dt_reads (fun e he=>?_),GoesI.at ?_ d⟩
   ·have hm:=mem_listed he
    simp [go_sem, *] at hm
    try exact ⟨_,_,hm⟩
   clear hK K)
 refine goesI_regionEnd (dt_idle _ _) ?_
 refine goesI_seq (dt_idle _ _) ?_
 refine goesI_region (dt_idle _ _) ?_
 simp only [List.size_toArray,List.length_cons,List.length_nil,Nat.reduceAdd,Nat.zero_add,List.range,List.range.loop]
 refine goesI_into (f:=41) (fn:=Try.f41) (args:=#[]) (dt_idle _ _) rfl rfl (by decide) rfl (by simp [Act.eval]) Try.func41 (by decide) rfl ?_
 refine hk w _ _ _ _ _ _ _ ⟨w.drawn,rfl⟩ rfl (fun Ch Stop w1 hg=>?_)
 clear hk
 iterate 1
  (refine goesI_oper rfl rfl (by decide) (fun d K hK=>?_)
   go_simp
   refine hK _ _ ⟨dt_reads (fun e he=>?_),GoesI.at ?_ d⟩
   ·have hm:=mem_listed he
    simp [go_sem, *] at hm
    try exact ⟨_,_,hm⟩
   clear hK K)
 refine goesI_regionEnd (dt_idle _ _) ?_
 exact hg _ ⟨rfl,rfl,by
  intro p hp
  simp only [List.mem_cons,List.not_mem_nil,or_false] at hp
  rcases hp with rfl|rfl|rfl|rfl<;>rfl⟩
theorem end11 {a:Act} {todo:List Item} {w:World} (hd:a.defers=[]) (h4:a.tmps.getD 6 undef=.bool true):stepG Try.prog true (G { (base 11).at a todo with mode:=.returning } []) w=.ended (.done (.bool true)) w #[]:=by
 have hr:(results Try.f11 a.tmps).run Try.prog w=.ok (.bool true) w:=by rw [results_tmp (t:=6) rfl,h4]
 have he:(results Try.f11 a.tmps).events Try.prog w #[]=#[]:=by simp [results,go_sem,Try.f11]
 simp [G,stepG,unwind,Frame.at,hd,Try.func11,base,hr,he,doReturn,GStep.after,seen]
theorem law11_b {Ch:Nat→Prop} {Stop:Goroutine→World→Prop} {main:Bool} {v w:World} (p:Option Addr) (cap vb vo:Nat) (xs:List Int) (hp:0<xs.length→p=some ⟨vb,vo,none⟩) (hx1:xs.length≤17592186043904) (hv:∀ k x,xs[k]? = some x→v.cell? ⟨vb,vo+k,none⟩=some (I x)) (s1 s2:Value) (hvw:Rel zn v w) (hn:NoRow Ch v)
 (hk:∀ (v' w':World) (wb bk:Nat) (sc:Value) (bd:Frame) (ad:Act) (od:Array Oper) (qd:Nat) (rd:List Nat) (oe:Oper) (kd:List Item),Rel zn v' w'→NoRow Ch v'→IsNew v xs wb bk sc v'→od[qd]? = some oe →
   (∀ (Ch:Nat→Prop) (Stop:Goroutine→World→Prop) (w2:World) (A:Value) (E:Int),(∀ a,Fl 36 [(1,s1),(2,s2),(7,.bool true),(8,Pt wb 0),(9,A),(10,I E)] a→GoesI Try.prog main (DT (ScZ zn) Ch) Stop (G ((base 11).at a [.code (.seq l11c P11s)]) []) w2) →
     GoesI Try.prog main (DT (ScZ zn) Ch) Stop (G (bd.at (ad.put oe.dst (.tuple #[A,I E])) (.inRegion od rd :: kd)) []) w2) →
   GoesI Try.prog main (DT (ScZ zn) Ch) Stop (G ((base 42).at { tmps:=#[Pt wb 0,s1,s2]++Array.replicate 22 undef,defers:=[] } [.code B40]) [bd.at ad (.inRegion od (qd :: rd) :: kd)]) w') :
 ∀ a,Fl 36 [(0,.slice p xs.length cap),(1,s1),(2,s2),(7,.bool true)] a→GoesI Try.prog main (DT (ScZ zn) Ch) Stop (G ((base 11).at a [.code P11]) []) w:=by
 intro a0 hA0
 rw [eP11]
 refine goesI_seq (dt_idle _ _) ?_
 refine goesI_plain (z:=zn) (wr:=true) (L:=LV) (I:=NoRow Ch) hE fineV noRow_keeps (fun v v' w w' es hi hr ho he=>dt_of_z v v' w w' es hi hr ho he) hvw fine_l11a hA0.2.1 (by simp [base]) hn
  (Q:=fun a w'=>∃ wb bk sc,Fl 36 [(1,s1),(2,s2),(7,.bool true),(8,Pt wb 0)] a∧IsNew v xs wb bk sc w') (fun τ=>wp_mono (l11a_wp (v:=onTape v τ 0) p cap vb vo xs hp hx1 hv hA0) (fun e a w' hq=>⟨hq.1,by
    obtain ⟨_,wb,bk,sc,h1,h2⟩:=hq
    exact ⟨wb,bk,sc,h1,h2.mem,h2.opn,h2.new,⟨h2.old.size,h2.old.old,h2.old.os,h2.old.output⟩⟩⟩)) ?_
 rintro a1 v1 w1 ⟨wb,bk,sc,hB,hnew⟩ hr1 hn1 -
 obtain ⟨hsz,hd,hpp⟩:=hB
 obtain ⟨u,rfl,hg⟩:=litN hsz hd
 have u1:=(hg 1).symm.trans (hpp (1,s1) (by simp))
 have u2:=(hg 2).symm.trans (hpp (2,s2) (by simp))
 have u7:=(hg 7).symm.trans (hpp (7,.bool true) (by simp))
 have u8:=(hg 8).symm.trans (hpp (8,Pt wb 0) (by simp))
 clear hg hpp hsz hd hA0
 refine goesI_seq (dt_idle _ _) ?_
 clear hvw hn hp hx1 hv
 generalize hT:Code.seq l11c P11s=T at hk ⊢
 unfold l11b LB11 Try.f11 seq1 seq2
 simp only [Option.getD_some,lits,Nat.reduceAdd,u1,u2,u7,u8]
 clear u1 u2 u7 u8
 refine goesI_region (dt_idle _ _) ?_
 simp only [List.size_toArray,List.length_cons,List.length_nil,Nat.reduceAdd,Nat.zero_add,List.range,List.range.loop]
 iterate 3
  (refine goesI_oper rfl rfl (by decide) (fun d K hK=>?_)
   go_simp
   refine hK _ _ ⟨dt_reads (fun e he=>?_),GoesI.at ?_ d⟩
   ·have hm:=mem_listed he
    simp [go_sem, *] at hm
    try exact ⟨_,_,hm⟩
   clear hK K)
 refine goesI_into (f:=42) (fn:=Try.f42) (args:=#[Pt wb 0,s1,s2]) (dt_idle _ _) rfl rfl (by decide) rfl (by simp [Act.eval]) Try.func42 (by decide) rfl ?_
 refine hk v1 w1 wb bk sc _ _ _ _ _ _ _ hr1 hn1 hnew rfl (fun Ch Stop w2 A E hwp=>?_)
 clear hk hnew hr1 hn1
 iterate 5
  (refine goesI_oper rfl rfl (by decide) (fun d K hK=>?_)
   go_simp
   refine hK _ _ ⟨dt_reads (fun e he=>?_),GoesI.at ?_ d⟩
   ·have hm:=mem_listed he
    simp [go_sem, *] at hm
    try exact ⟨_,_,hm⟩
   clear hK K)
 refine goesI_regionEnd (dt_idle _ _) ?_
 subst hT
 exact hwp _ ⟨rfl,rfl,by
  intro p hp
  simp only [List.mem_cons,List.not_mem_nil,or_false] at hp
  rcases hp with rfl|rfl|rfl|rfl|rfl|rfl<;>rfl⟩
theorem law11_no {Ch:Nat→Prop} {Stop:Goroutine→World→Prop} {main:Bool} {v w:World} {a:Act} {n0:Int} {wb:Nat} {sc an:Value} {E:Int} (hE1:E=1∨E=2) (hvw:Rel zn v w) (hn:NoRow Ch v) (hA:Fl 36 [(1,I n0),(2,sc),(8,Pt wb 0),(9,an),(7,.bool true),(10,I E)] a)
 (hend:∀ a' v' w' todo,Rel zn v' w'→Grows v v'→a'.defers=[]→a'.tmps.getD 6 undef=.bool true→GoesI Try.prog main (DT (ScZ zn) Ch) Stop (G { (base 11).at a' todo with mode:=.returning } []) w') :
 GoesI Try.prog main (DT (ScZ zn) Ch) Stop (G ((base 11).at a [.code (.seq l11c P11s)]) []) w:=by
 refine goesI_seq (dt_idle _ _) ?_
 refine goesI_retZ (Q:=fun a w'=>Fl 36 [(6,.bool true)] a∧w'.heap=v.heap∧w'.os=v.os∧w'.output=v.output) hvw hn fine_l11c hA.2.1 (fun τ=>l11c_no (v:=onTape v τ 0) hE1 hA) (fun a' v' w' todo hQ hd hr hn'=>hend a' v' w' todo hr (gx_same hQ.2.1 hQ.2.2.1 hQ.2.2.2) hd (hQ.1.at 6 (.bool true) (by simp)))
theorem law11_yes {Ch:Nat→Prop} {Stop:Goroutine→World→Prop} {main:Bool} {v w:World} {a:Act} {n0:Int} {S:TS} {L:List Stp} {sv av:Value}
 (hS:Rep zn S v) (htr:S.tr=flat L) (hSn:S.n=L.length) (hs4:S.n≤400000)
 (hX:∀ (u:World) (tv:Value),Grows v u→R3.SLw 5 R3.stepL u tv (L.map toStep)→Calls Try.prog 43 #[I 4,I n0,I 2,sv,av,tv] u fun e w'=>e=.returned (.bool true)∧Below u.heap.size u w')
 (hvw:Rel zn v w) (hn:NoRow Ch v) (hA:Fl 36 [(1,I n0),(2,sv),(8,Pt S.wb 0),(9,av),(7,.bool true),(10,I 0)] a)
 (hend:∀ a' v' w' todo,Rel zn v' w'→Grows v v'→a'.defers=[]→a'.tmps.getD 6 undef=.bool true→GoesI Try.prog main (DT (ScZ zn) Ch) Stop (G { (base 11).at a' todo with mode:=.returning } []) w') :
 GoesI Try.prog main (DT (ScZ zn) Ch) Stop (G ((base 11).at a [.code (.seq l11c P11s)]) []) w:=by
 refine goesI_seq (dt_idle _ _) ?_
 refine goesI_plain (z:=zn) (wr:=true) (L:=LV) (I:=NoRow Ch) hE fineV noRow_keeps (fun v v' w w' es hi hr ho he=>dt_of_z v v' w w' es hi hr ho he) hvw fine_l11c hA.2.1 (by simp [base]) hn (Q:=fun a w'=>Fl 36 [(1,I n0),(2,sv),(8,Pt S.wb 0),(9,av)] a∧w'.heap=v.heap∧w'.os=v.os∧w'.output=v.output) (fun τ=>l11c_wp (v:=onTape v τ 0) hA) ?_
 rintro a1 v1 w1 ⟨hA1,q1,o1,u1⟩ hr1 hn1 -
 unfold P11s
 refine goesI_seq (dt_idle _ _) ?_
 refine goesI_plain (z:=zn) (wr:=true) (L:=LV) (I:=NoRow Ch) hE fineV noRow_keeps (fun v v' w w' es hi hr ho he=>dt_of_z v v' w w' es hi hr ho he) hr1 fine_l11d hA1.2.1 (by simp [base]) hn1 (Q:=fun a w'=>∃ p g ct,Fl 36 [(1,I n0),(2,sv),(8,Pt S.wb 0),(9,av),(11,.slice p S.n ct)] a∧(0<S.n→p=some ⟨g,0,none⟩∧v1.heap.size≤g)∧(∀ j u,S.tr[j]? = some u→w'.cell? ⟨g,j,none⟩=some u)∧Grows v1 w') (fun τ=>wp_mono (l11d_wp (v:=onTape v1 τ 0) (S:=S) (hS.same (v':=onTape v1 τ 0) q1) (by omega) (by rw [htr];exact flat_one L) hA1) (fun e a w' hq=>⟨hq.1,by
  obtain ⟨_,p,g,ct,k1,k2,k3,k4⟩:=hq
  exact ⟨p,g,ct,k1,k2,k3,⟨k4.size,k4.old,k4.os,k4.output⟩⟩⟩)) ?_
 rintro a2 v2 w2 ⟨p,g,ct,hA2,hp,htc,g2⟩ hr2 hn2 -
 have gv:Grows v v2:=gx_trans (gx_same q1 o1 u1) g2
 have hT2:R3.SLw 5 R3.stepL v2 (.slice p S.n ct) (L.map toStep):=sl_trace hSn hs4 (fun h=>(hp h).1) (fun j u hj=>htc j u (by rw [htr];exact hj))
 refine goesI_retX (Q:=fun a w'=>Fl 36 [(6,.bool true)] a∧Grows v2 w') hr2 hn2 fine_l11e hA2.2.1 (fun τ=>wp_mono (l11e_wp (v:=onTape v2 τ 0) (hX (onTape v2 τ 0) (.slice p S.n ct) ⟨gv.size,gv.old,gv.os,gv.output⟩ (SLw_grows ⟨Nat.le_refl _,fun _ _=>rfl,rfl,rfl⟩ hT2)) (hA2.sub (by simp))) (fun e a w' hq=>⟨hq.1,hq.2.1,⟨hq.2.2.size,fun b hb=>hq.2.2.block b hb,hq.2.2.os,hq.2.2.output⟩⟩)) (fun a' v' w' todo hQ hd hr hn'=>hend a' v' w' todo hr (gx_trans gv hQ.2) hd (hQ.1.at 6 (.bool true) (by simp)))
theorem going_wb (S:TS) (i:Nat) (t:Thr):(going S i t).wb=S.wb:=by
 unfold going
 first
  |rfl
  |(unfold picked;split<;>rfl)
  |(split<;>rfl)
theorem pturn_wb {mc:Mc} {p p':PSt} (h:pturn mc p=some p'):p'.S.wb=p.S.wb:=by
 unfold pturn at h
 split at h
 ·split at h
  ·cases h;rfl
  ·cases h
 ·cases h
  exact (resume_sta _ _ _ _ _).wb.trans (going_wb _ _ _)
theorem turns_wb {mc:Mc} {m:Nat} {p p':PSt} (h:Turns mc m p p'):p'.S.wb=p.S.wb:=by
 induction h with
 |stop _=>rfl
 |step h1 _ ih=>exact ih.trans (pturn_wb h1)
theorem hires_wb {mc:Mc} {k:Nat} {ss:List (Scr mc)} {S S':TS} {l l':Nat→Ph} (h:Hires mc k ss S l S' l'):S'.wb=S.wb:=by
 induction h with
 |nil=>rfl
 |cons tv tb gc _ ih=>exact ih.trans (flow_sta _ _ _ _ _ _ _).wb
end Go.Proofs.Ytfjjoohflcchnaa.Gen
