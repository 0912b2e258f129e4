/- Of the proof of CounterTimes. Part 27 of 31. (Joined, by program, and written short, of: La14c.) -/
import Derived.Test.YtfjjoohflcchnaaDoorCounterTimes26
set_option linter.unusedSimpArgs false
set_option linter.unusedVariables false
set_option maxHeartbeats 4000000
set_option maxRecDepth 100000
namespace Go.Proofs.YtfjjoohflcchnaaDoor.Gen
open Go Go.Lift Go.Conc Go.RowKit
open Go.ConcN (upd upd_same upd_ne)
structure Sm (n:Nat) (r:Rp):Prop where
 tot:-1000*(n:Int)≤r.total∧r.total≤1000*(n:Int)
 bus:-(n:Int)≤r.busy∧r.busy≤n
 cnt:∀ t,r.count t≤n
 see:∀ t,(r.seen t).length≤n+1
theorem rs_sm (cl:Nat→List Cl) {n:Nat} {r:Rp} (h:Sm n r) (s:Stp):Sm (n+1) (rs cl r s):=by
 have hm:∀ x:Int,-1000<x.tmod 1000∧x.tmod 1000<1000:=fun x=>by
  have h1:=Int.tmod_lt_of_pos x (show (0:Int)<1000 by omega)
  have h2:=Int.neg_tmod x 1000▸Int.tmod_lt_of_pos (-x) (show (0:Int)<1000 by omega)
  omega
 have hc:∀ (k x t:Nat),x≤n+1→upd r.count k x t≤n+1:=fun k x t hx=>by
  by_cases e:t=k
  ·subst e;rw [upd_same];exact hx
  ·rw [upd_ne _ _ e];have:=h.cnt t;omega
 have htot:=h.tot
 have hbus:=h.bus
 unfold rs
 simp only
 split
 ·refine ⟨by show -1000*((n+1:Nat):Int)≤r.total∧r.total≤_;omega,?_,fun t=>hc _ 0 t (Nat.zero_le _),fun t=>?_⟩
  ·show -((n+1:Nat):Int)≤(if poOf cl s.th.toNat s.ol.toNat=1 then r.busy+1 else r.busy)∧(if poOf cl s.th.toNat s.ol.toNat=1 then r.busy+1 else r.busy)≤((n+1:Nat):Int)
   split<;>omega
  ·show (upd r.seen _ [r.total] t).length≤_
   by_cases e:t=s.th.toNat
   ·subst e;rw [upd_same];show 1≤_;omega
   ·rw [upd_ne _ _ e];have:=h.see t;omega
 ·split
  ·refine ⟨by show -1000*((n+1:Nat):Int)≤r.total∧r.total≤_;omega,?_,fun t=>by have:=h.cnt t;show r.count t≤_;omega,fun t=>by have:=h.see t;show (r.seen t).length≤_;omega⟩
   show -((n+1:Nat):Int)≤(if poOf cl s.th.toNat s.ol.toNat=1 then r.busy - 1 else r.busy)∧(if poOf cl s.th.toNat s.ol.toNat=1 then r.busy - 1 else r.busy)≤((n+1:Nat):Int)
   split<;>omega
  ·split
   ·have:=hm (caOf cl s.th.toNat (r.call s.th.toNat))
    refine ⟨?_,by show -((n+1:Nat):Int)≤r.busy∧r.busy≤_;omega,fun t=>hc _ _ t (by have:=h.cnt s.th.toNat;omega),fun t=>?_⟩
    ·show -1000*((n+1:Nat):Int)≤r.total+_∧r.total+_≤_
     omega
    ·show (r.seen t++[_]).length≤_
     rw [List.length_append]
     have:=h.see t
     show _+1≤_
     omega
   ·exact ⟨by show -1000*((n+1:Nat):Int)≤r.total∧r.total≤_;omega,by show -((n+1:Nat):Int)≤r.busy∧r.busy≤_;omega,fun t=>hc _ _ t (by have:=h.cnt s.th.toNat;omega),fun t=>by have:=h.see t;show (r.seen t).length≤_;omega⟩
theorem rep_sm (cl:Nat→List Cl):∀ (L:List Stp) {n:Nat} {r:Rp},Sm n r→Sm (n+L.length) (L.foldl (rs cl) r)
 | [],n,r,h=>h
 |s :: L,n,r,h=>by
  have:=rep_sm cl L (rs_sm cl h s)
  rw [List.foldl_cons,List.length_cons,show n+(L.length+1)=n+1+L.length by omega]
  exact this
theorem sm0:Sm 0 rp0:=⟨⟨by decide,by decide⟩,⟨by decide,by decide⟩,fun _=>Nat.le_refl _,fun _=>Nat.zero_le _⟩
structure M14 (N B:Nat) (r:Rp) (f:Nat→Value) (u:World):Prop where
 c:u.rowIs B 3 N (fun t=>I ((r.call t:Nat):Int))
 e:u.rowIs (B+1) 22 N f
 q:u.rowIs (B+2) 4 N (fun t=>.bool (r.quiet t))
 n:u.rowIs (B+3) 3 N (fun t=>I ((r.count t:Nat):Int))
 own:∀ t,t<N→u.ownsRow (B+4) 3 1 (f t) (r.seen t).length ((r.seen t).map I)
 dis:∀ t t',t<N→t'<N→t≠t'→∀ g,(f t).ownBlock=some g→(f t').ownBlock≠some g
section
variable {N B:Nat} {r:Rp} {f:Nat→Value} {u u':World}
theorem M14.same (h:M14 N B r f u) (e:u'.heap=u.heap):M14 N B r f u':=⟨h.c.of_block (by rw [e]),h.e.of_block (by rw [e]),h.q.of_block (by rw [e]),h.n.of_block (by rw [e]),fun t ht=>own_stay (fun g _=>by rw [e]) (h.own t ht),h.dis⟩
theorem M14.grows (h:M14 N B r f u) (g:Grows u u'):M14 N B r f u':=⟨h.c.of_block (g.old _ h.c.lt),h.e.of_block (g.old _ h.e.lt),h.q.of_block (g.old _ h.q.lt),h.n.of_block (g.old _ h.n.lt),fun t ht=>own_stay (fun x hx=>g.old x (own_lt (h.own t ht) x hx).2) (h.own t ht),h.dis⟩
theorem upd_row {α:Type} (f:Nat→α) (k:Nat) (x:α) (g:α→Value) (i:Nat):(if i=k then g x else g (f i))=g (upd f k x i):=by
 by_cases e:i=k
 ·subst e;rw [if_pos rfl,upd_same]
 ·rw [if_neg e,upd_ne _ _ e]
theorem own_row {b j:Nat} (h:M14 N B r f u) (hb:b<B+4) (y:Value) (t:Nat) (ht:t<N):(u.setCell ⟨b,j,none⟩ y).ownsRow (B+4) 3 1 (f t) (r.seen t).length ((r.seen t).map I):=own_set (h.own t ht) _ _ (fun e=>by have:=(own_lt (h.own t ht) _ e).1;have:B+4≤b:=this;omega)
theorem M14.setC (h:M14 N B r f u) (k x:Nat):M14 N B { r with call:=upd r.call k x } f (u.setCell ⟨B,k,none⟩ (I (x:Int))):=⟨(h.c.set k _).congr fun i _=>upd_row r.call k x (fun y=>I ((y:Nat):Int)) i,h.e.setOther (by show B+1≠B;omega) _,h.q.setOther (by show B+2≠B;omega) _,h.n.setOther (by show B+3≠B;omega) _,own_row h (by omega) _,h.dis⟩
theorem M14.setQ (h:M14 N B r f u) (k:Nat) (x:Bool):M14 N B { r with quiet:=upd r.quiet k x } f (u.setCell ⟨B+2,k,none⟩ (.bool x)):=⟨h.c.setOther (by show B≠B+2;omega) _,h.e.setOther (by show B+1≠B+2;omega) _,(h.q.set k _).congr fun i _=>upd_row r.quiet k x Value.bool i,h.n.setOther (by show B+3≠B+2;omega) _,own_row h (by omega) _,h.dis⟩
theorem M14.setN (h:M14 N B r f u) (k x:Nat):M14 N B { r with count:=upd r.count k x } f (u.setCell ⟨B+3,k,none⟩ (I (x:Int))):=⟨h.c.setOther (by show B≠B+3;omega) _,h.e.setOther (by show B+1≠B+3;omega) _,h.q.setOther (by show B+2≠B+3;omega) _,(h.n.set k _).congr fun i _=>upd_row r.count k x (fun y=>I ((y:Nat):Int)) i,own_row h (by omega) _,h.dis⟩
theorem M14.to (h:M14 N B r f u) {r':Rp} (e1:∀ t,t<N→r'.call t=r.call t) (e2:∀ t,t<N→r'.seen t=r.seen t) (e3:∀ t,t<N→r'.quiet t=r.quiet t) (e4:∀ t,t<N→r'.count t=r.count t):M14 N B r' f u :=
 ⟨h.c.congr fun i hi=>by rw [e1 i hi],h.e,h.q.congr fun i hi=>by rw [e3 i hi],h.n.congr fun i hi=>by rw [e4 i hi],fun t ht=>by rw [e2 t ht];exact h.own t ht,h.dis⟩
theorem M14.fresh (h:M14 N B r f u) (hB:B+4≤u.heap.size) {t:Nat} (ht:t<N) (y:Int):M14 N B { r with seen:=upd r.seen t [y] } (upd f t (.slice (some ⟨u.heap.size,0,none⟩) 1 1)) ((u.alloc (.cells #[I y] 3)).setCell ⟨B+1,t,none⟩ (.slice (some ⟨u.heap.size,0,none⟩) 1 1)):=by
 have g:Grows u (u.alloc (.cells #[I y] 3)):=⟨by show _≤(u.heap.push _).size;simp,fun b hb=>by show (u.heap.push _)[b]? = _;rw [Array.getElem?_push,if_neg (by omega)],rfl,rfl⟩
 have h1:=h.grows g
 refine ⟨h1.c.setOther (by show B≠B+1;omega) _,(h1.e.set t _).congr fun i _=>upd_row f t _ (fun y=>y) i,h1.q.setOther (by show B+2≠B+1;omega) _,h1.n.setOther (by show B+3≠B+1;omega) _,fun j hj=>?_,fun j j' hj hj' hne x hx=>?_⟩
 ·by_cases e:j=t
  ·subst e
   simp only [upd_same]
   refine own_set ⟨rfl,.inr ⟨u.heap.size,1,#[I y],rfl,hB,Array.getElem?_push_size,Nat.le_refl _,by unfold maxLen;omega,rfl,rfl⟩⟩ _ _ (fun q=>?_)
   have:u.heap.size=B+1:=Option.some.inj q
   omega
  ·simp only [upd_ne _ _ e]
   exact own_row h1 (by omega) _ j hj
 ·by_cases e:j=t
  ·subst e
   rw [upd_same] at hx
   obtain rfl:u.heap.size=x:=Option.some.inj hx
   rw [upd_ne _ _ (Ne.symm hne)]
   intro q
   have:=(own_lt (h.own j' hj') _ q).2
   omega
  ·rw [upd_ne _ _ e] at hx
   by_cases e':j'=t
   ·subst e'
    rw [upd_same]
    intro q
    obtain rfl:u.heap.size=x:=Option.some.inj q
    have:=(own_lt (h.own j hj) _ hx).2
    omega
   ·rw [upd_ne _ _ e']
    exact h.dis j j' hj hj' hne x hx
theorem own_shape {w:World} {lo n:Nat} {v:Value} {xs:List Value} (h:w.ownsRow lo 3 1 v n xs):∃ p c,v=.slice p n c:=by
 rcases h.2 with ⟨rfl,rfl⟩|⟨g,cap,_,rfl,_⟩
 ·exact ⟨none,0,rfl⟩
 ·exact ⟨_,_,rfl⟩
theorem M14.put (h:M14 N B r f u) {t:Nat} (ht:t<N) {y:Int} {w:World} (k:Put5 (B+1) N t (f t) (r.seen t).length (B+4) ((r.seen t).map I) [I y] u w) :
 (∃ f',M14 N B { r with seen:=upd r.seen t (r.seen t++[y]) } f' w)∧Fr (fun b=>b=B+1∨some b=(f t).ownBlock) u w:=by
 obtain ⟨g,cap,k1,k2,k3,k4⟩:=k
 refine ⟨⟨upd f t (.slice (some ⟨g,0,none⟩) ((r.seen t).length+1) cap),?_⟩,k4⟩
 have lo:∀ j,j<N→∀ x,(f j).ownBlock=some x→B+4≤x∧x<u.heap.size:=fun j hj x hx=>own_lt (h.own j hj) x hx
 have row:∀ {b ty:Nat} {F:Nat→Value},b≠B+1→b<B+4→u.rowIs b ty N F→w.rowIs b ty N F:=fun {b ty F} e1 e2 hr=>hr.of_block (k4.block b hr.lt (fun q=>by
  rcases q with q|q
  ·exact e1 q
  ·have:=(lo t ht b q.symm).1;omega))
 refine ⟨row (by omega) (by omega) h.c,(k1 _ h.e).congr fun i _=>upd_row f t _ (fun y=>y) i,row (by omega) (by omega) h.q,row (by omega) (by omega) h.n,fun j hj=>?_,fun j j' hj hj' hne x hx=>?_⟩
 ·by_cases e:j=t
  ·subst e
   simp only [upd_same,List.length_append,List.map_append]
   exact k2
  ·simp only [upd_ne _ _ e]
   refine own_stay (fun x hx=>k4.block x (lo j hj x hx).2 (fun q=>?_)) (h.own j hj)
   rcases q with rfl|q
   ·have:=(lo j hj _ hx).1;omega
   ·exact h.dis j t hj ht e x hx q.symm
 ·have new:∀ j,j<N→j≠t→(f j).ownBlock≠some g:=fun j hj e hq=>by
   rcases k3 with q|q
   ·exact h.dis j t hj ht e g hq q
   ·have:=(lo j hj g hq).2;omega
  by_cases e:j=t
  ·subst e
   rw [upd_same] at hx
   obtain rfl:g=x:=Option.some.inj hx
   rw [upd_ne _ _ (Ne.symm hne)]
   exact new j' hj' (Ne.symm hne)
  ·rw [upd_ne _ _ e] at hx
   by_cases e':j'=t
   ·subst e'
    rw [upd_same]
    intro q
    obtain rfl:g=x:=Option.some.inj q
    exact new j hj e hx
   ·rw [upd_ne _ _ e']
    exact h.dis j j' hj hj' hne x hx
end
def arr5 (s:Stp):Array Value:=#[I s.th,I s.ce,I s.op,I s.ol,I s.ne]
structure R14 (N B x g:Nat) (L:List Stp) (v0:World) (s:Stp) (r:Rp) (u:World):Prop where
 mem:∃ f,M14 N B r f u∧∀ t,t<N→(f t).ownBlock≠some x
 stp:∀ (i:Nat) (y:Value),(arr5 s)[i]? = some y→u.cell? ⟨x,i,none⟩=some y
 tr:∀ j y,(flat L)[j]? = some y→u.cell? ⟨g,j,none⟩=some y
 kq:Kq v0.heap.size v0 u
 far:B+3<x∧v0.heap.size≤B∧g<B∧x<u.heap.size
section
variable {N B x g:Nat} {L:List Stp} {v0:World} {s:Stp} {r r':Rp} {u u':World}
theorem R14.set (h:R14 N B x g L v0 s r u) {k:Nat} (hk:k≤3) (i:Nat) (y:Value) (hm:∀ f,M14 N B r f u→M14 N B r' f (u.setCell ⟨B+k,i,none⟩ y)):R14 N B x g L v0 s r' (u.setCell ⟨B+k,i,none⟩ y):=by
 obtain ⟨f1,f2,f3,f4⟩:=h.far
 obtain ⟨f,hf,hx⟩:=h.mem
 refine ⟨⟨f,hm f hf,hx⟩,fun j z hz=>?_,fun j z hz=>?_,h.kq.trans (Kq.set _ (by omega)),f1,f2,f3,by simp only [World.setCell,Array.size_modify];exact f4⟩
 ·rw [World.cell?_of_block (w:=u) (Below.heap_setCell _ _ _ _ (by show x≠B+k;omega))];exact h.stp j z hz
 ·rw [World.cell?_of_block (w:=u) (Below.heap_setCell _ _ _ _ (by show g≠B+k;omega))];exact h.tr j z hz
theorem R14.same (h:R14 N B x g L v0 s r u) (e1:u'.heap=u.heap) (e2:u'.os=u.os) (e3:u'.output=u.output):R14 N B x g L v0 s r u':=by
 have hc:∀ a,u'.cell? a=u.cell? a:=fun a=>World.cell?_of_block (by rw [e1])
 obtain ⟨f,hf,hx⟩:=h.mem
 exact ⟨⟨f,hf.same e1,hx⟩,fun j z hz=>by rw [hc];exact h.stp j z hz,fun j z hz=>by rw [hc];exact h.tr j z hz,h.kq.trans (Kq.same e1 e2 e3),h.far.1,h.far.2.1,h.far.2.2.1,by rw [e1];exact h.far.2.2.2⟩
theorem R14.to (h:R14 N B x g L v0 s r u) (e1:∀ t,t<N→r'.call t=r.call t) (e2:∀ t,t<N→r'.seen t=r.seen t) (e3:∀ t,t<N→r'.quiet t=r.quiet t) (e4:∀ t,t<N→r'.count t=r.count t):R14 N B x g L v0 s r' u:=by
 obtain ⟨f,hf,hx⟩:=h.mem
 exact ⟨⟨f,hf.to e1 e2 e3 e4,hx⟩,h.stp,h.tr,h.kq,h.far⟩
theorem R14.fresh (h:R14 N B x g L v0 s r u) {t:Nat} (ht:t<N) (y:Int):R14 N B x g L v0 s { r with seen:=upd r.seen t [y] } ((u.alloc (.cells #[I y] 3)).setCell ⟨B+1,t,none⟩ (.slice (some ⟨u.heap.size,0,none⟩) 1 1)):=by
 obtain ⟨f1,f2,f3,f4⟩:=h.far
 obtain ⟨f,hf,hx⟩:=h.mem
 have k:Kq u.heap.size u (u.alloc (.cells #[I y] 3)):=Kq.alloc _ (Nat.le_refl _)
 refine ⟨⟨_,hf.fresh (by omega) ht y,fun j hj=>?_⟩,fun j z hz=>?_,fun j z hz=>?_,h.kq.trans ((k.le h.kq.size).trans (Kq.set _ (by omega))),f1,f2,f3,by simp only [World.setCell,Array.size_modify];show x<(u.heap.push _).size;simp;omega⟩
 ·by_cases e:j=t
  ·subst e
   rw [upd_same]
   intro q
   have:u.heap.size=x:=Option.some.inj q
   omega
  ·rw [upd_ne _ _ e];exact hx j hj
 ·rw [World.cell?_of_block (w:=u.alloc (.cells #[I y] 3)) (Below.heap_setCell _ _ _ _ (by show x≠B+1;omega))];exact kq_all k _ _ (h.stp j z hz)
 ·rw [World.cell?_of_block (w:=u.alloc (.cells #[I y] 3)) (Below.heap_setCell _ _ _ _ (by show g≠B+1;omega))];exact kq_all k _ _ (h.tr j z hz)
theorem R14.put (h:R14 N B x g L v0 s r u) {t:Nat} (ht:t<N) {y:Int} {w:World} {f:Nat→Value} (hf:M14 N B r f u) (hx:∀ t,t<N→(f t).ownBlock≠some x) (k:Put5 (B+1) N t (f t) (r.seen t).length (B+4) ((r.seen t).map I) [I y] u w):R14 N B x g L v0 s { r with seen:=upd r.seen t (r.seen t++[y]) } w:=by
 obtain ⟨f1,f2,f3,f4⟩:=h.far
 obtain ⟨g2,cap,k1,k2,k3,k4⟩:=k
 have lo:∀ j,j<N→∀ z,(f j).ownBlock=some z→B+4≤z∧z<u.heap.size:=fun j hj z hz=>own_lt (hf.own j hj) z hz
 obtain ⟨⟨f',hf'⟩,_⟩:=hf.put ht ⟨g2,cap,k1,k2,k3,k4⟩
 have hg2:g2≠x:=fun e=>by
  rcases k3 with q|q
  ·exact hx t ht (by rw [q,e])
  ·omega
 have bx:w.heap[x]? = u.heap[x]?:=k4.block x f4 (fun q=>by
  rcases q with q|q
  ·omega
  ·exact hx t ht q.symm)
 have bg:w.heap[g]? = u.heap[g]?:=k4.block g (by omega) (fun q=>by
  rcases q with q|q
  ·omega
  ·have:=(lo t ht g q.symm).1;omega)
 have hf2:M14 N B { r with seen:=upd r.seen t (r.seen t++[y]) } (upd f t (.slice (some ⟨g2,0,none⟩) ((r.seen t).length+1) cap)) w:=by
  have e:f'=f':=rfl
  refine ⟨hf'.c,(k1 _ hf.e).congr fun i _=>upd_row f t _ (fun y=>y) i,hf'.q,hf'.n,?_,?_⟩
  ·intro j hj
   by_cases e:j=t
   ·subst e
    simp only [upd_same,List.length_append,List.map_append]
    exact k2
   ·simp only [upd_ne _ _ e]
    refine own_stay (fun z hz=>k4.block z (lo j hj z hz).2 (fun q=>?_)) (hf.own j hj)
    rcases q with rfl|q
    ·have:=(lo j hj _ hz).1;omega
    ·exact hf.dis j t hj ht e z hz q.symm
  ·intro j j' hj hj' hne z hz
   have new:∀ j,j<N→j≠t→(f j).ownBlock≠some g2:=fun j hj e hq=>by
    rcases k3 with q|q
    ·exact hf.dis j t hj ht e g2 hq q
    ·have:=(lo j hj g2 hq).2;omega
   by_cases e:j=t
   ·subst e
    rw [upd_same] at hz
    obtain rfl:g2=z:=Option.some.inj hz
    rw [upd_ne _ _ (Ne.symm hne)]
    exact new j' hj' (Ne.symm hne)
   ·rw [upd_ne _ _ e] at hz
    by_cases e':j'=t
    ·subst e'
     rw [upd_same]
     intro q
     obtain rfl:g2=z:=Option.some.inj q
     exact new j hj e hz
    ·rw [upd_ne _ _ e']
     exact hf.dis j j' hj hj' hne z hz
 refine ⟨⟨_,hf2,fun j hj=>?_⟩,fun j z hz=>?_,fun j z hz=>?_,h.kq.trans ⟨k4.os,k4.output,k4.size,fun i hi=>k4.block i (Nat.lt_of_lt_of_le hi h.kq.size) (fun q=>?_)⟩,f1,f2,f3,Nat.lt_of_lt_of_le f4 k4.size⟩
 ·by_cases e:j=t
  ·subst e
   rw [upd_same]
   intro q
   exact hg2 (Option.some.inj q)
  ·rw [upd_ne _ _ e];exact hx j hj
 ·rw [World.cell?_of_block (w:=u) bx];exact h.stp j z hz
 ·rw [World.cell?_of_block (w:=u) bg];exact h.tr j z hz
 ·rcases q with q|q
  ·omega
  ·have:=(lo t ht i q.symm).1;omega
end
end Go.Proofs.YtfjjoohflcchnaaDoor.Gen
