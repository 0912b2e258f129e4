/- Of the proof of CounterLinear. Part 19 of 26. (Joined, by program, and written short, of: GMeasF, GViewF, GMetC, CtV, CtI1, CtI2, CtI3, CtI4.) -/
import Derived.Test.YtcfmffmcammbjaaDoorCounterLinear09
import Derived.Test.YtcfmffmcammbjaaDoorCounterLinear12
import Derived.Test.YtcfmffmcammbjaaDoorCounterLinear14
import Derived.Test.YtcfmffmcammbjaaDoorCounterLinear17
set_option linter.unusedSimpArgs false
set_option linter.unusedVariables false
set_option maxHeartbeats 4000000
set_option maxRecDepth 100000
namespace Go.Proofs.YtcfmffmcammbjaaDoor.Gen.Mf
open Go Go.Lift Go.Conc Go.RowKit
open Go.ConcN (upd upd_same upd_ne)
def seatOk (L:Nat) (lev:Q->Nat) (cl:Q->Nat) (wq:Q->Prop):Nx->Prop
 |.ans _ _=>True
 |.turn _ j q=>1≤lev q∧lev q≤L∧j=cl q
 |.wait _ q=>1≤lev q∧lev q≤L∧wq q
def nlev (lev:Q->Nat):Nx->Nat
 |.ans _ _=>0
 |.turn _ _ q=>lev q
 |.wait _ q=>lev q
structure Met (mc:Mc) where
 L:Nat
 hL:1≤L
 lev:Q->Nat
 ws:Q->(Nat->Int)->Nat
 cl:Q->Nat
 wq:Q->Prop
 ws_le:∀ q f,ws q f≤65
 start:∀ i c,seatOk L lev cl wq (mc.start i c)
 turn:∀ q (f:Nat->Int) x,f (cl q)=x->1≤lev q->lev q≤L->seatOk L lev cl wq (mc.turn q x).2.2∧(nlev lev (mc.turn q x).2.2<lev q∨((mc.turn q x).1.1=(mc.turn q x).1.2∧(mc.turn q x).2.1=x∧nlev lev (mc.turn q x).2.2=lev q ∧
  match (mc.turn q x).2.2 with
  |.ans _ _=>False
  |.turn _ _ q'=>ws q' f+1≤ws q f
  |.wait _ _=>1≤ws q f))
 woke:∀ q,1≤lev q->lev q≤L->wq q->seatOk L lev cl wq (mc.woke q)∧(nlev lev (mc.woke q)<lev q∨(nlev lev (mc.woke q)=lev q ∧
  match mc.woke q with
  |.ans _ _=>False
  |.turn _ _ q'=>∀ y,ws q' y≤1
  |.wait _ _=>True))
section
variable {mc:Mc}(M:Met mc)
def tot:Ph->Nat
 |.turn _ _ q rest _ _=>M.L*rest.length+M.lev q
 |.wait _ q rest _ _=>M.L*rest.length+M.lev q
 |.done _=>0
def sw (S:TS) (K:List (Nat×Int)) (t:Thr):Ph->Nat
 |.turn _ _ q _ _ _=>M.ws q (fun k=>(cellAt K k).2)
 |.wait _ _ _ _ _=>if Bn S.chg t.ce=t.se then 0 else 2
 |.done _=>0
def sits:Ph->Prop
 |.turn _ j q _ _ _=>1≤M.lev q∧M.lev q≤M.L∧j=M.cl q
 |.wait _ q _ _ _=>1≤M.lev q∧M.lev q≤M.L∧M.wq q
 |.done _=>True
theorem sw_le (S:TS) (K:List (Nat×Int)) (t:Thr) (l:Ph):sw M S K t l≤65:=by
 cases l with
 |turn op j q r i a=>exact M.ws_le _ _
 |wait j q r i a=>show (if _ then 0 else 2)≤65;split<;>omega
 |done a=>exact Nat.zero_le _
def wtI (p:PSt) (i:Nat):Nat:=600*tot M (p.l i)+sw M p.S p.K (thrI p.S i) (p.l i)
def mu (p:PSt):Nat:=(if p.S.stk then 0 else 1)+((List.range p.S.thr.length).map (wtI M p)).sum
structure Gd (p:PSt):Prop where
 len:p.S.thr.length≤8
 sit:∀ i t,p.S.thr[i]? = some t->FitsN (p.l i) t∧StN (p.l i) t∧sits M (p.l i)
theorem sum_le (f g:Nat->Nat) (e:Nat):∀ k,(∀ j,j<k->g j≤f j+e)->((List.range k).map g).sum≤((List.range k).map f).sum+e*k
 |0,_=>by simp
 |k+1,h=>by
  have:=sum_le f g e k (fun j hj=>h j (by omega))
  have h1:=h k (by omega)
  rw[List.range_succ,List.map_append,List.map_append,List.sum_append,List.sum_append,Nat.mul_succ]
  simp only[List.map_cons,List.map_nil,List.sum_cons,List.sum_nil]
  omega
theorem Gu (f g:Nat->Nat) (e d i:Nat):∀ k,i<k->(∀ j,j<k->j≠i->g j≤f j+e)->g i+d≤f i->((List.range k).map g).sum+d≤((List.range k).map f).sum+e*k
 |k+1,hi,h,hd=>by
  rw[List.range_succ,List.map_append,List.map_append,List.sum_append,List.sum_append,Nat.mul_succ]
  simp only[List.map_cons,List.map_nil,List.sum_cons,List.sum_nil]
  by_cases hk:i=k
  ·subst hk
   have:=sum_le f g e i (fun j hj=>h j (by omega) (by omega))
   omega
  ·have:=Gu f g e d i k (by omega) (fun j hj hn=>h j (by omega) hn) hd
   have h1:=h k (by omega) (fun e=>hk e.symm)
   omega
theorem Dv (i:Nat):∀ (rest:List Cl) (ii:Nat) (sk:Bool) (ans:List (Int×Int)) (S:TS),tot M (flow i mc rest ii sk ans S).2≤M.L*rest.length∧(flow i mc rest ii sk ans S).1.n+2*tot M (flow i mc rest ii sk ans S).2≤S.n+2*(M.L*rest.length)+1∧(flow i mc rest ii sk ans S).1.chg=S.chg∧sits M (flow i mc rest ii sk ans S).2
 | [],ii,sk,ans,S=>by cases sk<;>exact ⟨Nat.zero_le _,by show S.n+2*0≤_;omega,rfl,trivial⟩
 |c :: rest,ii,true,ans,S=>by
  have:=Dv i rest (ii+1) true (ans.set ii (4,0)) S
  have e:flow i mc (c :: rest) ii true ans S=flow i mc rest (ii+1) true (ans.set ii (4,0)) S:=rfl
  have hL:=M.hL
  rw[e,List.length_cons,Nat.mul_succ]
  exact ⟨by omega,by omega,this.2.2⟩
 |c :: rest,ii,false,ans,S=>by
  have hs:=M.start i c
  have hL:=M.hL
  rw[List.length_cons,Nat.mul_succ]
  unfold flow
  cases h:mc.start i c with
  |ans e x =>
   have:=Dv i rest (ii+1) (e==4) (ans.set ii (e,x)) (Au (Au S undef i 9 (-1) ii 0) undef i 10 (-1) ii e)
   have en:(Au (Au S undef i 9 (-1) ii 0) undef i 10 (-1) ii e).n=S.n+2:=rfl
   rw[en] at this
   simp only
   exact ⟨by omega,by omega,this.2.2⟩
  |turn op j q =>
   rw[h] at hs
   obtain ⟨h1,h2,h3⟩:=hs
   refine ⟨?_,?_,rfl,h1,h2,h3⟩
   ·show M.L*rest.length+M.lev q≤_
    omega
   ·show S.n+1+2*(M.L*rest.length+M.lev q)≤_
    omega
  |wait j q =>
   rw[h] at hs
   obtain ⟨h1,h2,h3⟩:=hs
   simp only
   split
   ·have:=Dv i rest (ii+1) ((mc.stuck q).1==4) (ans.set ii (mc.stuck q)) (Au (Au S undef i 9 (-1) ii 0) undef i 10 (-1) ii (mc.stuck q).1)
    have en:(Au (Au S undef i 9 (-1) ii 0) undef i 10 (-1) ii (mc.stuck q).1).n=S.n+2:=rfl
    rw[en] at this
    exact ⟨by omega,by omega,this.2.2⟩
   ·refine ⟨?_,?_,rfl,h1,h2,h3⟩
    ·show M.L*rest.length+M.lev q≤_
     omega
    ·show S.n+1+2*(M.L*rest.length+M.lev q)≤_
     omega
theorem Ib (S:TS) (tv:Value) (i:Nat) (t:Thr) (b a:Int):(didS S tv i t b a).n=S.n+1:=by
 unfold didS;split<;>rfl
theorem did_same (S:TS) (tv:Value) (i:Nat) (t:Thr) (b:Int):didS S tv i t b b=Au S tv i t.op t.ce b b:=by
 unfold didS;rw[if_neg (fun h=>h.1 rfl)]
theorem set_cell (K:List (Nat×Int)) (j:Nat):K.set j ((cellAt K j).1,(cellAt K j).2)=K:=by
 apply List.ext_getElem?
 intro k
 rw[List.getElem?_set]
 split
 ·rename_i e
  subst e
  split
  ·rename_i h
   unfold cellAt
   rw[List.getElem?_eq_getElem h]
   rfl
  ·rename_i h
   rw[List.getElem?_eq_none (by omega)]
 ·rfl
def Pro (i:Nat) (l:Ph) (S:TS) (K:List (Nat×Int)) (w:Nat) (R:TS×List (Nat×Int)×Ph):Prop :=
 sits M R.2.2∧((R.1.chg=S.chg∧R.2.1=K∧R.1.n≤S.n+1∧tot M R.2.2=tot M l∧sw M R.1 K (thrI R.1 i) R.2.2+1≤w) ∨
  (tot M R.2.2+1≤tot M l∧R.1.n+2*tot M R.2.2≤S.n+2*tot M l+1))
theorem Dy (i:Nat) (l:Ph) (S S1:TS) (K K1:List (Nat×Int)) (w:Nat) (rest:List Cl) (ii:Nat) (ans:List (Int×Int)) (a:Int×Int) (hl:M.L*rest.length+1≤tot M l) (hn:S1.n≤S.n+1):Pro M i l S K w (back i mc rest ii ans a S1 K1):=by
 have:=Dv M i rest (ii+1) (a.1==4) (ans.set ii a) (Au S1 undef i 10 (-1) ii a.1)
 have en:(Au S1 undef i 10 (-1) ii a.1).n=S1.n+1:=rfl
 rw[en] at this
 obtain ⟨h1,h2,h3,h4⟩:=this
 exact ⟨h4,.inr ⟨by show tot M (flow i mc rest (ii+1) (a.1==4) (ans.set ii a) (Au S1 undef i 10 (-1) ii a.1)).2+1≤_;omega,by show (flow i mc rest (ii+1) (a.1==4) (ans.set ii a) (Au S1 undef i 10 (-1) ii a.1)).1.n+2*tot M (flow i mc rest (ii+1) (a.1==4) (ans.set ii a) (Au S1 undef i 10 (-1) ii a.1)).2≤_;omega⟩⟩
theorem resume_pro (i:Nat) (l:Ph) (S:TS) (K:List (Nat×Int)) (t:Thr) (ht:S.thr[i]? = some t) (hl:∀ a,l≠.done a) (hs:sits M l) (hr:∀ j q r k a,l=.wait j q r k a->S.stk=true∨Bn S.chg t.ce≠t.se):Pro M i l S K (sw M S K t l) (resume i mc l S K):=by
 have eth:thrI S i=t:=Bp ht
 match l,hl,hs,hr with
 |.done a,hl,_,_=>exact absurd rfl (hl a)
 |.turn op j q rest ii ans,_,hs,_ =>
  obtain ⟨s1,s2,s3⟩:=hs
  rw[Em]
  have hx:(cellAt K j).2=(cellAt K j).2:=rfl
  generalize hxx:(cellAt K j).2=x at *
  obtain ⟨hok,hp⟩:=M.turn q (fun k=>(cellAt K k).2) x (by show (cellAt K (M.cl q)).2=x;rw[←s3];exact hxx) s1 s2
  have hsw:sw M S K t (.turn op j q rest ii ans)=M.ws q (fun k=>(cellAt K k).2):=rfl
  rw[hsw]
  cases hnx:(mc.turn q x).2.2 with
  |ans e y =>
   exact Dy M i _ S _ K _ _ rest ii ans (e,y) (by show _≤M.L*rest.length+M.lev q;omega) (by rw[Ib];exact Nat.le_refl _)
  |turn op' j' q' =>
   rw[hnx] at hok hp
   obtain ⟨k1,k2,k3⟩:=hok
   refine ⟨⟨k1,k2,k3⟩,?_⟩
   rcases hp with hp|⟨e1,e2,e3,e5⟩
   ·right
    have hp:M.lev q'<M.lev q:=hp
    refine ⟨?_,?_⟩
    ·show M.L*rest.length+M.lev q'+1≤M.L*rest.length+M.lev q
     omega
    ·show (didS S undef i (thrI S i) (mc.turn q x).1.1 (mc.turn q x).1.2).n+2*(M.L*rest.length+M.lev q')≤S.n+2*(M.L*rest.length+M.lev q)+1
     rw[Ib]
     omega
   ·left
    have ek:K.set j ((cellAt K j).1,(mc.turn q x).2.1)=K:=by rw[e2,←hxx];exact set_cell K j
    have e3:M.lev q'=M.lev q:=e3
    refine ⟨?_,ek,?_,?_,?_⟩
    ·show (didS S undef i (thrI S i) (mc.turn q x).1.1 (mc.turn q x).1.2).chg=_
     rw[e1,did_same]
     rfl
    ·show (didS S undef i (thrI S i) (mc.turn q x).1.1 (mc.turn q x).1.2).n≤_
     rw[Ib]
     exact Nat.le_refl _
    ·show M.L*rest.length+M.lev q'=M.L*rest.length+M.lev q
     rw[e3]
    ·show M.ws q' (fun k=>(cellAt K k).2)+1≤_
     exact e5
  |wait j' q' =>
   rw[hnx] at hok hp
   obtain ⟨k1,k2,kq⟩:=hok
   rw[Fp]
   split
   ·refine Dy M i _ S _ K _ _ rest ii ans _ (by show _≤M.L*rest.length+M.lev q;omega) (by rw[Ib];exact Nat.le_refl _)
   ·refine ⟨⟨k1,k2,kq⟩,?_⟩
    rcases hp with hp|⟨e1,e2,e3,e5⟩
    ·right
     have hp:M.lev q'<M.lev q:=hp
     refine ⟨?_,?_⟩
     ·show M.L*rest.length+M.lev q'+1≤M.L*rest.length+M.lev q
      omega
     ·show (didS S undef i (thrI S i) (mc.turn q x).1.1 (mc.turn q x).1.2).n+2*(M.L*rest.length+M.lev q')≤S.n+2*(M.L*rest.length+M.lev q)+1
      rw[Ib]
      omega
    ·left
     have ek:K.set j ((cellAt K j).1,(mc.turn q x).2.1)=K:=by rw[e2,←hxx];exact set_cell K j
     have e3:M.lev q'=M.lev q:=e3
     refine ⟨?_,ek,?_,?_,?_⟩
     ·show (didS S undef i (thrI S i) (mc.turn q x).1.1 (mc.turn q x).1.2).chg=_
      rw[e1,did_same]
      rfl
     ·show (didS S undef i (thrI S i) (mc.turn q x).1.1 (mc.turn q x).1.2).n≤_
      rw[Ib]
      exact Nat.le_refl _
     ·show M.L*rest.length+M.lev q'=M.L*rest.length+M.lev q
      rw[e3]
     ·have e6:∀ S':TS,S'.thr[i]? = some t->sw M (waiting S' i (thrI S' i) 2 6 j') K (thrI (waiting S' i (thrI S' i) 2 6 j') i) (.wait j' q' rest ii ans)=0:=fun S' h'=>by
       have e7:thrI (waiting S' i (thrI S' i) 2 6 j') i={ t with st:=2,ce:=j',op:=6,se:=Bn S'.chg j' }:=by
        rw[Bp h']
        exact Bp (Dg h')
       rw[e7]
       exact if_pos rfl
      rw[e6 _ (Gh ht)]
      omega
 |.wait j q rest ii ans,_,hs,hr =>
  obtain ⟨s1,s2,sq⟩:=hs
  rw[Ds]
  split
  ·exact Dy M i _ S _ K _ _ rest ii ans _ (by show _≤M.L*rest.length+M.lev q;omega) (Nat.le_succ _)
  ·rename_i hst
   have h2:sw M S K t (.wait j q rest ii ans)=2:=if_neg ((hr _ _ _ _ _ rfl).resolve_left (by simpa using hst))
   rw[h2]
   obtain ⟨hok,hp⟩:=M.woke q s1 s2 sq
   cases hnx:mc.woke q with
   |ans e y =>
    exact Dy M i _ S _ K _ _ rest ii ans (e,y) (by show _≤M.L*rest.length+M.lev q;omega) (Nat.le_refl _)
   |turn op' j' q' =>
    rw[hnx] at hok hp
    obtain ⟨k1,k2,k3⟩:=hok
    refine ⟨⟨k1,k2,k3⟩,?_⟩
    rcases hp with hp|⟨e3,e5⟩
    ·right
     have hp:M.lev q'<M.lev q:=hp
     refine ⟨?_,?_⟩
     ·show M.L*rest.length+M.lev q'+1≤M.L*rest.length+M.lev q
      omega
     ·show S.n+1+2*(M.L*rest.length+M.lev q')≤S.n+2*(M.L*rest.length+M.lev q)+1
      omega
    ·left
     have e3:M.lev q'=M.lev q:=e3
     refine ⟨rfl,rfl,Nat.le_refl _,?_,?_⟩
     ·show M.L*rest.length+M.lev q'=M.L*rest.length+M.lev q
      rw[e3]
     ·show M.ws q' (fun k=>(cellAt K k).2)+1≤2
      have:=e5 (fun k=>(cellAt K k).2)
      omega
   |wait j' q' =>
    rw[hnx] at hok hp
    obtain ⟨k1,k2,kq⟩:=hok
    rw[Fp]
    split
    ·exact Dy M i _ S _ K _ _ rest ii ans _ (by show _≤M.L*rest.length+M.lev q;omega) (Nat.le_refl _)
    ·refine ⟨⟨k1,k2,kq⟩,?_⟩
     rcases hp with hp|⟨e3,_⟩
     ·right
      have hp:M.lev q'<M.lev q:=hp
      refine ⟨?_,?_⟩
      ·show M.L*rest.length+M.lev q'+1≤M.L*rest.length+M.lev q
       omega
      ·show S.n+1+2*(M.L*rest.length+M.lev q')≤S.n+2*(M.L*rest.length+M.lev q)+1
       omega
     ·left
      have e3:M.lev q'=M.lev q:=e3
      refine ⟨rfl,rfl,Nat.le_refl _,?_,?_⟩
      ·show M.L*rest.length+M.lev q'=M.L*rest.length+M.lev q
       rw[e3]
      ·have e7:thrI (waiting (Au S undef i 6 j 0 0) i (thrI (Au S undef i 6 j 0 0) i) 2 6 j') i={ t with st:=2,ce:=j',op:=6,se:=Bn S.chg j' }:=by
        rw[show thrI (Au S undef i 6 j 0 0) i=t from Bp ht]
        exact Bp (Dg (S:=Au S undef i 6 j 0 0) ht)
       show (if Bn S.chg (thrI (waiting (Au S undef i 6 j 0 0) i (thrI (Au S undef i 6 j 0 0) i) 2 6 j') i).ce=(thrI (waiting (Au S undef i 6 j 0 0) i (thrI (Au S undef i 6 j 0 0) i) 2 6 j') i).se then 0 else 2)+1≤2
       rw[e7,if_pos rfl]
       decide
theorem nextI_in {S:TS}(h:An S S.thr.length≠[]):∃ t,S.thr[B9 S]? = some t∧rdy S t=true:=by
 have h0:0<(An S S.thr.length).length:=List.length_pos_iff.2 h
 have h1:=pickAt_lt S h0
 have h2:B9 S∈An S S.thr.length:=by
  unfold B9
  rw[List.getElem?_eq_getElem h1]
  exact List.getElem_mem h1
 unfold An at h2
 rw[List.mem_filter] at h2
 cases h3:S.thr[B9 S]? with
 |none=>rw[h3] at h2;cases h2.2
 |some t=>rw[h3] at h2;exact ⟨t,rfl,h2.2⟩
theorem H5 {S:TS}{i:Nat}{t:Thr}(ht:S.thr[i]? = some t):(going S i t).thr[i]? = some { t with st:=0 }:=by
 have e:(picked S).thr=S.thr:=by unfold picked;split<;>rfl
 show ((picked S).thr.set i _)[i]? = _
 rw[e]
 exact Dg ht
theorem H6 {S:TS}{i:Nat}{t:Thr}{j:Nat}(hj:j≠i):(going S i t).thr[j]? = S.thr[j]?:=by
 have e:(picked S).thr=S.thr:=by unfold picked;split<;>rfl
 show ((picked S).thr.set i _)[j]? = _
 rw[e,List.getElem?_set,if_neg (fun e=>hj e.symm)]
theorem H8 {S:TS}{i:Nat}{t:Thr}:(going S i t).thr.length=S.thr.length:=by
 have e:(picked S).thr=S.thr:=by unfold picked;split<;>rfl
 show ((picked S).thr.set i _).length=_
 rw[e,List.length_set]
theorem Fx {S:TS}{i:Nat}{t:Thr}:(going S i t).chg=S.chg∧(going S i t).stk=S.stk∧(going S i t).n=S.n∧(going S i t).tr=S.tr:=by
 have e:(picked S).chg=S.chg∧(picked S).stk=S.stk∧(picked S).n=S.n∧(picked S).tr=S.tr:=by unfold picked;split<;>exact ⟨rfl,rfl,rfl,rfl⟩
 exact e
theorem Ew {p p1:PSt}(g:Gd M p) (e:Cs mc p=some p1):Gd M p1∧mu M p1<mu M p∧p1.S.n+mu M p1≤p.S.n+mu M p:=by
 unfold Cs at e
 split at e
 ·rename_i h0
  split at e
  ·rename_i hw
   cases e
   unfold Bt at hw
   rw[List.any_eq_true] at hw
   obtain ⟨i,hi,hst⟩:=hw
   cases ht:p.S.thr[i]? with
   |none=>rw[ht] at hst;cases hst
   |some t =>
    rw[ht] at hst
    have hst:t.st=2:=by simpa using hst
    have hs:p.S.stk=false:=by
     cases hs:p.S.stk with
     |false=>rfl
     |true =>
      have:i∈An p.S p.S.thr.length:=by
       unfold An
       rw[List.mem_filter]
       exact ⟨hi,by rw[ht];simp[rdy,hst,hs]⟩
      rw[h0] at this;cases this
    have hmu:mu M ⟨Ff p.S undef,p.K,p.l⟩+1=mu M p:=by
     unfold mu
     rw[hs]
     show 0+((List.range p.S.thr.length).map (wtI M ⟨Ff p.S undef,p.K,p.l⟩)).sum+1=1+_
     have:wtI M ⟨Ff p.S undef,p.K,p.l⟩=wtI M p:=rfl
     rw[this];omega
    refine ⟨⟨g.len,g.sit⟩,by omega,?_⟩
    show p.S.n+1+_≤_
    omega
  ·cases e
 ·rename_i h0
  obtain ⟨t,ht,hrd⟩:=nextI_in h0
  generalize hi:B9 p.S=i at ht e
  have eth:thrI p.S i=t:=Bp ht
  rw[eth] at e
  obtain ⟨hfit,hst,hsi⟩:=g.sit i t ht
  have hl:∀ a,p.l i≠.done a:=fun a ha=>by
   rw[ha] at hst
   have:t.st=3:=hst
   simp[rdy,this] at hrd
  have hk:=Fx (S:=p.S) (i:=i) (t:=t)
  have hgt:=H5 ht
  have hw:∀ j q r k a,p.l i=.wait j q r k a->(going p.S i t).stk=true∨Bn (going p.S i t).chg ({ t with st:=0 }:Thr).ce≠({ t with st:=0 }:Thr).se:=fun j q r k a hpl=>by
   rw[hpl] at hst
   have hst:t.st=2:=hst
   rw[hk.1,hk.2.1]
   have:p.S.stk=true∨¬ Bn p.S.chg t.ce=t.se:=by simpa [rdy,hst] using hrd
   exact this
  have hm:=resume_pro M i (p.l i) (going p.S i t) p.K { t with st:=0 } hgt hl hsi hw
  have hg:=resume_fs i mc (going p.S i t) p.K { t with st:=0 } hgt (p.l i) hl
  have sta:=Cv i mc (p.l i) (going p.S i t) p.K
  generalize resume i mc (p.l i) (going p.S i t) p.K=R at e hm hg sta
  cases e
  have hilt:i<p.S.thr.length:=(List.getElem?_eq_some_iff.1 ht).1
  have hlen:R.1.thr.length=p.S.thr.length:=by rw[sta.len,H8]
  have hoth:∀ j,j≠i->R.1.thr[j]? = p.S.thr[j]?:=fun j hj=>by rw[sta.oth j hj,H6 hj]
  have hstk:R.1.stk=p.S.stk:=by rw[sta.stk,hk.2.1]
  have hwi:wtI M ⟨R.1,R.2.1,upd p.l i R.2.2⟩ i=600*tot M R.2.2+sw M R.1 R.2.1 (thrI R.1 i) R.2.2:=by
   show 600*tot M (upd p.l i R.2.2 i)+sw M R.1 R.2.1 (thrI R.1 i) (upd p.l i R.2.2 i)=_
   rw[upd_same]
  have hwi0:wtI M p i=600*tot M (p.l i)+sw M p.S p.K t (p.l i):=by unfold wtI;rw[eth]
  have hwt:sw M (going p.S i t) p.K { t with st:=0 } (p.l i)=sw M p.S p.K t (p.l i):=by
   cases p.l i with
   |turn _ _ _ _ _ _=>rfl
   |done _=>rfl
   |wait _ _ _ _ _=>show (if Bn (going p.S i t).chg t.ce=t.se then 0 else 2)=if _ then 0 else 2;rw[hk.1]
  rw[hwt] at hm
  obtain ⟨hsit,hm⟩:=hm
  have hj:∀ j,j≠i->thrI R.1 j=thrI p.S j:=fun j hne=>by unfold thrI;rw[hoth j hne]
  have key:∃ d,1≤d∧R.1.n≤p.S.n+d∧((List.range R.1.thr.length).map (wtI M ⟨R.1,R.2.1,upd p.l i R.2.2⟩)).sum+d≤((List.range p.S.thr.length).map (wtI M p)).sum:=by
   rw[hlen]
   rcases hm with ⟨m1,m2,m3,m4,m5⟩|⟨m1,m3⟩
   ·refine ⟨1,Nat.le_refl _,by rw[hk.2.2.1] at m3;exact m3,?_⟩
    have:=Gu (wtI M p) (wtI M ⟨R.1,R.2.1,upd p.l i R.2.2⟩) 0 1 i p.S.thr.length hilt (fun j _ hne=>by
     show 600*tot M (upd p.l i R.2.2 j)+sw M R.1 R.2.1 (thrI R.1 j) (upd p.l i R.2.2 j)≤_
     rw[upd_ne _ _ hne,hj j hne,m2]
     have e3:sw M R.1 p.K (thrI p.S j) (p.l j)=sw M p.S p.K (thrI p.S j) (p.l j):=by
      cases p.l j with
      |turn _ _ _ _ _ _=>rfl
      |done _=>rfl
      |wait _ _ _ _ _=>show (if Bn R.1.chg _=_ then 0 else 2)=if _ then 0 else 2;rw[m1,hk.1]
     rw[e3]
     exact Nat.le_refl _) (by rw[hwi,hwi0,m2,m4];omega)
    omega
   ·have h8:=g.len
    have s3:=sw_le M R.1 R.2.1 (thrI R.1 i) R.2.2
    rw[hk.2.2.1] at m3
    generalize hD:tot M (p.l i) - tot M R.2.2=D
    have hD':tot M (p.l i)=tot M R.2.2+D:=by omega
    refine ⟨1+2*D,by omega,by omega,?_⟩
    have:=Gu (wtI M p) (wtI M ⟨R.1,R.2.1,upd p.l i R.2.2⟩) 65 (600*D - 65) i p.S.thr.length hilt (fun j _ hne=>by
     show 600*tot M (upd p.l i R.2.2 j)+sw M R.1 R.2.1 (thrI R.1 j) (upd p.l i R.2.2 j)≤_
     rw[upd_ne _ _ hne]
     have:=sw_le M R.1 R.2.1 (thrI R.1 j) (p.l j)
     unfold wtI
     omega) (by rw[hwi,hwi0,hD'];omega)
    omega
  obtain ⟨d,d1,d2,d3⟩:=key
  refine ⟨⟨by rw[hlen];exact g.len,fun j tj htj=>?_⟩,?_,?_⟩
  ·by_cases hne:j=i
   ·subst hne
    obtain ⟨t',g1,g2,g3⟩:=hg
    have htj:R.1.thr[j]? = some tj:=htj
    rw[g1] at htj
    obtain rfl:=Option.some.inj htj
    show FitsN (upd p.l j R.2.2 j) _∧StN (upd p.l j R.2.2 j) _∧sits M (upd p.l j R.2.2 j)
    rw[upd_same]
    exact ⟨g2,g3,hsit⟩
   ·show FitsN (upd p.l i R.2.2 j) tj∧StN (upd p.l i R.2.2 j) tj∧sits M (upd p.l i R.2.2 j)
    rw[upd_ne _ _ hne]
    have htj:R.1.thr[j]? = some tj:=htj
    exact g.sit j tj (by rw[←hoth j hne];exact htj)
  ·unfold mu
   show (if R.1.stk then 0 else 1)+((List.range R.1.thr.length).map (wtI M ⟨R.1,R.2.1,upd p.l i R.2.2⟩)).sum<_
   rw[hstk]
   omega
  ·unfold mu
   show R.1.n+((if R.1.stk then 0 else 1)+((List.range R.1.thr.length).map (wtI M ⟨R.1,R.2.1,upd p.l i R.2.2⟩)).sum)≤_
   rw[hstk]
   omega
theorem turns_end:∀ (m:Nat) (p:PSt),mu M p≤m->Gd M p->∃ n p',n≤m∧Turns mc n p p'∧p'.S.n≤p.S.n+mu M p:=by
 intro m
 induction m with
 |zero =>
  intro p hm g
  cases e:Cs mc p with
  |none=>exact ⟨0,p,Nat.le_refl _,.stop e,Nat.le_add_right _ _⟩
  |some p1=>have:=(Ew M g e).2.1;omega
 |succ m ih =>
  intro p hm g
  cases e:Cs mc p with
  |none=>exact ⟨0,p,Nat.zero_le _,.stop e,Nat.le_add_right _ _⟩
  |some p1 =>
   obtain ⟨g1,h1,h2⟩:=Ew M g e
   obtain ⟨n,p',k1,k2,k3⟩:=ih p1 (by omega) g1
   exact ⟨n+1,p',by omega,.step e k2,by omega⟩
theorem turns_gd {m:Nat}{p p':PSt}(h:Turns mc m p p') (g:Gd M p):Gd M p'∧p'.S.n+mu M p'≤p.S.n+mu M p:=by
 induction h with
 |stop=>exact ⟨g,Nat.le_refl _⟩
 |step e _ ih =>
  obtain ⟨g1,_,h2⟩:=Ew M g e
  have:=ih g1
  exact ⟨this.1,by omega⟩
theorem hires_gd {k:Nat}{ss:List (Scr mc)}{S S':TS}{l l':Nat->Ph}(h:Hires mc k ss S l S' l') (hk:S.thr.length=k) (h8:k+ss.length≤8) (hs:∀ i t,S.thr[i]? = some t->FitsN (l i) t∧StN (l i) t∧sits M (l i)) :
 S'.thr.length=k+ss.length∧(∀ i t,S'.thr[i]? = some t->FitsN (l' i) t∧StN (l' i) t∧sits M (l' i))∧S'.n≤S.n+2*lens ss∧((List.range S'.thr.length).map fun i=>tot M (l' i)).sum≤((List.range S.thr.length).map fun i=>tot M (l i)).sum+M.L*lens ss:=by
 induction h with
 |nil=>exact ⟨by simpa using hk,hs,Nat.le_add_right _ _,Nat.le_add_right _ _⟩
 |@cons k s ss S S' l l' tv tb gc h ih =>
  have hlen:(Aq S tv tb gc).thr.length=k+1:=by simp[Aq,hk]
  obtain ⟨t0,ht0⟩:∃ t0,(Aq S tv tb gc).thr[k]? = some t0:=⟨_,List.getElem?_eq_getElem (by omega)⟩
  have sta:=Di k mc s.calls 0 false s.ans (Aq S tv tb gc)
  obtain ⟨t1,f1,f2,f3⟩:=Fq k mc s.calls 0 false s.ans (Aq S tv tb gc) t0 ht0
  have hle:=flow_le k mc s.calls 0 false s.ans (Aq S tv tb gc)
  obtain ⟨hlf,_,_,hsf⟩:=Dv M k s.calls 0 false s.ans (Aq S tv tb gc)
  have hn0:(Aq S tv tb gc).n=S.n:=rfl
  simp only[List.length_cons] at h8
  obtain ⟨i1,i2,i3,i4⟩:=ih (by rw[sta.len,hlen]) (by omega) (fun i t ht=>by
   by_cases hi:i=k
   ·subst hi
    rw[f1] at ht;cases ht
    rw[upd_same]
    exact ⟨f2,f3,hsf⟩
   ·rw[upd_ne _ _ hi]
    rw[sta.oth i hi] at ht
    refine hs i t ?_
    have:i<k:=by
     have:=(List.getElem?_eq_some_iff.1 ht).1
     omega
    simpa [Aq,List.getElem?_append,hk,this] using ht)
  refine ⟨by rw[i1];simp only[List.length_cons];omega,i2,?_,?_⟩
  ·simp only[lens,List.map_cons,List.sum_cons] at i3 ⊢
   omega
  ·have e1:(flow k mc s.calls 0 false s.ans (Aq S tv tb gc)).1.thr.length=k+1:=by rw[sta.len,hlen]
   rw[e1,List.range_succ,List.map_append,List.sum_append] at i4
   simp only[List.map_cons,List.map_nil,List.sum_cons,List.sum_nil] at i4
   rw[upd_same] at i4
   have e2:(List.range k).map (fun i=>tot M (upd l k (flow k mc s.calls 0 false s.ans (Aq S tv tb gc)).2 i))=(List.range k).map (fun i=>tot M (l i)):=List.map_congr_left (fun i hi=>by
    have:i<k:=List.mem_range.1 hi
    rw[upd_ne _ _ (by omega)])
   rw[e2] at i4
   rw[hk]
   simp only[lens,List.map_cons,List.sum_cons] at i4 ⊢
   rw[Nat.mul_add]
   omega
theorem mu_le (p:PSt) (h8:p.S.thr.length≤8):mu M p≤521+600*((List.range p.S.thr.length).map fun i=>tot M (p.l i)).sum:=by
 have h:∀ k,((List.range k).map (wtI M p)).sum≤600*((List.range k).map fun i=>tot M (p.l i)).sum+65*k:=fun k=>by
  induction k with
  |zero=>simp
  |succ k ih =>
   rw[List.range_succ,List.map_append,List.map_append,List.sum_append,List.sum_append]
   simp only[List.map_cons,List.map_nil,List.sum_cons,List.sum_nil]
   have:=sw_le M p.S p.K (thrI p.S k) (p.l k)
   unfold wtI at ih ⊢
   omega
 have:=h p.S.thr.length
 unfold mu
 split<;>omega
theorem play_ends {ss:List (Scr mc)}{S S1:TS}{l0 l1:Nat->Ph}{K:List (Nat×Int)}(h:Hires mc 0 ss S l0 S1 l1) (h0:S.thr=[]) (h8:ss.length≤8) (hl:lens ss≤512) (hL:M.L≤1) (hn:S.n=0) :
 ∃ m p',m≤320000∧Turns mc m ⟨S1,K,l1⟩ p'∧p'.S.n*40≤140737488355328:=by
 obtain ⟨a1,a2,a3,a4⟩:=hires_gd M h (by rw[h0];rfl) (by omega) (fun i t ht=>by rw[h0] at ht;cases ht)
 have g:Gd M ⟨S1,K,l1⟩:=⟨by show S1.thr.length≤8;omega,a2⟩
 have hm:=mu_le M ⟨S1,K,l1⟩ g.len
 rw[h0] at a4
 simp only[List.length_nil,List.range_zero,List.map_nil,List.sum_nil] at a4
 have h5:M.L*lens ss≤1*512:=Nat.mul_le_mul hL hl
 have hm2:mu M ⟨S1,K,l1⟩≤320000:=by
  refine Nat.le_trans hm ?_
  show 521+600*((List.range S1.thr.length).map fun i=>tot M (l1 i)).sum≤320000
  omega
 obtain ⟨m,p',k1,k2,k3⟩:=turns_end M 320000 ⟨S1,K,l1⟩ hm2 g
 refine ⟨m,p',k1,k2,?_⟩
 have k3:p'.S.n≤S1.n+mu M ⟨S1,K,l1⟩:=k3
 omega
theorem play_small {m:Nat}{ss:List (Scr mc)}{S S1:TS}{l0 l1:Nat->Ph}{K:List (Nat×Int)}{p':PSt}(h:Hires mc 0 ss S l0 S1 l1) (hT:Turns mc m ⟨S1,K,l1⟩ p') (h0:S.thr=[]) (h8:ss.length≤8) (hl:lens ss≤512) (hL:M.L≤1) (hn:S.n=0):p'.S.n≤400000:=by
 obtain ⟨a1,a2,a3,a4⟩:=hires_gd M h (by rw[h0];rfl) (by omega) (fun i t ht=>by rw[h0] at ht;cases ht)
 have g:Gd M ⟨S1,K,l1⟩:=⟨by show S1.thr.length≤8;omega,a2⟩
 have hm:=mu_le M ⟨S1,K,l1⟩ g.len
 rw[h0] at a4
 simp only[List.length_nil,List.range_zero,List.map_nil,List.sum_nil] at a4
 have h5:M.L*lens ss≤1*512:=Nat.mul_le_mul hL hl
 have hm2:mu M ⟨S1,K,l1⟩≤320000:=by
  refine Nat.le_trans hm ?_
  show 521+600*((List.range S1.thr.length).map fun i=>tot M (l1 i)).sum≤320000
  omega
 have:=(turns_gd M hT g).2
 have k3:p'.S.n+mu M p'≤S1.n+mu M ⟨S1,K,l1⟩:=this
 omega
end
section
variable {mc:Mc}
theorem pturn_mv (M:Met mc) {p p1:PSt}{v:Vw}(g:Gd M p) (s:Seen p v) (e:Cs mc p=some p1):∃ v1,Mv mc p.S.thr.length v v1∧Seen p1 v1:=by
 unfold Cs at e
 split at e
 ·rename_i h0
  split at e
  ·rename_i hw
   cases e
   have hall:∀ i t,p.S.thr[i]? = some t->rdy p.S t=false:=fun i t ht=>by
    cases hr:rdy p.S t with
    |false=>rfl
    |true =>
     have:i∈An p.S p.S.thr.length:=by
      unfold An
      rw[List.mem_filter]
      exact ⟨List.mem_range.2 (List.getElem?_eq_some_iff.1 ht).1,by rw[ht];exact hr⟩
     rw[h0] at this;cases this
   unfold Bt at hw
   rw[List.any_eq_true] at hw
   obtain ⟨i,hi,hst⟩:=hw
   have hi:=List.mem_range.1 hi
   obtain ⟨t,ht⟩:∃ t,p.S.thr[i]? = some t:=⟨_,List.getElem?_eq_getElem hi⟩
   rw[ht] at hst
   have hst:t.st=2:=by simpa using hst
   have hs:p.S.stk=false:=by
    have:=hall i t ht
    cases hs:p.S.stk with
    |false=>rfl
    |true=>simp[rdy,hst,hs] at this
   refine ⟨{ v with stk:=true,L:=v.L++[⟨-1,-1,7,0,0⟩] },.stuck (by rw[s.stk];exact hs) (fun k hk=>?_) ⟨i,hi,?_⟩ rfl,⟨s.K,rfl,s.chg,s.se,s.l,?_,?_,s.ce⟩⟩
   ·obtain ⟨tk,htk⟩:∃ t,p.S.thr[k]? = some t:=⟨_,List.getElem?_eq_getElem hk⟩
    have hnr:=hall k tk htk
    obtain ⟨_,h2,_⟩:=g.sit k tk htk
    have hce:=s.ce k tk htk
    rw[s.l,s.chg,s.se k,Bp htk]
    match hl:p.l k,h2 with
    |.done a,_=>exact .inl ⟨a,rfl⟩
    |.turn _ _ _ _ _ _,h2 =>
     have h2:tk.st=1:=h2
     simp[rdy,h2] at hnr
    |.wait j q r kk a,h2 =>
     have h2:tk.st=2:=h2
     have e1:=hce j q r kk a hl
     refine .inr ⟨j,q,r,kk,a,rfl,?_⟩
     have:Bn p.S.chg tk.ce=tk.se:=by simpa [rdy,h2,hs] using hnr
     rw[←e1]
     exact this
   ·obtain ⟨_,h2,_⟩:=g.sit i t ht
    rw[s.l]
    match hl:p.l i,h2 with
    |.done a,h2=>have h2:t.st=3:=h2;omega
    |.turn _ _ _ _ _ _,h2=>have h2:t.st=1:=h2;omega
    |.wait j q r kk a,_=>exact ⟨j,q,r,kk,a,rfl⟩
   ·show p.S.tr++_=flat (v.L++_)
    rw[Ia,s.tr]
    rfl
   ·show p.S.n+1=(v.L++_).length
    rw[List.length_append,s.n]
    rfl
  ·cases e
 ·rename_i h0
  obtain ⟨t,ht,hrd⟩:=nextI_in h0
  generalize hi:B9 p.S=i at ht e
  have eth:thrI p.S i=t:=Bp ht
  rw[eth] at e
  obtain ⟨hfit,hst,hsi⟩:=g.sit i t ht
  have hl:∀ a,p.l i≠.done a:=fun a ha=>by
   rw[ha] at hst
   have:t.st=3:=hst
   simp[rdy,this] at hrd
  have hk:=Fx (S:=p.S) (i:=i) (t:=t)
  have hgt:=H5 ht
  have sta:=Cv i mc (p.l i) (going p.S i t) p.K
  have hilt:i<p.S.thr.length:=(List.getElem?_eq_some_iff.1 ht).1
  have hoth:∀ j,j≠i->(resume i mc (p.l i) (going p.S i t) p.K).1.thr[j]? = p.S.thr[j]?:=fun j hj=>by rw[sta.oth j hj,H6 hj]
  have hstk:(resume i mc (p.l i) (going p.S i t) p.K).1.stk=p.S.stk:=by rw[sta.stk,hk.2.1]
  cases e
  have seen:∀ (Y:List Stp) (chg':List Int) (K':List Int),Adds (going p.S i t) (resume i mc (p.l i) (going p.S i t) p.K).1 Y->(resume i mc (p.l i) (going p.S i t) p.K).1.chg=chg'->(resume i mc (p.l i) (going p.S i t) p.K).2.1.map (·.2)=K'->Aw chg' (resume i mc (p.l i) (going p.S i t) p.K).2.2 (thrI (resume i mc (p.l i) (going p.S i t) p.K).1 i) ->
   Seen ⟨(resume i mc (p.l i) (going p.S i t) p.K).1,(resume i mc (p.l i) (going p.S i t) p.K).2.1,upd p.l i (resume i mc (p.l i) (going p.S i t) p.K).2.2⟩ ⟨K',p.S.stk,chg',fun k=>(thrI (resume i mc (p.l i) (going p.S i t) p.K).1 k).se,upd p.l i (resume i mc (p.l i) (going p.S i t) p.K).2.2,v.L++Y⟩ ∧
   Els i (resume i mc (p.l i) (going p.S i t) p.K).2.2 v ⟨K',p.S.stk,chg',fun k=>(thrI (resume i mc (p.l i) (going p.S i t) p.K).1 k).se,upd p.l i (resume i mc (p.l i) (going p.S i t) p.K).2.2,v.L++Y⟩:=fun Y chg' K' ha hc hK hA=>by
   refine ⟨⟨hK.symm,hstk.symm,hc.symm,fun _=>rfl,rfl,?_,?_,fun k tk htk j q r kk a hl=>?_⟩,⟨by rw[s.l],fun k hne=>?_,fun j q r k a h=>(hA j q r k a h).2⟩⟩
   ·show (resume i mc (p.l i) (going p.S i t) p.K).1.tr=_
    rw[ha.tr,hk.2.2.2,s.tr,Ia]
   ·show (resume i mc (p.l i) (going p.S i t) p.K).1.n=_
    rw[ha.n,hk.2.2.1,s.n,List.length_append]
   ·have htk:(resume i mc (p.l i) (going p.S i t) p.K).1.thr[k]? = some tk:=htk
    have hl:upd p.l i (resume i mc (p.l i) (going p.S i t) p.K).2.2 k=.wait j q r kk a:=hl
    by_cases hne:k=i
    ·subst hne
     rw[upd_same] at hl
     have:=(hA j q r kk a hl).1
     rw[Bp htk] at this
     exact this
    ·rw[upd_ne _ _ hne] at hl
     rw[hoth k hne] at htk
     exact s.ce k tk htk j q r kk a hl
   ·show (thrI (resume i mc (p.l i) (going p.S i t) p.K).1 k).se=_
    rw[s.se k]
    unfold thrI
    rw[hoth k hne]
  match hpl:p.l i,hl,hfit,hst with
  |.done a,hl,_,_=>exact absurd rfl (hl a)
  |.turn op j q rest ii ans,_,hfit,hst =>
   have hvl:v.l i=.turn op j q rest ii ans:=by rw[s.l];exact hpl
   have hx:v.K.getD j 0=(cellAt p.K j).2:=by rw[s.K];exact getD_cell _ _
   have ht0:thrI (going p.S i t) i={ t with st:=0 }:=Bp hgt
   rw[hpl] at seen
   rw[Em] at seen ⊢
   rw[ht0] at seen ⊢
   obtain ⟨X,o1,o2,o3,o4,o5⟩:=on_fw (mc:=mc) i rest ii ans (didS (going p.S i t) undef i { t with st:=0 } (mc.turn q (cellAt p.K j).2).1.1 (mc.turn q (cellAt p.K j).2).1.2) (p.K.set j ((cellAt p.K j).1,(mc.turn q (cellAt p.K j).2).2.1)) (mc.turn q (cellAt p.K j).2).2.2 { t with st:=0 } (Gh hgt)
   have hadd:=(adds_did (going p.S i t) undef i { t with st:=0 } (mc.turn q (cellAt p.K j).2).1.1 (mc.turn q (cellAt p.K j).2).1.2).trans o2
   have ho:t.op=op:=hfit.1
   have hc:t.ce=j:=hfit.2
   have hadd:Adds (going p.S i t) (on i mc rest ii ans (didS (going p.S i t) undef i { t with st:=0 } (mc.turn q (cellAt p.K j).2).1.1 (mc.turn q (cellAt p.K j).2).1.2) (p.K.set j ((cellAt p.K j).1,(mc.turn q (cellAt p.K j).2).2.1)) (mc.turn q (cellAt p.K j).2).2.2).1 (⟨i,j,op,(mc.turn q (cellAt p.K j).2).1.1,(mc.turn q (cellAt p.K j).2).1.2⟩ :: X):=by
    rw[←ho,←hc]
    exact hadd
   have hchg:(didS (going p.S i t) undef i { t with st:=0 } (mc.turn q (cellAt p.K j).2).1.1 (mc.turn q (cellAt p.K j).2).1.2).chg=bump p.S.chg j (mc.turn q (cellAt p.K j).2).1.1 (mc.turn q (cellAt p.K j).2).1.2:=by
    unfold didS bump
    by_cases hb:(mc.turn q (cellAt p.K j).2).1.1≠(mc.turn q (cellAt p.K j).2).1.2∧j<p.S.chg.length
    ·rw[if_pos ⟨hb.1,by show (0:Int)≤t.ce;omega,by show t.ce<((going p.S i t).chg.length:Int);rw[hk.1];omega⟩,if_pos hb]
     show (going p.S i t).chg.modify t.ce.toNat _=_
     rw[hk.1,hc]
     rfl
    ·rw[if_neg (fun h=>hb ⟨h.1,by have h3:t.ce<((going p.S i t).chg.length:Int):=h.2.2;rw[hk.1] at h3;omega⟩),if_neg hb]
     exact hk.1
   have hds:(didS (going p.S i t) undef i { t with st:=0 } (mc.turn q (cellAt p.K j).2).1.1 (mc.turn q (cellAt p.K j).2).1.2).stk=p.S.stk:=by rw[(sta_did (i:=i) _ _ _ _ _).stk,hk.2.1]
   rw[hchg] at o3 o4
   rw[hds] at o1
   obtain ⟨z1,z2⟩:=seen _ _ _ hadd o3 (by rw[o5]) o4
   refine ⟨_,.turn i op j q rest ii ans X _ hilt hvl (by rw[s.stk,hx];exact o1) z2 ?_ s.stk.symm (by rw[hx,s.chg]) (by rw[hx]),z1⟩
   show (p.K.set j _).map (·.2)=_
   rw[s.K,List.map_set,←s.K,hx]
  |.wait j q rest ii ans,_,hfit,hst =>
   have hvl:v.l i=.wait j q rest ii ans:=by rw[s.l];exact hpl
   have hst:t.st=2:=hst
   have hce:=s.ce i t ht j q rest ii ans hpl
   rw[hpl] at seen
   rw[Ds] at seen ⊢
   cases hs:p.S.stk with
   |true =>
    have hs':(going p.S i t).stk=true:=by rw[hk.2.1];exact hs
    rw[if_pos hs'] at seen ⊢
    obtain ⟨X,o1,o2,o3,o4,o5⟩:=back_fw (mc:=mc) i rest ii ans (mc.stuck q) (going p.S i t) p.K { t with st:=0 } hgt
    rw[hs'] at o1
    rw[hk.1] at o3 o4
    obtain ⟨z1,z2⟩:=seen _ _ _ o2 o3 (by rw[o5]) o4
    exact ⟨_,.free i j q rest ii ans X _ hilt hvl (by rw[s.stk];exact hs) o1 z2 s.K.symm hs s.chg.symm rfl,z1⟩
   |false =>
    have hs':(going p.S i t).stk=false:=by rw[hk.2.1];exact hs
    rw[if_neg (by rw[hs'];decide)] at seen ⊢
    obtain ⟨X,o1,o2,o3,o4,o5⟩:=on_fw (mc:=mc) i rest ii ans (Au (going p.S i t) undef i 6 j 0 0) p.K (mc.woke q) { t with st:=0 } hgt
    have hs2:(Au (going p.S i t) undef i 6 j 0 0).stk=false:=hs'
    rw[hs2] at o1
    have hc2:(Au (going p.S i t) undef i 6 j 0 0).chg=p.S.chg:=hk.1
    rw[hc2] at o3 o4
    obtain ⟨z1,z2⟩:=seen _ _ _ ((Ej (going p.S i t) undef i 6 j 0 0).trans o2) o3 (by rw[o5]) o4
    refine ⟨_,.wake i j q rest ii ans X _ hilt hvl (by rw[s.stk];exact hs) ?_ o1 z2 s.K.symm hs s.chg.symm rfl,z1⟩
    rw[s.chg,s.se i,eth,←hce]
    simpa [rdy,hst,hs] using hrd
theorem turns_mv (M:Met mc) {Inv:Vw->Prop}{N:Nat}(hI:∀ v v1,Inv v->Mv mc N v v1->Inv v1) {m:Nat}{p p':PSt}(h:Turns mc m p p'):∀ v,p.S.thr.length=N->Gd M p->Seen p v->Inv v->∃ v',Inv v'∧Seen p' v'∧p'.S.thr.length=N∧∀ i,i<N->∃ a,v'.l i=.done a:=by
 induction h with
 |@stop p hs =>
  intro v hN g s hv
  refine ⟨v,hv,s,hN,fun i hi=>?_⟩
  obtain ⟨t,ht⟩:∃ t,p.S.thr[i]? = some t:=⟨_,List.getElem?_eq_getElem (by omega)⟩
  obtain ⟨_,h2,_⟩:=g.sit i t ht
  unfold Cs at hs
  split at hs
  ·rename_i h0
   split at hs
   ·cases hs
   ·rename_i hw
    rw[s.l]
    match hl:p.l i,h2 with
    |.done a,_=>exact ⟨a,rfl⟩
    |.turn _ _ _ _ _ _,h2 =>
     have h2:t.st=1:=h2
     have:i∈An p.S p.S.thr.length:=by
      unfold An
      rw[List.mem_filter]
      exact ⟨List.mem_range.2 (by omega),by rw[ht];simp[rdy,h2]⟩
     rw[h0] at this;cases this
    |.wait _ _ _ _ _,h2 =>
     have h2:t.st=2:=h2
     exfalso
     apply hw
     unfold Bt
     rw[List.any_eq_true]
     exact ⟨i,List.mem_range.2 (by omega),by rw[ht];simp[h2]⟩
  ·cases hs
 |@step n p p1 p' e _ ih =>
  intro v hN g s hv
  obtain ⟨v1,m1,s1⟩:=pturn_mv M g s e
  rw[hN] at m1
  have hlen:p1.S.thr.length=N:=by
   unfold Cs at e
   split at e
   ·split at e
    ·cases e;exact hN
    ·cases e
   ·cases e
    show (resume _ _ _ _ _).1.thr.length=_
    rw[(Cv _ _ _ _ _).len,H8,hN]
  exact ih v1 hlen (Ew M g e).1 s1 (hI v v1 hv m1)
end
end Go.Proofs.YtcfmffmcammbjaaDoor.Gen.Mf
namespace Go.Proofs.YtcfmffmcammbjaaDoor.Gen
open Go Go.Lift Go.Conc Go.RowKit
def okC (s:Nat) (q:Q):Prop:=(q.1=0∧q.2.length=2)∨(q.1=1∧q.2.length=3)∨(q.1=2∧q.2.length<s)∨(q.1=3∧s≤q.2.length∧q.2.length<2*s)
instance (s:Nat) (q:Q):Decidable (okC s q):=by unfold okC;infer_instance
def levC (s:Nat) (q:Q):Nat:=if okC s q then 1 else 0
def agrC (s:Nat) (d:List Int) (f:Nat->Int):Prop:=d=(List.range d.length).map fun k=>f (k % s)
instance (s:Nat) (d:List Int) (f:Nat->Int):Decidable (agrC s d f):=by unfold agrC;infer_instance
def wsC (s:Nat) (q:Q) (f:Nat->Int):Nat :=
 if q.1=0 then 2 else if q.1=1 then (if f (q.2.getD 0 0).toNat=q.2.getD 2 0 then 1 else 3)
 else if s≤16 then (2*s - q.2.length)+(if agrC s q.2 f then 0 else 2*s) else 0
def clC (s:Nat) (q:Q):Nat:=if q.1=0 then (q.2.getD 0 0).toNat else if q.1=1 then (q.2.getD 0 0).toNat else if q.1=2 then q.2.length else q.2.length - s
theorem agrC_next {s:Nat}{d:List Int}{f:Nat->Int}{x:Int}(hx:f (d.length % s)=x):agrC s (d++[x]) f↔agrC s d f:=by
 unfold agrC
 rw[List.length_append,List.length_singleton,List.range_succ,List.map_append]
 simp only[List.map_cons,List.map_nil,hx]
 constructor
 ·intro h
  exact List.append_cancel_right h
 ·intro h
  rw[←h]
theorem agrC_same {s:Nat}{d:List Int}{f:Nat->Int}(h:agrC s d f) (hl:d.length=2*s):d.take s=d.drop s:=by
 unfold agrC at h
 rw[hl] at h
 apply List.ext_getElem?
 intro k
 rw[List.getElem?_drop,List.getElem?_take]
 by_cases hk:k<s
 ·rw[if_pos hk,h]
  simp[hk,show k<2*s by omega,show s+k<2*s by omega]
 ·rw[if_neg hk,List.getElem?_eq_none (by omega)]
theorem lev_ok {s:Nat}{q:Q}(h:1≤levC s q):okC s q:=by
 unfold levC at h
 split at h
 ·assumption
 ·omega
theorem lev_of {s:Nat}{q:Q}(h:okC s q):levC s q=1:=if_pos h
theorem ok0 (s:Nat) (a b:Int):okC s (0,[a,b]):=.inl ⟨rfl,rfl⟩
theorem ok1 (s:Nat) (a b c:Int):okC s (1,[a,b,c]):=.inr (.inl ⟨rfl,rfl⟩)
theorem ok2 {s:Nat}{l:List Int}(h:l.length<s):okC s (2,l):=.inr (.inr (.inl ⟨rfl,h⟩))
theorem ok3 {s:Nat}{l:List Int}(h:s≤l.length) (h2:l.length<2*s):okC s (3,l):=.inr (.inr (.inr ⟨rfl,h,h2⟩))
theorem ws2 {s:Nat}(h16:s≤16) {n:Nat}(hn:n=2∨n=3) (d:List Int) (f:Nat->Int):wsC s (n,d) f=(2*s - d.length)+(if agrC s d f then 0 else 2*s):=by
 unfold wsC
 rcases hn with rfl|rfl<;>simp[h16]
theorem G9 {s:Nat}{op:Nat}{j:Nat}{q:Q}(h:okC s q) (hj:j=clC s q):Mf.seatOk 1 (levC s) (clC s) (fun _=>False) (.turn op j q):=⟨by rw[lev_of h];exact Nat.le_refl _,by rw[lev_of h];exact Nat.le_refl _,hj⟩
def metC (s:Nat) (h0:0<s) (h16:s≤16):Mf.Met (mcC s) where
 L:=1
 hL:=Nat.le_refl _
 lev:=levC s
 ws:=wsC s
 cl:=clC s
 wq _:=False
 ws_le q f:=by
  unfold wsC
  split
  ·omega
  ·split
   ·split<;>omega
   ·have hq:(if agrC s q.2 f then 0 else 2*s)≤32:=by split<;>omega
    omega
 start i c:=by
  unfold mcC
  simp only
  split
  ·exact G9 (ok0 _ _ _) (by show i % s=((i % s:Nat):Int).toNat;rw[Int.toNat_natCast])
  ·split
   ·exact G9 (ok2 (by simpa using h0)) (by simp[clC])
   ·trivial
 turn q f x hx h1 _:=by
  have hok:=lev_ok h1
  have hl1:=lev_of hok
  obtain ⟨n,d⟩:=q
  rcases hok with ⟨e,hd⟩|⟨e,hd⟩|⟨e,hd⟩|⟨e,hd,hd2⟩
  ·simp only at e hd
   subst e
   match d,hd with
   | [a,b],_ =>
    have hx':f a.toNat=x:=by simpa [clC] using hx
    refine ⟨G9 (ok1 _ _ _ _) (by simp[clC]),.inr ⟨rfl,rfl,?_,?_⟩⟩
    ·show levC s (1,[a,b,x])=_
     rw[hl1,lev_of (ok1 _ _ _ _)]
    ·show wsC s (1,[a,b,x]) f+1≤wsC s (0,[a,b]) f
     simp[wsC,hx']
  ·simp only at e hd
   subst e
   match d,hd with
   | [a,b,c],_ =>
    have hx':f a.toNat=x:=by simpa [clC] using hx
    unfold mcC
    simp only[show ¬ ((1:Nat)=0) by decide,if_false,if_true]
    by_cases hc:x=c
    ·subst hc
     simp only[List.getD_cons_succ,List.getD_cons_zero,if_true]
     exact ⟨trivial,.inl (by rw[hl1];exact Nat.one_pos)⟩
    ·have hc':¬ (f a.toNat=c):=by rw[hx'];exact hc
     simp only[List.getD_cons_succ,List.getD_cons_zero,hc,if_false,Bv]
     refine ⟨G9 (ok0 _ _ _) (by simp[clC]),.inr ⟨trivial,trivial,?_,?_⟩⟩
     ·show levC s (0,[a,b])=_
      rw[hl1,lev_of (ok0 _ _ _)]
     ·show wsC s (0,[a,b]) f+1≤wsC s (1,[a,b,c]) f
      simp[wsC,hc']
  ·simp only at e hd
   subst e
   have hx':f (d.length % s)=x:=by rw[Nat.mod_eq_of_lt hd];simpa [clC] using hx
   have hlen:(d++[x]).length=d.length+1:=by simp
   have hag:=agrC_next hx'
   show Mf.seatOk 1 (levC s) (clC s) (fun _=>False) (nx2 s (d++[x]))∧_
   have hws:∀ n,n=2∨n=3->wsC s (n,d++[x]) f+1≤wsC s (2,d) f:=fun n hn=>by
    rw[ws2 h16 hn,ws2 h16 (.inl rfl),hlen,show (if agrC s (d++[x]) f then 0 else 2*s)=(if agrC s d f then 0 else 2*s) by simp only[hag]];omega
   by_cases hl:d.length+1<s
   ·have e2:nx2 s (d++[x])=.turn 1 (d++[x]).length (2,d++[x]):=by unfold nx2;rw[if_pos (by rw[hlen];exact hl)]
    have e3:(mcC s).turn (2,d) x=((x,x),x,nx2 s (d++[x])):=rfl
    rw[e3,e2]
    refine ⟨G9 (ok2 (by rw[hlen];exact hl)) (by simp[clC]),.inr ⟨rfl,rfl,?_,hws 2 (.inl rfl)⟩⟩
    show levC s (2,d++[x])=_
    rw[hl1,lev_of (ok2 (by rw[hlen];exact hl))]
   ·have e2:nx2 s (d++[x])=.turn 1 0 (3,d++[x]):=by unfold nx2;rw[if_neg (by rw[hlen];exact hl)]
    have e3:(mcC s).turn (2,d) x=((x,x),x,nx2 s (d++[x])):=rfl
    have hok3:okC s (3,d++[x]):=ok3 (by rw[hlen];omega) (by rw[hlen];omega)
    rw[e3,e2]
    refine ⟨G9 hok3 (by simp[clC];omega),.inr ⟨rfl,rfl,?_,hws 3 (.inr rfl)⟩⟩
    show levC s (3,d++[x])=_
    rw[hl1,lev_of hok3]
  ·simp only at e hd hd2
   subst e
   have hm:d.length % s=d.length - s:=by
    have:d.length=(d.length - s)+s:=by omega
    rw[this,Nat.add_mod_right,Nat.mod_eq_of_lt (by omega)];omega
   have hx':f (d.length % s)=x:=by rw[hm];simpa [clC] using hx
   have hlen:(d++[x]).length=d.length+1:=by simp
   have hag:=agrC_next hx'
   have e3:(mcC s).turn (3,d) x=((x,x),x,nx3 s (d++[x])):=rfl
   rw[e3]
   by_cases hl:d.length+1<2*s
   ·have e2:nx3 s (d++[x])=.turn 1 ((d++[x]).length - s) (3,d++[x]):=by unfold nx3;rw[if_pos (by rw[hlen];exact hl)]
    have hok3:okC s (3,d++[x]):=ok3 (by rw[hlen];omega) (by rw[hlen];exact hl)
    rw[e2]
    refine ⟨G9 hok3 (by simp[clC]),.inr ⟨rfl,rfl,?_,?_⟩⟩
    ·show levC s (3,d++[x])=_
     rw[hl1,lev_of hok3]
    ·show wsC s (3,d++[x]) f+1≤wsC s (3,d) f
     rw[ws2 h16 (.inr rfl),ws2 h16 (.inr rfl),hlen,show (if agrC s (d++[x]) f then 0 else 2*s)=(if agrC s d f then 0 else 2*s) by simp only[hag]];omega
   ·by_cases ht:(d++[x]).take s=(d++[x]).drop s
    ·have e2:nx3 s (d++[x])=.ans 0 (R1.totI ((d++[x]).drop s)):=by unfold nx3;rw[if_neg (by rw[hlen];exact hl),if_pos ht]
     rw[e2]
     exact ⟨trivial,.inl (by rw[hl1];exact Nat.one_pos)⟩
    ·have e2:nx3 s (d++[x])=.turn 1 0 (2,[]):=by unfold nx3;rw[if_neg (by rw[hlen];exact hl),if_neg ht]
     have hna:¬ agrC s d f:=fun ha=>ht (agrC_same (hag.2 ha) (by rw[hlen];omega))
     rw[e2]
     refine ⟨G9 (ok2 (by simpa using h0)) (by simp[clC]),.inr ⟨rfl,rfl,?_,?_⟩⟩
     ·show levC s (2,[])=_
      rw[hl1,lev_of (ok2 (by simpa using h0))]
     ·show wsC s (2,[]) f+1≤wsC s (3,d) f
      rw[ws2 h16 (.inl rfl),ws2 h16 (.inr rfl),if_neg hna,if_pos (by unfold agrC;rfl)]
      simp only[List.length_nil]
      omega
 woke q _ _ h:=h.elim
end Go.Proofs.YtcfmffmcammbjaaDoor.Gen
namespace Go.Proofs.YtcfmffmcammbjaaDoor.R1
open Go Go.RowKit Go.Proofs.YtcfmffmcammbjaaDoor.Pl
def ver (x:Int):Int:=getI x 32 30
theorem ver_in (x:Int):0≤ver x∧ver x<1073741824:=⟨Fy x 32 30,by have:=getI_lt x 32 30;unfold ver;omega⟩
theorem ver_addI (x n:Int):ver (addI x n)=(ver x+1) % 1073741824:=by
 unfold ver addI
 have h:=verB_in (addA x n)
 rw[verB_eq] at h
 rw[get_put _ _ 32 30 (by decide) (by decide) h.1 h.2]
 unfold addA
 rw[get_apart _ _ 0 32 32 30 (by decide) (by decide) (by decide) (fun i=>by omega)]
theorem addI_ne (x n:Int):addI x n≠x:=fun e=>by
 have h1:=ver_addI x n
 rw[e] at h1
 have:=ver_in x
 omega
theorem ver_zero:ver 0=0:=by decide +kernel
theorem amtS_small {x n:Int}(hn:-1000<n∧n<1000) (hx:-1000000≤amtS x∧amtS x≤1000000):amtS (addI x n)=amtS x+n:=by
 have h:=amtS_eq x
 have h2:=amtS_eq (addI x n)
 rw[amt_addI] at h2
 have h0:=Fy x 0 32
 have h1:=getI_lt x 0 32
 unfold wrap32 at h h2
 omega
theorem totI_sum:∀ (l:List Int) (a:Int),(∀ x∈l,-1000000≤amtS x∧amtS x≤1000000)->l.length≤16->-16000000≤a∧a≤16000000->l.foldl (fun s v=>wrap64 (s+amtS v)) a=a+(l.map amtS).sum
 | [],a,_,_,_=>by simp
 |x :: l,a,h,hl,ha=>by
  have hx:=h x (List.mem_cons_self ..)
  have e:wrap64 (a+amtS x)=a+amtS x:=by unfold wrap64;omega
  rw[List.foldl_cons,e]
  have go:∀ (l:List Int) (b:Int),(∀ x∈l,-1000000≤amtS x∧amtS x≤1000000)->-4000000000+1000000*(l.length:Int)≤b->b≤4000000000 - 1000000*(l.length:Int)->l.foldl (fun s v=>wrap64 (s+amtS v)) b=b+(l.map amtS).sum:=by
   intro l
   induction l with
   |nil=>intro b _ _ _;simp
   |cons y l ih =>
    intro b h h1 h2
    have hy:=h y (List.mem_cons_self ..)
    simp only[List.length_cons] at h1 h2
    have e:wrap64 (b+amtS y)=b+amtS y:=by unfold wrap64;omega
    rw[List.foldl_cons,e,ih (b+amtS y) (fun x hx=>h x (List.mem_cons_of_mem _ hx)) (by omega) (by omega)]
    simp only[List.map_cons,List.sum_cons]
    omega
  rw[go l (a+amtS x) (fun x hx=>h x (List.mem_cons_of_mem _ hx)) (by simp only[List.length_cons] at hl;omega) (by simp only[List.length_cons] at hl;omega)]
  simp only[List.map_cons,List.sum_cons]
  omega
theorem totI_is (l:List Int) (h:∀ x∈l,-1000000≤amtS x∧amtS x≤1000000) (hl:l.length≤16):totI l=(l.map amtS).sum:=by
 have:=totI_sum l 0 h hl (by omega)
 unfold totI
 omega
end Go.Proofs.YtcfmffmcammbjaaDoor.R1
namespace Go.Proofs.YtcfmffmcammbjaaDoor.Gen
open Go Go.Lift Go.Conc Go.RowKit
open Go.ConcN (upd upd_same upd_ne)
def Le (x y:Int):Prop:=R1.ver x≤R1.ver y∧(R1.ver x=R1.ver y->x=y)
theorem Le.refl (x:Int):Le x x:=⟨Int.le_refl _,fun _=>rfl⟩
theorem Le.trans {x y z:Int}(h:Le x y) (k:Le y z):Le x z:=⟨Int.le_trans h.1 k.1,fun e=>by
 have h1:=h.1
 have k1:=k.1
 rw[h.2 (by omega),k.2 (by omega)]⟩
theorem Le.anti {x y:Int}(h:Le x y) (k:Le y x):x=y:=h.2 (Int.le_antisymm h.1 k.1)
theorem Le.add {x:Int}(n:Int) (h:R1.ver x<1073741823):Le x (R1.addI x n):=by
 have h1:=R1.ver_addI x n
 have h2:=R1.ver_in x
 exact ⟨by omega,fun e=>by omega⟩
structure Snap (s:Nat) (d snap K:List Int):Prop where
 len:snap.length=s
 klen:K.length=s
 fst:∀ (j:Nat) (x y:Int),j<s->d[j]? = some x->snap[j]? = some y->Le x y
 snd:∀ (j:Nat) (x y:Int),d[s+j]? = some x->snap[j]? = some y->Le y x
 now:∀ (j:Nat) (x y:Int),snap[j]? = some x->K[j]? = some y->Le x y
theorem Snap.same {s:Nat}{d snap K:List Int}(h:Snap s d snap K) (hl:d.length=2*s) (e:d.take s=d.drop s):d.drop s=snap:=by
 apply List.ext_getElem?
 intro j
 rw[List.getElem?_drop]
 by_cases hj:j<s
 ·obtain ⟨x,hx⟩:∃ x,d[j]? = some x:=⟨_,List.getElem?_eq_getElem (by omega)⟩
  obtain ⟨z,hz⟩:∃ z,d[s+j]? = some z:=⟨_,List.getElem?_eq_getElem (by omega)⟩
  obtain ⟨y,hy⟩:∃ y,snap[j]? = some y:=⟨_,List.getElem?_eq_getElem (by have:=h.len;omega)⟩
  have e1:d[j]? = d[s+j]?:=by
   have:=congrArg (fun l=>l[j]?) e
   simp only[List.getElem?_take,List.getElem?_drop,if_pos hj] at this
   exact this
  rw[hx,hz] at e1
  cases e1
  rw[hz,hy,Le.anti (h.fst j _ y hj hx hy) (h.snd j _ y hz hy)]
 ·rw[List.getElem?_eq_none (by omega),List.getElem?_eq_none (by have:=h.len;omega)]
theorem Snap.up {s:Nat}{d snap K:List Int}(h:Snap s d snap K) {j:Nat}{x y:Int}(hx:K[j]? = some x) (hle:Le x y):Snap s d snap (K.set j y):=by
 refine ⟨h.len,by rw[List.length_set];exact h.klen,h.fst,h.snd,fun k a b ha hb=>?_⟩
 rw[List.getElem?_set] at hb
 by_cases e:j=k
 ·subst e
  rw[if_pos rfl] at hb
  split at hb
  ·cases hb
   exact (h.now j a x ha hx).trans hle
  ·cases hb
 ·rw[if_neg e] at hb
  exact h.now k a b ha hb
theorem Snap.look {s:Nat}{d snap K:List Int}(h:Snap s d snap K) (hs:s≤d.length) {x:Int}(hx:K[d.length - s]? = some x):Snap s (d++[x]) snap K:=by
 refine ⟨h.len,h.klen,fun j a b hj ha hb=>?_,fun j a b ha hb=>?_,h.now⟩
 ·rw[List.getElem?_append_left (by omega)] at ha
  exact h.fst j a b hj ha hb
 ·by_cases e:s+j<d.length
  ·rw[List.getElem?_append_left e] at ha
   exact h.snd j a b ha hb
  ·rw[List.getElem?_append_right (by omega)] at ha
   have e2:s+j - d.length=0:=by
    cases hk:s+j - d.length with
    |zero=>rfl
    |succ n=>rw[hk] at ha;simp at ha
   rw[e2] at ha
   simp at ha
   subst ha
   have e3:d.length - s=j:=by omega
   rw[e3] at hx
   exact h.now j b _ hb hx
theorem Snap.first {s:Nat}{d K:List Int}(hK:K.length=s) (hl:d.length=s) (h:∀ (j:Nat) (x y:Int),d[j]? = some x->K[j]? = some y->Le x y):Snap s d K K :=
 ⟨hK,hK,fun j x y _ hx hy=>h j x y hx hy,fun j x y hx _=>(by rw[List.getElem?_eq_none (by omega)] at hx;cases hx),fun j x y hx hy=>by rw[hx] at hy;cases hy;exact Le.refl _⟩
structure Rp where
 total:Int
 busy:Int
 call:Nat->Nat
 seen:Nat->List Int
 quiet:Nat->Bool
 count:Nat->Nat
def rp0:Rp:=⟨0,0,fun _=>0,fun _=>[],fun _=>false,fun _=>0⟩
def poOf (cl:Nat->List Cl) (i k:Nat):Int:=match (cl i)[k]? with|some c=>c.po|none=>0
def caOf (cl:Nat->List Cl) (i k:Nat):Int:=match (cl i)[k]? with|some c=>c.ca|none=>0
def rs (cl:Nat->List Cl) (r:Rp) (s:Stp):Rp :=
 let t:=s.th.toNat
 if s.op=9 then
  let k:=s.ol.toNat
  let b:=if poOf cl t k=1 then r.busy+1 else r.busy
  { total:=r.total,busy:=b,call:=upd r.call t k,seen:=upd r.seen t [r.total],
    quiet:=upd (if poOf cl t k=1 then fun _=>false else r.quiet) t (b==0),count:=upd r.count t 0 }
 else if s.op=10 then
  { r with call:=upd r.call t s.ol.toNat,busy:=if poOf cl t s.ol.toNat=1 then r.busy - 1 else r.busy }
 else if s.op=4∧poOf cl t (r.call t)=1∧s.ne≠s.ol then
  { r with count:=upd r.count t (r.count t+1),total:=r.total+(caOf cl t (r.call t)).tmod 1000,seen:=fun k=>r.seen k++[r.total+(caOf cl t (r.call t)).tmod 1000] }
 else { r with count:=upd r.count t (r.count t+1) }
def rep (cl:Nat->List Cl) (L:List Stp):Rp:=L.foldl (rs cl) rp0
theorem rep_app (cl:Nat->List Cl) (A B:List Stp):rep cl (A++B)=B.foldl (rs cl) (rep cl A):=List.foldl_append
theorem rep_one (cl:Nat->List Cl) (A:List Stp) (s:Stp):rep cl (A++[s])=rs cl (rep cl A) s:=by rw[rep_app];rfl
section
variable {cl:Nat->List Cl}{r:Rp}{i:Nat}
theorem rs_begin (k:Nat) (h:poOf cl i k≠1):rs cl r ⟨i,-1,9,k,0⟩={ r with call:=upd r.call i k,seen:=upd r.seen i [r.total],quiet:=upd r.quiet i (r.busy==0),count:=upd r.count i 0 }:=by
 unfold rs
 simp[h]
theorem rs_begin1 (k:Nat) (h:poOf cl i k=1):rs cl r ⟨i,-1,9,k,0⟩={ r with busy:=r.busy+1,call:=upd r.call i k,seen:=upd r.seen i [r.total],quiet:=upd (fun _=>false) i (r.busy+1==0),count:=upd r.count i 0 }:=by
 unfold rs
 simp[h]
theorem rs_end (k:Nat) (e:Int):rs cl r ⟨i,-1,10,k,e⟩={ r with call:=upd r.call i k,busy:=if poOf cl i k=1 then r.busy - 1 else r.busy }:=by
 unfold rs
 simp
theorem rs_look (j:Nat) (x:Int):rs cl r ⟨i,j,1,x,x⟩={ r with count:=upd r.count i (r.count i+1) }:=by
 unfold rs
 simp
theorem rs_vain (j:Nat) (x:Int):rs cl r ⟨i,j,4,x,x⟩={ r with count:=upd r.count i (r.count i+1) }:=by
 unfold rs
 simp
theorem rs_cas (j:Nat) (x y:Int) (h:poOf cl i (r.call i)=1) (hne:y≠x):rs cl r ⟨i,j,4,x,y⟩={ r with count:=upd r.count i (r.count i+1),total:=r.total+(caOf cl i (r.call i)).tmod 1000,seen:=fun k=>r.seen k++[r.total+(caOf cl i (r.call i)).tmod 1000] }:=by
 unfold rs
 simp[h,hne]
end
structure Fst (s:Nat) (r:Rp) (K:List Int) (i:Nat) (l:List Int):Prop where
 lt:l.length<s
 le:∀ (j:Nat) (x y:Int),l[j]? = some x->K[j]? = some y->Le x y
 qt:r.quiet i=true->r.count i=l.length∧l=K.take l.length
structure Snd (s:Nat) (r:Rp) (K:List Int) (i:Nat) (d snap:List Int):Prop where
 ge:s≤d.length
 lt:d.length<2*s
 sn:Snap s d snap K
 sum:R1.totI snap∈r.seen i
 qt:r.quiet i=true->r.count i=d.length∧d.take s=K∧d.drop s=K.take (d.length - s)
def CSeat (s:Nat) (calls:List Cl) (r:Rp) (K:List Int) (i:Nat):Ph->Prop
 |.turn op j q rest ii ans=>rest=calls.drop (ii+1)∧r.call i=ii∧r.total∈r.seen i∧j=clC s q∧∃ c,calls[ii]? = some c ∧
   ((c.po=1∧op=1∧q=(0,[((i % s:Nat):Int),c.ca.tmod 1000]))∨(c.po=1∧op=4∧∃ x,q=(1,[((i % s:Nat):Int),c.ca.tmod 1000,x])) ∨
    (c.po=2∧op=1∧∃ l,q=(2,l)∧Fst s r K i l)∨(c.po=2∧op=1∧∃ d snap,q=(3,d)∧Snd s r K i d snap))
 |.wait _ _ _ _ _=>False
 |.done _=>True
structure Oth (r r':Rp) (K K':List Int) (i:Nat):Prop where
 call:r'.call i=r.call i
 count:r'.count i=r.count i
 sub:∀ x∈r.seen i,x∈r'.seen i
 tot:r.total∈r.seen i->r'.total∈r'.seen i
 qt:r'.quiet i=true->r.quiet i=true∧K'=K
 up:∀ (j:Nat) (x y:Int),K[j]? = some x->K'[j]? = some y->Le x y
 len:K'.length=K.length
theorem get_len {K K':List Int}(h:K'.length=K.length) {j:Nat}{y:Int}(hy:K'[j]? = some y):∃ x,K[j]? = some x:=⟨_,List.getElem?_eq_getElem (by have:=(List.getElem?_eq_some_iff.1 hy).1;omega)⟩
theorem Fst.oth {s:Nat}{r r':Rp}{K K':List Int}{i:Nat}{l:List Int}(h:Fst s r K i l) (o:Oth r r' K K' i):Fst s r' K' i l :=
 ⟨h.lt,fun j x y hx hy=>by
  obtain ⟨z,hz⟩:=get_len o.len hy
  exact (h.le j x z hx hz).trans (o.up j z y hz hy),fun hq=>by
  obtain ⟨q1,rfl⟩:=o.qt hq
  rw[o.count]
  exact h.qt q1⟩
theorem Snd.oth {s:Nat}{r r':Rp}{K K':List Int}{i:Nat}{d snap:List Int}(h:Snd s r K i d snap) (o:Oth r r' K K' i):Snd s r' K' i d snap :=
 ⟨h.ge,h.lt,⟨h.sn.len,by rw[o.len];exact h.sn.klen,h.sn.fst,h.sn.snd,fun j x y hx hy=>by
  obtain ⟨z,hz⟩:=get_len o.len hy
  exact (h.sn.now j x z hx hz).trans (o.up j z y hz hy)⟩,o.sub _ h.sum,fun hq=>by
  obtain ⟨q1,rfl⟩:=o.qt hq
  rw[o.count]
  exact h.qt q1⟩
theorem CSeat.oth {s:Nat}{calls:List Cl}{r r':Rp}{K K':List Int}{i:Nat}{l:Ph}(h:CSeat s calls r K i l) (o:Oth r r' K K' i):CSeat s calls r' K' i l:=by
 cases l with
 |done a=>trivial
 |wait j q rest ii ans=>exact h
 |turn op j q rest ii ans =>
  obtain ⟨h1,h2,h3,h4,c,hc,h5⟩:=h
  refine ⟨h1,by rw[o.call];exact h2,o.tot h3,h4,c,hc,?_⟩
  rcases h5 with h5|h5|⟨p,e,l,e2,h5⟩|⟨p,e,d,sn,e2,h5⟩
  ·exact .inl h5
  ·exact .inr (.inl h5)
  ·exact .inr (.inr (.inl ⟨p,e,l,e2,h5.oth o⟩))
  ·exact .inr (.inr (.inr ⟨p,e,d,sn,e2,h5.oth o⟩))
theorem Fst.look {s:Nat}{r:Rp}{K:List Int}{i:Nat}{l:List Int}{x:Int}(h:Fst s r K i l) (hK:K.length=s) (hx:K[l.length]? = some x) (hlt:l.length+1<s):Fst s { r with count:=upd r.count i (r.count i+1) } K i (l++[x]):=by
 refine ⟨by simpa using hlt,fun j a b ha hb=>?_,fun hq=>?_⟩
 ·by_cases e:j<l.length
  ·rw[List.getElem?_append_left e] at ha
   exact h.le j a b ha hb
  ·have hj:j=l.length:=by
    have:=(List.getElem?_eq_some_iff.1 ha).1
    simp at this
    omega
   subst hj
   rw[List.getElem?_append_right (Nat.le_refl _)] at ha
   simp at ha
   rw[hx] at hb
   cases hb
   rw[ha]
   exact Le.refl _
 ·obtain ⟨q1,q2⟩:=h.qt hq
  refine ⟨?_,?_⟩
  ·show upd r.count i (r.count i+1) i=_
   rw[upd_same,q1];simp
  ·rw[List.length_append,List.length_singleton,List.take_add_one,hx,←q2]
   rfl
theorem Fst.last {s:Nat}{r:Rp}{K:List Int}{i:Nat}{l:List Int}{x:Int}(h:Fst s r K i l) (hK:K.length=s) (hx:K[l.length]? = some x) (hlt:l.length+1=s) (hT:R1.totI K∈r.seen i):Snd s { r with count:=upd r.count i (r.count i+1) } K i (l++[x]) K:=by
 have hl:(l++[x]).length=s:=by simpa using hlt
 refine ⟨by omega,by omega,Snap.first hK hl (fun j a b ha hb=>?_),hT,fun hq=>?_⟩
 ·by_cases e:j<l.length
  ·rw[List.getElem?_append_left e] at ha
   exact h.le j a b ha hb
  ·have hj:j=l.length:=by
    have:=(List.getElem?_eq_some_iff.1 ha).1
    simp at this
    omega
   subst hj
   rw[List.getElem?_append_right (Nat.le_refl _)] at ha
   simp at ha
   rw[hx] at hb
   cases hb
   rw[ha]
   exact Le.refl _
 ·obtain ⟨q1,q2⟩:=h.qt hq
  refine ⟨?_,?_,?_⟩
  ·show upd r.count i (r.count i+1) i=_
   rw[upd_same,q1];simp
  ·rw[List.take_of_length_le (by omega)]
   have e:K.take (l.length+1)=l++[x]:=by rw[List.take_add_one,hx,←q2];rfl
   rw[←e,hlt,List.take_of_length_le (by omega)]
  ·rw[hl,Nat.sub_self,List.take_zero,List.drop_eq_nil_of_le (by omega)]
theorem Snd.look {s:Nat}{r:Rp}{K:List Int}{i:Nat}{d snap:List Int}{x:Int}(h:Snd s r K i d snap) (hx:K[d.length - s]? = some x) (hlt:d.length+1<2*s):Snd s { r with count:=upd r.count i (r.count i+1) } K i (d++[x]) snap:=by
 refine ⟨by have:=h.ge;simp;omega,by simpa using hlt,h.sn.look h.ge hx,h.sum,fun hq=>?_⟩
 obtain ⟨q1,q2,q3⟩:=h.qt hq
 have hge:=h.ge
 refine ⟨?_,?_,?_⟩
 ·show upd r.count i (r.count i+1) i=_
  rw[upd_same,q1];simp
 ·rw[List.take_append_of_le_length hge];exact q2
 ·rw[List.drop_append_of_le_length hge,q3,List.length_append,List.length_singleton,show d.length+1 - s=(d.length - s)+1 by omega,List.take_add_one,hx]
  rfl
theorem Snd.last {s:Nat}{r:Rp}{K:List Int}{i:Nat}{d snap:List Int}{x:Int}(h:Snd s r K i d snap) (hx:K[d.length - s]? = some x) (hlt:d.length+1=2*s) :
 ((d++[x]).take s=(d++[x]).drop s->R1.totI ((d++[x]).drop s)∈r.seen i)∧(r.quiet i=true->r.count i+1=2*s∧(d++[x]).take s=(d++[x]).drop s):=by
 have hge:=h.ge
 have hl:(d++[x]).length=2*s:=by simpa using hlt
 refine ⟨fun e=>?_,fun hq=>?_⟩
 ·rw[(h.sn.look hge hx).same hl e];exact h.sum
 ·obtain ⟨q1,q2,q3⟩:=h.qt hq
  refine ⟨by rw[q1];exact hlt,?_⟩
  have hK:=h.sn.klen
  rw[List.take_append_of_le_length hge,q2,List.drop_append_of_le_length hge,q3]
  have e:K.take (d.length - s+1)=K.take (d.length - s)++[x]:=by rw[List.take_add_one,hx];rfl
  rw[←e,List.take_of_length_le (by omega)]
theorem Oth.refl (r:Rp) (K:List Int) (i:Nat):Oth r r K K i:=⟨rfl,rfl,fun _ h=>h,fun h=>h,fun h=>⟨h,rfl⟩,fun j x y hx hy=>by rw[hx] at hy;cases hy;exact Le.refl _,rfl⟩
theorem Oth.trans {r r1 r2:Rp}{K K1 K2:List Int}{i:Nat}(h:Oth r r1 K K1 i) (k:Oth r1 r2 K1 K2 i):Oth r r2 K K2 i :=
 ⟨k.call.trans h.call,k.count.trans h.count,fun x hx=>k.sub x (h.sub x hx),fun ht=>k.tot (h.tot ht),fun hq=>by
  obtain ⟨a,rfl⟩:=k.qt hq
  exact h.qt a,fun j x y hx hy=>by
  obtain ⟨z,hz⟩:=get_len k.len hy
  exact (h.up j x z hx hz).trans (k.up j z y hz hy),k.len.trans h.len⟩
theorem up_same (K:List Int):∀ (j:Nat) (x y:Int),K[j]? = some x->K[j]? = some y->Le x y:=fun j x y hx hy=>by rw[hx] at hy;cases hy;exact Le.refl _
def inA:Ph->Nat
 |.turn _ _ q _ _ _=>if q.1≤1 then 1 else 0
 |_=>0
def upC (calls:List Cl):Ph->Nat
 |.turn _ _ _ _ ii _=>ii
 |.wait _ _ _ ii _=>ii
 |.done _=>calls.length
theorem po_of {cl:Nat->List Cl}{i k:Nat}{c:Cl}(h:(cl i)[k]? = some c):poOf cl i k=c.po∧caOf cl i k=c.ca:=by
 unfold poOf caOf
 rw[h]
 exact ⟨rfl,rfl⟩
theorem beg_oth (cl:Nat->List Cl) (r:Rp) (K:List Int) {i k:Nat}(ii:Nat) (hk:k≠i):Oth r (rs cl r ⟨i,-1,9,ii,0⟩) K K k:=by
 by_cases h:poOf cl i ii=1
 ·rw[rs_begin1 ii h]
  refine ⟨?_,?_,fun x hx=>?_,fun ht=>?_,fun hq=>?_,up_same K,rfl⟩
  ·show upd r.call i ii k=_;rw[upd_ne _ _ hk]
  ·show upd r.count i 0 k=_;rw[upd_ne _ _ hk]
  ·show x∈upd r.seen i [r.total] k;rw[upd_ne _ _ hk];exact hx
  ·show r.total∈upd r.seen i [r.total] k;rw[upd_ne _ _ hk];exact ht
  ·have hq:upd (fun _=>false) i (r.busy+1==0) k=true:=hq
   rw[upd_ne _ _ hk] at hq;cases hq
 ·rw[rs_begin ii h]
  refine ⟨?_,?_,fun x hx=>?_,fun ht=>?_,fun hq=>?_,up_same K,rfl⟩
  ·show upd r.call i ii k=_;rw[upd_ne _ _ hk]
  ·show upd r.count i 0 k=_;rw[upd_ne _ _ hk]
  ·show x∈upd r.seen i [r.total] k;rw[upd_ne _ _ hk];exact hx
  ·show r.total∈upd r.seen i [r.total] k;rw[upd_ne _ _ hk];exact ht
  ·have hq:upd r.quiet i (r.busy==0) k=true:=hq
   rw[upd_ne _ _ hk] at hq;exact ⟨hq,rfl⟩
theorem end_oth (cl:Nat->List Cl) (r:Rp) (K:List Int) {i k:Nat}(ii:Nat) (e:Int) (hk:k≠i):Oth r (rs cl r ⟨i,-1,10,ii,e⟩) K K k:=by
 rw[rs_end ii e]
 exact ⟨by show upd r.call i ii k=_;rw[upd_ne _ _ hk],rfl,fun _ h=>h,fun h=>h,fun h=>⟨h,rfl⟩,up_same K,rfl⟩
theorem look_oth (r:Rp) (K:List Int) {i k:Nat}(hk:k≠i):Oth r { r with count:=upd r.count i (r.count i+1) } K K k :=
 ⟨rfl,by show upd r.count i (r.count i+1) k=_;rw[upd_ne _ _ hk],fun _ h=>h,fun h=>h,fun h=>⟨h,rfl⟩,up_same K,rfl⟩
theorem mcC_ans {s i:Nat}{c:Cl}{e x:Int}(h:(mcC s).start i c=.ans e x):e=1∧x=0∧c.po≠1∧c.po≠2:=by
 unfold mcC at h
 simp only at h
 split at h
 ·cases h
 ·split at h
  ·cases h
  ·cases h
   exact ⟨rfl,rfl,by assumption,by assumption⟩
theorem mcC_turn {s i:Nat}{c:Cl}{op:Int}{j:Nat}{q:Q}(h:(mcC s).start i c=.turn op j q):op=1∧((c.po=1∧j=i % s∧q=(0,[((i % s:Nat):Int),c.ca.tmod 1000]))∨(c.po=2∧j=0∧q=(2,[]))):=by
 unfold mcC at h
 simp only at h
 split at h
 ·cases h
  exact ⟨rfl,.inl ⟨by assumption,rfl,rfl⟩⟩
 ·split at h
  ·cases h
   exact ⟨rfl,.inr ⟨by assumption,rfl,rfl⟩⟩
  ·cases h
theorem mcC_wait {s i:Nat}{c:Cl}{j:Nat}{q:Q}:(mcC s).start i c≠.wait j q:=fun h=>by
 unfold mcC at h
 simp only at h
 split at h
 ·cases h
 ·split at h<;>cases h
def XOk (cl:Nat->List Cl) (i ii:Nat) (l:Ph) (st:Stp):Prop:=(st.op=9∨st.op=10)∧∃ (k:Nat) (c:Cl),st.th=i∧st.ol=k∧ii≤k∧(cl i)[k]? = some c∧(st.op=10->k<upC (cl i) l∧c.po≠1∧c.po≠2)
structure FwOk (s:Nat) (cl:Nat->List Cl) (i ii:Nat) (ans:List (Int×Int)) (r r':Rp) (K:List Int) (X:List Stp) (l:Ph):Prop where
 seat:CSeat s (cl i) r' K i l
 oth:∀ k,k≠i->Oth r r' K K k
 busy:r'.busy=r.busy+inA l
 qb:∀ k,r'.quiet k=true->r'.busy=0
 tot:r'.total=r.total
 len:l.ans.length=(cl i).length
 xs:∀ st∈X,XOk cl i ii l st
 up:ii≤upC (cl i) l
 old:∀ k,k<ii->l.ans[k]? = ans[k]?
theorem fw_ctr {s:Nat}(h0:0<s) {cl:Nat->List Cl}{i:Nat}{rest:List Cl}{ii:Nat}{sk:Bool}{ans:List (Int×Int)}{X:List Stp}{l:Ph}(h:Fw (mcC s) i false rest ii sk ans X l) :
 ∀ (r:Rp) (K:List Int),rest=(cl i).drop ii->ii≤(cl i).length->ans.length=(cl i).length->sk=false->0≤r.busy->(∀ k,r.quiet k=true->r.busy=0)->FwOk s cl i ii ans r (X.foldl (rs cl) r) K X l:=by
 induction h with
 |@nil ii sk ans =>
  intro r K hr hl ha hs hb hq
  have e:ii=(cl i).length:=by
   have:=congrArg List.length hr
   simp at this
   omega
  exact ⟨trivial,fun k _=>Oth.refl r K k,by show r.busy=r.busy+0;omega,hq,rfl,ha,fun st hs=>(nomatch hs),by show ii≤(cl i).length;exact hl,fun k _=>rfl⟩
 |skip _ _ =>
  intro r K hr hl ha hs hb hq
  cases hs
 |@ans c rest ii ans X l e x hst h ih =>
  intro r K hr hl ha hs hb hq
  have hlt:ii<(cl i).length:=by
   have:=congrArg List.length hr
   simp at this
   omega
  have hc:(cl i)[ii]? = some c:=by
   have:((cl i).drop ii)[0]? = some c:=by rw[←hr];rfl
   simpa using this
  have hr':rest=(cl i).drop (ii+1):=by
   have:=congrArg List.tail hr
   simpa [List.tail_drop] using this
  obtain ⟨rfl,rfl,p1,p2⟩:=mcC_ans hst
  have hpo:poOf cl i ii≠1:=by rw[(po_of hc).1];exact p1
  have e1:=rs_begin (cl:=cl) (r:=r) (i:=i) ii hpo
  have e2:=rs_end (cl:=cl) (r:=rs cl r ⟨i,-1,9,ii,0⟩) (i:=i) ii 1
  have hb2:(rs cl (rs cl r ⟨i,-1,9,ii,0⟩) ⟨i,-1,10,ii,1⟩).busy=r.busy:=by rw[e2,e1];simp[hpo]
  have hq2:∀ k,(rs cl (rs cl r ⟨i,-1,9,ii,0⟩) ⟨i,-1,10,ii,1⟩).quiet k=true->r.busy=0:=fun k hk=>by
   rw[e2,e1] at hk
   have hk:upd r.quiet i (r.busy==0) k=true:=hk
   by_cases hki:k=i
   ·subst hki
    rw[upd_same] at hk
    simpa using hk
   ·rw[upd_ne _ _ hki] at hk
    exact hq k hk
  have ht2:(rs cl (rs cl r ⟨i,-1,9,ii,0⟩) ⟨i,-1,10,ii,1⟩).total=r.total:=by rw[e2,e1]
  have f:=ih (rs cl (rs cl r ⟨i,-1,9,ii,0⟩) ⟨i,-1,10,ii,1⟩) K hr' (by omega) (by simpa using ha) rfl (by rw[hb2];exact hb) (fun k hk=>by rw[hb2];exact hq2 k hk)
  refine ⟨f.seat,fun k hk=>((beg_oth cl r K ii hk).trans (end_oth cl _ K ii 1 hk)).trans (f.oth k hk),by rw[←hb2];exact f.busy,f.qb,f.tot.trans ht2,f.len,fun st hs=>?_,by have:=f.up;omega,fun k hk=>?_⟩
  ·simp only[List.mem_cons] at hs
   rcases hs with rfl|rfl|hs
   ·exact ⟨.inl rfl,ii,c,rfl,rfl,Nat.le_refl _,hc,fun h=>absurd (show (9:Int)=10 from h) (by decide)⟩
   ·exact ⟨.inr rfl,ii,c,rfl,rfl,Nat.le_refl _,hc,fun _=>⟨by have:=f.up;omega,p1,p2⟩⟩
   ·obtain ⟨a1,k,c',a2,a3,a4,a5,a6⟩:=f.xs st hs
    exact ⟨a1,k,c',a2,a3,by omega,a5,a6⟩
  ·rw[f.old k (by omega),List.getElem?_set,if_neg (by omega)]
 |@turn c rest ii ans op j q hst =>
  intro r K hr hl ha hs hb hq
  have hlt:ii<(cl i).length:=by
   have:=congrArg List.length hr
   simp at this
   omega
  have hc:(cl i)[ii]? = some c:=by
   have:((cl i).drop ii)[0]? = some c:=by rw[←hr];rfl
   simpa using this
  have hr':rest=(cl i).drop (ii+1):=by
   have:=congrArg List.tail hr
   simpa [List.tail_drop] using this
  obtain ⟨rfl,hst'⟩:=mcC_turn hst
  have hxs:∀ st∈[(⟨i,-1,9,ii,0⟩:Stp)],XOk cl i ii (.turn 1 j q rest ii ans) st:=fun st hs=>by
   simp only[List.mem_singleton] at hs
   subst hs
   exact ⟨.inl rfl,ii,c,rfl,rfl,Nat.le_refl _,hc,fun h=>absurd (show (9:Int)=10 from h) (by decide)⟩
  rcases hst' with ⟨p1,rfl,rfl⟩|⟨p2,rfl,rfl⟩
  ·have hpo:poOf cl i ii=1:=by rw[(po_of hc).1];exact p1
   have e1:=rs_begin1 (cl:=cl) (r:=r) (i:=i) ii hpo
   refine ⟨?_,fun k hk=>beg_oth cl r K ii hk,?_,fun k hk=>?_,?_,ha,hxs,Nat.le_refl _,fun k _=>rfl⟩
   ·show CSeat s (cl i) (rs cl r ⟨i,-1,9,ii,0⟩) K i _
    rw[e1]
    refine ⟨hr',by show upd r.call i ii i=ii;rw[upd_same],by show r.total∈upd r.seen i [r.total] i;rw[upd_same];simp,by simp[clC,-Int.natCast_emod],c,hc,.inl ⟨p1,rfl,rfl⟩⟩
   ·show (rs cl r ⟨i,-1,9,ii,0⟩).busy=_
    rw[e1];rfl
   ·have hk:(rs cl r ⟨i,-1,9,ii,0⟩).quiet k=true:=hk
    rw[e1] at hk
    have hk:upd (fun _=>false) i (r.busy+1==0) k=true:=hk
    exfalso
    by_cases hki:k=i
    ·subst hki
     rw[upd_same] at hk
     have:r.busy+1=0:=by simpa using hk
     omega
    ·rw[upd_ne _ _ hki] at hk;cases hk
   ·show (rs cl r ⟨i,-1,9,ii,0⟩).total=_
    rw[e1]
  ·have hpo:poOf cl i ii≠1:=by rw[(po_of hc).1,p2];decide
   have e1:=rs_begin (cl:=cl) (r:=r) (i:=i) ii hpo
   refine ⟨?_,fun k hk=>beg_oth cl r K ii hk,?_,fun k hk=>?_,?_,ha,hxs,Nat.le_refl _,fun k _=>rfl⟩
   ·show CSeat s (cl i) (rs cl r ⟨i,-1,9,ii,0⟩) K i _
    rw[e1]
    refine ⟨hr',by show upd r.call i ii i=ii;rw[upd_same],by show r.total∈upd r.seen i [r.total] i;rw[upd_same];simp,by simp[clC],c,hc,.inr (.inr (.inl ⟨p2,rfl,[],rfl,⟨h0,fun j x y hx _=>by simp at hx,fun _=>⟨?_,by simp⟩⟩⟩))⟩
    show upd r.count i 0 i=_
    rw[upd_same];rfl
   ·show (rs cl r ⟨i,-1,9,ii,0⟩).busy=_
    rw[e1]
    show r.busy=r.busy+((if (2:Nat)≤1 then 1 else 0:Nat):Int)
    simp
   ·have hk:(rs cl r ⟨i,-1,9,ii,0⟩).quiet k=true:=hk
    show (rs cl r ⟨i,-1,9,ii,0⟩).busy=0
    rw[e1] at hk ⊢
    have hk:upd r.quiet i (r.busy==0) k=true:=hk
    show r.busy=0
    by_cases hki:k=i
    ·subst hki
     rw[upd_same] at hk
     simpa using hk
    ·rw[upd_ne _ _ hki] at hk
     exact hq k hk
   ·show (rs cl r ⟨i,-1,9,ii,0⟩).total=_
    rw[e1]
 |wait hst _ =>
  intro r K hr hl ha hs hb hq
  exact absurd hst mcC_wait
 |waits hst hs' _ _ =>
  intro r K hr hl ha hs hb hq
  exact absurd hst mcC_wait
def sumT (N:Nat) (g:Nat->Ph->Nat) (l:Nat->Ph):Nat:=((List.range N).map fun i=>g i (l i)).sum
theorem sumT_upd {N:Nat}(g:Nat->Ph->Nat) (l:Nat->Ph) {i:Nat}(hi:i<N) (l':Ph):sumT N g (upd l i l')+g i (l i)=sumT N g l+g i l':=by
 unfold sumT
 induction N with
 |zero=>omega
 |succ N ih =>
  rw[List.range_succ,List.map_append,List.map_append,List.sum_append,List.sum_append]
  simp only[List.map_cons,List.map_nil,List.sum_cons,List.sum_nil,Nat.add_zero]
  by_cases hk:i=N
  ·subst hk
   rw[upd_same]
   have e1:(List.range i).map (fun k=>g k (upd l i l' k))=(List.range i).map (fun k=>g k (l k)):=List.map_congr_left fun k hk=>by
    have:k<i:=List.mem_range.1 hk
    rw[upd_ne _ _ (by omega)]
   rw[e1]
   omega
  ·have:=ih (by omega)
   rw[upd_ne _ _ (fun x=>hk x.symm)]
   omega
theorem sumT_le {N:Nat}(g:Nat->Ph->Nat) (l:Nat->Ph) {i:Nat}(hi:i<N):g i (l i)≤sumT N g l:=by
 unfold sumT
 induction N with
 |zero=>omega
 |succ N ih =>
  rw[List.range_succ,List.map_append,List.sum_append]
  simp only[List.map_cons,List.map_nil,List.sum_cons,List.sum_nil,Nat.add_zero]
  by_cases hk:i=N
  ·subst hk;omega
  ·have:=ih (by omega);omega
theorem sumT_mono {N:Nat}(g h:Nat->Ph->Nat) (l l':Nat->Ph) (hh:∀ i,i<N->g i (l i)≤h i (l' i)):sumT N g l≤sumT N h l':=by
 unfold sumT
 induction N with
 |zero=>simp
 |succ N ih =>
  rw[List.range_succ,List.map_append,List.map_append,List.sum_append,List.sum_append]
  simp only[List.map_cons,List.map_nil,List.sum_cons,List.sum_nil,Nat.add_zero]
  have:=ih (fun i hi=>hh i (by omega))
  have:=hh N (by omega)
  omega
def busyN (N:Nat) (l:Nat->Ph):Nat:=sumT N (fun _=>inA) l
def doneN (N:Nat) (cl:Nat->List Cl) (l:Nat->Ph):Nat:=sumT N (fun i=>upC (cl i)) l
def StC (N s:Nat) (cl:Nat->List Cl) (l:Nat->Ph) (A:List Stp) (st:Stp):Prop :=
 ∃ i:Nat,st.th=i∧i<N∧(st.op=9->∃ ii:Nat,st.ol=ii∧ii<(cl i).length) ∧
   (st.op=10->∃ (ii:Nat) (c:Cl),st.ol=ii∧(cl i)[ii]? = some c∧ii<upC (cl i) (l i)∧(c.po=2->∀ a,(l i).ans[ii]? = some a->a.2∈(rep cl A).seen i∧((rep cl A).quiet i=true->(rep cl A).count i=2*s)))
def EndsC (N s:Nat) (cl:Nat->List Cl) (l:Nat->Ph) (L:List Stp):Prop:=∀ A st B,L=A++st :: B->StC N s cl l A st
def Stay (N:Nat) (cl:Nat->List Cl) (l l':Nat->Ph):Prop:=∀ i,i<N->upC (cl i) (l i)≤upC (cl i) (l' i)∧∀ k,k<upC (cl i) (l i)->(l' i).ans[k]? = (l i).ans[k]?
theorem StC.stay {N s:Nat}{cl:Nat->List Cl}{l l':Nat->Ph}{A:List Stp}{st:Stp}(h:StC N s cl l A st) (k:Stay N cl l l'):StC N s cl l' A st:=by
 obtain ⟨i,h1,h2,h3,h4⟩:=h
 obtain ⟨k1,k2⟩:=k i h2
 refine ⟨i,h1,h2,h3,fun e=>?_⟩
 obtain ⟨ii,c,a1,a2,a3,a4⟩:=h4 e
 exact ⟨ii,c,a1,a2,by omega,fun p a ha=>a4 p a (by rw[←k2 ii a3];exact ha)⟩
theorem EndsC.one {N s:Nat}{cl:Nat->List Cl}{l:Nat->Ph}{L:List Stp}(h:EndsC N s cl l L) {st:Stp}(hs:StC N s cl l L st):EndsC N s cl l (L++[st]):=fun A x B e=>by
 rcases List.append_eq_append_iff.1 e with ⟨A',e1,e2⟩|⟨A',e1,e2⟩
 ·cases A' with
  |nil =>
   simp at e1 e2
   obtain ⟨rfl,_⟩:=e2
   rw[e1]
   exact hs
  |cons y ys=>simp at e2
 ·cases A' with
  |nil =>
   simp at e1 e2
   obtain ⟨rfl,_⟩:=e2
   rw[←e1]
   exact hs
  |cons y ys =>
   simp at e2
   obtain ⟨rfl,_⟩:=e2
   exact h A x ys e1
theorem EndsC.more {N s:Nat}{cl:Nat->List Cl}{l:Nat->Ph}:∀ (X:List Stp) {L:List Stp},EndsC N s cl l L->(∀ A st,st∈X->StC N s cl l A st)->EndsC N s cl l (L++X)
 | [],L,h,_=>by rw[List.append_nil];exact h
 |st :: X,L,h,hX=>by
  have:=EndsC.more X (h.one (hX L st (List.mem_cons_self ..))) (fun A x hx=>hX A x (List.mem_cons_of_mem _ hx))
  rw[List.append_assoc,List.singleton_append] at this
  exact this
theorem xok_stc {N s:Nat}{cl:Nat->List Cl}{l:Nat->Ph}{i ii:Nat}(hi:i<N) {st:Stp}(h:XOk cl i ii (l i) st) (A:List Stp):StC N s cl l A st:=by
 obtain ⟨h1,k,c,h2,h3,h4,h5,h6⟩:=h
 refine ⟨i,h2,hi,fun _=>⟨k,h3,(List.getElem?_eq_some_iff.1 h5).1⟩,fun e=>?_⟩
 obtain ⟨a1,a2,a3⟩:=h6 e
 exact ⟨k,c,h3,h5,a1,fun p=>absurd p a3⟩
structure CI (N s:Nat) (cl:Nat->List Cl) (v:Vw):Prop where
 kl:v.K.length=s
 stk:v.stk=false
 seat:∀ i,i<N->CSeat s (cl i) (rep cl v.L) v.K i (v.l i)
 alen:∀ i,i<N->(v.l i).ans.length=(cl i).length
 busy:(rep cl v.L).busy=busyN N v.l
 qb:∀ i,(rep cl v.L).quiet i=true->(rep cl v.L).busy=0
 tot:(rep cl v.L).total=(v.K.map R1.amtS).sum
 sml:∀ x∈v.K,R1.ver x≤doneN N cl v.l∧-1000*(doneN N cl v.l:Int)≤R1.amtS x∧R1.amtS x≤1000*(doneN N cl v.l:Int)
 ends:EndsC N s cl v.l v.L
theorem CI.few {N s:Nat}{cl:Nat->List Cl}{v:Vw}(h:CI N s cl v) (hc:((List.range N).map fun i=>(cl i).length).sum≤512):doneN N cl v.l≤512:=by
 refine Nat.le_trans ?_ hc
 refine sumT_mono (fun i=>upC (cl i)) (fun i _=>(cl i).length) v.l v.l (fun i hi=>?_)
 have hs:=h.seat i hi
 cases hl:v.l i with
 |done a=>exact Nat.le_refl _
 |wait j q r k a=>rw[hl] at hs;exact hs.elim
 |turn op j q r k a =>
  rw[hl] at hs
  obtain ⟨_,_,_,_,c,hc,_⟩:=hs
  exact Nat.le_of_lt (List.getElem?_eq_some_iff.1 hc).1
theorem CI.totI {N s:Nat}{cl:Nat->List Cl}{v:Vw}(h:CI N s cl v) (h16:s≤16) (hd:doneN N cl v.l≤512):R1.totI v.K=(rep cl v.L).total:=by
 rw[h.tot]
 exact R1.totI_is v.K (fun x hx=>by have:=h.sml x hx;omega) (by rw[h.kl];exact h16)
theorem CI.stays {N s:Nat}{cl:Nat->List Cl}{v v1:Vw}(h:CI N s cl v) {i:Nat}(hi:i<N) {op:Int}{j:Nat}{q:Q}{rest:List Cl}{ii:Nat}{ans:List (Int×Int)}(hl:v.l i=.turn op j q rest ii ans) {op':Int}{j':Nat}{q':Q}{x:Int}
 (e:Els i (.turn op' j' q' rest ii ans) v v1) (hK:v1.K=v.K) (hst:v1.stk=v.stk) (hL:v1.L=v.L++[⟨i,j,op,x,x⟩]) (hop:op=1∨op=4) (hin:inA (.turn op' j' q' rest ii ans)=inA (v.l i))
 (hs:CSeat s (cl i) { rep cl v.L with count:=upd (rep cl v.L).count i ((rep cl v.L).count i+1) } v.K i (.turn op' j' q' rest ii ans)):CI N s cl v1:=by
 have hr:rep cl v1.L={ rep cl v.L with count:=upd (rep cl v.L).count i ((rep cl v.L).count i+1) }:=by
  rw[hL,rep_one]
  rcases hop with rfl|rfl
  ·exact rs_look j x
  ·exact rs_vain j x
 have hu:upC (cl i) (.turn op' j' q' rest ii ans)=upC (cl i) (v.l i):=by rw[hl];rfl
 have hdn:doneN N cl v1.l=doneN N cl v.l:=by
  have:=sumT_upd (fun i=>upC (cl i)) v.l hi (.turn op' j' q' rest ii ans)
  unfold doneN
  rw[e.l]
  omega
 have hbn:busyN N v1.l=busyN N v.l:=by
  have:=sumT_upd (fun _=>inA) v.l hi (.turn op' j' q' rest ii ans)
  unfold busyN
  rw[e.l]
  omega
 have hsty:Stay N cl v.l v1.l:=fun k hk=>by
  rw[e.l]
  by_cases hne:k=i
  ·subst hne
   rw[upd_same]
   exact ⟨Nat.le_of_eq hu.symm,fun m _=>by rw[hl];rfl⟩
  ·rw[upd_ne _ _ hne];exact ⟨Nat.le_refl _,fun _ _=>rfl⟩
 refine ⟨by rw[hK];exact h.kl,by rw[hst];exact h.stk,fun k hk=>?_,fun k hk=>?_,by rw[hr,hbn];exact h.busy,fun k hk=>by rw[hr] at hk ⊢;exact h.qb k hk,by rw[hr,hK];exact h.tot,by rw[hK,hdn];exact h.sml,?_⟩
 ·rw[hr,hK,e.l]
  by_cases hne:k=i
  ·subst hne;rw[upd_same];exact hs
  ·rw[upd_ne _ _ hne];exact (h.seat k hk).oth (look_oth _ _ hne)
 ·rw[e.l]
  by_cases hne:k=i
  ·subst hne
   rw[upd_same]
   have:=h.alen k hk
   rw[hl] at this
   exact this
  ·rw[upd_ne _ _ hne];exact h.alen k hk
 ·rw[hL]
  refine EndsC.one (fun A st B e'=>(h.ends A st B e').stay hsty) ⟨i,rfl,hi,fun e9=>?_,fun e10=>?_⟩
  ·have e9:op=9:=e9
   rcases hop with rfl|rfl<;>simp at e9
  ·have e10:op=10:=e10
   rcases hop with rfl|rfl<;>simp at e10
end Go.Proofs.YtcfmffmcammbjaaDoor.Gen
