/- Of the proof of CounterTimes. Part 13 of 31. (Joined, by program, and written short, of: GMeasF, GViewF.) -/
import Derived.Test.YtfjjoohflcchnaaDoorCounterTimes11
import Derived.Test.YtfjjoohflcchnaaDoorCounterTimes12
set_option linter.unusedSimpArgs false
set_option linter.unusedVariables false
set_option maxHeartbeats 4000000
set_option maxRecDepth 100000
namespace Go.Proofs.YtfjjoohflcchnaaDoor.Gen.Mf
open Go Go.Lift Go.Conc Go.RowKit
open Go.ConcN (upd upd_same upd_ne)
def seatOk (L:Nat) (lev:Q→Nat) (cl:Q→Nat) (wq:Q→Prop):Nx→Prop
 |.ans _ _=>True
 |.turn _ j q=>1≤lev q∧lev q≤L∧j=cl q
 |.wait _ q=>1≤lev q∧lev q≤L∧wq q
def nlev (lev:Q→Nat):Nx→Nat
 |.ans _ _=>0
 |.turn _ _ q=>lev q
 |.wait _ q=>lev q
structure Met (mc:Mc) where
 L:Nat
 hL:1≤L
 lev:Q→Nat
 ws:Q→(Nat→Int)→Nat
 cl:Q→Nat
 wq:Q→Prop
 ws_le:∀ q f,ws q f≤65
 start:∀ i c,seatOk L lev cl wq (mc.start i c)
 turn:∀ q (f:Nat→Int) x,f (cl q)=x→1≤lev q→lev q≤L→seatOk L lev cl wq (mc.turn q x).2.2∧(nlev lev (mc.turn q x).2.2<lev q∨((mc.turn q x).1.1=(mc.turn q x).1.2∧(mc.turn q x).2.1=x∧nlev lev (mc.turn q x).2.2=lev q ∧
  match (mc.turn q x).2.2 with
  |.ans _ _=>False
  |.turn _ _ q'=>ws q' f+1≤ws q f
  |.wait _ _=>1≤ws q f))
 woke:∀ q,1≤lev q→lev q≤L→wq q→seatOk L lev cl wq (mc.woke q)∧(nlev lev (mc.woke q)<lev q∨(nlev lev (mc.woke q)=lev q ∧
  match mc.woke q with
  |.ans _ _=>False
  |.turn _ _ q'=>∀ y,ws q' y≤1
  |.wait _ _=>True))
section
variable {mc:Mc} (M:Met mc)
def tot:Ph→Nat
 |.turn _ _ q rest _ _=>M.L*rest.length+M.lev q
 |.wait _ q rest _ _=>M.L*rest.length+M.lev q
 |.done _=>0
def sw (S:TS) (K:List (Nat×Int)) (t:Thr):Ph→Nat
 |.turn _ _ q _ _ _=>M.ws q (fun k=>(cellAt K k).2)
 |.wait _ _ _ _ _=>if chgOf S.chg t.ce=t.se then 0 else 2
 |.done _=>0
def sits:Ph→Prop
 |.turn _ j q _ _ _=>1≤M.lev q∧M.lev q≤M.L∧j=M.cl q
 |.wait _ q _ _ _=>1≤M.lev q∧M.lev q≤M.L∧M.wq q
 |.done _=>True
theorem sw_le (S:TS) (K:List (Nat×Int)) (t:Thr) (l:Ph):sw M S K t l≤65:=by
 cases l with
 |turn op j q r i a=>exact M.ws_le _ _
 |wait j q r i a=>show (if _ then 0 else 2)≤65;split<;>omega
 |done a=>exact Nat.zero_le _
def wtI (p:PSt) (i:Nat):Nat:=600*tot M (p.l i)+sw M p.S p.K (thrI p.S i) (p.l i)
def mu (p:PSt):Nat:=(if p.S.stk then 0 else 1)+((List.range p.S.thr.length).map (wtI M p)).sum
structure Gd (p:PSt):Prop where
 len:p.S.thr.length≤8
 sit:∀ i t,p.S.thr[i]? = some t→FitsN (p.l i) t∧StN (p.l i) t∧sits M (p.l i)
theorem sum_le (f g:Nat→Nat) (e:Nat):∀ k,(∀ j,j<k→g j≤f j+e)→((List.range k).map g).sum≤((List.range k).map f).sum+e*k
 |0,_=>by simp
 |k+1,h=>by
  have:=sum_le f g e k (fun j hj=>h j (by omega))
  have h1:=h k (by omega)
  rw [List.range_succ,List.map_append,List.map_append,List.sum_append,List.sum_append,Nat.mul_succ]
  simp only [List.map_cons,List.map_nil,List.sum_cons,List.sum_nil]
  omega
theorem sum_drop (f g:Nat→Nat) (e d i:Nat):∀ k,i<k→(∀ j,j<k→j≠i→g j≤f j+e)→g i+d≤f i→((List.range k).map g).sum+d≤((List.range k).map f).sum+e*k
 |k+1,hi,h,hd=>by
  rw [List.range_succ,List.map_append,List.map_append,List.sum_append,List.sum_append,Nat.mul_succ]
  simp only [List.map_cons,List.map_nil,List.sum_cons,List.sum_nil]
  by_cases hk:i=k
  ·subst hk
   have:=sum_le f g e i (fun j hj=>h j (by omega) (by omega))
   omega
  ·have:=sum_drop f g e d i k (by omega) (fun j hj hn=>h j (by omega) hn) hd
   have h1:=h k (by omega) (fun e=>hk e.symm)
   omega
theorem flow_tot (i:Nat):∀ (rest:List Cl) (ii:Nat) (sk:Bool) (ans:List (Int×Int)) (S:TS),tot M (flow i mc rest ii sk ans S).2≤M.L*rest.length∧(flow i mc rest ii sk ans S).1.n+2*tot M (flow i mc rest ii sk ans S).2≤S.n+2*(M.L*rest.length)+1∧(flow i mc rest ii sk ans S).1.chg=S.chg∧sits M (flow i mc rest ii sk ans S).2
 | [],ii,sk,ans,S=>by cases sk<;>exact ⟨Nat.zero_le _,by show S.n+2*0≤_;omega,rfl,trivial⟩
 |c :: rest,ii,true,ans,S=>by
  have:=flow_tot i rest (ii+1) true (ans.set ii (4,0)) S
  have e:flow i mc (c :: rest) ii true ans S=flow i mc rest (ii+1) true (ans.set ii (4,0)) S:=rfl
  have hL:=M.hL
  rw [e,List.length_cons,Nat.mul_succ]
  exact ⟨by omega,by omega,this.2.2⟩
 |c :: rest,ii,false,ans,S=>by
  have hs:=M.start i c
  have hL:=M.hL
  rw [List.length_cons,Nat.mul_succ]
  unfold flow
  cases h:mc.start i c with
  |ans e x =>
   have:=flow_tot i rest (ii+1) (e==4) (ans.set ii (e,x)) (noted (noted S undef i 9 (-1) ii 0) undef i 10 (-1) ii e)
   have en:(noted (noted S undef i 9 (-1) ii 0) undef i 10 (-1) ii e).n=S.n+2:=rfl
   rw [en] at this
   simp only
   exact ⟨by omega,by omega,this.2.2⟩
  |turn op j q =>
   rw [h] at hs
   obtain ⟨h1,h2,h3⟩:=hs
   refine ⟨?_,?_,rfl,h1,h2,h3⟩
   ·show M.L*rest.length+M.lev q≤_
    omega
   ·show S.n+1+2*(M.L*rest.length+M.lev q)≤_
    omega
  |wait j q =>
   rw [h] at hs
   obtain ⟨h1,h2,h3⟩:=hs
   simp only
   split
   ·have:=flow_tot i rest (ii+1) ((mc.stuck q).1==4) (ans.set ii (mc.stuck q)) (noted (noted S undef i 9 (-1) ii 0) undef i 10 (-1) ii (mc.stuck q).1)
    have en:(noted (noted S undef i 9 (-1) ii 0) undef i 10 (-1) ii (mc.stuck q).1).n=S.n+2:=rfl
    rw [en] at this
    exact ⟨by omega,by omega,this.2.2⟩
   ·refine ⟨?_,?_,rfl,h1,h2,h3⟩
    ·show M.L*rest.length+M.lev q≤_
     omega
    ·show S.n+1+2*(M.L*rest.length+M.lev q)≤_
     omega
theorem did_n (S:TS) (tv:Value) (i:Nat) (t:Thr) (b a:Int):(didS S tv i t b a).n=S.n+1:=by
 unfold didS;split<;>rfl
theorem did_same (S:TS) (tv:Value) (i:Nat) (t:Thr) (b:Int):didS S tv i t b b=noted S tv i t.op t.ce b b:=by
 unfold didS;rw [if_neg (fun h=>h.1 rfl)]
theorem set_cell (K:List (Nat×Int)) (j:Nat):K.set j ((cellAt K j).1,(cellAt K j).2)=K:=by
 apply List.ext_getElem?
 intro k
 rw [List.getElem?_set]
 split
 ·rename_i e
  subst e
  split
  ·rename_i h
   unfold cellAt
   rw [List.getElem?_eq_getElem h]
   rfl
  ·rename_i h
   rw [List.getElem?_eq_none (by omega)]
 ·rfl
def Pro (i:Nat) (l:Ph) (S:TS) (K:List (Nat×Int)) (w:Nat) (R:TS×List (Nat×Int)×Ph):Prop :=
 sits M R.2.2∧((R.1.chg=S.chg∧R.2.1=K∧R.1.n≤S.n+1∧tot M R.2.2=tot M l∧sw M R.1 K (thrI R.1 i) R.2.2+1≤w) ∨
  (tot M R.2.2+1≤tot M l∧R.1.n+2*tot M R.2.2≤S.n+2*tot M l+1))
theorem back_pro (i:Nat) (l:Ph) (S S1:TS) (K K1:List (Nat×Int)) (w:Nat) (rest:List Cl) (ii:Nat) (ans:List (Int×Int)) (a:Int×Int) (hl:M.L*rest.length+1≤tot M l) (hn:S1.n≤S.n+1):Pro M i l S K w (back i mc rest ii ans a S1 K1):=by
 have:=flow_tot M i rest (ii+1) (a.1==4) (ans.set ii a) (noted S1 undef i 10 (-1) ii a.1)
 have en:(noted S1 undef i 10 (-1) ii a.1).n=S1.n+1:=rfl
 rw [en] at this
 obtain ⟨h1,h2,h3,h4⟩:=this
 exact ⟨h4,.inr ⟨by show tot M (flow i mc rest (ii+1) (a.1==4) (ans.set ii a) (noted S1 undef i 10 (-1) ii a.1)).2+1≤_;omega,by show (flow i mc rest (ii+1) (a.1==4) (ans.set ii a) (noted S1 undef i 10 (-1) ii a.1)).1.n+2*tot M (flow i mc rest (ii+1) (a.1==4) (ans.set ii a) (noted S1 undef i 10 (-1) ii a.1)).2≤_;omega⟩⟩
theorem resume_pro (i:Nat) (l:Ph) (S:TS) (K:List (Nat×Int)) (t:Thr) (ht:S.thr[i]? = some t) (hl:∀ a,l≠.done a) (hs:sits M l) (hr:∀ j q r k a,l=.wait j q r k a→S.stk=true∨chgOf S.chg t.ce≠t.se):Pro M i l S K (sw M S K t l) (resume i mc l S K):=by
 have eth:thrI S i=t:=thrI_of ht
 match l,hl,hs,hr with
 |.done a,hl,_,_=>exact absurd rfl (hl a)
 |.turn op j q rest ii ans,_,hs,_ =>
  obtain ⟨s1,s2,s3⟩:=hs
  rw [resume_turn]
  have hx:(cellAt K j).2=(cellAt K j).2:=rfl
  generalize hxx:(cellAt K j).2=x at *
  obtain ⟨hok,hp⟩:=M.turn q (fun k=>(cellAt K k).2) x (by show (cellAt K (M.cl q)).2=x;rw [←s3];exact hxx) s1 s2
  have hsw:sw M S K t (.turn op j q rest ii ans)=M.ws q (fun k=>(cellAt K k).2):=rfl
  rw [hsw]
  cases hnx:(mc.turn q x).2.2 with
  |ans e y =>
   exact back_pro M i _ S _ K _ _ rest ii ans (e,y) (by show _≤M.L*rest.length+M.lev q;omega) (by rw [did_n];exact Nat.le_refl _)
  |turn op' j' q' =>
   rw [hnx] at hok hp
   obtain ⟨k1,k2,k3⟩:=hok
   refine ⟨⟨k1,k2,k3⟩,?_⟩
   rcases hp with hp|⟨e1,e2,e3,e5⟩
   ·right
    have hp:M.lev q'<M.lev q:=hp
    refine ⟨?_,?_⟩
    ·show M.L*rest.length+M.lev q'+1≤M.L*rest.length+M.lev q
     omega
    ·show (didS S undef i (thrI S i) (mc.turn q x).1.1 (mc.turn q x).1.2).n+2*(M.L*rest.length+M.lev q')≤S.n+2*(M.L*rest.length+M.lev q)+1
     rw [did_n]
     omega
   ·left
    have ek:K.set j ((cellAt K j).1,(mc.turn q x).2.1)=K:=by rw [e2,←hxx];exact set_cell K j
    have e3:M.lev q'=M.lev q:=e3
    refine ⟨?_,ek,?_,?_,?_⟩
    ·show (didS S undef i (thrI S i) (mc.turn q x).1.1 (mc.turn q x).1.2).chg=_
     rw [e1,did_same]
     rfl
    ·show (didS S undef i (thrI S i) (mc.turn q x).1.1 (mc.turn q x).1.2).n≤_
     rw [did_n]
     exact Nat.le_refl _
    ·show M.L*rest.length+M.lev q'=M.L*rest.length+M.lev q
     rw [e3]
    ·show M.ws q' (fun k=>(cellAt K k).2)+1≤_
     exact e5
  |wait j' q' =>
   rw [hnx] at hok hp
   obtain ⟨k1,k2,kq⟩:=hok
   rw [on_wait]
   split
   ·refine back_pro M i _ S _ K _ _ rest ii ans _ (by show _≤M.L*rest.length+M.lev q;omega) (by rw [did_n];exact Nat.le_refl _)
   ·refine ⟨⟨k1,k2,kq⟩,?_⟩
    rcases hp with hp|⟨e1,e2,e3,e5⟩
    ·right
     have hp:M.lev q'<M.lev q:=hp
     refine ⟨?_,?_⟩
     ·show M.L*rest.length+M.lev q'+1≤M.L*rest.length+M.lev q
      omega
     ·show (didS S undef i (thrI S i) (mc.turn q x).1.1 (mc.turn q x).1.2).n+2*(M.L*rest.length+M.lev q')≤S.n+2*(M.L*rest.length+M.lev q)+1
      rw [did_n]
      omega
    ·left
     have ek:K.set j ((cellAt K j).1,(mc.turn q x).2.1)=K:=by rw [e2,←hxx];exact set_cell K j
     have e3:M.lev q'=M.lev q:=e3
     refine ⟨?_,ek,?_,?_,?_⟩
     ·show (didS S undef i (thrI S i) (mc.turn q x).1.1 (mc.turn q x).1.2).chg=_
      rw [e1,did_same]
      rfl
     ·show (didS S undef i (thrI S i) (mc.turn q x).1.1 (mc.turn q x).1.2).n≤_
      rw [did_n]
      exact Nat.le_refl _
     ·show M.L*rest.length+M.lev q'=M.L*rest.length+M.lev q
      rw [e3]
     ·have e6:∀ S':TS,S'.thr[i]? = some t→sw M (waiting S' i (thrI S' i) 2 6 j') K (thrI (waiting S' i (thrI S' i) 2 6 j') i) (.wait j' q' rest ii ans)=0:=fun S' h'=>by
       have e7:thrI (waiting S' i (thrI S' i) 2 6 j') i={ t with st:=2,ce:=j',op:=6,se:=chgOf S'.chg j' }:=by
        rw [thrI_of h']
        exact thrI_of (set_get h')
       rw [e7]
       exact if_pos rfl
      rw [e6 _ (did_thr ht)]
      omega
 |.wait j q rest ii ans,_,hs,hr =>
  obtain ⟨s1,s2,sq⟩:=hs
  rw [resume_wait]
  split
  ·exact back_pro M i _ S _ K _ _ rest ii ans _ (by show _≤M.L*rest.length+M.lev q;omega) (Nat.le_succ _)
  ·rename_i hst
   have h2:sw M S K t (.wait j q rest ii ans)=2:=if_neg ((hr _ _ _ _ _ rfl).resolve_left (by simpa using hst))
   rw [h2]
   obtain ⟨hok,hp⟩:=M.woke q s1 s2 sq
   cases hnx:mc.woke q with
   |ans e y =>
    exact back_pro M i _ S _ K _ _ rest ii ans (e,y) (by show _≤M.L*rest.length+M.lev q;omega) (Nat.le_refl _)
   |turn op' j' q' =>
    rw [hnx] at hok hp
    obtain ⟨k1,k2,k3⟩:=hok
    refine ⟨⟨k1,k2,k3⟩,?_⟩
    rcases hp with hp|⟨e3,e5⟩
    ·right
     have hp:M.lev q'<M.lev q:=hp
     refine ⟨?_,?_⟩
     ·show M.L*rest.length+M.lev q'+1≤M.L*rest.length+M.lev q
      omega
     ·show S.n+1+2*(M.L*rest.length+M.lev q')≤S.n+2*(M.L*rest.length+M.lev q)+1
      omega
    ·left
     have e3:M.lev q'=M.lev q:=e3
     refine ⟨rfl,rfl,Nat.le_refl _,?_,?_⟩
     ·show M.L*rest.length+M.lev q'=M.L*rest.length+M.lev q
      rw [e3]
     ·show M.ws q' (fun k=>(cellAt K k).2)+1≤2
      have:=e5 (fun k=>(cellAt K k).2)
      omega
   |wait j' q' =>
    rw [hnx] at hok hp
    obtain ⟨k1,k2,kq⟩:=hok
    rw [on_wait]
    split
    ·exact back_pro M i _ S _ K _ _ rest ii ans _ (by show _≤M.L*rest.length+M.lev q;omega) (Nat.le_refl _)
    ·refine ⟨⟨k1,k2,kq⟩,?_⟩
     rcases hp with hp|⟨e3,_⟩
     ·right
      have hp:M.lev q'<M.lev q:=hp
      refine ⟨?_,?_⟩
      ·show M.L*rest.length+M.lev q'+1≤M.L*rest.length+M.lev q
       omega
      ·show S.n+1+2*(M.L*rest.length+M.lev q')≤S.n+2*(M.L*rest.length+M.lev q)+1
       omega
     ·left
      have e3:M.lev q'=M.lev q:=e3
      refine ⟨rfl,rfl,Nat.le_refl _,?_,?_⟩
      ·show M.L*rest.length+M.lev q'=M.L*rest.length+M.lev q
       rw [e3]
      ·have e7:thrI (waiting (noted S undef i 6 j 0 0) i (thrI (noted S undef i 6 j 0 0) i) 2 6 j') i={ t with st:=2,ce:=j',op:=6,se:=chgOf S.chg j' }:=by
        rw [show thrI (noted S undef i 6 j 0 0) i=t from thrI_of ht]
        exact thrI_of (set_get (S:=noted S undef i 6 j 0 0) ht)
       show (if chgOf S.chg (thrI (waiting (noted S undef i 6 j 0 0) i (thrI (noted S undef i 6 j 0 0) i) 2 6 j') i).ce=(thrI (waiting (noted S undef i 6 j 0 0) i (thrI (noted S undef i 6 j 0 0) i) 2 6 j') i).se then 0 else 2)+1≤2
       rw [e7,if_pos rfl]
       decide
theorem nextI_in {S:TS} (h:rdyIds S S.thr.length≠[]):∃ t,S.thr[nextI S]? = some t∧rdy S t=true:=by
 have h0:0<(rdyIds S S.thr.length).length:=List.length_pos_iff.2 h
 have h1:=pickAt_lt S h0
 have h2:nextI S∈rdyIds S S.thr.length:=by
  unfold nextI
  rw [List.getElem?_eq_getElem h1]
  exact List.getElem_mem h1
 unfold rdyIds at h2
 rw [List.mem_filter] at h2
 cases h3:S.thr[nextI S]? with
 |none=>rw [h3] at h2;cases h2.2
 |some t=>rw [h3] at h2;exact ⟨t,rfl,h2.2⟩
theorem going_thr {S:TS} {i:Nat} {t:Thr} (ht:S.thr[i]? = some t):(going S i t).thr[i]? = some { t with st:=0 }:=by
 have e:(picked S).thr=S.thr:=by unfold picked;split<;>rfl
 show ((picked S).thr.set i _)[i]? = _
 rw [e]
 exact set_get ht
theorem going_oth {S:TS} {i:Nat} {t:Thr} {j:Nat} (hj:j≠i):(going S i t).thr[j]? = S.thr[j]?:=by
 have e:(picked S).thr=S.thr:=by unfold picked;split<;>rfl
 show ((picked S).thr.set i _)[j]? = _
 rw [e,List.getElem?_set,if_neg (fun e=>hj e.symm)]
theorem going_len {S:TS} {i:Nat} {t:Thr}:(going S i t).thr.length=S.thr.length:=by
 have e:(picked S).thr=S.thr:=by unfold picked;split<;>rfl
 show ((picked S).thr.set i _).length=_
 rw [e,List.length_set]
theorem going_keeps {S:TS} {i:Nat} {t:Thr}:(going S i t).chg=S.chg∧(going S i t).stk=S.stk∧(going S i t).n=S.n∧(going S i t).tr=S.tr:=by
 have e:(picked S).chg=S.chg∧(picked S).stk=S.stk∧(picked S).n=S.n∧(picked S).tr=S.tr:=by unfold picked;split<;>exact ⟨rfl,rfl,rfl,rfl⟩
 exact e
theorem pturn_mu {p p1:PSt} (g:Gd M p) (e:pturn mc p=some p1):Gd M p1∧mu M p1<mu M p∧p1.S.n+mu M p1≤p.S.n+mu M p:=by
 unfold pturn at e
 split at e
 ·rename_i h0
  split at e
  ·rename_i hw
   cases e
   unfold waits2 at hw
   rw [List.any_eq_true] at hw
   obtain ⟨i,hi,hst⟩:=hw
   cases ht:p.S.thr[i]? with
   |none=>rw [ht] at hst;cases hst
   |some t =>
    rw [ht] at hst
    have hst:t.st=2:=by simpa using hst
    have hs:p.S.stk=false:=by
     cases hs:p.S.stk with
     |false=>rfl
     |true =>
      have:i∈rdyIds p.S p.S.thr.length:=by
       unfold rdyIds
       rw [List.mem_filter]
       exact ⟨hi,by rw [ht];simp [rdy,hst,hs]⟩
      rw [h0] at this;cases this
    have hmu:mu M ⟨stuckS p.S undef,p.K,p.l⟩+1=mu M p:=by
     unfold mu
     rw [hs]
     show 0+((List.range p.S.thr.length).map (wtI M ⟨stuckS p.S undef,p.K,p.l⟩)).sum+1=1+_
     have:wtI M ⟨stuckS p.S undef,p.K,p.l⟩=wtI M p:=rfl
     rw [this];omega
    refine ⟨⟨g.len,g.sit⟩,by omega,?_⟩
    show p.S.n+1+_≤_
    omega
  ·cases e
 ·rename_i h0
  obtain ⟨t,ht,hrd⟩:=nextI_in h0
  generalize hi:nextI p.S=i at ht e
  have eth:thrI p.S i=t:=thrI_of ht
  rw [eth] at e
  obtain ⟨hfit,hst,hsi⟩:=g.sit i t ht
  have hl:∀ a,p.l i≠.done a:=fun a ha=>by
   rw [ha] at hst
   have:t.st=3:=hst
   simp [rdy,this] at hrd
  have hk:=going_keeps (S:=p.S) (i:=i) (t:=t)
  have hgt:=going_thr ht
  have hw:∀ j q r k a,p.l i=.wait j q r k a→(going p.S i t).stk=true∨chgOf (going p.S i t).chg ({ t with st:=0 }:Thr).ce≠({ t with st:=0 }:Thr).se:=fun j q r k a hpl=>by
   rw [hpl] at hst
   have hst:t.st=2:=hst
   rw [hk.1,hk.2.1]
   have:p.S.stk=true∨¬ chgOf p.S.chg t.ce=t.se:=by simpa [rdy,hst] using hrd
   exact this
  have hm:=resume_pro M i (p.l i) (going p.S i t) p.K { t with st:=0 } hgt hl hsi hw
  have hg:=resume_fs i mc (going p.S i t) p.K { t with st:=0 } hgt (p.l i) hl
  have sta:=resume_sta i mc (p.l i) (going p.S i t) p.K
  generalize resume i mc (p.l i) (going p.S i t) p.K=R at e hm hg sta
  cases e
  have hilt:i<p.S.thr.length:=(List.getElem?_eq_some_iff.1 ht).1
  have hlen:R.1.thr.length=p.S.thr.length:=by rw [sta.len,going_len]
  have hoth:∀ j,j≠i→R.1.thr[j]? = p.S.thr[j]?:=fun j hj=>by rw [sta.oth j hj,going_oth hj]
  have hstk:R.1.stk=p.S.stk:=by rw [sta.stk,hk.2.1]
  have hwi:wtI M ⟨R.1,R.2.1,upd p.l i R.2.2⟩ i=600*tot M R.2.2+sw M R.1 R.2.1 (thrI R.1 i) R.2.2:=by
   show 600*tot M (upd p.l i R.2.2 i)+sw M R.1 R.2.1 (thrI R.1 i) (upd p.l i R.2.2 i)=_
   rw [upd_same]
  have hwi0:wtI M p i=600*tot M (p.l i)+sw M p.S p.K t (p.l i):=by unfold wtI;rw [eth]
  have hwt:sw M (going p.S i t) p.K { t with st:=0 } (p.l i)=sw M p.S p.K t (p.l i):=by
   cases p.l i with
   |turn _ _ _ _ _ _=>rfl
   |done _=>rfl
   |wait _ _ _ _ _=>show (if chgOf (going p.S i t).chg t.ce=t.se then 0 else 2)=if _ then 0 else 2;rw [hk.1]
  rw [hwt] at hm
  obtain ⟨hsit,hm⟩:=hm
  have hj:∀ j,j≠i→thrI R.1 j=thrI p.S j:=fun j hne=>by unfold thrI;rw [hoth j hne]
  have key:∃ d,1≤d∧R.1.n≤p.S.n+d∧((List.range R.1.thr.length).map (wtI M ⟨R.1,R.2.1,upd p.l i R.2.2⟩)).sum+d≤((List.range p.S.thr.length).map (wtI M p)).sum:=by
   rw [hlen]
   rcases hm with ⟨m1,m2,m3,m4,m5⟩|⟨m1,m3⟩
   ·refine ⟨1,Nat.le_refl _,by rw [hk.2.2.1] at m3;exact m3,?_⟩
    have:=sum_drop (wtI M p) (wtI M ⟨R.1,R.2.1,upd p.l i R.2.2⟩) 0 1 i p.S.thr.length hilt (fun j _ hne=>by
     show 600*tot M (upd p.l i R.2.2 j)+sw M R.1 R.2.1 (thrI R.1 j) (upd p.l i R.2.2 j)≤_
     rw [upd_ne _ _ hne,hj j hne,m2]
     have e3:sw M R.1 p.K (thrI p.S j) (p.l j)=sw M p.S p.K (thrI p.S j) (p.l j):=by
      cases p.l j with
      |turn _ _ _ _ _ _=>rfl
      |done _=>rfl
      |wait _ _ _ _ _=>show (if chgOf R.1.chg _=_ then 0 else 2)=if _ then 0 else 2;rw [m1,hk.1]
     rw [e3]
     exact Nat.le_refl _) (by rw [hwi,hwi0,m2,m4];omega)
    omega
   ·have h8:=g.len
    have s3:=sw_le M R.1 R.2.1 (thrI R.1 i) R.2.2
    rw [hk.2.2.1] at m3
    generalize hD:tot M (p.l i) - tot M R.2.2=D
    have hD':tot M (p.l i)=tot M R.2.2+D:=by omega
    refine ⟨1+2*D,by omega,by omega,?_⟩
    have:=sum_drop (wtI M p) (wtI M ⟨R.1,R.2.1,upd p.l i R.2.2⟩) 65 (600*D - 65) i p.S.thr.length hilt (fun j _ hne=>by
     show 600*tot M (upd p.l i R.2.2 j)+sw M R.1 R.2.1 (thrI R.1 j) (upd p.l i R.2.2 j)≤_
     rw [upd_ne _ _ hne]
     have:=sw_le M R.1 R.2.1 (thrI R.1 j) (p.l j)
     unfold wtI
     omega) (by rw [hwi,hwi0,hD'];omega)
    omega
  obtain ⟨d,d1,d2,d3⟩:=key
  refine ⟨⟨by rw [hlen];exact g.len,fun j tj htj=>?_⟩,?_,?_⟩
  ·by_cases hne:j=i
   ·subst hne
    obtain ⟨t',g1,g2,g3⟩:=hg
    have htj:R.1.thr[j]? = some tj:=htj
    rw [g1] at htj
    obtain rfl:=Option.some.inj htj
    show FitsN (upd p.l j R.2.2 j) _∧StN (upd p.l j R.2.2 j) _∧sits M (upd p.l j R.2.2 j)
    rw [upd_same]
    exact ⟨g2,g3,hsit⟩
   ·show FitsN (upd p.l i R.2.2 j) tj∧StN (upd p.l i R.2.2 j) tj∧sits M (upd p.l i R.2.2 j)
    rw [upd_ne _ _ hne]
    have htj:R.1.thr[j]? = some tj:=htj
    exact g.sit j tj (by rw [←hoth j hne];exact htj)
  ·unfold mu
   show (if R.1.stk then 0 else 1)+((List.range R.1.thr.length).map (wtI M ⟨R.1,R.2.1,upd p.l i R.2.2⟩)).sum<_
   rw [hstk]
   omega
  ·unfold mu
   show R.1.n+((if R.1.stk then 0 else 1)+((List.range R.1.thr.length).map (wtI M ⟨R.1,R.2.1,upd p.l i R.2.2⟩)).sum)≤_
   rw [hstk]
   omega
theorem turns_end:∀ (m:Nat) (p:PSt),mu M p≤m→Gd M p→∃ n p',n≤m∧Turns mc n p p'∧p'.S.n≤p.S.n+mu M p:=by
 intro m
 induction m with
 |zero =>
  intro p hm g
  cases e:pturn mc p with
  |none=>exact ⟨0,p,Nat.le_refl _,.stop e,Nat.le_add_right _ _⟩
  |some p1=>have:=(pturn_mu M g e).2.1;omega
 |succ m ih =>
  intro p hm g
  cases e:pturn mc p with
  |none=>exact ⟨0,p,Nat.zero_le _,.stop e,Nat.le_add_right _ _⟩
  |some p1 =>
   obtain ⟨g1,h1,h2⟩:=pturn_mu M g e
   obtain ⟨n,p',k1,k2,k3⟩:=ih p1 (by omega) g1
   exact ⟨n+1,p',by omega,.step e k2,by omega⟩
theorem turns_gd {m:Nat} {p p':PSt} (h:Turns mc m p p') (g:Gd M p):Gd M p'∧p'.S.n+mu M p'≤p.S.n+mu M p:=by
 induction h with
 |stop=>exact ⟨g,Nat.le_refl _⟩
 |step e _ ih =>
  obtain ⟨g1,_,h2⟩:=pturn_mu M g e
  have:=ih g1
  exact ⟨this.1,by omega⟩
theorem hires_gd {k:Nat} {ss:List (Scr mc)} {S S':TS} {l l':Nat→Ph} (h:Hires mc k ss S l S' l') (hk:S.thr.length=k) (h8:k+ss.length≤8) (hs:∀ i t,S.thr[i]? = some t→FitsN (l i) t∧StN (l i) t∧sits M (l i)) :
 S'.thr.length=k+ss.length∧(∀ i t,S'.thr[i]? = some t→FitsN (l' i) t∧StN (l' i) t∧sits M (l' i))∧S'.n≤S.n+2*lens ss∧((List.range S'.thr.length).map fun i=>tot M (l' i)).sum≤((List.range S.thr.length).map fun i=>tot M (l i)).sum+M.L*lens ss:=by
 induction h with
 |nil=>exact ⟨by simpa using hk,hs,Nat.le_add_right _ _,Nat.le_add_right _ _⟩
 |@cons k s ss S S' l l' tv tb gc h ih =>
  have hlen:(hiredS S tv tb gc).thr.length=k+1:=by simp [hiredS,hk]
  obtain ⟨t0,ht0⟩:∃ t0,(hiredS S tv tb gc).thr[k]? = some t0:=⟨_,List.getElem?_eq_getElem (by omega)⟩
  have sta:=flow_sta k mc s.calls 0 false s.ans (hiredS S tv tb gc)
  obtain ⟨t1,f1,f2,f3⟩:=flow_fs k mc s.calls 0 false s.ans (hiredS S tv tb gc) t0 ht0
  have hle:=flow_le k mc s.calls 0 false s.ans (hiredS S tv tb gc)
  obtain ⟨hlf,_,_,hsf⟩:=flow_tot M k s.calls 0 false s.ans (hiredS S tv tb gc)
  have hn0:(hiredS S tv tb gc).n=S.n:=rfl
  simp only [List.length_cons] at h8
  obtain ⟨i1,i2,i3,i4⟩:=ih (by rw [sta.len,hlen]) (by omega) (fun i t ht=>by
   by_cases hi:i=k
   ·subst hi
    rw [f1] at ht;cases ht
    rw [upd_same]
    exact ⟨f2,f3,hsf⟩
   ·rw [upd_ne _ _ hi]
    rw [sta.oth i hi] at ht
    refine hs i t ?_
    have:i<k:=by
     have:=(List.getElem?_eq_some_iff.1 ht).1
     omega
    simpa [hiredS,List.getElem?_append,hk,this] using ht)
  refine ⟨by rw [i1];simp only [List.length_cons];omega,i2,?_,?_⟩
  ·simp only [lens,List.map_cons,List.sum_cons] at i3 ⊢
   omega
  ·have e1:(flow k mc s.calls 0 false s.ans (hiredS S tv tb gc)).1.thr.length=k+1:=by rw [sta.len,hlen]
   rw [e1,List.range_succ,List.map_append,List.sum_append] at i4
   simp only [List.map_cons,List.map_nil,List.sum_cons,List.sum_nil] at i4
   rw [upd_same] at i4
   have e2:(List.range k).map (fun i=>tot M (upd l k (flow k mc s.calls 0 false s.ans (hiredS S tv tb gc)).2 i))=(List.range k).map (fun i=>tot M (l i)):=List.map_congr_left (fun i hi=>by
    have:i<k:=List.mem_range.1 hi
    rw [upd_ne _ _ (by omega)])
   rw [e2] at i4
   rw [hk]
   simp only [lens,List.map_cons,List.sum_cons] at i4 ⊢
   rw [Nat.mul_add]
   omega
theorem mu_le (p:PSt) (h8:p.S.thr.length≤8):mu M p≤521+600*((List.range p.S.thr.length).map fun i=>tot M (p.l i)).sum:=by
 have h:∀ k,((List.range k).map (wtI M p)).sum≤600*((List.range k).map fun i=>tot M (p.l i)).sum+65*k:=fun k=>by
  induction k with
  |zero=>simp
  |succ k ih =>
   rw [List.range_succ,List.map_append,List.map_append,List.sum_append,List.sum_append]
   simp only [List.map_cons,List.map_nil,List.sum_cons,List.sum_nil]
   have:=sw_le M p.S p.K (thrI p.S k) (p.l k)
   unfold wtI at ih ⊢
   omega
 have:=h p.S.thr.length
 unfold mu
 split<;>omega
theorem play_ends {ss:List (Scr mc)} {S S1:TS} {l0 l1:Nat→Ph} {K:List (Nat×Int)} (h:Hires mc 0 ss S l0 S1 l1) (h0:S.thr=[]) (h8:ss.length≤8) (hl:lens ss≤512) (hL:M.L≤1) (hn:S.n=0) :
 ∃ m p',m≤320000∧Turns mc m ⟨S1,K,l1⟩ p'∧p'.S.n*40≤140737488355328:=by
 obtain ⟨a1,a2,a3,a4⟩:=hires_gd M h (by rw [h0];rfl) (by omega) (fun i t ht=>by rw [h0] at ht;cases ht)
 have g:Gd M ⟨S1,K,l1⟩:=⟨by show S1.thr.length≤8;omega,a2⟩
 have hm:=mu_le M ⟨S1,K,l1⟩ g.len
 rw [h0] at a4
 simp only [List.length_nil,List.range_zero,List.map_nil,List.sum_nil] at a4
 have h5:M.L*lens ss≤1*512:=Nat.mul_le_mul hL hl
 have hm2:mu M ⟨S1,K,l1⟩≤320000:=by
  refine Nat.le_trans hm ?_
  show 521+600*((List.range S1.thr.length).map fun i=>tot M (l1 i)).sum≤320000
  omega
 obtain ⟨m,p',k1,k2,k3⟩:=turns_end M 320000 ⟨S1,K,l1⟩ hm2 g
 refine ⟨m,p',k1,k2,?_⟩
 have k3:p'.S.n≤S1.n+mu M ⟨S1,K,l1⟩:=k3
 omega
theorem play_small {m:Nat} {ss:List (Scr mc)} {S S1:TS} {l0 l1:Nat→Ph} {K:List (Nat×Int)} {p':PSt} (h:Hires mc 0 ss S l0 S1 l1) (hT:Turns mc m ⟨S1,K,l1⟩ p') (h0:S.thr=[]) (h8:ss.length≤8) (hl:lens ss≤512) (hL:M.L≤1) (hn:S.n=0):p'.S.n≤400000:=by
 obtain ⟨a1,a2,a3,a4⟩:=hires_gd M h (by rw [h0];rfl) (by omega) (fun i t ht=>by rw [h0] at ht;cases ht)
 have g:Gd M ⟨S1,K,l1⟩:=⟨by show S1.thr.length≤8;omega,a2⟩
 have hm:=mu_le M ⟨S1,K,l1⟩ g.len
 rw [h0] at a4
 simp only [List.length_nil,List.range_zero,List.map_nil,List.sum_nil] at a4
 have h5:M.L*lens ss≤1*512:=Nat.mul_le_mul hL hl
 have hm2:mu M ⟨S1,K,l1⟩≤320000:=by
  refine Nat.le_trans hm ?_
  show 521+600*((List.range S1.thr.length).map fun i=>tot M (l1 i)).sum≤320000
  omega
 have:=(turns_gd M hT g).2
 have k3:p'.S.n+mu M p'≤S1.n+mu M ⟨S1,K,l1⟩:=this
 omega
end
section
variable {mc:Mc}
theorem pturn_mv (M:Met mc) {p p1:PSt} {v:Vw} (g:Gd M p) (s:Seen p v) (e:pturn mc p=some p1):∃ v1,Mv mc p.S.thr.length v v1∧Seen p1 v1:=by
 unfold pturn at e
 split at e
 ·rename_i h0
  split at e
  ·rename_i hw
   cases e
   have hall:∀ i t,p.S.thr[i]? = some t→rdy p.S t=false:=fun i t ht=>by
    cases hr:rdy p.S t with
    |false=>rfl
    |true =>
     have:i∈rdyIds p.S p.S.thr.length:=by
      unfold rdyIds
      rw [List.mem_filter]
      exact ⟨List.mem_range.2 (List.getElem?_eq_some_iff.1 ht).1,by rw [ht];exact hr⟩
     rw [h0] at this;cases this
   unfold waits2 at hw
   rw [List.any_eq_true] at hw
   obtain ⟨i,hi,hst⟩:=hw
   have hi:=List.mem_range.1 hi
   obtain ⟨t,ht⟩:∃ t,p.S.thr[i]? = some t:=⟨_,List.getElem?_eq_getElem hi⟩
   rw [ht] at hst
   have hst:t.st=2:=by simpa using hst
   have hs:p.S.stk=false:=by
    have:=hall i t ht
    cases hs:p.S.stk with
    |false=>rfl
    |true=>simp [rdy,hst,hs] at this
   refine ⟨{ v with stk:=true,L:=v.L++[⟨-1,-1,7,0,0⟩] },.stuck (by rw [s.stk];exact hs) (fun k hk=>?_) ⟨i,hi,?_⟩ rfl,⟨s.K,rfl,s.chg,s.se,s.l,?_,?_,s.ce⟩⟩
   ·obtain ⟨tk,htk⟩:∃ t,p.S.thr[k]? = some t:=⟨_,List.getElem?_eq_getElem hk⟩
    have hnr:=hall k tk htk
    obtain ⟨_,h2,_⟩:=g.sit k tk htk
    have hce:=s.ce k tk htk
    rw [s.l,s.chg,s.se k,thrI_of htk]
    match hl:p.l k,h2 with
    |.done a,_=>exact .inl ⟨a,rfl⟩
    |.turn _ _ _ _ _ _,h2 =>
     have h2:tk.st=1:=h2
     simp [rdy,h2] at hnr
    |.wait j q r kk a,h2 =>
     have h2:tk.st=2:=h2
     have e1:=hce j q r kk a hl
     refine .inr ⟨j,q,r,kk,a,rfl,?_⟩
     have:chgOf p.S.chg tk.ce=tk.se:=by simpa [rdy,h2,hs] using hnr
     rw [←e1]
     exact this
   ·obtain ⟨_,h2,_⟩:=g.sit i t ht
    rw [s.l]
    match hl:p.l i,h2 with
    |.done a,h2=>have h2:t.st=3:=h2;omega
    |.turn _ _ _ _ _ _,h2=>have h2:t.st=1:=h2;omega
    |.wait j q r kk a,_=>exact ⟨j,q,r,kk,a,rfl⟩
   ·show p.S.tr++_=flat (v.L++_)
    rw [flat_app,s.tr]
    rfl
   ·show p.S.n+1=(v.L++_).length
    rw [List.length_append,s.n]
    rfl
  ·cases e
 ·rename_i h0
  obtain ⟨t,ht,hrd⟩:=nextI_in h0
  generalize hi:nextI p.S=i at ht e
  have eth:thrI p.S i=t:=thrI_of ht
  rw [eth] at e
  obtain ⟨hfit,hst,hsi⟩:=g.sit i t ht
  have hl:∀ a,p.l i≠.done a:=fun a ha=>by
   rw [ha] at hst
   have:t.st=3:=hst
   simp [rdy,this] at hrd
  have hk:=going_keeps (S:=p.S) (i:=i) (t:=t)
  have hgt:=going_thr ht
  have sta:=resume_sta i mc (p.l i) (going p.S i t) p.K
  have hilt:i<p.S.thr.length:=(List.getElem?_eq_some_iff.1 ht).1
  have hoth:∀ j,j≠i→(resume i mc (p.l i) (going p.S i t) p.K).1.thr[j]? = p.S.thr[j]?:=fun j hj=>by rw [sta.oth j hj,going_oth hj]
  have hstk:(resume i mc (p.l i) (going p.S i t) p.K).1.stk=p.S.stk:=by rw [sta.stk,hk.2.1]
  cases e
  have seen:∀ (Y:List Stp) (chg':List Int) (K':List Int),Adds (going p.S i t) (resume i mc (p.l i) (going p.S i t) p.K).1 Y→(resume i mc (p.l i) (going p.S i t) p.K).1.chg=chg'→(resume i mc (p.l i) (going p.S i t) p.K).2.1.map (·.2)=K'→Aw chg' (resume i mc (p.l i) (going p.S i t) p.K).2.2 (thrI (resume i mc (p.l i) (going p.S i t) p.K).1 i) →
   Seen ⟨(resume i mc (p.l i) (going p.S i t) p.K).1,(resume i mc (p.l i) (going p.S i t) p.K).2.1,upd p.l i (resume i mc (p.l i) (going p.S i t) p.K).2.2⟩ ⟨K',p.S.stk,chg',fun k=>(thrI (resume i mc (p.l i) (going p.S i t) p.K).1 k).se,upd p.l i (resume i mc (p.l i) (going p.S i t) p.K).2.2,v.L++Y⟩ ∧
   Els i (resume i mc (p.l i) (going p.S i t) p.K).2.2 v ⟨K',p.S.stk,chg',fun k=>(thrI (resume i mc (p.l i) (going p.S i t) p.K).1 k).se,upd p.l i (resume i mc (p.l i) (going p.S i t) p.K).2.2,v.L++Y⟩:=fun Y chg' K' ha hc hK hA=>by
   refine ⟨⟨hK.symm,hstk.symm,hc.symm,fun _=>rfl,rfl,?_,?_,fun k tk htk j q r kk a hl=>?_⟩,⟨by rw [s.l],fun k hne=>?_,fun j q r k a h=>(hA j q r k a h).2⟩⟩
   ·show (resume i mc (p.l i) (going p.S i t) p.K).1.tr=_
    rw [ha.tr,hk.2.2.2,s.tr,flat_app]
   ·show (resume i mc (p.l i) (going p.S i t) p.K).1.n=_
    rw [ha.n,hk.2.2.1,s.n,List.length_append]
   ·have htk:(resume i mc (p.l i) (going p.S i t) p.K).1.thr[k]? = some tk:=htk
    have hl:upd p.l i (resume i mc (p.l i) (going p.S i t) p.K).2.2 k=.wait j q r kk a:=hl
    by_cases hne:k=i
    ·subst hne
     rw [upd_same] at hl
     have:=(hA j q r kk a hl).1
     rw [thrI_of htk] at this
     exact this
    ·rw [upd_ne _ _ hne] at hl
     rw [hoth k hne] at htk
     exact s.ce k tk htk j q r kk a hl
   ·show (thrI (resume i mc (p.l i) (going p.S i t) p.K).1 k).se=_
    rw [s.se k]
    unfold thrI
    rw [hoth k hne]
  match hpl:p.l i,hl,hfit,hst with
  |.done a,hl,_,_=>exact absurd rfl (hl a)
  |.turn op j q rest ii ans,_,hfit,hst =>
   have hvl:v.l i=.turn op j q rest ii ans:=by rw [s.l];exact hpl
   have hx:v.K.getD j 0=(cellAt p.K j).2:=by rw [s.K];exact getD_cell _ _
   have ht0:thrI (going p.S i t) i={ t with st:=0 }:=thrI_of hgt
   rw [hpl] at seen
   rw [resume_turn] at seen ⊢
   rw [ht0] at seen ⊢
   obtain ⟨X,o1,o2,o3,o4,o5⟩:=on_fw (mc:=mc) i rest ii ans (didS (going p.S i t) undef i { t with st:=0 } (mc.turn q (cellAt p.K j).2).1.1 (mc.turn q (cellAt p.K j).2).1.2) (p.K.set j ((cellAt p.K j).1,(mc.turn q (cellAt p.K j).2).2.1)) (mc.turn q (cellAt p.K j).2).2.2 { t with st:=0 } (did_thr hgt)
   have hadd:=(adds_did (going p.S i t) undef i { t with st:=0 } (mc.turn q (cellAt p.K j).2).1.1 (mc.turn q (cellAt p.K j).2).1.2).trans o2
   have ho:t.op=op:=hfit.1
   have hc:t.ce=j:=hfit.2
   have hadd:Adds (going p.S i t) (on i mc rest ii ans (didS (going p.S i t) undef i { t with st:=0 } (mc.turn q (cellAt p.K j).2).1.1 (mc.turn q (cellAt p.K j).2).1.2) (p.K.set j ((cellAt p.K j).1,(mc.turn q (cellAt p.K j).2).2.1)) (mc.turn q (cellAt p.K j).2).2.2).1 (⟨i,j,op,(mc.turn q (cellAt p.K j).2).1.1,(mc.turn q (cellAt p.K j).2).1.2⟩ :: X):=by
    rw [←ho,←hc]
    exact hadd
   have hchg:(didS (going p.S i t) undef i { t with st:=0 } (mc.turn q (cellAt p.K j).2).1.1 (mc.turn q (cellAt p.K j).2).1.2).chg=bump p.S.chg j (mc.turn q (cellAt p.K j).2).1.1 (mc.turn q (cellAt p.K j).2).1.2:=by
    unfold didS bump
    by_cases hb:(mc.turn q (cellAt p.K j).2).1.1≠(mc.turn q (cellAt p.K j).2).1.2∧j<p.S.chg.length
    ·rw [if_pos ⟨hb.1,by show (0:Int)≤t.ce;omega,by show t.ce<((going p.S i t).chg.length:Int);rw [hk.1];omega⟩,if_pos hb]
     show (going p.S i t).chg.modify t.ce.toNat _=_
     rw [hk.1,hc]
     rfl
    ·rw [if_neg (fun h=>hb ⟨h.1,by have h3:t.ce<((going p.S i t).chg.length:Int):=h.2.2;rw [hk.1] at h3;omega⟩),if_neg hb]
     exact hk.1
   have hds:(didS (going p.S i t) undef i { t with st:=0 } (mc.turn q (cellAt p.K j).2).1.1 (mc.turn q (cellAt p.K j).2).1.2).stk=p.S.stk:=by rw [(sta_did (i:=i) _ _ _ _ _).stk,hk.2.1]
   rw [hchg] at o3 o4
   rw [hds] at o1
   obtain ⟨z1,z2⟩:=seen _ _ _ hadd o3 (by rw [o5]) o4
   refine ⟨_,.turn i op j q rest ii ans X _ hilt hvl (by rw [s.stk,hx];exact o1) z2 ?_ s.stk.symm (by rw [hx,s.chg]) (by rw [hx]),z1⟩
   show (p.K.set j _).map (·.2)=_
   rw [s.K,List.map_set,←s.K,hx]
  |.wait j q rest ii ans,_,hfit,hst =>
   have hvl:v.l i=.wait j q rest ii ans:=by rw [s.l];exact hpl
   have hst:t.st=2:=hst
   have hce:=s.ce i t ht j q rest ii ans hpl
   rw [hpl] at seen
   rw [resume_wait] at seen ⊢
   cases hs:p.S.stk with
   |true =>
    have hs':(going p.S i t).stk=true:=by rw [hk.2.1];exact hs
    rw [if_pos hs'] at seen ⊢
    obtain ⟨X,o1,o2,o3,o4,o5⟩:=back_fw (mc:=mc) i rest ii ans (mc.stuck q) (going p.S i t) p.K { t with st:=0 } hgt
    rw [hs'] at o1
    rw [hk.1] at o3 o4
    obtain ⟨z1,z2⟩:=seen _ _ _ o2 o3 (by rw [o5]) o4
    exact ⟨_,.free i j q rest ii ans X _ hilt hvl (by rw [s.stk];exact hs) o1 z2 s.K.symm hs s.chg.symm rfl,z1⟩
   |false =>
    have hs':(going p.S i t).stk=false:=by rw [hk.2.1];exact hs
    rw [if_neg (by rw [hs'];decide)] at seen ⊢
    obtain ⟨X,o1,o2,o3,o4,o5⟩:=on_fw (mc:=mc) i rest ii ans (noted (going p.S i t) undef i 6 j 0 0) p.K (mc.woke q) { t with st:=0 } hgt
    have hs2:(noted (going p.S i t) undef i 6 j 0 0).stk=false:=hs'
    rw [hs2] at o1
    have hc2:(noted (going p.S i t) undef i 6 j 0 0).chg=p.S.chg:=hk.1
    rw [hc2] at o3 o4
    obtain ⟨z1,z2⟩:=seen _ _ _ ((adds_noted (going p.S i t) undef i 6 j 0 0).trans o2) o3 (by rw [o5]) o4
    refine ⟨_,.wake i j q rest ii ans X _ hilt hvl (by rw [s.stk];exact hs) ?_ o1 z2 s.K.symm hs s.chg.symm rfl,z1⟩
    rw [s.chg,s.se i,eth,←hce]
    simpa [rdy,hst,hs] using hrd
theorem turns_mv (M:Met mc) {Inv:Vw→Prop} {N:Nat} (hI:∀ v v1,Inv v→Mv mc N v v1→Inv v1) {m:Nat} {p p':PSt} (h:Turns mc m p p'):∀ v,p.S.thr.length=N→Gd M p→Seen p v→Inv v→∃ v',Inv v'∧Seen p' v'∧p'.S.thr.length=N∧∀ i,i<N→∃ a,v'.l i=.done a:=by
 induction h with
 |@stop p hs =>
  intro v hN g s hv
  refine ⟨v,hv,s,hN,fun i hi=>?_⟩
  obtain ⟨t,ht⟩:∃ t,p.S.thr[i]? = some t:=⟨_,List.getElem?_eq_getElem (by omega)⟩
  obtain ⟨_,h2,_⟩:=g.sit i t ht
  unfold pturn at hs
  split at hs
  ·rename_i h0
   split at hs
   ·cases hs
   ·rename_i hw
    rw [s.l]
    match hl:p.l i,h2 with
    |.done a,_=>exact ⟨a,rfl⟩
    |.turn _ _ _ _ _ _,h2 =>
     have h2:t.st=1:=h2
     have:i∈rdyIds p.S p.S.thr.length:=by
      unfold rdyIds
      rw [List.mem_filter]
      exact ⟨List.mem_range.2 (by omega),by rw [ht];simp [rdy,h2]⟩
     rw [h0] at this;cases this
    |.wait _ _ _ _ _,h2 =>
     have h2:t.st=2:=h2
     exfalso
     apply hw
     unfold waits2
     rw [List.any_eq_true]
     exact ⟨i,List.mem_range.2 (by omega),by rw [ht];simp [h2]⟩
  ·cases hs
 |@step n p p1 p' e _ ih =>
  intro v hN g s hv
  obtain ⟨v1,m1,s1⟩:=pturn_mv M g s e
  rw [hN] at m1
  have hlen:p1.S.thr.length=N:=by
   unfold pturn at e
   split at e
   ·split at e
    ·cases e;exact hN
    ·cases e
   ·cases e
    show (resume _ _ _ _ _).1.thr.length=_
    rw [(resume_sta _ _ _ _ _).len,going_len,hN]
  exact ih v1 hlen (pturn_mu M g e).1 s1 (hI v v1 hv m1)
end
end Go.Proofs.YtfjjoohflcchnaaDoor.Gen.Mf
