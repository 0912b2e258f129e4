/- CounterLinear, part 16 of 24: GMeas, GView, GNote, GAc, GEvs, GEvs2, GOfs, GIns. -/
import Derived.Test.YtfjjoohflcchnaaDoorCounterLinear01
import Derived.Test.YtfjjoohflcchnaaDoorCounterLinear09
import Derived.Test.YtfjjoohflcchnaaDoorCounterLinear10
import Derived.Test.YtfjjoohflcchnaaDoorCounterLinear15
set_option linter.unusedSimpArgs false
set_option linter.unusedVariables false
set_option maxHeartbeats 4000000
set_option maxRecDepth 100000
noncomputable section
namespace Go.Proofs.YtfjjoohflcchnaaDoor.Gen
open Go Go.Lift Go.Conc Go.RowKit
open Go.ConcN (upd upd_same upd_ne)
variable {S S1:TS} {N i k m:Nat} {t:Thr} {p p':PSt} {l:Nat->Ph} {K:List (Nat×Int)}
def seatOk (L:Nat) (lev:Q->Nat) (cl:Q->Nat) (wq:Q->Prop):Nx->Prop
 |.ans _ _=>True
 |.turn _ j q=>1<=lev q∧lev q<=L∧j=cl q
 |.wait _ q=>1<=lev q∧lev q<=L∧wq q
def nlev (lev:Q->Nat):Nx->Nat
 |.ans _ _=>0
 |.turn _ _ q=>lev q
 |.wait _ q=>lev q
structure Met (mc:Mc) where
 L:Nat
 hL:1<=L
 lev:Q->Nat
 ws:Q->Int->Nat
 cl:Q->Nat
 wq:Q->Prop
 ws_le:∀ q x,ws q x<=3
 start:∀ i c,seatOk L lev cl wq (mc.start i c)
 turn:∀ q x,1<=lev q->lev q<=L->seatOk L lev cl wq (mc.turn q x).2.2∧(nlev lev (mc.turn q x).2.2<lev q∨((mc.turn q x).1.1=(mc.turn q x).1.2∧(mc.turn q x).2.1=x∧nlev lev (mc.turn q x).2.2=lev q ∧
  match (mc.turn q x).2.2 with
  |.ans _ _=>False
  |.turn _ _ q'=>cl q'=cl q∧ws q' x+1<=ws q x
  |.wait _ _=>1<=ws q x))
 woke:∀ q,1<=lev q->lev q<=L->wq q->seatOk L lev cl wq (mc.woke q)∧(nlev lev (mc.woke q)<lev q∨(nlev lev (mc.woke q)=lev q ∧
  match mc.woke q with
  |.ans _ _=>False
  |.turn _ _ q'=>∀ y,ws q' y<=1
  |.wait _ _=>True))
section
variable {mc:Mc}(M:Met mc)
def tot:Ph->Nat
 |.turn _ _ q rest _ _=>M.L*rest.length+M.lev q
 |.wait _ q rest _ _=>M.L*rest.length+M.lev q
 |.done _=>0
def sw (S:TS) (K:List (Nat×Int)) (t:Thr):Ph->Nat
 |.turn _ j q _ _ _=>M.ws q (cellAt K j).2
 |.wait _ _ _ _ _=>if chgOf S.chg t.ce=t.se then 0 else 2
 |.done _=>0
def sits:Ph->Prop
 |.turn _ j q _ _ _=>1<=M.lev q∧M.lev q<=M.L∧j=M.cl q
 |.wait _ q _ _ _=>1<=M.lev q∧M.lev q<=M.L∧M.wq q
 |.done _=>True
theorem sw_le (S:TS) (K:List (Nat×Int)) (t:Thr) (l:Ph):sw M S K t l<=3:=by
 cases l with
 |turn op j q r i a=>exact M.ws_le _ _
 |wait j q r i a=>show (if _ then 0 else 2)<=3;split<;>omega
 |done a=>exact Nat.zero_le _
def wtI (p:PSt) (i:Nat):Nat:=32*tot M (p.l i)+sw M p.S p.K (thrI p.S i) (p.l i)
def mu (p:PSt):Nat:=(if p.S.stk then 0 else 1)+((List.range p.S.thr.length).map (wtI M p)).sum
structure Gd (p:PSt):Prop where
 len:p.S.thr.length<=8
 sit:∀ i t,p.S.thr[i]? = some t->FitsN (p.l i) t∧StN (p.l i) t∧sits M (p.l i)
theorem sum_le (f g:Nat->Nat) (e:Nat):∀ k,(∀ j,j<k->g j<=f j+e)->((List.range k).map g).sum<=((List.range k).map f).sum+e*k
 |0,_=>by simp
 |k+1,h=>by have:=sum_le f g e k (λj hj=>h j (by omega));have h1:=h k (by omega);rw[List.range_succ,List.map_append,List.map_append,List.sum_append,List.sum_append,Nat.mul_succ];simp only[List.map_cons,List.map_nil,List.sum_cons,List.sum_nil];omega
theorem sum_drop (f g:Nat->Nat) (e d i:Nat):∀ k,i<k->(∀ j,j<k->j≠i->g j<=f j+e)->g i+d<=f i->((List.range k).map g).sum+d<=((List.range k).map f).sum+e*k
 |k+1,hi,h,hd=>by
  rw[List.range_succ,List.map_append,List.map_append,List.sum_append,List.sum_append,Nat.mul_succ];simp only[List.map_cons,List.map_nil,List.sum_cons,List.sum_nil];by_cases hk:i=k
  .subst hk
   have:=sum_le f g e i (λj hj=>h j (by omega) (by omega));omega
  .have:=sum_drop f g e d i k (by omega) (λj hj hn=>h j (by omega) hn) hd
   have h1:=h k (by omega) (λe=>hk e.symm);omega
theorem flow_tot (i:Nat):∀ (rest:List Cl) (ii:Nat) (sk:Bool) (ans:List (Int×Int)) (S:TS),tot M (flow i mc rest ii sk ans S).2<=M.L*rest.length∧(flow i mc rest ii sk ans S).1.n+2*tot M (flow i mc rest ii sk ans S).2<=S.n+2*(M.L*rest.length)+1∧(flow i mc rest ii sk ans S).1.chg=S.chg∧sits M (flow i mc rest ii sk ans S).2
 | [],ii,sk,ans,S=>by cases sk<;>exact ⟨Nat.zero_le _,by show S.n+2*0<=_;omega,rfl,trivial⟩
 |c :: rest,ii,true,ans,S=>by have:=flow_tot i rest (ii+1) true (ans.set ii (4,0)) S;have e:flow i mc (c :: rest) ii true ans S=flow i mc rest (ii+1) true (ans.set ii (4,0)) S:=rfl;have hL:=M.hL;rw[e,List.length_cons,Nat.mul_succ];exact ⟨by omega,by omega,this.2.2⟩
 |c :: rest,ii,false,ans,S=>by
  have hs:=M.start i c;have hL:=M.hL;rw[List.length_cons,Nat.mul_succ];unfold flow;cases h:mc.start i c with
  |ans e x =>have:=flow_tot i rest (ii+1) (e==4) (ans.set ii (e,x)) (noted (noted S undef i 9 (-1) ii 0) undef i 10 (-1) ii e);have en:(noted (noted S undef i 9 (-1) ii 0) undef i 10 (-1) ii e).n=S.n+2:=rfl;rw[en] at this;simp only;exact ⟨by omega,by omega,this.2.2⟩
  |turn op j q =>
   rw[h] at hs;obtain ⟨h1,h2,h3⟩:=hs;refine ⟨?_,?_,rfl,h1,h2,h3⟩
   .show M.L*rest.length+M.lev q<=_
    omega
   .show S.n+1+2*(M.L*rest.length+M.lev q)<=_
    omega
  |wait j q =>
   rw[h] at hs;obtain ⟨h1,h2,h3⟩:=hs;simp only;split
   .have:=flow_tot i rest (ii+1) ((mc.stuck q).1==4) (ans.set ii (mc.stuck q)) (noted (noted S undef i 9 (-1) ii 0) undef i 10 (-1) ii (mc.stuck q).1)
    have en:(noted (noted S undef i 9 (-1) ii 0) undef i 10 (-1) ii (mc.stuck q).1).n=S.n+2:=rfl;rw[en] at this;exact ⟨by omega,by omega,this.2.2⟩
   .refine ⟨?_,?_,rfl,h1,h2,h3⟩
    .show M.L*rest.length+M.lev q<=_
     omega
    .show S.n+1+2*(M.L*rest.length+M.lev q)<=_
     omega
theorem did_n (S:TS) (tv:Value) (i:Nat) (t:Thr) (b a:Int):(didS S tv i t b a).n=S.n+1:=by unfold didS;split<;>rfl
theorem did_same (S:TS) (tv:Value) (i:Nat) (t:Thr) (b:Int):didS S tv i t b b=noted S tv i t.op t.ce b b:=by unfold didS;rw[if_neg (λh=>h.1 rfl)]
theorem set_cell (K:List (Nat×Int)) (j:Nat):K.set j ((cellAt K j).1,(cellAt K j).2)=K:=by
 apply List.ext_getElem?;intro k;rw[Qq];split
 .rename_i e
  subst e;split
  .rename_i h
   unfold cellAt;rw[Qf h];rfl
  .rename_i h
   rw[List.getElem?_eq_none (by omega)]
 rfl
def Pro (i:Nat) (l:Ph) (S:TS) (K:List (Nat×Int)) (w:Nat) (R:TS×List (Nat×Int)×Ph):Prop :=
 sits M R.2.2∧((R.1.chg=S.chg∧R.2.1=K∧R.1.n<=S.n+1∧tot M R.2.2=tot M l∧sw M R.1 K (thrI R.1 i) R.2.2+1<=w) ∨
  (tot M R.2.2+1<=tot M l∧R.1.n+2*tot M R.2.2<=S.n+2*tot M l+1))
theorem back_pro (i:Nat) (l:Ph) (S S1:TS) (K K1:List (Nat×Int)) (w:Nat) (rest:List Cl) (ii:Nat) (ans:List (Int×Int)) (a:Int×Int) (hl:M.L*rest.length+1<=tot M l) (hn:S1.n<=S.n+1):Pro M i l S K w (back i mc rest ii ans a S1 K1):=by have:=flow_tot M i rest (ii+1) (a.1==4) (ans.set ii a) (noted S1 undef i 10 (-1) ii a.1);have en:(noted S1 undef i 10 (-1) ii a.1).n=S1.n+1:=rfl;rw[en] at this;obtain ⟨h1,h2,h3,h4⟩:=this;exact ⟨h4,.inr ⟨by show tot M (flow i mc rest (ii+1) (a.1==4) (ans.set ii a) (noted S1 undef i 10 (-1) ii a.1)).2+1<=_;omega,by show (flow i mc rest (ii+1) (a.1==4) (ans.set ii a) (noted S1 undef i 10 (-1) ii a.1)).1.n+2*tot M (flow i mc rest (ii+1) (a.1==4) (ans.set ii a) (noted S1 undef i 10 (-1) ii a.1)).2<=_;omega⟩⟩
theorem resume_pro (i:Nat) (l:Ph) (S:TS) (K:List (Nat×Int)) (t:Thr) (ht:S.thr[i]? = some t) (hl:∀ a,l≠.done a) (hs:sits M l) (hr:∀ j q r k a,l=.wait j q r k a->S.stk=true∨chgOf S.chg t.ce≠t.se):Pro M i l S K (sw M S K t l) (resume i mc l S K):=by
 have eth:thrI S i=t:=thrI_of ht
 match l,hl,hs,hr with
 |.done a,hl,_,_=>exact absurd rfl (hl a)
 |.turn op j q rest ii ans,_,hs,_ =>
  obtain ⟨s1,s2,s3⟩:=hs;rw[resume_turn];have hx:(cellAt K j).2=(cellAt K j).2:=rfl;generalize hxx:(cellAt K j).2=x at *;obtain ⟨hok,hp⟩:=M.turn q x s1 s2;have hsw:sw M S K t (.turn op j q rest ii ans)=M.ws q x:=by show M.ws q (cellAt K j).2=_;rw[hxx]
  rw[hsw];cases hnx:(mc.turn q x).2.2 with
  |ans e y =>exact back_pro M i _ S _ K _ _ rest ii ans (e,y) (by show _<=M.L*rest.length+M.lev q;omega) (by rw[did_n];exact Qi _)
  |turn op' j' q' =>
   rw[hnx] at hok hp;obtain ⟨k1,k2,k3⟩:=hok;refine ⟨⟨k1,k2,k3⟩,?_⟩;rcases hp with hp|⟨e1,e2,e3,e4,e5⟩
   .right
    have hp:M.lev q'<M.lev q:=hp;refine ⟨?_,?_⟩
    .show M.L*rest.length+M.lev q'+1<=M.L*rest.length+M.lev q
     omega
    .show (didS S undef i (thrI S i) (mc.turn q x).1.1 (mc.turn q x).1.2).n+2*(M.L*rest.length+M.lev q')<=S.n+2*(M.L*rest.length+M.lev q)+1
     rw[did_n];omega
   .left
    have ek:K.set j ((cellAt K j).1,(mc.turn q x).2.1)=K:=by rw[e2,<-hxx];exact set_cell K j
    have e3:M.lev q'=M.lev q:=e3;refine ⟨?_,ek,?_,?_,?_⟩
    .show (didS S undef i (thrI S i) (mc.turn q x).1.1 (mc.turn q x).1.2).chg=_
     rw[e1,did_same];rfl
    .show (didS S undef i (thrI S i) (mc.turn q x).1.1 (mc.turn q x).1.2).n<=_
     rw[did_n];exact Qi _
    .show M.L*rest.length+M.lev q'=M.L*rest.length+M.lev q
     rw[e3]
    .show M.ws q' (cellAt K j').2+1<=_
     rw[k3,e4,<-s3,hxx];exact e5
  |wait j' q' =>
   rw[hnx] at hok hp;obtain ⟨k1,k2,kq⟩:=hok;rw[on_wait];split;refine back_pro M i _ S _ K _ _ rest ii ans _ (by show _<=M.L*rest.length+M.lev q;omega) (by rw[did_n];exact Qi _)
   .refine ⟨⟨k1,k2,kq⟩,?_⟩
    rcases hp with hp|⟨e1,e2,e3,e5⟩
    .right
     have hp:M.lev q'<M.lev q:=hp;refine ⟨?_,?_⟩
     .show M.L*rest.length+M.lev q'+1<=M.L*rest.length+M.lev q
      omega
     .show (didS S undef i (thrI S i) (mc.turn q x).1.1 (mc.turn q x).1.2).n+2*(M.L*rest.length+M.lev q')<=S.n+2*(M.L*rest.length+M.lev q)+1
      rw[did_n];omega
    .left
     have ek:K.set j ((cellAt K j).1,(mc.turn q x).2.1)=K:=by rw[e2,<-hxx];exact set_cell K j
     have e3:M.lev q'=M.lev q:=e3;refine ⟨?_,ek,?_,?_,?_⟩
     .show (didS S undef i (thrI S i) (mc.turn q x).1.1 (mc.turn q x).1.2).chg=_
      rw[e1,did_same];rfl
     .show (didS S undef i (thrI S i) (mc.turn q x).1.1 (mc.turn q x).1.2).n<=_
      rw[did_n];exact Qi _
     .show M.L*rest.length+M.lev q'=M.L*rest.length+M.lev q
      rw[e3]
     .have e6:∀ S':TS,S'.thr[i]? = some t->sw M (waiting S' i (thrI S' i) 2 6 j') K (thrI (waiting S' i (thrI S' i) 2 6 j') i) (.wait j' q' rest ii ans)=0:=λS' h'=>by
       have e7:thrI (waiting S' i (thrI S' i) 2 6 j') i={ t with st:=2,ce:=j',op:=6,se:=chgOf S'.chg j' }:=by rw[thrI_of h'];exact thrI_of (set_get h')
       rw[e7];exact if_pos rfl
      rw[e6 _ (did_thr ht)];omega
 |.wait j q rest ii ans,_,hs,hr =>
  obtain ⟨s1,s2,sq⟩:=hs;rw[resume_wait];split;exact back_pro M i _ S _ K _ _ rest ii ans _ (by show _<=M.L*rest.length+M.lev q;omega) (Nat.le_succ _)
  .rename_i hst
   have h2:sw M S K t (.wait j q rest ii ans)=2:=if_neg ((hr _ _ _ _ _ rfl).resolve_left (by simpa using hst));rw[h2];obtain ⟨hok,hp⟩:=M.woke q s1 s2 sq;cases hnx:mc.woke q with
   |ans e y =>exact back_pro M i _ S _ K _ _ rest ii ans (e,y) (by show _<=M.L*rest.length+M.lev q;omega) (Qi _)
   |turn op' j' q' =>
    rw[hnx] at hok hp;obtain ⟨k1,k2,k3⟩:=hok;refine ⟨⟨k1,k2,k3⟩,?_⟩;rcases hp with hp|⟨e3,e5⟩
    .right
     have hp:M.lev q'<M.lev q:=hp;refine ⟨?_,?_⟩
     .show M.L*rest.length+M.lev q'+1<=M.L*rest.length+M.lev q
      omega
     .show S.n+1+2*(M.L*rest.length+M.lev q')<=S.n+2*(M.L*rest.length+M.lev q)+1
      omega
    .left
     have e3:M.lev q'=M.lev q:=e3;refine ⟨rfl,rfl,Qi _,?_,?_⟩
     .show M.L*rest.length+M.lev q'=M.L*rest.length+M.lev q
      rw[e3]
     .show M.ws q' (cellAt K j').2+1<=2
      have:=e5 (cellAt K j').2;omega
   |wait j' q' =>
    rw[hnx] at hok hp;obtain ⟨k1,k2,kq⟩:=hok;rw[on_wait];split;exact back_pro M i _ S _ K _ _ rest ii ans _ (by show _<=M.L*rest.length+M.lev q;omega) (Qi _)
    .refine ⟨⟨k1,k2,kq⟩,?_⟩
     rcases hp with hp|⟨e3,_⟩
     .right
      have hp:M.lev q'<M.lev q:=hp;refine ⟨?_,?_⟩
      .show M.L*rest.length+M.lev q'+1<=M.L*rest.length+M.lev q
       omega
      .show S.n+1+2*(M.L*rest.length+M.lev q')<=S.n+2*(M.L*rest.length+M.lev q)+1
       omega
     .left
      have e3:M.lev q'=M.lev q:=e3;refine ⟨rfl,rfl,Qi _,?_,?_⟩
      .show M.L*rest.length+M.lev q'=M.L*rest.length+M.lev q
       rw[e3]
      .have e7:thrI (waiting (noted S undef i 6 j 0 0) i (thrI (noted S undef i 6 j 0 0) i) 2 6 j') i={ t with st:=2,ce:=j',op:=6,se:=chgOf S.chg j' }:=by rw[show thrI (noted S undef i 6 j 0 0) i=t from thrI_of ht];exact thrI_of (set_get (S:=noted S undef i 6 j 0 0) ht)
       show (if chgOf S.chg (thrI (waiting (noted S undef i 6 j 0 0) i (thrI (noted S undef i 6 j 0 0) i) 2 6 j') i).ce=(thrI (waiting (noted S undef i 6 j 0 0) i (thrI (noted S undef i 6 j 0 0) i) 2 6 j') i).se then 0 else 2)+1<=2;rw[e7,if_pos rfl]
       decide
theorem nextI_in (h:rdyIds S S.thr.length≠[]):∃ t,S.thr[nextI S]? = some t∧rdy S t=true:=by
 have h0:0<(rdyIds S S.thr.length).length:=List.length_pos_iff.2 h;have h1:=pickAt_lt S h0;have h2:nextI S∈rdyIds S S.thr.length:=by unfold nextI;rw[Qf h1];exact List.getElem_mem h1
 unfold rdyIds at h2;rw[List.mem_filter] at h2;cases h3:S.thr[nextI S]? with
 |none=>rw[h3] at h2;cases h2.2
 |some t=>rw[h3] at h2;exact ⟨t,rfl,h2.2⟩
theorem going_thr (ht:S.thr[i]? = some t):(going S i t).thr[i]? = some { t with st:=0 }:=by
 have e:(picked S).thr=S.thr:=by unfold picked;split<;>rfl
 show ((picked S).thr.set i _)[i]? = _;rw[e];exact set_get ht
theorem going_oth {j:Nat}(hj:j≠i):(going S i t).thr[j]? = S.thr[j]?:=by
 have e:(picked S).thr=S.thr:=by unfold picked;split<;>rfl
 show ((picked S).thr.set i _)[j]? = _;rw[e,Qq,if_neg (λe=>hj e.symm)]
theorem going_len :(going S i t).thr.length=S.thr.length:=by
 have e:(picked S).thr=S.thr:=by unfold picked;split<;>rfl
 show ((picked S).thr.set i _).length=_;rw[e,List.length_set]
theorem going_keeps :(going S i t).chg=S.chg∧(going S i t).stk=S.stk∧(going S i t).n=S.n∧(going S i t).tr=S.tr:=by
 have e:(picked S).chg=S.chg∧(picked S).stk=S.stk∧(picked S).n=S.n∧(picked S).tr=S.tr:=by unfold picked;split<;>exact ⟨rfl,rfl,rfl,rfl⟩
 exact e
theorem pturn_mu {p1:PSt}(g:Gd M p) (e:pturn mc p=some p1):Gd M p1∧mu M p1<mu M p∧p1.S.n+mu M p1<=p.S.n+mu M p:=by
 unfold pturn at e;split at e
 .rename_i h0
  split at e
  .rename_i hw
   cases e;unfold waits2 at hw;rw[List.any_eq_true] at hw;obtain ⟨i,hi,hst⟩:=hw;cases ht:p.S.thr[i]? with
   |none=>rw[ht] at hst;cases hst
   |some t =>
    rw[ht] at hst;have hst:t.st=2:=by simpa using hst
    have hs:p.S.stk=false:=by
     cases hs:p.S.stk with
     |false=>rfl
     |true =>
      have:i∈rdyIds p.S p.S.thr.length:=by unfold rdyIds;rw[List.mem_filter];exact ⟨hi,by rw[ht];simp[rdy,hst,hs]⟩
      rw[h0] at this;cases this
    have hmu:mu M ⟨stuckS p.S undef,p.K,p.l⟩+1=mu M p:=by unfold mu;rw[hs];show 0+((List.range p.S.thr.length).map (wtI M ⟨stuckS p.S undef,p.K,p.l⟩)).sum+1=1+_;have:wtI M ⟨stuckS p.S undef,p.K,p.l⟩=wtI M p:=rfl;rw[this];omega
    refine ⟨⟨g.len,g.sit⟩,by omega,?_⟩;show p.S.n+1+_<=_;omega
  cases e
 .rename_i h0
  obtain ⟨t,ht,hrd⟩:=nextI_in h0;generalize hi:nextI p.S=i at ht e;have eth:thrI p.S i=t:=thrI_of ht;rw[eth] at e;obtain ⟨hfit,hst,hsi⟩:=g.sit i t ht;have hl:∀ a,p.l i≠.done a:=λa ha=>by rw[ha] at hst;have:t.st=3:=hst;simp[rdy,this] at hrd
  have hk:=going_keeps (S:=p.S) (i:=i) (t:=t);have hgt:=going_thr ht;have hw:∀ j q r k a,p.l i=.wait j q r k a->(going p.S i t).stk=true∨chgOf (going p.S i t).chg ({ t with st:=0 }:Thr).ce≠({ t with st:=0 }:Thr).se:=λj q r k a hpl=>by
   rw[hpl] at hst;have hst:t.st=2:=hst;rw[hk.1,hk.2.1];have:p.S.stk=true∨¬ chgOf p.S.chg t.ce=t.se:=by simpa [rdy,hst] using hrd
   exact this
  have hm:=resume_pro M i (p.l i) (going p.S i t) p.K { t with st:=0 } hgt hl hsi hw;have hg:=resume_fs i mc (going p.S i t) p.K { t with st:=0 } hgt (p.l i) hl;have sta:=resume_sta i mc (p.l i) (going p.S i t) p.K;generalize resume i mc (p.l i) (going p.S i t) p.K=R at e hm hg sta;cases e;have hilt:i<p.S.thr.length:=(Qc ht).1;have hlen:R.1.thr.length=p.S.thr.length:=by rw[sta.len,going_len]
  have hoth:∀ j,j≠i->R.1.thr[j]? = p.S.thr[j]?:=λj hj=>by rw[sta.oth j hj,going_oth hj]
  have hstk:R.1.stk=p.S.stk:=by rw[sta.stk,hk.2.1]
  have hwi:wtI M ⟨R.1,R.2.1,upd p.l i R.2.2⟩ i=32*tot M R.2.2+sw M R.1 R.2.1 (thrI R.1 i) R.2.2:=by show 32*tot M (upd p.l i R.2.2 i)+sw M R.1 R.2.1 (thrI R.1 i) (upd p.l i R.2.2 i)=_;rw[upd_same]
  have hwi0:wtI M p i=32*tot M (p.l i)+sw M p.S p.K t (p.l i):=by unfold wtI;rw[eth]
  have hwt:sw M (going p.S i t) p.K { t with st:=0 } (p.l i)=sw M p.S p.K t (p.l i):=by
   cases p.l i with
   |turn _ _ _ _ _ _=>rfl
   |done _=>rfl
   |wait _ _ _ _ _=>show (if chgOf (going p.S i t).chg t.ce=t.se then 0 else 2)=if _ then 0 else 2;rw[hk.1]
  rw[hwt] at hm;obtain ⟨hsit,hm⟩:=hm;have hj:∀ j,j≠i->thrI R.1 j=thrI p.S j:=λj hne=>by unfold thrI;rw[hoth j hne]
  have key:∃ d,1<=d∧R.1.n<=p.S.n+d∧((List.range R.1.thr.length).map (wtI M ⟨R.1,R.2.1,upd p.l i R.2.2⟩)).sum+d<=((List.range p.S.thr.length).map (wtI M p)).sum:=by
   rw[hlen];rcases hm with ⟨m1,m2,m3,m4,m5⟩|⟨m1,m3⟩
   .refine ⟨1,Qi _,by rw[hk.2.2.1] at m3;exact m3,?_⟩
    have:=sum_drop (wtI M p) (wtI M ⟨R.1,R.2.1,upd p.l i R.2.2⟩) 0 1 i p.S.thr.length hilt (λj _ hne=>by
     show 32*tot M (upd p.l i R.2.2 j)+sw M R.1 R.2.1 (thrI R.1 j) (upd p.l i R.2.2 j)<=_;rw[upd_ne _ _ hne,hj j hne,m2];have e3:sw M R.1 p.K (thrI p.S j) (p.l j)=sw M p.S p.K (thrI p.S j) (p.l j):=by
      cases p.l j with
      |turn _ _ _ _ _ _=>rfl
      |done _=>rfl
      |wait _ _ _ _ _=>show (if chgOf R.1.chg _=_ then 0 else 2)=if _ then 0 else 2;rw[m1,hk.1]
     rw[e3];exact Qi _) (by rw[hwi,hwi0,m2,m4];omega)
    omega
   .have h8:=g.len
    have s3:=sw_le M R.1 R.2.1 (thrI R.1 i) R.2.2;rw[hk.2.2.1] at m3;generalize hD:tot M (p.l i) - tot M R.2.2=D;have hD':tot M (p.l i)=tot M R.2.2+D:=by omega
    refine ⟨1+2*D,by omega,by omega,?_⟩;have:=sum_drop (wtI M p) (wtI M ⟨R.1,R.2.1,upd p.l i R.2.2⟩) 3 (32*D - 3) i p.S.thr.length hilt (λj _ hne=>by show 32*tot M (upd p.l i R.2.2 j)+sw M R.1 R.2.1 (thrI R.1 j) (upd p.l i R.2.2 j)<=_;rw[upd_ne _ _ hne];have:=sw_le M R.1 R.2.1 (thrI R.1 j) (p.l j);unfold wtI;omega) (by rw[hwi,hwi0,hD'];omega)
    omega
  obtain ⟨d,d1,d2,d3⟩:=key;refine ⟨⟨by rw[hlen];exact g.len,λj tj htj=>?_⟩,?_,?_⟩
  .by_cases hne:j=i
   .subst hne
    obtain ⟨t',g1,g2,g3⟩:=hg;have htj:R.1.thr[j]? = some tj:=htj;rw[g1] at htj;obtain rfl:=Qd htj;show FitsN (upd p.l j R.2.2 j) _∧StN (upd p.l j R.2.2 j) _∧sits M (upd p.l j R.2.2 j);rw[upd_same];exact ⟨g2,g3,hsit⟩
   .show FitsN (upd p.l i R.2.2 j) tj∧StN (upd p.l i R.2.2 j) tj∧sits M (upd p.l i R.2.2 j)
    rw[upd_ne _ _ hne];have htj:R.1.thr[j]? = some tj:=htj;exact g.sit j tj (by rw[<-hoth j hne];exact htj)
  .unfold mu
   show (if R.1.stk then 0 else 1)+((List.range R.1.thr.length).map (wtI M ⟨R.1,R.2.1,upd p.l i R.2.2⟩)).sum<_;rw[hstk];omega
  .unfold mu
   show R.1.n+((if R.1.stk then 0 else 1)+((List.range R.1.thr.length).map (wtI M ⟨R.1,R.2.1,upd p.l i R.2.2⟩)).sum)<=_;rw[hstk];omega
theorem turns_end:∀ (m:Nat) (p:PSt),mu M p<=m->Gd M p->∃ n p',n<=m∧Turns mc n p p'∧p'.S.n<=p.S.n+mu M p:=by
 intro m;induction m with
 |zero =>
  intro p hm g;cases e:pturn mc p with
  |none=>exact ⟨0,p,Qi _,.stop e,Nat.le_add_right _ _⟩
  |some p1=>have:=(pturn_mu M g e).2.1;omega
 |succ m ih =>
  intro p hm g;cases e:pturn mc p with
  |none=>exact ⟨0,p,Nat.zero_le _,.stop e,Nat.le_add_right _ _⟩
  |some p1 =>obtain ⟨g1,h1,h2⟩:=pturn_mu M g e;obtain ⟨n,p',k1,k2,k3⟩:=ih p1 (by omega) g1;exact ⟨n+1,p',by omega,.step e k2,by omega⟩
theorem turns_gd (h:Turns mc m p p') (g:Gd M p):Gd M p'∧p'.S.n+mu M p'<=p.S.n+mu M p:=by
 induction h with
 |stop=>exact ⟨g,Qi _⟩
 |step e _ ih =>obtain ⟨g1,_,h2⟩:=pturn_mu M g e;have:=ih g1;exact ⟨this.1,by omega⟩
theorem hires_gd {ss:List (Scr mc)}{S':TS}{l':Nat->Ph}(h:Hires mc k ss S l S' l') (hk:S.thr.length=k) (h8:k+ss.length<=8) (hs:∀ i t,S.thr[i]? = some t->FitsN (l i) t∧StN (l i) t∧sits M (l i)):
 S'.thr.length=k+ss.length∧(∀ i t,S'.thr[i]? = some t->FitsN (l' i) t∧StN (l' i) t∧sits M (l' i))∧S'.n<=S.n+2*lens ss∧((List.range S'.thr.length).map λi=>tot M (l' i)).sum<=((List.range S.thr.length).map λi=>tot M (l i)).sum+M.L*lens ss:=by
 induction h with
 |nil=>exact ⟨by simpa using hk,hs,Nat.le_add_right _ _,Nat.le_add_right _ _⟩
 |@cons k s ss S S' l l' tv tb gc h ih =>
  have hlen:(hiredS S tv tb gc).thr.length=k+1:=by simp[hiredS,hk]
  obtain ⟨t0,ht0⟩:∃ t0,(hiredS S tv tb gc).thr[k]? = some t0:=⟨_,Qf (by omega)⟩
  have sta:=flow_sta k mc s.calls 0 false s.ans (hiredS S tv tb gc);obtain ⟨t1,f1,f2,f3⟩:=flow_fs k mc s.calls 0 false s.ans (hiredS S tv tb gc) t0 ht0;have hle:=flow_le k mc s.calls 0 false s.ans (hiredS S tv tb gc);obtain ⟨hlf,_,_,hsf⟩:=flow_tot M k s.calls 0 false s.ans (hiredS S tv tb gc);have hn0:(hiredS S tv tb gc).n=S.n:=rfl;simp only[List.length_cons] at h8;obtain ⟨i1,i2,i3,i4⟩:=ih (by rw[sta.len,hlen]) (by omega) (λi t ht=>by
   by_cases hi:i=k
   .subst hi
    rw[f1] at ht;cases ht;rw[upd_same];exact ⟨f2,f3,hsf⟩
   .rw[upd_ne _ _ hi]
    rw[sta.oth i hi] at ht;refine hs i t ?_;have:i<k:=by have:=(Qc ht).1;omega
    simpa [hiredS,List.getElem?_append,hk,this] using ht)
  refine ⟨by rw[i1];simp only[List.length_cons];omega,i2,?_,?_⟩
  .simp only[lens,List.map_cons,List.sum_cons] at i3 ⊢
   omega
  .have e1:(flow k mc s.calls 0 false s.ans (hiredS S tv tb gc)).1.thr.length=k+1:=by rw[sta.len,hlen]
   rw[e1,List.range_succ,List.map_append,List.sum_append] at i4;simp only[List.map_cons,List.map_nil,List.sum_cons,List.sum_nil] at i4;rw[upd_same] at i4;have e2:(List.range k).map (λi=>tot M (upd l k (flow k mc s.calls 0 false s.ans (hiredS S tv tb gc)).2 i))=(List.range k).map (λi=>tot M (l i)):=List.map_congr_left (λi hi=>by have:i<k:=List.mem_range.1 hi;rw[upd_ne _ _ (by omega)])
   rw[e2] at i4;rw[hk];simp only[lens,List.map_cons,List.sum_cons] at i4 ⊢;rw[Nat.mul_add];omega
theorem mu_le (p:PSt) (h8:p.S.thr.length<=8):mu M p<=25+32*((List.range p.S.thr.length).map λi=>tot M (p.l i)).sum:=by
 have h:∀ k,((List.range k).map (wtI M p)).sum<=32*((List.range k).map λi=>tot M (p.l i)).sum+3*k:=λk=>by
  induction k with
  |zero=>simp
  |succ k ih =>rw[List.range_succ,List.map_append,List.map_append,List.sum_append,List.sum_append];simp only[List.map_cons,List.map_nil,List.sum_cons,List.sum_nil];have:=sw_le M p.S p.K (thrI p.S k) (p.l k);unfold wtI at ih ⊢;omega
 have:=h p.S.thr.length;unfold mu;split<;>omega
theorem play_ends {ss:List (Scr mc)}{l0 l1:Nat->Ph}(h:Hires mc 0 ss S l0 S1 l1) (h0:S.thr=[]) (h8:ss.length<=8) (hl:lens ss<=512) (hL:M.L<=16) (hn:S.n=0):
 ∃ m p',m<=300000∧Turns mc m ⟨S1,K,l1⟩ p'∧p'.S.n*40<=140737488355328:=by
 obtain ⟨a1,a2,a3,a4⟩:=hires_gd M h (by rw[h0];rfl) (by omega) (λi t ht=>by rw[h0] at ht;cases ht);have g:Gd M ⟨S1,K,l1⟩:=⟨by show S1.thr.length<=8;omega,a2⟩
 have hm:=mu_le M ⟨S1,K,l1⟩ g.len;rw[h0] at a4;simp only[List.length_nil,List.range_zero,List.map_nil,List.sum_nil] at a4;have h5:M.L*lens ss<=16*512:=Nat.mul_le_mul hL hl;have hm2:mu M ⟨S1,K,l1⟩<=300000:=by refine Qk hm ?_;show 25+32*((List.range S1.thr.length).map λi=>tot M (l1 i)).sum<=300000;omega
 obtain ⟨m,p',k1,k2,k3⟩:=turns_end M 300000 ⟨S1,K,l1⟩ hm2 g;refine ⟨m,p',k1,k2,?_⟩;have k3:p'.S.n<=S1.n+mu M ⟨S1,K,l1⟩:=k3;omega
theorem play_small {ss:List (Scr mc)}{l0 l1:Nat->Ph}(h:Hires mc 0 ss S l0 S1 l1) (hT:Turns mc m ⟨S1,K,l1⟩ p') (h0:S.thr=[]) (h8:ss.length<=8) (hl:lens ss<=512) (hL:M.L<=16) (hn:S.n=0):p'.S.n<=400000:=by
 obtain ⟨a1,a2,a3,a4⟩:=hires_gd M h (by rw[h0];rfl) (by omega) (λi t ht=>by rw[h0] at ht;cases ht);have g:Gd M ⟨S1,K,l1⟩:=⟨by show S1.thr.length<=8;omega,a2⟩
 have hm:=mu_le M ⟨S1,K,l1⟩ g.len;rw[h0] at a4;simp only[List.length_nil,List.range_zero,List.map_nil,List.sum_nil] at a4;have h5:M.L*lens ss<=16*512:=Nat.mul_le_mul hL hl;have hm2:mu M ⟨S1,K,l1⟩<=300000:=by refine Qk hm ?_;show 25+32*((List.range S1.thr.length).map λi=>tot M (l1 i)).sum<=300000;omega
 have:=(turns_gd M hT g).2;have k3:p'.S.n+mu M p'<=S1.n+mu M ⟨S1,K,l1⟩:=this;omega
end
structure Stp where
 th:Int
 ce:Int
 op:Int
 ol:Int
 ne:Int
def flat (L:List Stp):List Value:=L.flatMap λs=>[I s.th,I s.ce,I s.op,I s.ol,I s.ne]
theorem flat_app (a b:List Stp):flat (a++b)=flat a++flat b:=List.flatMap_append
theorem flat_get:∀ (L:List Stp) (k:Nat) (s:Stp),L[k]? = some s->(flat L)[k*5]? = some (I s.th)∧(flat L)[k*5+1]? = some (I s.ce)∧(flat L)[k*5+2]? = some (I s.op)∧(flat L)[k*5+3]? = some (I s.ol)∧(flat L)[k*5+4]? = some (I s.ne)
 |b :: l,0,a,h=>by obtain rfl:b=a:=by simpa using h
                   exact ⟨rfl,rfl,rfl,rfl,rfl⟩
 |b :: l,k+1,a,h=>by have:=flat_get l k a (by simpa using h);have e:flat (b :: l)=I b.th :: I b.ce :: I b.op :: I b.ol :: I b.ne :: flat l:=rfl;rw[e];have e0:∀ j,(I b.th :: I b.ce :: I b.op :: I b.ol :: I b.ne :: flat l)[j+5]? = (flat l)[j]?:=λj=>rfl;rw[show (k+1)*5=k*5+5 by omega,show k*5+5+1=(k*5+1)+5 by omega,show k*5+5+2=(k*5+2)+5 by omega,show k*5+5+3=(k*5+3)+5 by omega,show k*5+5+4=(k*5+4)+5 by omega];simp only[e0];exact this
theorem flat_one (L:List Stp):∀ u∈flat L,u.oneCell'=true:=λu hu=>by simp only[flat,List.mem_flatMap] at hu;obtain ⟨s,_,hu⟩:=hu;simp only[Sm,or_false] at hu;rcases hu with rfl|rfl|rfl|rfl|rfl<;>rfl
structure Adds (S S':TS) (X:List Stp):Prop where
 tr:S'.tr=S.tr++flat X
 n:S'.n=S.n+X.length
theorem Adds.refl (S:TS):Adds S S []:=⟨by simp[flat],rfl⟩
theorem Adds.trans {S2:TS}{L L':List Stp}(h:Adds S S1 L) (k:Adds S1 S2 L'):Adds S S2 (L++L'):=⟨by rw[k.tr,h.tr,flat_app,List.append_assoc],by rw[k.n,h.n,Qj,Nat.add_assoc]⟩
theorem adds_noted (S:TS) (tv:Value) (i:Nat) (op ce ol ne:Int):Adds S (noted S tv i op ce ol ne) [⟨i,ce,op,ol,ne⟩]:=⟨rfl,rfl⟩
theorem adds_did (S:TS) (tv:Value) (i:Nat) (t:Thr) (b a:Int):Adds S (didS S tv i t b a) [⟨i,t.ce,t.op,b,a⟩]:=by unfold didS;split<;>exact ⟨rfl,rfl⟩
section
variable {mc:Mc}
inductive Fw (mc:Mc) (i:Nat) (stk:Bool):List Cl->Nat->Bool->List (Int×Int)->List Stp->Ph->Prop
 |nil {ii:Nat} {sk:Bool} {ans:List (Int×Int)}:Fw mc i stk [] ii sk ans [] (.done ans)
 |skip {c:Cl} {rest:List Cl} {ii:Nat} {ans:List (Int×Int)} {X:List Stp} {l:Ph}:Fw mc i stk rest (ii+1) true (ans.set ii (4,0)) X l->Fw mc i stk (c :: rest) ii true ans X l
 |ans {c:Cl} {rest:List Cl} {ii:Nat} {ans:List (Int×Int)} {X:List Stp} {l:Ph} {e x:Int}:mc.start i c=.ans e x->Fw mc i stk rest (ii+1) (e==4) (ans.set ii (e,x)) X l->Fw mc i stk (c :: rest) ii false ans (⟨i,-1,9,ii,0⟩ :: ⟨i,-1,10,ii,e⟩ :: X) l
 |turn {c:Cl} {rest:List Cl} {ii:Nat} {ans:List (Int×Int)} {op:Int} {j:Nat} {q:Q}:mc.start i c=.turn op j q->Fw mc i stk (c :: rest) ii false ans [⟨i,-1,9,ii,0⟩] (.turn op j q rest ii ans)
 |wait {c:Cl} {rest:List Cl} {ii:Nat} {ans:List (Int×Int)} {j:Nat} {q:Q}:mc.start i c=.wait j q->stk=false->Fw mc i stk (c :: rest) ii false ans [⟨i,-1,9,ii,0⟩] (.wait j q rest ii ans)
 |waits {c:Cl} {rest:List Cl} {ii:Nat} {ans:List (Int×Int)} {X:List Stp} {l:Ph} {j:Nat} {q:Q}:mc.start i c=.wait j q->stk=true->Fw mc i stk rest (ii+1) ((mc.stuck q).1==4) (ans.set ii (mc.stuck q)) X l->Fw mc i stk (c :: rest) ii false ans (⟨i,-1,9,ii,0⟩ :: ⟨i,-1,10,ii,(mc.stuck q).1⟩ :: X) l
inductive On (mc:Mc) (i:Nat) (stk:Bool) (rest:List Cl) (ii:Nat) (ans:List (Int×Int)):Nx->List Stp->Ph->Prop
 |ans {e x:Int} {X:List Stp} {l:Ph}:Fw mc i stk rest (ii+1) (e==4) (ans.set ii (e,x)) X l->On mc i stk rest ii ans (.ans e x) (⟨i,-1,10,ii,e⟩ :: X) l
 |turn {op:Int} {j:Nat} {q:Q}:On mc i stk rest ii ans (.turn op j q) [] (.turn op j q rest ii ans)
 |wait {j:Nat} {q:Q}:stk=false->On mc i stk rest ii ans (.wait j q) [] (.wait j q rest ii ans)
 |waits {j:Nat} {q:Q} {X:List Stp} {l:Ph}:stk=true->Fw mc i stk rest (ii+1) ((mc.stuck q).1==4) (ans.set ii (mc.stuck q)) X l->On mc i stk rest ii ans (.wait j q) (⟨i,-1,10,ii,(mc.stuck q).1⟩ :: X) l
def Aw (chg:List Int) (l:Ph) (t:Thr):Prop:=∀ (j:Nat) (q:Q) (r:List Cl) (k:Nat) (a:List (Int×Int)),l=.wait j q r k a->t.ce=(j:Int)∧t.se=chgOf chg j
theorem flow_fw (i:Nat):∀ (rest:List Cl) (ii:Nat) (sk:Bool) (ans:List (Int×Int)) (S:TS) (t:Thr),S.thr[i]? = some t->∃ X,Fw mc i S.stk rest ii sk ans X (flow i mc rest ii sk ans S).2∧Adds S (flow i mc rest ii sk ans S).1 X∧(flow i mc rest ii sk ans S).1.chg=S.chg∧Aw S.chg (flow i mc rest ii sk ans S).2 (thrI (flow i mc rest ii sk ans S).1 i)
 | [],ii,sk,ans,S,t,ht=>by cases sk<;>exact ⟨[],.nil,⟨by simp[flat];rfl,rfl⟩,rfl,λj q r k a h=>by cases h⟩
 |c :: rest,ii,true,ans,S,t,ht=>by obtain ⟨X,h1,h2⟩:=flow_fw i rest (ii+1) true (ans.set ii (4,0)) S t ht;exact ⟨X,.skip h1,h2⟩
 |c :: rest,ii,false,ans,S,t,ht=>by
  unfold flow;cases h:mc.start i c with
  |ans e x =>obtain ⟨X,h1,h2,h3,h4⟩:=flow_fw i rest (ii+1) (e==4) (ans.set ii (e,x)) (noted (noted S undef i 9 (-1) ii 0) undef i 10 (-1) ii e) t ht;exact ⟨_,.ans h h1,((adds_noted S undef i 9 (-1) ii 0).trans (adds_noted _ undef i 10 (-1) ii e)).trans h2,h3,h4⟩
  |turn op j q =>exact ⟨_,.turn h,⟨rfl,rfl⟩,rfl,λj q r k a h=>by cases h⟩
  |wait j q =>
   simp only;cases hs:S.stk with
   |true =>rw[if_pos rfl];obtain ⟨X,h1,h2,h3,h4⟩:=flow_fw i rest (ii+1) ((mc.stuck q).1==4) (ans.set ii (mc.stuck q)) (noted (noted S undef i 9 (-1) ii 0) undef i 10 (-1) ii (mc.stuck q).1) t ht;have hs':(noted (noted S undef i 9 (-1) ii 0) undef i 10 (-1) ii (mc.stuck q).1).stk=true:=hs;rw[hs'] at h1;exact ⟨_,.waits h rfl h1,((adds_noted S undef i 9 (-1) ii 0).trans (adds_noted _ undef i 10 (-1) ii (mc.stuck q).1)).trans h2,h3,h4⟩
   |false =>rw[if_neg (by decide)];refine ⟨_,.wait h rfl,⟨rfl,rfl⟩,rfl,λj' q' r k a h=>?_⟩;cases h;have e:thrI (waiting (noted S undef i 9 (-1) ii 0) i (thrI S i) 2 6 j) i={ thrI S i with st:=2,ce:=j,op:=6,se:=chgOf S.chg j }:=thrI_of (set_get (S:=noted S undef i 9 (-1) ii 0) ht);rw[e];exact ⟨rfl,rfl⟩
theorem back_fw (i:Nat) (rest:List Cl) (ii:Nat) (ans:List (Int×Int)) (a:Int×Int) (S:TS) (K:List (Nat×Int)) (t:Thr) (ht:S.thr[i]? = some t):∃ X,Fw mc i S.stk rest (ii+1) (a.1==4) (ans.set ii a) X (back i mc rest ii ans a S K).2.2∧Adds S (back i mc rest ii ans a S K).1 (⟨i,-1,10,ii,a.1⟩ :: X)∧(back i mc rest ii ans a S K).1.chg=S.chg∧Aw S.chg (back i mc rest ii ans a S K).2.2 (thrI (back i mc rest ii ans a S K).1 i)∧(back i mc rest ii ans a S K).2.1=K:=by obtain ⟨X,h1,h2,h3,h4⟩:=flow_fw (mc:=mc) i rest (ii+1) (a.1==4) (ans.set ii a) (noted S undef i 10 (-1) ii a.1) t ht;exact ⟨X,h1,(adds_noted S undef i 10 (-1) ii a.1).trans h2,h3,h4,rfl⟩
theorem on_fw (i:Nat) (rest:List Cl) (ii:Nat) (ans:List (Int×Int)) (S:TS) (K:List (Nat×Int)) (x:Nx) (t:Thr) (ht:S.thr[i]? = some t):∃ X,On mc i S.stk rest ii ans x X (on i mc rest ii ans S K x).2.2∧Adds S (on i mc rest ii ans S K x).1 X∧(on i mc rest ii ans S K x).1.chg=S.chg∧Aw S.chg (on i mc rest ii ans S K x).2.2 (thrI (on i mc rest ii ans S K x).1 i)∧(on i mc rest ii ans S K x).2.1=K:=by
 cases x with
 |ans e y =>obtain ⟨X,h1,h2,h3,h4,h5⟩:=back_fw (mc:=mc) i rest ii ans (e,y) S K t ht;exact ⟨_,.ans h1,h2,h3,h4,h5⟩
 |turn op j q=>exact ⟨[],.turn,⟨by simp[flat];rfl,rfl⟩,rfl,λj q r k a h=>(by cases h),rfl⟩
 |wait j q =>
  rw[on_wait];cases hs:S.stk with
  |true =>rw[if_pos rfl];obtain ⟨X,h1,h2,h3,h4,h5⟩:=back_fw (mc:=mc) i rest ii ans (mc.stuck q) S K t ht;rw[hs] at h1;exact ⟨_,.waits rfl h1,h2,h3,h4,h5⟩
  |false =>rw[if_neg (by decide)];refine ⟨[],.wait rfl,⟨by simp[flat];rfl,rfl⟩,rfl,λj' q' r k a h=>?_,rfl⟩;cases h;have e:thrI (waiting S i (thrI S i) 2 6 j) i={ thrI S i with st:=2,ce:=j,op:=6,se:=chgOf S.chg j }:=thrI_of (set_get ht);rw[e];exact ⟨rfl,rfl⟩
structure Vw where
 K:List Int
 stk:Bool
 chg:List Int
 se:Nat->Int
 l:Nat->Ph
 L:List Stp
def bump (chg:List Int) (j:Nat) (o n:Int):List Int:=if o≠n∧j<chg.length then chg.modify j (λx=>wrap64 (x+1)) else chg
structure Els (i:Nat) (l':Ph) (v v1:Vw):Prop where
 l:v1.l=upd v.l i l'
 oth:∀ k,k≠i->v1.se k=v.se k
 own:∀ j q r k a,l'=.wait j q r k a->v1.se i=chgOf v1.chg j
inductive Mv (mc:Mc) (N:Nat) (v v1:Vw):Prop
 |stuck:v.stk=false->(∀ i,i<N->(∃ a,v.l i=.done a)∨∃ j q r k a,v.l i=.wait j q r k a∧chgOf v.chg j=v.se i)->(∃ i,i<N∧∃ j q r k a,v.l i=.wait j q r k a) ->
   v1={ v with stk:=true,L:=v.L++[⟨-1,-1,7,0,0⟩] }->Mv mc N v v1
 |turn (i:Nat) (op:Int) (j:Nat) (q:Q) (rest:List Cl) (ii:Nat) (ans:List (Int×Int)) (X:List Stp) (l':Ph):i<N->v.l i=.turn op j q rest ii ans->On mc i v.stk rest ii ans (mc.turn q (v.K.getD j 0)).2.2 X l'->Els i l' v v1 ->
   v1.K=v.K.set j (mc.turn q (v.K.getD j 0)).2.1->v1.stk=v.stk->v1.chg=bump v.chg j (mc.turn q (v.K.getD j 0)).1.1 (mc.turn q (v.K.getD j 0)).1.2->v1.L=v.L++⟨i,j,op,(mc.turn q (v.K.getD j 0)).1.1,(mc.turn q (v.K.getD j 0)).1.2⟩ :: X->Mv mc N v v1
 |wake (i j:Nat) (q:Q) (rest:List Cl) (ii:Nat) (ans:List (Int×Int)) (X:List Stp) (l':Ph):i<N->v.l i=.wait j q rest ii ans->v.stk=false->chgOf v.chg j≠v.se i->On mc i false rest ii ans (mc.woke q) X l'->Els i l' v v1 ->
   v1.K=v.K->v1.stk=false->v1.chg=v.chg->v1.L=v.L++⟨i,j,6,0,0⟩ :: X->Mv mc N v v1
 |free (i j:Nat) (q:Q) (rest:List Cl) (ii:Nat) (ans:List (Int×Int)) (X:List Stp) (l':Ph):i<N->v.l i=.wait j q rest ii ans->v.stk=true->Fw mc i true rest (ii+1) ((mc.stuck q).1==4) (ans.set ii (mc.stuck q)) X l'->Els i l' v v1 ->
   v1.K=v.K->v1.stk=true->v1.chg=v.chg->v1.L=v.L++⟨i,-1,10,ii,(mc.stuck q).1⟩ :: X->Mv mc N v v1
structure Seen (p:PSt) (v:Vw):Prop where
 K:v.K=p.K.map (·.2)
 stk:v.stk=p.S.stk
 chg:v.chg=p.S.chg
 se:∀ i,v.se i=(thrI p.S i).se
 l:v.l=p.l
 tr:p.S.tr=flat v.L
 n:p.S.n=v.L.length
 ce:∀ i t,p.S.thr[i]? = some t->∀ (j:Nat) (q:Q) (r:List Cl) (k:Nat) (a:List (Int×Int)),p.l i=.wait j q r k a->t.ce=(j:Int)
theorem getD_cell (K:List (Nat×Int)) (j:Nat):(K.map (·.2)).getD j 0=(cellAt K j).2:=by unfold cellAt;rw[Ql,List.getElem?_map];cases K[j]?<;>rfl
theorem pturn_mv (M:Met mc) {p1:PSt}{v:Vw}(g:Gd M p) (s:Seen p v) (e:pturn mc p=some p1):∃ v1,Mv mc p.S.thr.length v v1∧Seen p1 v1:=by
 unfold pturn at e;split at e
 .rename_i h0
  split at e
  .rename_i hw
   cases e;have hall:∀ i t,p.S.thr[i]? = some t->rdy p.S t=false:=λi t ht=>by
    cases hr:rdy p.S t with
    |false=>rfl
    |true =>
     have:i∈rdyIds p.S p.S.thr.length:=by unfold rdyIds;rw[List.mem_filter];exact ⟨List.mem_range.2 (Qc ht).1,by rw[ht];exact hr⟩
     rw[h0] at this;cases this
   unfold waits2 at hw;rw[List.any_eq_true] at hw;obtain ⟨i,hi,hst⟩:=hw;have hi:=List.mem_range.1 hi;obtain ⟨t,ht⟩:∃ t,p.S.thr[i]? = some t:=⟨_,Qf hi⟩
   rw[ht] at hst;have hst:t.st=2:=by simpa using hst
   have hs:p.S.stk=false:=by
    have:=hall i t ht;cases hs:p.S.stk with
    |false=>rfl
    |true=>simp[rdy,hst,hs] at this
   refine ⟨{ v with stk:=true,L:=v.L++[⟨-1,-1,7,0,0⟩] },.stuck (by rw[s.stk];exact hs) (λk hk=>?_) ⟨i,hi,?_⟩ rfl,⟨s.K,rfl,s.chg,s.se,s.l,?_,?_,s.ce⟩⟩
   .obtain ⟨tk,htk⟩:∃ t,p.S.thr[k]? = some t:=⟨_,Qf hk⟩
    have hnr:=hall k tk htk;obtain ⟨_,h2,_⟩:=g.sit k tk htk;have hce:=s.ce k tk htk;rw[s.l,s.chg,s.se k,thrI_of htk]
    match hl:p.l k,h2 with
    |.done a,_=>exact .inl ⟨a,rfl⟩
    |.turn _ _ _ _ _ _,h2 =>have h2:tk.st=1:=h2;simp[rdy,h2] at hnr
    |.wait j q r kk a,h2 =>
     have h2:tk.st=2:=h2;have e1:=hce j q r kk a hl;refine .inr ⟨j,q,r,kk,a,rfl,?_⟩;have:chgOf p.S.chg tk.ce=tk.se:=by simpa [rdy,h2,hs] using hnr
     rw[<-e1];exact this
   .obtain ⟨_,h2,_⟩:=g.sit i t ht
    rw[s.l]
    match hl:p.l i,h2 with
    |.done a,h2=>have h2:t.st=3:=h2;omega
    |.turn _ _ _ _ _ _,h2=>have h2:t.st=1:=h2;omega
    |.wait j q r kk a,_=>exact ⟨j,q,r,kk,a,rfl⟩
   .show p.S.tr++_=flat (v.L++_)
    rw[flat_app,s.tr];rfl
   .show p.S.n+1=(v.L++_).length
    rw[Qj,s.n];rfl
  cases e
 .rename_i h0
  obtain ⟨t,ht,hrd⟩:=nextI_in h0;generalize hi:nextI p.S=i at ht e;have eth:thrI p.S i=t:=thrI_of ht;rw[eth] at e;obtain ⟨hfit,hst,hsi⟩:=g.sit i t ht;have hl:∀ a,p.l i≠.done a:=λa ha=>by rw[ha] at hst;have:t.st=3:=hst;simp[rdy,this] at hrd
  have hk:=going_keeps (S:=p.S) (i:=i) (t:=t);have hgt:=going_thr ht;have sta:=resume_sta i mc (p.l i) (going p.S i t) p.K;have hilt:i<p.S.thr.length:=(Qc ht).1;have hoth:∀ j,j≠i->(resume i mc (p.l i) (going p.S i t) p.K).1.thr[j]? = p.S.thr[j]?:=λj hj=>by rw[sta.oth j hj,going_oth hj]
  have hstk:(resume i mc (p.l i) (going p.S i t) p.K).1.stk=p.S.stk:=by rw[sta.stk,hk.2.1]
  cases e;have seen:∀ (Y:List Stp) (chg':List Int) (K':List Int),Adds (going p.S i t) (resume i mc (p.l i) (going p.S i t) p.K).1 Y->(resume i mc (p.l i) (going p.S i t) p.K).1.chg=chg'->(resume i mc (p.l i) (going p.S i t) p.K).2.1.map (·.2)=K'->Aw chg' (resume i mc (p.l i) (going p.S i t) p.K).2.2 (thrI (resume i mc (p.l i) (going p.S i t) p.K).1 i) ->
   Seen ⟨(resume i mc (p.l i) (going p.S i t) p.K).1,(resume i mc (p.l i) (going p.S i t) p.K).2.1,upd p.l i (resume i mc (p.l i) (going p.S i t) p.K).2.2⟩ ⟨K',p.S.stk,chg',λk=>(thrI (resume i mc (p.l i) (going p.S i t) p.K).1 k).se,upd p.l i (resume i mc (p.l i) (going p.S i t) p.K).2.2,v.L++Y⟩ ∧
   Els i (resume i mc (p.l i) (going p.S i t) p.K).2.2 v ⟨K',p.S.stk,chg',λk=>(thrI (resume i mc (p.l i) (going p.S i t) p.K).1 k).se,upd p.l i (resume i mc (p.l i) (going p.S i t) p.K).2.2,v.L++Y⟩:=λY chg' K' ha hc hK hA=>by
   refine ⟨⟨hK.symm,hstk.symm,hc.symm,λ_=>rfl,rfl,?_,?_,λk tk htk j q r kk a hl=>?_⟩,⟨by rw[s.l],λk hne=>?_,λj q r k a h=>(hA j q r k a h).2⟩⟩
   .show (resume i mc (p.l i) (going p.S i t) p.K).1.tr=_
    rw[ha.tr,hk.2.2.2,s.tr,flat_app]
   .show (resume i mc (p.l i) (going p.S i t) p.K).1.n=_
    rw[ha.n,hk.2.2.1,s.n,Qj]
   .have htk:(resume i mc (p.l i) (going p.S i t) p.K).1.thr[k]? = some tk:=htk
    have hl:upd p.l i (resume i mc (p.l i) (going p.S i t) p.K).2.2 k=.wait j q r kk a:=hl;by_cases hne:k=i
    .subst hne
     rw[upd_same] at hl;have:=(hA j q r kk a hl).1;rw[thrI_of htk] at this;exact this
    .rw[upd_ne _ _ hne] at hl
     rw[hoth k hne] at htk;exact s.ce k tk htk j q r kk a hl
   .show (thrI (resume i mc (p.l i) (going p.S i t) p.K).1 k).se=_
    rw[s.se k];unfold thrI;rw[hoth k hne]
  match hpl:p.l i,hl,hfit,hst with
  |.done a,hl,_,_=>exact absurd rfl (hl a)
  |.turn op j q rest ii ans,_,hfit,hst =>
   have hvl:v.l i=.turn op j q rest ii ans:=by rw[s.l];exact hpl
   have hx:v.K.getD j 0=(cellAt p.K j).2:=by rw[s.K];exact getD_cell _ _
   have ht0:thrI (going p.S i t) i={ t with st:=0 }:=thrI_of hgt;rw[hpl] at seen;rw[resume_turn] at seen ⊢;rw[ht0] at seen ⊢;obtain ⟨X,o1,o2,o3,o4,o5⟩:=on_fw (mc:=mc) i rest ii ans (didS (going p.S i t) undef i { t with st:=0 } (mc.turn q (cellAt p.K j).2).1.1 (mc.turn q (cellAt p.K j).2).1.2) (p.K.set j ((cellAt p.K j).1,(mc.turn q (cellAt p.K j).2).2.1)) (mc.turn q (cellAt p.K j).2).2.2 { t with st:=0 } (did_thr hgt);have hadd:=(adds_did (going p.S i t) undef i { t with st:=0 } (mc.turn q (cellAt p.K j).2).1.1 (mc.turn q (cellAt p.K j).2).1.2).trans o2;have ho:t.op=op:=hfit.1;have hc:t.ce=j:=hfit.2;have hadd:Adds (going p.S i t) (on i mc rest ii ans (didS (going p.S i t) undef i { t with st:=0 } (mc.turn q (cellAt p.K j).2).1.1 (mc.turn q (cellAt p.K j).2).1.2) (p.K.set j ((cellAt p.K j).1,(mc.turn q (cellAt p.K j).2).2.1)) (mc.turn q (cellAt p.K j).2).2.2).1 (⟨i,j,op,(mc.turn q (cellAt p.K j).2).1.1,(mc.turn q (cellAt p.K j).2).1.2⟩ :: X):=by rw[<-ho,<-hc];exact hadd
   have hchg:(didS (going p.S i t) undef i { t with st:=0 } (mc.turn q (cellAt p.K j).2).1.1 (mc.turn q (cellAt p.K j).2).1.2).chg=bump p.S.chg j (mc.turn q (cellAt p.K j).2).1.1 (mc.turn q (cellAt p.K j).2).1.2:=by
    unfold didS bump;by_cases hb:(mc.turn q (cellAt p.K j).2).1.1≠(mc.turn q (cellAt p.K j).2).1.2∧j<p.S.chg.length
    .rw[if_pos ⟨hb.1,by show (0:Int)<=t.ce;omega,by show t.ce<((going p.S i t).chg.length:Int);rw[hk.1];omega⟩,if_pos hb]
     show (going p.S i t).chg.modify t.ce.toNat _=_;rw[hk.1,hc];rfl
    .rw[if_neg (λh=>hb ⟨h.1,by have h3:t.ce<((going p.S i t).chg.length:Int):=h.2.2;rw[hk.1] at h3;omega⟩),if_neg hb]
     exact hk.1
   have hds:(didS (going p.S i t) undef i { t with st:=0 } (mc.turn q (cellAt p.K j).2).1.1 (mc.turn q (cellAt p.K j).2).1.2).stk=p.S.stk:=by rw[(sta_did (i:=i) _ _ _ _ _).stk,hk.2.1]
   rw[hchg] at o3 o4;rw[hds] at o1;obtain ⟨z1,z2⟩:=seen _ _ _ hadd o3 (by rw[o5]) o4;refine ⟨_,.turn i op j q rest ii ans X _ hilt hvl (by rw[s.stk,hx];exact o1) z2 ?_ s.stk.symm (by rw[hx,s.chg]) (by rw[hx]),z1⟩;show (p.K.set j _).map (·.2)=_;rw[s.K,List.map_set,<-s.K,hx]
  |.wait j q rest ii ans,_,hfit,hst =>
   have hvl:v.l i=.wait j q rest ii ans:=by rw[s.l];exact hpl
   have hst:t.st=2:=hst;have hce:=s.ce i t ht j q rest ii ans hpl;rw[hpl] at seen;rw[resume_wait] at seen ⊢;cases hs:p.S.stk with
   |true =>
    have hs':(going p.S i t).stk=true:=by rw[hk.2.1];exact hs
    rw[if_pos hs'] at seen ⊢;obtain ⟨X,o1,o2,o3,o4,o5⟩:=back_fw (mc:=mc) i rest ii ans (mc.stuck q) (going p.S i t) p.K { t with st:=0 } hgt;rw[hs'] at o1;rw[hk.1] at o3 o4;obtain ⟨z1,z2⟩:=seen _ _ _ o2 o3 (by rw[o5]) o4;exact ⟨_,.free i j q rest ii ans X _ hilt hvl (by rw[s.stk];exact hs) o1 z2 s.K.symm hs s.chg.symm rfl,z1⟩
   |false =>
    have hs':(going p.S i t).stk=false:=by rw[hk.2.1];exact hs
    rw[if_neg (by rw[hs'];decide)] at seen ⊢;obtain ⟨X,o1,o2,o3,o4,o5⟩:=on_fw (mc:=mc) i rest ii ans (noted (going p.S i t) undef i 6 j 0 0) p.K (mc.woke q) { t with st:=0 } hgt;have hs2:(noted (going p.S i t) undef i 6 j 0 0).stk=false:=hs';rw[hs2] at o1;have hc2:(noted (going p.S i t) undef i 6 j 0 0).chg=p.S.chg:=hk.1;rw[hc2] at o3 o4;obtain ⟨z1,z2⟩:=seen _ _ _ ((adds_noted (going p.S i t) undef i 6 j 0 0).trans o2) o3 (by rw[o5]) o4;refine ⟨_,.wake i j q rest ii ans X _ hilt hvl (by rw[s.stk];exact hs) ?_ o1 z2 s.K.symm hs s.chg.symm rfl,z1⟩;rw[s.chg,s.se i,eth,<-hce];simpa [rdy,hst,hs] using hrd
theorem turns_mv (M:Met mc) {Inv:Vw->Prop}(hI:∀ v v1,Inv v->Mv mc N v v1->Inv v1) (h:Turns mc m p p'):∀ v,p.S.thr.length=N->Gd M p->Seen p v->Inv v->∃ v',Inv v'∧Seen p' v'∧p'.S.thr.length=N∧∀ i,i<N->∃ a,v'.l i=.done a:=by
 induction h with
 |@stop p hs =>
  intro v hN g s hv;refine ⟨v,hv,s,hN,λi hi=>?_⟩;obtain ⟨t,ht⟩:∃ t,p.S.thr[i]? = some t:=⟨_,Qf (by omega)⟩
  obtain ⟨_,h2,_⟩:=g.sit i t ht;unfold pturn at hs;split at hs
  .rename_i h0
   split at hs;cases hs
   .rename_i hw
    rw[s.l]
    match hl:p.l i,h2 with
    |.done a,_=>exact ⟨a,rfl⟩
    |.turn _ _ _ _ _ _,h2 =>
     have h2:t.st=1:=h2;have:i∈rdyIds p.S p.S.thr.length:=by unfold rdyIds;rw[List.mem_filter];exact ⟨List.mem_range.2 (by omega),by rw[ht];simp[rdy,h2]⟩
     rw[h0] at this;cases this
    |.wait _ _ _ _ _,h2 =>have h2:t.st=2:=h2;exfalso;apply hw;unfold waits2;rw[List.any_eq_true];exact ⟨i,List.mem_range.2 (by omega),by rw[ht];simp[h2]⟩
  cases hs
 |@step n p p1 p' e _ ih =>
  intro v hN g s hv;obtain ⟨v1,m1,s1⟩:=pturn_mv M g s e;rw[hN] at m1;have hlen:p1.S.thr.length=N:=by
   unfold pturn at e;split at e
   .split at e
    cases e;exact hN;cases e
   .cases e
    show (resume _ _ _ _ _).1.thr.length=_;rw[(resume_sta _ _ _ _ _).len,going_len,hN]
  exact ih v1 hlen (pturn_mu M g e).1 s1 (hI v v1 hv m1)
inductive Hi (mc:Mc):Nat->List (List Cl)->Vw->Vw->Prop
 |nil {k:Nat} {v:Vw}:Hi mc k [] v v
 |cons {k:Nat} {c:List Cl} {cs:List (List Cl)} {v v1 v2:Vw} {X:List Stp} {l':Ph}:Fw mc k v.stk c 0 false (List.replicate c.length (0,0)) X l'->v1.K=v.K->v1.stk=v.stk->v1.chg=v.chg->v1.L=v.L++X->Els k l' v v1->Hi mc (k+1) cs v1 v2->Hi mc k (c :: cs) v v2
theorem hires_hi {ss:List (Scr mc)}{S':TS}{l':Nat->Ph}(h:Hires mc k ss S l S' l'):∀ v,S.thr.length=k->(∀ s∈ss,s.ans=List.replicate s.calls.length (0,0))->Seen ⟨S,K,l⟩ v->∃ v',Hi mc k (ss.map (·.calls)) v v'∧Seen ⟨S',K,l'⟩ v':=by
 induction h with
 |nil=>exact λv _ _ s=>⟨v,.nil,s⟩
 |@cons k s ss S S' l l' tv tb gc h ih =>
  intro v hk ha sn;have hlen:(hiredS S tv tb gc).thr.length=k+1:=by simp[hiredS,hk]
  have ht0:(hiredS S tv tb gc).thr[k]? = some ⟨tb,gc,0,0,0,0⟩:=by simp[hiredS,hk]
  have sta:=flow_sta k mc s.calls 0 false s.ans (hiredS S tv tb gc);obtain ⟨X,f1,f2,f3,f4⟩:=flow_fw (mc:=mc) k s.calls 0 false s.ans (hiredS S tv tb gc) _ ht0;have hold:∀ i,i≠k->(flow k mc s.calls 0 false s.ans (hiredS S tv tb gc)).1.thr[i]? = (hiredS S tv tb gc).thr[i]?:=λi hi=>sta.oth i hi;have hth:∀ i,i≠k->thrI (flow k mc s.calls 0 false s.ans (hiredS S tv tb gc)).1 i=thrI S i:=λi hi=>by
   unfold thrI;rw[hold i hi];by_cases hik:i<k;simp[hiredS,List.getElem?_append,hk,hik]
   .have h1:(hiredS S tv tb gc).thr[i]? = none:=List.getElem?_eq_none (by rw[hlen];omega)
    have h2:S.thr[i]? = none:=List.getElem?_eq_none (by omega);rw[h1,h2]
  have e1:s.ans=List.replicate s.calls.length (0,0):=ha s (List.mem_cons_self ..);have hsn:Seen ⟨(flow k mc s.calls 0 false s.ans (hiredS S tv tb gc)).1,K,upd l k (flow k mc s.calls 0 false s.ans (hiredS S tv tb gc)).2⟩ ⟨v.K,v.stk,v.chg,λi=>(thrI (flow k mc s.calls 0 false s.ans (hiredS S tv tb gc)).1 i).se,upd l k (flow k mc s.calls 0 false s.ans (hiredS S tv tb gc)).2,v.L++X⟩:=by
   refine ⟨sn.K,?_,?_,λ_=>rfl,rfl,?_,?_,λi t ht j q r kk a hl=>?_⟩
   .show v.stk=(flow k mc s.calls 0 false s.ans (hiredS S tv tb gc)).1.stk
    rw[sta.stk];exact sn.stk
   .show v.chg=(flow k mc s.calls 0 false s.ans (hiredS S tv tb gc)).1.chg
    rw[f3];exact sn.chg
   .show (flow k mc s.calls 0 false s.ans (hiredS S tv tb gc)).1.tr=_
    rw[f2.tr,flat_app];have:(hiredS S tv tb gc).tr=flat v.L:=sn.tr;rw[this]
   .show (flow k mc s.calls 0 false s.ans (hiredS S tv tb gc)).1.n=_
    rw[f2.n,Qj];have:(hiredS S tv tb gc).n=v.L.length:=sn.n;rw[this]
   .have ht:(flow k mc s.calls 0 false s.ans (hiredS S tv tb gc)).1.thr[i]? = some t:=ht
    have hl:upd l k (flow k mc s.calls 0 false s.ans (hiredS S tv tb gc)).2 i=.wait j q r kk a:=hl;by_cases hik:i=k
    .subst hik
     rw[upd_same] at hl;have:=(f4 j q r kk a hl).1;rw[thrI_of ht] at this;exact this
    .rw[upd_ne _ _ hik] at hl
     rw[hold i hik] at ht;refine sn.ce i t ?_ j q r kk a hl;have:i<k:=by have:=(Qc ht).1;omega
     simpa [hiredS,List.getElem?_append,hk,this] using ht
  obtain ⟨v',h1,h2⟩:=ih _ (by rw[sta.len,hlen]) (λs' hs'=>ha s' (List.mem_cons_of_mem _ hs')) hsn;refine ⟨v',.cons (v1:=⟨v.K,v.stk,v.chg,λi=>(thrI (flow k mc s.calls 0 false s.ans (hiredS S tv tb gc)).1 i).se,upd l k (flow k mc s.calls 0 false s.ans (hiredS S tv tb gc)).2,v.L++X⟩) (X:=X) ?_ rfl rfl rfl rfl ⟨by rw[sn.l],λi hi=>?_,λj q r kk a hl=>?_⟩ h1,h2⟩
  .rw[<-e1]
   have:v.stk=S.stk:=sn.stk;rw[this];exact f1
  .show (thrI (flow k mc s.calls 0 false s.ans (hiredS S tv tb gc)).1 i).se=_
   rw[hth i hi];exact (sn.se i).symm
  .have:=(f4 j q r kk a hl).2
   show (thrI (flow k mc s.calls 0 false s.ans (hiredS S tv tb gc)).1 k).se=chgOf v.chg j;rw[this];have:v.chg=S.chg:=sn.chg;rw[this];rfl
end
def nt (L:List Stp) (i:Nat):Nat:=L.countP λs=>(s.op==9||s.op==10)&&s.th==(i:Int)
theorem nt_one (L:List Stp) (s:Stp) (i:Nat):nt (L++[s]) i=nt L i+if ((s.op==9||s.op==10)&&s.th==(i:Int))=true then 1 else 0:=by unfold nt;rw[List.countP_append,List.countP_singleton]
theorem nt_no {L:List Stp}{s:Stp}(h9:s.op≠9) (h10:s.op≠10) (i:Nat):nt (L++[s]) i=nt L i:=by rw[nt_one,if_neg (by simp[h9,h10])];rfl
theorem nt_own (L:List Stp) (i k:Nat) (x:Int) {op:Int}(h:op=9∨op=10):nt (L++[⟨i,-1,op,k,x⟩]) i=nt L i+1:=by rw[nt_one,if_pos (by rcases h with rfl|rfl<;>simp)]
theorem nt_oth (L:List Stp) {j:Nat}(hne:j≠i) (k:Nat) (x op:Int):nt (L++[⟨i,-1,op,k,x⟩]) j=nt L j:=by rw[nt_one,if_neg (by simp;intro _;omega)];rfl
def No4 (ans:List (Int×Int)) (k:Nat):Prop:=∀ q a,q<k->ans[q]? = some a->a.1≠4
theorem No4.set {ans:List (Int×Int)}(h:No4 ans k) (a:Int×Int):No4 (ans.set k a) k:=λq b hq hb=>by rw[Qq,if_neg (by omega)] at hb;exact h q b hq hb
theorem No4.next {ans:List (Int×Int)}(h:No4 ans k) {a:Int×Int}(ha:a.1≠4):No4 (ans.set k a) (k+1):=λq b hq hb=>by
 by_cases e:q=k
 .subst e
  rw[Qq,if_pos rfl] at hb;split at hb;cases hb;exact ha;cases hb
 exact h.set a q b (by omega) hb
inductive Fit9 (N:Nat) (cl:Nat->List Cl) (an:Nat->List (Int×Int)):List Stp->Prop
 |nil:Fit9 N cl an []
 |other {L:List Stp} {s:Stp}:Fit9 N cl an L->s.op≠9->s.op≠10->Fit9 N cl an (L++[s])
 |beg {L:List Stp} {i k:Nat}:Fit9 N cl an L->i<N->nt L i=2*k->k<(cl i).length->No4 (an i) k->Fit9 N cl an (L++[⟨i,-1,9,k,0⟩])
 |fin {L:List Stp} {i k:Nat} {a:Int×Int}:Fit9 N cl an L->i<N->nt L i=2*k+1->k<(cl i).length->(an i)[k]? = some a->Fit9 N cl an (L++[⟨i,-1,10,k,a.1⟩])
theorem Fit9.mono {cl:Nat->List Cl}{an an':Nat->List (Int×Int)}{L:List Stp}(h:Fit9 N cl an L):(∀ i k,k<nt L i / 2->(an' i)[k]? = (an i)[k]?)->Fit9 N cl an' L:=by
 induction h with
 |nil=>intro _;exact .nil
 |other h h9 h10 ih=>intro hk;exact .other (ih λi k hi=>hk i k (by rw[nt_no h9 h10];exact hi)) h9 h10
 |@beg L i k h hi hn hl h4 ih =>intro hk;refine .beg (ih λj q hq=>hk j q ?_) hi hn hl (λq a hq ha=>h4 q a hq (by rw[<-hk i q (by rw[nt_own _ _ _ _ (.inl rfl)];omega)];exact ha));by_cases e:j=i;subst e;rw[nt_own _ _ _ _ (.inl rfl)];omega;rw[nt_oth _ e];exact hq
 |@fin L i k a h hi hn hl ha ih =>
  intro hk;refine .fin (ih λj q hq=>hk j q ?_) hi hn hl ?_
  .by_cases e:j=i
   subst e;rw[nt_own _ _ _ _ (.inr rfl)];omega;rw[nt_oth _ e];exact hq
  rw[hk i k (by rw[nt_own _ _ _ _ (.inr rfl)];omega)];exact ha
def NT (calls:List Cl) (n:Nat) (l:Ph):Prop:=l.ans.length=calls.length∧match l with
 |.turn op _ _ rest ii _=>n=2*ii+1∧ii<calls.length∧rest=calls.drop (ii+1)∧No4 l.ans ii∧op≠9∧op≠10
 |.wait _ _ rest ii _=>n=2*ii+1∧ii<calls.length∧rest=calls.drop (ii+1)∧No4 l.ans ii
 |.done _=>n % 2=0∧n / 2<=calls.length
structure OpOk (mc:Mc):Prop where
 start:∀ i c op j q,mc.start i c=.turn op j q->op≠9∧op≠10
 turn:∀ q x op j q',(mc.turn q x).2.2=.turn op j q'->op≠9∧op≠10
 woke:∀ q op j q',mc.woke q=.turn op j q'->op≠9∧op≠10
section
variable {mc:Mc}{N:Nat}{cl:Nat->List Cl}{i:Nat}
theorem fw_note (hop:OpOk mc) (hi:i<N) {stk:Bool}{rest:List Cl}{ii:Nat}{sk:Bool}{ans:List (Int×Int)}{X:List Stp}{l:Ph}(h:Fw mc i stk rest ii sk ans X l):∀ (an0:Nat->List (Int×Int)) (L:List Stp),rest=(cl i).drop ii->ii<=(cl i).length->ans.length=(cl i).length->Fit9 N cl (upd an0 i ans) L->(sk=false->nt L i=2*ii∧No4 ans ii)->(sk=true->nt L i % 2=0∧nt L i / 2<=ii) ->
 Fit9 N cl (upd an0 i l.ans) (L++X)∧NT (cl i) (nt (L++X) i) l∧∀ k,k≠i->nt (L++X) k=nt L k:=by
 have dr:∀ {c:Cl} {rest:List Cl} {ii:Nat},c :: rest=(cl i).drop ii->ii<(cl i).length∧rest=(cl i).drop (ii+1):=λ{c rest ii} hr=>by constructor;have:=congrArg List.length hr;simp at this;omega;have:=congrArg List.tail hr;simpa [List.tail_drop] using this
 have put:∀ {an0:Nat->List (Int×Int)} {ans:List (Int×Int)} {L:List Stp} {ii:Nat} (a:Int×Int),Fit9 N cl (upd an0 i ans) L->nt L i / 2<=ii->Fit9 N cl (upd an0 i (ans.set ii a)) L:=λ{an0 ans L ii} a hF hn=>hF.mono λj k hk=>by
  by_cases e:j=i
  .subst e
   rw[upd_same,upd_same,Qq,if_neg (by omega)]
  rw[upd_ne _ _ e,upd_ne _ _ e]
 have one:∀ {an0:Nat->List (Int×Int)} {ans:List (Int×Int)} {L:List Stp} {ii:Nat} (a:Int×Int),ii<(cl i).length->ans.length=(cl i).length->Fit9 N cl (upd an0 i ans) L->nt L i=2*ii->No4 ans ii->Fit9 N cl (upd an0 i (ans.set ii a)) ((L++[⟨i,-1,9,ii,0⟩])++[⟨i,-1,10,ii,a.1⟩])∧nt ((L++[⟨i,-1,9,ii,0⟩])++[⟨i,-1,10,ii,a.1⟩]) i=2*(ii+1)∧∀ k,k≠i->nt ((L++[⟨i,-1,9,ii,0⟩])++[⟨i,-1,10,ii,a.1⟩]) k=nt L k:=λ{an0 ans L ii} a hlt hlen hF hn h4=>by
  have h1:nt (L++[⟨i,-1,9,ii,0⟩]) i=2*ii+1:=by rw[nt_own _ _ _ _ (.inl rfl),hn]
  refine ⟨.fin (.beg (put a hF (by omega)) hi hn hlt (by rw[upd_same];exact h4.set a)) hi h1 hlt ?_,by rw[nt_own _ _ _ _ (.inr rfl),h1];omega,λk hk=>by rw[nt_oth _ hk,nt_oth _ hk]⟩;rw[upd_same,Qq,if_pos rfl,if_pos (by omega)]
 induction h with
 |@nil ii sk ans =>
  intro an0 L hr hii hlen hF h0 h1;have hl:ii=(cl i).length:=by have:=congrArg List.length hr;simp at this;omega
  rw[List.append_nil];refine ⟨hF,⟨hlen,?_⟩,λ_ _=>rfl⟩;cases sk with
  |false=>have:=(h0 rfl).1;exact ⟨by omega,by omega⟩
  |true=>have:=h1 rfl;exact ⟨this.1,by omega⟩
 |@skip c rest ii ans X l h ih =>intro an0 L hr hii hlen hF h0 h1;obtain ⟨hlt,hr'⟩:=dr hr;obtain ⟨e1,e2⟩:=h1 rfl;exact ih an0 L hr' (by omega) (by rw[List.length_set];exact hlen) (put _ hF e2) (λh=>by cases h) (λ_=>⟨e1,by omega⟩)
 |@ans c rest ii ans X l e x hst h ih =>intro an0 L hr hii hlen hF h0 h1;obtain ⟨hlt,hr'⟩:=dr hr;obtain ⟨g1,g2,g3⟩:=one (e,x) hlt hlen hF (h0 rfl).1 (h0 rfl).2;obtain ⟨k1,k2,k3⟩:=ih an0 _ hr' (by omega) (by rw[List.length_set];exact hlen) g1 (λhh=>⟨g2,(h0 rfl).2.next (by simpa using hh)⟩) (λ_=>⟨by omega,by omega⟩);simp only[List.append_assoc,List.singleton_append] at k1 k2 k3 g3;exact ⟨k1,k2,λk hk=>(k3 k hk).trans (g3 k hk)⟩
 |@turn c rest ii ans op j q hst =>intro an0 L hr hii hlen hF h0 h1;obtain ⟨hlt,hr'⟩:=dr hr;refine ⟨.beg hF hi (h0 rfl).1 hlt (by rw[upd_same];exact (h0 rfl).2),⟨hlen,?_⟩,λk hk=>nt_oth _ hk _ _ _⟩;exact ⟨by rw[nt_own _ _ _ _ (.inl rfl),(h0 rfl).1],hlt,hr',(h0 rfl).2,hop.start _ _ _ _ _ hst⟩
 |@wait c rest ii ans j q hst hs =>intro an0 L hr hii hlen hF h0 h1;obtain ⟨hlt,hr'⟩:=dr hr;refine ⟨.beg hF hi (h0 rfl).1 hlt (by rw[upd_same];exact (h0 rfl).2),⟨hlen,?_⟩,λk hk=>nt_oth _ hk _ _ _⟩;exact ⟨by rw[nt_own _ _ _ _ (.inl rfl),(h0 rfl).1],hlt,hr',(h0 rfl).2⟩
 |@waits c rest ii ans X l j q hst hs h ih =>intro an0 L hr hii hlen hF h0 h1;obtain ⟨hlt,hr'⟩:=dr hr;obtain ⟨g1,g2,g3⟩:=one (mc.stuck q) hlt hlen hF (h0 rfl).1 (h0 rfl).2;obtain ⟨k1,k2,k3⟩:=ih an0 _ hr' (by omega) (by rw[List.length_set];exact hlen) g1 (λhh=>⟨g2,(h0 rfl).2.next (by simpa using hh)⟩) (λ_=>⟨by omega,by omega⟩);simp only[List.append_assoc,List.singleton_append] at k1 k2 k3 g3;exact ⟨k1,k2,λk hk=>(k3 k hk).trans (g3 k hk)⟩
theorem end_note (hop:OpOk mc) (hi:i<N) {stk:Bool}{rest:List Cl}{ii:Nat}{ans:List (Int×Int)}{a:Int×Int}{X:List Stp}{l:Ph}(h:Fw mc i stk rest (ii+1) (a.1==4) (ans.set ii a) X l) {an0:Nat->List (Int×Int)}{L:List Stp}(hr:rest=(cl i).drop (ii+1)) (hlt:ii<(cl i).length) (hlen:ans.length=(cl i).length) (hF:Fit9 N cl (upd an0 i ans) L) (hn:nt L i=2*ii+1) (h4:No4 ans ii):
 Fit9 N cl (upd an0 i l.ans) (L++⟨i,-1,10,ii,a.1⟩ :: X)∧NT (cl i) (nt (L++⟨i,-1,10,ii,a.1⟩ :: X) i) l∧∀ k,k≠i->nt (L++⟨i,-1,10,ii,a.1⟩ :: X) k=nt L k:=by
 have hF1:Fit9 N cl (upd an0 i (ans.set ii a)) (L++[⟨i,-1,10,ii,a.1⟩]):=by
  refine .fin (hF.mono λj k hk=>?_) hi hn hlt (by rw[upd_same,Qq,if_pos rfl,if_pos (by omega)]);by_cases e:j=i
  .subst e
   rw[upd_same,upd_same,Qq,if_neg (by omega)]
  rw[upd_ne _ _ e,upd_ne _ _ e]
 have hn1:nt (L++[⟨i,-1,10,ii,a.1⟩]) i=2*(ii+1):=by rw[nt_own _ _ _ _ (.inr rfl),hn];omega
 obtain ⟨k1,k2,k3⟩:=fw_note hop hi h an0 _ hr (by omega) (by rw[List.length_set];exact hlen) hF1 (λhh=>⟨hn1,h4.next (by simpa using hh)⟩) (λ_=>⟨by omega,by omega⟩);rw[List.append_assoc,List.singleton_append] at k1 k2 k3;exact ⟨k1,k2,λk hk=>by rw[k3 k hk,nt_oth _ hk]⟩
end
structure NI (N:Nat) (cl:Nat->List Cl) (v:Vw):Prop where
 fit:Fit9 N cl (λi=>(v.l i).ans) v.L
 thr:∀ i,i<N->NT (cl i) (nt v.L i) (v.l i)
theorem upd_self {an:Nat->List (Int×Int)}{x:List (Int×Int)}(h:an i=x):upd an i x=an:=by funext k;by_cases e:k=i;subst e;rw[upd_same];exact h.symm;rw[upd_ne _ _ e]
theorem ans_upd {l':Ph}:(λk=>(upd l i l' k).ans)=upd (λk=>(l k).ans) i l'.ans:=by funext k;by_cases e:k=i;subst e;rw[upd_same,upd_same];rw[upd_ne _ _ e,upd_ne _ _ e]
theorem NI.put {cl:Nat->List Cl}{v v1:Vw}(h:NI N cl v) {l':Ph}(e:Els i l' v v1) (hF:Fit9 N cl (upd (λk=>(v.l k).ans) i l'.ans) v1.L) (ho:NT (cl i) (nt v1.L i) l') (hk:∀ k,k≠i->nt v1.L k=nt v.L k):NI N cl v1:=by refine ⟨by rw[e.l,ans_upd];exact hF,λk hkN=>?_⟩;rw[e.l];by_cases hne:k=i;subst hne;rw[upd_same];exact ho;rw[upd_ne _ _ hne,hk k hne];exact h.thr k hkN
theorem note_mv {mc:Mc}(hop:OpOk mc) {cl:Nat->List Cl}{v v1:Vw}(h:NI N cl v) (m:Mv mc N v v1):NI N cl v1:=by
 cases m with
 |stuck hs hall hex e =>subst e;refine ⟨.other h.fit (by show ¬ (7:Int)=9;decide) (by show ¬ (7:Int)=10;decide),λi hi=>?_⟩;rw[nt_no (by show ¬ (7:Int)=9;decide) (by show ¬ (7:Int)=10;decide)];exact h.thr i hi
 |turn i op j q rest ii ans X l' hi hl ho e eK eS eC eL =>
  have hT:=h.thr i hi;rw[hl] at hT;obtain ⟨hlen,hn,hlt,hr,h4,h9,h10⟩:=hT;have hF:Fit9 N cl (upd (λk=>(v.l k).ans) i ans) (v.L++[⟨i,j,op,(mc.turn q (v.K.getD j 0)).1.1,(mc.turn q (v.K.getD j 0)).1.2⟩]):=.other (by rw[upd_self (by rw[hl];rfl)];exact h.fit) h9 h10;have hn1:∀ k,nt (v.L++[⟨i,j,op,(mc.turn q (v.K.getD j 0)).1.1,(mc.turn q (v.K.getD j 0)).1.2⟩]) k=nt v.L k:=nt_no h9 h10;generalize hx:(mc.turn q (v.K.getD j 0)).2.2=nx at ho;cases ho with
  |@ans ee yy _ _ hf =>obtain ⟨k1,k2,k3⟩:=end_note (a:=(ee,yy)) hop hi hf hr hlt hlen hF (by rw[hn1];exact hn) h4;rw[List.append_assoc,List.singleton_append,<-eL] at k1 k2 k3;exact h.put e k1 k2 (λk hk=>by rw[k3 k hk,hn1])
  |turn =>rw[<-eL] at hF hn1;exact h.put e hF ⟨hlen,by rw[hn1];exact hn,hlt,hr,h4,hop.turn _ _ _ _ _ hx⟩ (λk _=>hn1 k)
  |wait hs =>rw[<-eL] at hF hn1;exact h.put e hF ⟨hlen,by rw[hn1];exact hn,hlt,hr,h4⟩ (λk _=>hn1 k)
  |waits hs hf =>obtain ⟨k1,k2,k3⟩:=end_note hop hi hf hr hlt hlen hF (by rw[hn1];exact hn) h4;rw[List.append_assoc,List.singleton_append,<-eL] at k1 k2 k3;exact h.put e k1 k2 (λk hk=>by rw[k3 k hk,hn1])
 |wake i j q rest ii ans X l' hi hl hs hc ho e eK eS eC eL =>
  have hT:=h.thr i hi;rw[hl] at hT;obtain ⟨hlen,hn,hlt,hr,h4⟩:=hT;have h9:(⟨i,j,6,0,0⟩:Stp).op≠9:=by show ¬ (6:Int)=9;decide
  have h10:(⟨i,j,6,0,0⟩:Stp).op≠10:=by show ¬ (6:Int)=10;decide
  have hF:Fit9 N cl (upd (λk=>(v.l k).ans) i ans) (v.L++[⟨i,j,6,0,0⟩]):=.other (by rw[upd_self (by rw[hl];rfl)];exact h.fit) h9 h10;have hn1:∀ k,nt (v.L++[⟨i,j,6,0,0⟩]) k=nt v.L k:=nt_no h9 h10;generalize hx:mc.woke q=nx at ho;cases ho with
  |@ans ee yy _ _ hf =>obtain ⟨k1,k2,k3⟩:=end_note (a:=(ee,yy)) hop hi hf hr hlt hlen hF (by rw[hn1];exact hn) h4;rw[List.append_assoc,List.singleton_append,<-eL] at k1 k2 k3;exact h.put e k1 k2 (λk hk=>by rw[k3 k hk,hn1])
  |turn =>rw[<-eL] at hF hn1;exact h.put e hF ⟨hlen,by rw[hn1];exact hn,hlt,hr,h4,hop.woke _ _ _ _ hx⟩ (λk _=>hn1 k)
  |wait hs =>rw[<-eL] at hF hn1;exact h.put e hF ⟨hlen,by rw[hn1];exact hn,hlt,hr,h4⟩ (λk _=>hn1 k)
  |waits hs hf=>cases hs
 |free i j q rest ii ans X l' hi hl hs hf e eK eS eC eL =>have hT:=h.thr i hi;rw[hl] at hT;obtain ⟨hlen,hn,hlt,hr,h4⟩:=hT;obtain ⟨k1,k2,k3⟩:=end_note hop hi hf (an0:=λk=>(v.l k).ans) (L:=v.L) hr hlt hlen (by rw[upd_self (by rw[hl];rfl)];exact h.fit) hn h4;rw[<-eL] at k1 k2 k3;exact h.put e k1 k2 k3
theorem hi_note {mc:Mc}(hop:OpOk mc) {cl:Nat->List Cl}{cs:List (List Cl)}{v v':Vw}(h:Hi mc k cs v v'):cs=(List.range' k cs.length).map cl->k+cs.length=N->Fit9 N cl (λi=>(v.l i).ans) v.L->(∀ i,i<k->NT (cl i) (nt v.L i) (v.l i))->(∀ i,k<=i->nt v.L i=0)->NI N cl v':=by
 induction h with
 |nil=>intro _ hN hF hT _;simp at hN;subst hN;exact ⟨hF,hT⟩
 |@cons k c cs v v1 v2 X l' hF e1 e2 e3 e4 e5 h ih =>
  intro hc hN hfit hT h0;rw[List.length_cons,List.range'_succ,List.map_cons] at hc;obtain ⟨hc1,hc2⟩:=List.cons.inj hc;subst hc1;simp only[List.length_cons] at hN;have hF0:Fit9 N cl (upd (λi=>(v.l i).ans) k (List.replicate (cl k).length (0,0))) v.L:=hfit.mono λj q hq=>by by_cases e:j=k;subst e;rw[h0 j (Qi _)] at hq;omega;rw[upd_ne _ _ e]
  obtain ⟨k1,k2,k3⟩:=fw_note (N:=N) (cl:=cl) hop (by omega) hF _ v.L (by simp) (Nat.zero_le _) (by simp) hF0 (λ_=>⟨h0 k (Qi _),λq a hq _=>absurd hq (by omega)⟩) (λh=>by cases h);rw[<-e4] at k1 k2 k3;refine ih hc2 (by omega) (by rw[e5.l,ans_upd];exact k1) (λi hi=>?_) (λi hi=>by rw[k3 i (by omega)];exact h0 i (by omega));rw[e5.l];by_cases hne:i=k;subst hne;rw[upd_same];exact k2;rw[upd_ne _ _ hne,k3 i hne];exact hT i (by omega)
theorem nt_le (L:List Stp) (s:Stp) (i:Nat):nt L i<=nt (L++[s]) i:=by rw[nt_one];omega
inductive Ac9 {σ:Type}(cl:Nat->List Cl) (an:Nat->List (Int×Int)) (st:σ->Cl->Int×Int->σ->Prop) (s0:σ):List Stp->σ->Prop
 |nil:Ac9 cl an st s0 [] s0
 |other {L:List Stp} {x:Stp} {s:σ}:Ac9 cl an st s0 L s->(x.op≠10∨x.ne=4)->Ac9 cl an st s0 (L++[x]) s
 |fin {L:List Stp} {i k:Nat} {c:Cl} {a:Int×Int} {s s':σ}:Ac9 cl an st s0 L s->nt L i=2*k+1->(cl i)[k]? = some c->(an i)[k]? = some a->a.1≠4->st s c a s'->Ac9 cl an st s0 (L++[⟨i,-1,10,k,a.1⟩]) s'
section
variable {σ:Type}{cl:Nat->List Cl}{an an':Nat->List (Int×Int)}{st:σ->Cl->Int×Int->σ->Prop}{s0 s:σ}{L:List Stp}
theorem Ac9.mono (h:Ac9 cl an st s0 L s):(∀ i k,k<nt L i / 2->(an' i)[k]? = (an i)[k]?)->Ac9 cl an' st s0 L s:=by
 induction h with
 |nil=>intro _;exact .nil
 |@other L x s h hx ih=>intro hk;exact .other (ih λi k hi=>hk i k (by have:=nt_le L x i;omega)) hx
 |@fin L i k c a s s' h hn hc ha h4 hs ih =>intro hk;refine .fin (ih λj q hq=>hk j q (by have:=nt_le L ⟨i,-1,10,k,a.1⟩ j;omega)) hn hc ?_ h4 hs;rw[hk i k (by rw[nt_own _ _ _ _ (.inr rfl)];omega)];exact ha
theorem Ac9.more:∀ (X:List Stp) {L:List Stp},Ac9 cl an st s0 L s->(∀ x∈X,x.op≠10)->Ac9 cl an st s0 (L++X) s
 | [],L,h,_=>by rw[List.append_nil];exact h
 |x :: X,L,h,hX=>by have:=Ac9.more X (h.other (x:=x) (.inl (hX x (List.mem_cons_self ..)))) (λy hy=>hX y (List.mem_cons_of_mem _ hy));rw[List.append_assoc,List.singleton_append] at this;exact this
end
end Go.Proofs.YtfjjoohflcchnaaDoor.Gen
namespace Go.Proofs.YtfjjoohflcchnaaDoor.Gen
open Go Go.Lift Go.Conc Go.RowKit
open Go.Proofs.YtfjjoohflcchnaaDoor.His
open Go.ConcN (upd upd_same upd_ne)
variable {τ:Type} {e:His.Ev} {E:List His.Ev} {N i:Nat} {an:Nat->List (Int×Int)} {L:List Stp}
theorem snoc_inj {α:Type}{A B:List α}{x y:α}(h:A++[x]=B++[y]):A=B∧x=y:=by have:=List.append_inj' h rfl;exact ⟨this.1,by simpa using this.2⟩
section
variable {σ:Type}
inductive Run9 (N:Nat) (cl:Nat->List Cl) (an:Nat->List (Int×Int)) (st:σ->Cl->Int×Int->σ->Prop) (s0:σ):List Stp->σ->Prop
 |nil:Run9 N cl an st s0 [] s0
 |other {L:List Stp} {x:Stp} {s:σ}:Run9 N cl an st s0 L s->x.op≠9->x.op≠10->Run9 N cl an st s0 (L++[x]) s
 |beg {L:List Stp} {i k:Nat} {c:Cl} {s:σ}:Run9 N cl an st s0 L s->i<N->nt L i=2*k->(cl i)[k]? = some c->No4 (an i) k->Run9 N cl an st s0 (L++[⟨i,-1,9,k,0⟩]) s
 |stuck {L:List Stp} {i k:Nat} {a:Int×Int} {s:σ}:Run9 N cl an st s0 L s->i<N->nt L i=2*k+1->(an i)[k]? = some a->a.1=4->Run9 N cl an st s0 (L++[⟨i,-1,10,k,a.1⟩]) s
 |fin {L:List Stp} {i k:Nat} {c:Cl} {a:Int×Int} {s s':σ}:Run9 N cl an st s0 L s->i<N->nt L i=2*k+1->(cl i)[k]? = some c->(an i)[k]? = some a->a.1≠4->st s c a s'->Run9 N cl an st s0 (L++[⟨i,-1,10,k,a.1⟩]) s'
end
inductive Ev9 (cl:Nat->List Cl) (an:Nat->List (Int×Int)):List Stp->List His.Ev->(Nat->Nat)->Prop
 |nil:Ev9 cl an [] [] (λ_=>0)
 |other {L:List Stp} {x:Stp} {E:List His.Ev} {id:Nat->Nat}:Ev9 cl an L E id->x.op≠9->x.op≠10->Ev9 cl an (L++[x]) E id
 |beg {L:List Stp} {E:List His.Ev} {id:Nat->Nat} {i k:Nat} {c:Cl}:Ev9 cl an L E id->nt L i=2*k->(cl i)[k]? = some c->Ev9 cl an (L++[⟨i,-1,9,k,0⟩]) (E++[⟨i,c.po,c.ca,c.cb,L.length,-1,4,0⟩]) (upd id i E.length)
 |stuck {L:List Stp} {E:List His.Ev} {id:Nat->Nat} {i k:Nat} {a:Int×Int}:Ev9 cl an L E id->nt L i=2*k+1->(an i)[k]? = some a->a.1=4->Ev9 cl an (L++[⟨i,-1,10,k,a.1⟩]) E id
 |fin {L:List Stp} {E:List His.Ev} {id:Nat->Nat} {i k:Nat} {a:Int×Int} {e:His.Ev}:Ev9 cl an L E id->nt L i=2*k+1->(an i)[k]? = some a->a.1≠4->E[id i]? = some e->Ev9 cl an (L++[⟨i,-1,10,k,a.1⟩]) (E.set (id i) ⟨e.thr,e.op,e.a,e.b,e.beg,L.length,a.1,a.2⟩) id
def AccTo {τ:Type}(ways:Ways τ):τ->List His.Ev->τ->Prop
 |s,[],t=>s=t
 |s,e :: r,t=>∃ o,o∈ways s e∧o.1=e.ans∧AccTo ways o.2 r t
theorem AccTo.acc {ways:Ways τ}:∀ {l:List His.Ev}{s t:τ},AccTo ways s l t->Acc ways s l
 | [],_,_,_=>trivial
 |e :: r,s,t,h=>by obtain ⟨o,h1,h2,h3⟩:=h;exact ⟨o,h1,λ_=>h2,AccTo.acc h3⟩
theorem AccTo.snoc {ways:Ways τ}{o:(Int×Int)×τ}:∀ {l:List His.Ev}{s t:τ},AccTo ways s l t->o∈ways t e->o.1=e.ans->AccTo ways s (l++[e]) o.2
 | [],s,t,h,h1,h2=>by have:s=t:=h;subst this;exact ⟨o,h1,h2,rfl⟩
 |x :: r,s,t,h,h1,h2=>by obtain ⟨p,k1,k2,k3⟩:=h;exact ⟨p,k1,k2,AccTo.snoc k3 h1 h2⟩
structure EvI (cl:Nat->List Cl) (an:Nat->List (Int×Int)) {τ:Type}(ways:Ways τ) (t0:τ) (L:List Stp) (E:List His.Ev) (id:Nat->Nat) (ord:List Nat) (t:τ):Prop where
 timed:∀ (m:Nat) (e:His.Ev),E[m]? = some e->0<=e.beg∧e.beg<L.length∧(e.fin=-1∨(e.beg<e.fin∧e.fin<L.length))
 act:∀ (i k:Nat),nt L i=2*k+1->∃ (e:His.Ev) (c:Cl),E[id i]? = some e∧e.thr=(i:Int)∧e.fin=-1∧(cl i)[k]? = some c∧e.op=c.po∧e.a=c.ca∧e.b=c.cb
 two:∀ (m m':Nat) (e e':His.Ev),m'<m->E[m]? = some e->E[m']? = some e'->e.thr=e'.thr->evAhead e' e=true
 open_:∀ (m:Nat) (e:His.Ev) (i:Nat),E[m]? = some e->e.thr=(i:Int)->e.fin=-1->(nt L i % 2=1∧m=id i)∨∃ (q:Nat) (a:Int×Int),q<nt L i / 2∧(an i)[q]? = some a∧a.1=4
 nodup:ord.Nodup
 over:∀ (m:Nat),m∈ord->∃ (e:His.Ev),E[m]? = some e∧e.over=true
 all:∀ (m:Nat) (e:His.Ev),E[m]? = some e->e.over=true->m∈ord
 ord_:ord.Pairwise λm m'=>(E.getD m ev0).fin<(E.getD m' ev0).fin
 acc:AccTo ways t0 (ord.map λm=>E.getD m ev0) t
theorem getD_ev {m:Nat}(h:E[m]? = some e):E.getD m ev0=e:=by rw[Ql,h];rfl
theorem over_fin :e.over=true↔e.fin≠-1:=over_iff
section
variable {cl:Nat->List Cl}{an:Nat->List (Int×Int)}{τ:Type}{ways:Ways τ}{t0 t:τ}{L:List Stp}{E:List His.Ev}{id:Nat->Nat}{ord:List Nat}
theorem EvI.skip (h:EvI cl an ways t0 L E id ord t) (x:Stp) (ha:∀ (i k:Nat),nt (L++[x]) i=2*k+1->nt L i=2*k+1) (ho:∀ (i m:Nat),nt L i % 2=1->m=id i->nt (L++[x]) i=nt L i∨∃ (q:Nat) (a:Int×Int),q<nt (L++[x]) i / 2∧(an i)[q]? = some a∧a.1=4):EvI cl an ways t0 (L++[x]) E id ord t:=by
 refine ⟨λm e he=>?_,λi k hn=>h.act i k (ha i k hn),h.two,λm e i he hi hf=>?_,h.nodup,h.over,h.all,h.ord_,h.acc⟩
 .have:=h.timed m e he
  rw[Qj,List.length_singleton];refine ⟨this.1,by omega,?_⟩;rcases this.2.2 with h|h;exact .inl h;exact .inr ⟨h.1,by omega⟩
 .rcases h.open_ m e i he hi hf with ⟨h1,h2⟩|⟨q,a,h1,h2,h3⟩
  .rcases ho i m h1 h2 with e|e
   exact .inl ⟨by rw[e];exact h1,h2⟩;exact .inr e
  exact .inr ⟨q,a,by have:=nt_le L x i;omega,h2,h3⟩
theorem EvI.begin (h:EvI cl an ways t0 L E id ord t) {k:Nat}{c:Cl}(hn:nt L i=2*k) (hc:(cl i)[k]? = some c) (h4:No4 (an i) k):EvI cl an ways t0 (L++[⟨i,-1,9,k,0⟩]) (E++[⟨i,c.po,c.ca,c.cb,L.length,-1,4,0⟩]) (upd id i E.length) ord t:=by
 have get:∀ (m:Nat) (e:His.Ev),(E++[(⟨i,c.po,c.ca,c.cb,L.length,-1,4,0⟩:His.Ev)])[m]? = some e->E[m]? = some e∨(m=E.length∧e=⟨i,c.po,c.ca,c.cb,L.length,-1,4,0⟩):=λm e he=>by
  rw[List.getElem?_append] at he;split at he;exact .inl he
  .right
   have:m - E.length=0:=by have:=(Qc he).1;simp at this;omega
   rw[this] at he;exact ⟨by omega,by simpa using he.symm⟩
 have lift:∀ (m:Nat) (e:His.Ev),E[m]? = some e->(E++[(⟨i,c.po,c.ca,c.cb,L.length,-1,4,0⟩:His.Ev)])[m]? = some e:=λm e he=>by rw[Qn (Qc he).1];exact he
 have own:nt (L++[⟨i,-1,9,k,0⟩]) i=2*k+1:=by rw[nt_own _ _ _ _ (.inl rfl),hn]
 have oth:∀ j,j≠i->nt (L++[⟨i,-1,9,k,0⟩]) j=nt L j:=λj hj=>nt_oth _ hj _ _ _;have mem:∀ (m:Nat),m∈ord->(E++[(⟨i,c.po,c.ca,c.cb,L.length,-1,4,0⟩:His.Ev)]).getD m ev0=E.getD m ev0:=λm hm=>by obtain ⟨e,he,_⟩:=h.over m hm;rw[getD_ev he,getD_ev (lift m e he)]
 refine ⟨λm e he=>?_,λj q hq=>?_,λm m' e e' hlt he he' ht=>?_,λm e j he hj hf=>?_,h.nodup,λm hm=>?_,λm e he ho=>?_,?_,?_⟩
 .rw[Qj,List.length_singleton]
  rcases get m e he with he|⟨_,rfl⟩
  .have:=h.timed m e he
   refine ⟨this.1,by omega,?_⟩;rcases this.2.2 with h|h;exact .inl h;exact .inr ⟨h.1,by omega⟩
  exact ⟨by show (0:Int)<=(L.length:Int);omega,by show (L.length:Int)<((L.length+1:Nat):Int);omega,.inl rfl⟩
 .by_cases e:j=i
  .subst e
   have:q=k:=by omega
   subst this;rw[upd_same];exact ⟨⟨j,c.po,c.ca,c.cb,L.length,-1,4,0⟩,c,by rw[List.getElem?_append_right (Qi _)];simp,rfl,rfl,hc,rfl,rfl,rfl⟩
  .rw[oth j e] at hq
   obtain ⟨e1,c1,k1,k2⟩:=h.act j q hq;rw[upd_ne _ _ e];exact ⟨e1,c1,lift _ _ k1,k2⟩
 .rcases get m e he with he|⟨rfl,rfl⟩
  .rcases get m' e' he' with he'|⟨rfl,_⟩
   exact h.two m m' e e' hlt he he' ht;have:=(Qc he).1;omega
  .rcases get m' e' he' with he'|⟨rfl,_⟩
   .have hfin:e'.fin≠-1:=λhf=>by
     rcases h.open_ m' e' i he' ht.symm hf with ⟨h1,_⟩|⟨q,a,h1,h2,h3⟩
     omega;exact h4 q a (by omega) h2 h3
    have:=(h.timed m' e' he').2.2;unfold evAhead;rw[over_fin.2 hfin,Bool.true_and];exact decide_eq_true (by show e'.fin<(L.length:Int);rcases this with h|h;exact absurd h hfin;exact h.2)
   omega
 .rcases get m e he with hE|⟨rfl,rfl⟩
  .by_cases ej:j=i
   .subst ej
    rcases h.open_ m e j hE hj hf with ⟨h1,_⟩|⟨q,a,h1,h2,h3⟩
    omega;exact .inr ⟨q,a,by omega,h2,h3⟩
   .rw[oth j ej,upd_ne _ _ ej]
    exact h.open_ m e j hE hj hf
  .have:(i:Int)=j:=hj
   obtain rfl:j=i:=by omega
   exact .inl ⟨by omega,by rw[upd_same]⟩
 .obtain ⟨e,he,ho⟩:=h.over m hm
  exact ⟨e,lift m e he,ho⟩
 .rcases get m e he with he|⟨rfl,rfl⟩
  exact h.all m e he ho;exact absurd rfl (over_fin.1 ho)
 exact h.ord_.imp_of_mem λha hb hlt=>by rw[mem _ ha,mem _ hb];exact hlt
 .have:ord.map (λm=>(E++[(⟨i,c.po,c.ca,c.cb,L.length,-1,4,0⟩:His.Ev)]).getD m ev0)=ord.map λm=>E.getD m ev0:=List.map_congr_left mem
  rw[this];exact h.acc
theorem EvI.finish (h:EvI cl an ways t0 L E id ord t) {k:Nat}{a:Int×Int}{e0:His.Ev}{o:(Int×Int)×τ}(hn:nt L i=2*k+1) (he0:E[id i]? = some e0) (hf0:e0.fin=-1) (ht0:e0.thr=(i:Int)) (ho:o∈ways t ⟨e0.thr,e0.op,e0.a,e0.b,e0.beg,L.length,a.1,a.2⟩) (hoa:o.1=a):
 EvI cl an ways t0 (L++[⟨i,-1,10,k,a.1⟩]) (E.set (id i) ⟨e0.thr,e0.op,e0.a,e0.b,e0.beg,L.length,a.1,a.2⟩) id (ord++[id i]) o.2:=by
 have hlt0:id i<E.length:=(Qc he0).1;have get:∀ (m:Nat) (e:His.Ev),(E.set (id i) (⟨e0.thr,e0.op,e0.a,e0.b,e0.beg,L.length,a.1,a.2⟩:His.Ev))[m]? = some e->(m≠id i∧E[m]? = some e)∨(m=id i∧e=⟨e0.thr,e0.op,e0.a,e0.b,e0.beg,L.length,a.1,a.2⟩):=λm e he=>by
  rw[Qq] at he;by_cases em:id i=m
  .rw[if_pos em,if_pos hlt0] at he
   exact .inr ⟨em.symm,(Qd he).symm⟩
  .rw[if_neg em] at he
   exact .inl ⟨λx=>em x.symm,he⟩
 have put:(E.set (id i) (⟨e0.thr,e0.op,e0.a,e0.b,e0.beg,L.length,a.1,a.2⟩:His.Ev))[id i]? = some ⟨e0.thr,e0.op,e0.a,e0.b,e0.beg,L.length,a.1,a.2⟩:=by rw[Qq,if_pos rfl,if_pos hlt0]
 have lift:∀ (m:Nat) (e:His.Ev),m≠id i->E[m]? = some e->(E.set (id i) (⟨e0.thr,e0.op,e0.a,e0.b,e0.beg,L.length,a.1,a.2⟩:His.Ev))[m]? = some e:=λm e hm he=>by rw[Qq,if_neg (λx=>hm x.symm)];exact he
 have nin:id i ∉ ord:=λhm=>by obtain ⟨e,he,hov⟩:=h.over _ hm;rw[he0] at he;cases he;exact over_fin.1 hov hf0
 have mem:∀ (m:Nat),m∈ord->(E.set (id i) (⟨e0.thr,e0.op,e0.a,e0.b,e0.beg,L.length,a.1,a.2⟩:His.Ev)).getD m ev0=E.getD m ev0:=λm hm=>by obtain ⟨e,he,_⟩:=h.over m hm;rw[getD_ev he,getD_ev (lift m e (λx=>nin (x▸hm)) he)]
 have own:nt (L++[⟨i,-1,10,k,a.1⟩]) i=2*(k+1):=by rw[nt_own _ _ _ _ (.inr rfl),hn];omega
 have oth:∀ j,j≠i->nt (L++[⟨i,-1,10,k,a.1⟩]) j=nt L j:=λj hj=>nt_oth _ hj _ _ _;have hb0:=h.timed _ _ he0;have hov:(⟨e0.thr,e0.op,e0.a,e0.b,e0.beg,L.length,a.1,a.2⟩:His.Ev).over=true:=over_fin.2 (by show (L.length:Int)≠-1;omega);refine ⟨λm e he=>?_,λj q hq=>?_,λm m' e e' hlt he he' ht=>?_,λm e j he hj hf=>?_,?_,λm hm=>?_,λm e he ho=>?_,?_,?_⟩
 .rw[Qj,List.length_singleton]
  rcases get m e he with ⟨_,he⟩|⟨_,rfl⟩
  .have:=h.timed m e he
   refine ⟨this.1,by omega,?_⟩;rcases this.2.2 with h|h;exact .inl h;exact .inr ⟨h.1,by omega⟩
  exact ⟨hb0.1,by have:=hb0.2.1;show e0.beg<((L.length+1:Nat):Int);omega,.inr ⟨hb0.2.1,by show (L.length:Int)<((L.length+1:Nat):Int);omega⟩⟩
 .by_cases e:j=i
  subst e;omega
  .rw[oth j e] at hq
   obtain ⟨e1,c1,k1,k2,k3⟩:=h.act j q hq;have:id j≠id i:=λx=>by rw[x,he0] at k1;cases k1;rw[ht0] at k2;exact e (by omega)
   exact ⟨e1,c1,lift _ _ this k1,k2,k3⟩
 .rcases get m e he with ⟨_,he⟩|⟨rfl,rfl⟩
  .rcases get m' e' he' with ⟨_,he'⟩|⟨rfl,rfl⟩
   exact h.two m m' e e' hlt he he' ht
   .have:=evAhead_over (h.two m _ e e0 hlt he he0 ht)
    exact absurd hf0 (over_fin.1 this)
  .rcases get m' e' he' with ⟨_,he'⟩|⟨rfl,_⟩
   exact h.two _ m' e0 e' hlt he0 he' ht;omega
 .rcases get m e he with ⟨hm,hE⟩|⟨rfl,rfl⟩
  .by_cases ej:j=i
   .subst ej
    rcases h.open_ m e j hE hj hf with ⟨_,h1⟩|⟨q,b,h1,h2,h3⟩
    exact absurd h1 hm;exact .inr ⟨q,b,by omega,h2,h3⟩
   .rw[oth j ej]
    exact h.open_ m e j hE hj hf
  exact absurd hf (over_fin.1 hov)
 exact List.nodup_append.2 ⟨h.nodup,by simp,λx hx y hy=>by rw[List.mem_singleton] at hy;subst hy;exact λe=>nin (e▸hx)⟩
 .rw[List.mem_append,List.mem_singleton] at hm
  rcases hm with hm|rfl
  .obtain ⟨e,he,ho⟩:=h.over m hm
   exact ⟨e,lift m e (λx=>nin (x▸hm)) he,ho⟩
  exact ⟨_,put,hov⟩
 .rw[List.mem_append,List.mem_singleton]
  rcases get m e he with ⟨_,he⟩|⟨rfl,_⟩
  exact .inl (h.all m e he ho);exact .inr rfl
 .rw[List.pairwise_append]
  refine ⟨h.ord_.imp_of_mem λha hb hlt=>by rw[mem _ ha,mem _ hb];exact hlt,List.pairwise_singleton _ _,λx hx y hy=>?_⟩;rw[List.mem_singleton] at hy;subst hy;obtain ⟨e,he,ho⟩:=h.over x hx;rw[mem _ hx,getD_ev he,getD_ev put];have:=(h.timed x e he).2.2;rcases this with h|h;exact absurd h (over_fin.1 ho);exact h.2
 .have e1:ord.map (λm=>(E.set (id i) (⟨e0.thr,e0.op,e0.a,e0.b,e0.beg,L.length,a.1,a.2⟩:His.Ev)).getD m ev0)=ord.map λm=>E.getD m ev0:=List.map_congr_left mem
  rw[List.map_append,e1,List.map_singleton,getD_ev put];exact h.acc.snoc ho (by rw[hoa];rfl)
end
theorem EvI.hist {cl:Nat->List Cl}{ways:Ways τ}{t0 t:τ}{id:Nat->Nat}{ord:List Nat}(h:EvI cl an ways t0 L E id ord t):Hist E:=λi hi=>by
 have hg:∀ m,m<E.length->E[m]? = some (E.getD m ev0):=λm hm=>by rw[Ql,Qf hm];rfl
 refine ⟨?_,λk hk ht=>.inr (h.two i k _ _ hk (hg i hi) (hg k (by omega)) ht)⟩;have:=h.timed i _ (hg i hi);exact ⟨this.1,this.2.2.imp (λx=>x) (·.1)⟩
theorem EvI.lin {cl:Nat->List Cl}{ways:Ways τ}{t0 t:τ}{id:Nat->Nat}{ord:List Nat}(h:EvI cl an ways t0 L E id ord t):Lin ways t0 E:=by
 have hg:∀ m,m<E.length->E[m]? = some (E.getD m ev0):=λm hm=>by rw[Ql,Qf hm];rfl
 refine ⟨ord,h.nodup,λm hm=>?_,λm hm ho=>h.all m _ (hg m hm) ho,h.ord_.imp_of_mem λha hb hlt=>?_,h.acc.acc⟩
 .obtain ⟨e,he,_⟩:=h.over m hm
  exact (Qc he).1
 .obtain ⟨e,he,ho⟩:=h.over _ ha
  rw[getD_ev he] at hlt ⊢;unfold evAhead;rw[Bool.and_eq_false_iff];right;refine decide_eq_false ?_;have:=(h.timed _ e he).2.2;rcases this with h|h;exact absurd h (over_fin.1 ho);omega
def toStep (s:Stp):R3.Step:=⟨s.th,s.ce,s.op,s.ol,s.ne⟩
def toCall (c:Cl):R3.Call:=⟨c.po,c.ca,c.cb,c.cc⟩
def scL (N:Nat) (cl:Nat->List Cl):List (List R3.Call):=(List.range N).map λi=>(cl i).map toCall
def anL (N:Nat) (an:Nat->List (Int×Int)):List (List (Int×Int)):=(List.range N).map an
def tabOf (L:List Stp) (id:Nat->Nat):Nat->Nat×Nat×Nat:=λt=>((nt L t+1) / 2,nt L t / 2,id t)
theorem scL_len (N:Nat) (cl:Nat->List Cl):(scL N cl).length=N:=by simp[scL]
theorem anL_len (N:Nat) (an:Nat->List (Int×Int)):(anL N an).length=N:=by simp[anL]
theorem scL_get (cl:Nat->List Cl) (h:i<N):(scL N cl).getD i []=(cl i).map toCall:=by simp[scL,Ql,h]
theorem anL_get (an:Nat->List (Int×Int)) (h:i<N):(anL N an).getD i []=an i:=by simp[anL,Ql,h]
theorem alike_of {cl:Nat->List Cl}(hl:∀ i,i<N->(an i).length=(cl i).length):R3.Alike (scL N cl) (anL N an):=by refine ⟨by rw[scL_len,anL_len],λi hi=>?_⟩;rw[scL_len] at hi;rw[scL_get cl hi,anL_get an hi,List.length_map,hl i hi]
theorem fit_last {cl:Nat->List Cl}{M:List Stp}(h:Fit9 N cl an M):∀ (L:List Stp) (x:Stp),M=L++[x]->Fit9 N cl an L∧((x.op=9∨x.op=10)->∃ i:Nat,x.th=(i:Int)∧i<N):=by
 cases h with
 |nil=>intro L x e;exact absurd e.symm (by simp)
 |other h h9 h10 =>intro L x e;obtain ⟨rfl,rfl⟩:=snoc_inj e;exact ⟨h,λhh=>by rcases hh with hh|hh;exact absurd hh h9;exact absurd hh h10⟩
 |beg h hi hn hk h4 =>intro L x e;obtain ⟨rfl,rfl⟩:=snoc_inj e;exact ⟨h,λ_=>⟨_,rfl,hi⟩⟩
 |fin h hi hn hk ha =>intro L x e;obtain ⟨rfl,rfl⟩:=snoc_inj e;exact ⟨h,λ_=>⟨_,rfl,hi⟩⟩
theorem ofs_ev {cl:Nat->List Cl}(hl:∀ i,i<N->(an i).length=(cl i).length) {id:Nat->Nat}(h:Ev9 cl an L E id):
 Fit9 N cl an L->∀ l r,R3.Ofs (scL N cl) (anL N an) 0 (L.map toStep++l) R3.st0 r->R3.Ofs (scL N cl) (anL N an) L.length l ⟨E,tabOf L id⟩ r:=by
 induction h with
 |nil =>
  intro _ l r ho;have et:tabOf [] (λ_=>0)=λ_=>(0,0,0):=funext λt=>by simp[tabOf,nt]
  rw[et];exact ho
 |@other L x E id h h9 h10 ih =>
  intro hF l r ho;obtain ⟨hF,_⟩:=fit_last hF _ _ rfl;rw[List.map_append,List.append_assoc] at ho;have:=R3.ofs_skip (show (toStep x).op≠9 from h9) (show (toStep x).op≠10 from h10) (ih hF _ _ ho);have et:tabOf (L++[x]) id=tabOf L id:=funext λt=>by simp only[tabOf,nt_no h9 h10]
  rw[Qj,List.length_singleton,et];exact this
 |@beg L E id i k c h hn hc ih =>
  intro hF l r ho;obtain ⟨hF,hi⟩:=fit_last hF _ _ rfl;obtain ⟨j,hj,hi⟩:=hi (.inl rfl);have hj:(i:Int)=j:=hj;obtain rfl:i=j:=by omega
  rw[List.map_append,List.append_assoc] at ho;have hk:k<(cl i).length:=(Qc hc).1;have t1:(tabOf L id i).1=k:=by show (nt L i+1) / 2=k;omega
  have t2:(tabOf L id i).2.1=k:=by show nt L i / 2=k;omega
  have:=R3.ofs_begin (t:=i) (show (toStep ⟨i,-1,9,k,0⟩).op=9 from rfl) rfl (by rw[scL_len];exact hi) ⟨by rw[t1,t2],by rw[t1,anL_get an hi,hl i hi];exact hk,by rw[t1];rfl,rfl⟩ (ih hF _ _ ho);have es:R3.beginSt (scL N cl) ⟨E,tabOf L id⟩ i L.length=⟨E++[⟨i,c.po,c.ca,c.cb,L.length,-1,4,0⟩],tabOf (L++[⟨i,-1,9,k,0⟩]) (upd id i E.length)⟩:=by
   unfold R3.beginSt;simp only[t1,t2,scL_get cl hi];have e1:((cl i).map toCall).getD k R3.call0=toCall c:=by simp[Ql,hc]
   rw[e1]
   congr 1
   funext t;by_cases e:t=i
   .subst e
    simp only[R3.upd,if_pos,tabOf,upd_same,nt_own _ _ _ _ (.inl rfl),hn]
    congr 1
    omega
    .congr 1;omega
   simp only[R3.upd,if_neg e,tabOf,upd_ne _ _ e,nt_oth _ e]
  rw[Qj,List.length_singleton,<-es];exact this
 |@stuck L E id i k a h hn ha h4 ih =>
  intro hF l r ho;obtain ⟨hF,hi⟩:=fit_last hF _ _ rfl;obtain ⟨j,hj,hi⟩:=hi (.inr rfl);have hj:(i:Int)=j:=hj;obtain rfl:i=j:=by omega
  rw[List.map_append,List.append_assoc] at ho;have t1:(tabOf L id i).1=k+1:=by show (nt L i+1) / 2=k+1;omega
  have t2:(tabOf L id i).2.1=k:=by show nt L i / 2=k;omega
  have ea:(an i).getD k (0,0)=a:=by simp[Ql,ha]
  have:=R3.ofs_end (t:=i) (show (toStep ⟨i,-1,10,k,a.1⟩).op=10 from rfl) rfl (by rw[scL_len];exact hi) ⟨by rw[t1,t2];omega,by rw[t2];rfl,by rw[t2,anL_get an hi,ea];rfl⟩ (ih hF _ _ ho);have es:R3.endSt (anL N an) ⟨E,tabOf L id⟩ i L.length=⟨E,tabOf (L++[⟨i,-1,10,k,a.1⟩]) id⟩:=by
   unfold R3.endSt;simp only[t1,t2,anL_get an hi,ea,h4,if_pos]
   congr 1
   funext t;by_cases e:t=i
   .subst e
    simp only[R3.upd,if_pos,tabOf,nt_own _ _ _ _ (.inr rfl),hn]
    congr 1
    omega
    .congr 1;omega
   simp only[R3.upd,if_neg e,tabOf,nt_oth _ e]
  rw[Qj,List.length_singleton,<-es];exact this
 |@fin L E id i k a e h hn ha h4 he ih =>
  intro hF l r ho;obtain ⟨hF,hi⟩:=fit_last hF _ _ rfl;obtain ⟨j,hj,hi⟩:=hi (.inr rfl);have hj:(i:Int)=j:=hj;obtain rfl:i=j:=by omega
  rw[List.map_append,List.append_assoc] at ho;have t1:(tabOf L id i).1=k+1:=by show (nt L i+1) / 2=k+1;omega
  have t2:(tabOf L id i).2.1=k:=by show nt L i / 2=k;omega
  have t3:(tabOf L id i).2.2=id i:=rfl;have ea:(an i).getD k (0,0)=a:=by simp[Ql,ha]
  have:=R3.ofs_end (t:=i) (show (toStep ⟨i,-1,10,k,a.1⟩).op=10 from rfl) rfl (by rw[scL_len];exact hi) ⟨by rw[t1,t2];omega,by rw[t2];rfl,by rw[t2,anL_get an hi,ea];rfl⟩ (ih hF _ _ ho);have es:R3.endSt (anL N an) ⟨E,tabOf L id⟩ i L.length=⟨E.set (id i) ⟨e.thr,e.op,e.a,e.b,e.beg,L.length,a.1,a.2⟩,tabOf (L++[⟨i,-1,10,k,a.1⟩]) id⟩:=by
   unfold R3.endSt;simp only[t1,t2,t3,anL_get an hi,ea,h4,if_neg,not_false_eq_true];rw[getD_ev he];unfold R3.ended
   congr 1
   funext t;by_cases e:t=i
   .subst e
    simp only[R3.upd,if_pos,tabOf,nt_own _ _ _ _ (.inr rfl),hn]
    congr 1
    omega
    .congr 1;omega
   simp only[R3.upd,if_neg e,tabOf,nt_oth _ e]
  rw[Qj,List.length_singleton,<-es];exact this
theorem ofs_is {cl:Nat->List Cl}(hl:∀ i,i<N->(an i).length=(cl i).length) {id:Nat->Nat}(h:Ev9 cl an L E id) (hF:Fit9 N cl an L) {r:Option R3.St}
 (ho:R3.Ofs (scL N cl) (anL N an) 0 (L.map toStep) R3.st0 r):r=some ⟨E,tabOf L id⟩ :=
 ofs_ev hl h hF [] r (by rw[List.append_nil];exact ho)
end Go.Proofs.YtfjjoohflcchnaaDoor.Gen
namespace Go.Proofs.YtfjjoohflcchnaaDoor.Gen
open Go Go.Lift Go.Conc Go.RowKit
variable {W:World} {p:Option Addr} {b o:Nat}
def InR (x:Int):Prop:=-9223372036854775808<=x∧x<9223372036854775808
def Cl.ok (c:Cl):Prop:=InR c.cb∧InR c.cc
structure InI (W:World) (p:Option Addr) (b o:Nat) (xs:List Int):Prop where
 at_:0<xs.length->p=some ⟨b,o,none⟩
 cell:∀ k x,xs[k]? = some x->W.cell? ⟨b,o+k,none⟩=some (I x)
 inr:∀ x∈xs,InR x
 len:xs.length<=17592186043904
theorem InI.grows {W':World}{xs:List Int}(h:InI W p b o xs) (g:Grows W W'):InI W' p b o xs :=
 ⟨h.at_,λk x hk=>g.cell (h.cell k x hk),h.inr,h.len⟩
structure InS (W:World) (p:Option Addr) (b o n:Nat) (pc:Nat->Option Addr) (ln cp rb:Nat->Nat) (cl:Nat->List Cl):Prop where
 at_:0<n->p=some ⟨b,o,none⟩
 row:∀ k,k<n->W.cell? ⟨b,o+k,none⟩=some (.slice (pc k) (ln k) (cp k))
 len:∀ j,j<n->(cl j).length=ln j
 pq:∀ j,j<n->0<ln j->pc j=some ⟨rb j,roOf (pc j),none⟩
 call:∀ j,j<n->∀ (k:Nat) (c:Cl),(cl j)[k]? = some c->W.cell? ⟨rb j,roOf (pc j)+k*4,none⟩=some (I c.po)∧W.cell? ⟨rb j,roOf (pc j)+k*4+1,none⟩=some (I c.ca)∧W.cell? ⟨rb j,roOf (pc j)+k*4+2,none⟩=some (I c.cb)∧W.cell? ⟨rb j,roOf (pc j)+k*4+3,none⟩=some (I c.cc)
 ok:∀ j,j<n->∀ c∈cl j,InR c.ca∧c.ok
 n:n<=17592186043904
theorem InS.grows {W':World}{n:Nat}{pc:Nat->Option Addr}{ln cp rb:Nat->Nat}{cl:Nat->List Cl}(h:InS W p b o n pc ln cp rb cl) (g:Grows W W'):InS W' p b o n pc ln cp rb cl :=
 ⟨h.at_,λk hk=>g.cell (h.row k hk),h.len,h.pq,λj hj k c hc=>by have:=h.call j hj k c hc;exact ⟨g.cell this.1,g.cell this.2.1,g.cell this.2.2.1,g.cell this.2.2.2⟩,h.ok,h.n⟩
theorem lens_scrs (mc:Mc) (fid:FuncId) (caps:Array Value) (pk:Nat->Option Obj) (N n:Nat) (K:List (Nat×Int)) (pc:Nat->Option Addr) (ln cp rb:Nat->Nat) (cl:Nat->List Cl) (hl:∀ j,j<n->(cl j).length<=64):lens (scrs mc fid caps pk N n K pc ln cp rb cl)<=64*n:=by
 unfold lens scrs;rw[List.map_map];have:∀ (m j:Nat),j+m<=n->((List.range' j m).map ((λs:Scr mc=>s.calls.length) ∘ scrOf mc fid caps pk N n (K.map (·.1)) pc ln cp rb cl)).sum<=64*m:=by
  intro m;induction m with
  |zero=>intro j _;simp
  |succ m ih =>intro j hj;rw[List.range'_succ,List.map_cons,List.sum_cons];have h1:=ih (j+1) (by omega);have h2:((λs:Scr mc=>s.calls.length) ∘ scrOf mc fid caps pk N n (K.map (·.1)) pc ln cp rb cl) j<=64:=hl j (by omega);omega
 exact this n 0 (by omega)
theorem scrs_len (mc:Mc) (fid:FuncId) (caps:Array Value) (pk:Nat->Option Obj) (N n:Nat) (K:List (Nat×Int)) (pc:Nat->Option Addr) (ln cp rb:Nat->Nat) (cl:Nat->List Cl):(scrs mc fid caps pk N n K pc ln cp rb cl).length=n:=by simp[scrs]
theorem asked_of {v:World}{n:Nat}{pc:Nat->Option Addr}{ln cp rb:Nat->Nat}{cl:Nat->List Cl}(h:InS W p b o n pc ln cp rb cl) {xs:List Int}{wb bk:Nat}{sc:Value}(hn:IsNew W xs wb bk sc v) (h64:∀ j,j<n->ln j<=64) (h0:0<n):Asked v (newS wb bk W.heap.size sc xs) n b o pc ln cp rb cl:=by
 have g:=h.grows hn.old;have far:∀ (a:Addr) (x:Value),W.cell? a=some x->¬ Own (newS wb bk W.heap.size sc xs) [] a.block:=λa x ha ho=>by have:=hn.new _ (.inl ho);have:=World.block_lt_of_cell? _ _ ha;omega
 refine ⟨λj hj=>⟨h.len j hj,h64 j hj⟩,g.row,far _ _ (h.row 0 h0),λj hj hl=>⟨h.pq j hj hl,?_⟩,g.call,λj hj c hc=>(h.ok j hj c hc).1⟩;obtain ⟨c,hc⟩:∃ c,(cl j)[0]? = some c:=⟨_,Qf (by rw[h.len j hj];exact hl)⟩
 exact far _ _ (h.call j hj 0 c hc).1
end Go.Proofs.YtfjjoohflcchnaaDoor.Gen
