/- Of the proof of StackKeeps. Part 12 of 33. (Joined, by program, and written short, of: GMeasW, GViewW, Alone, Run20, Run20b, Cell24.) -/
import Derived.Test.YtbbhahigofeacaaDoorStackKeeps08
import Derived.Test.YtbbhahigofeacaaDoorStackKeeps11
import Derived.Laws.MakeOwn
import Derived.Deep.OwnRows
set_option linter.unusedSimpArgs false
set_option linter.unusedVariables false
set_option maxHeartbeats 4000000
set_option maxRecDepth 100000
namespace Go.Proofs.YtbbhahigofeacaaDoor.Gen.Mw
open Go Go.Lift Go.Conc Go.RowKit
open Go.ConcN (upd upd_same upd_ne)
def nlev (lev:Q->Nat):Nx->Nat
 |.ans _ _=>0
 |.turn _ _ q=>lev q
 |.wait _ _=>0
def fv (K:List (Nat×Int)) (j:Nat):Int:=(cellAt K j).2
def updF (f:Nat->Int) (j:Nat) (x:Int):Nat->Int:=fun k=>if k=j then x else f k
structure Met (mc:Mc) where
 L:Nat
 hL:1≤L
 lev:Q->Nat
 ws:Q->(Nat->Int)->Nat
 ws_le:∀ q f,ws q f≤5
 nts:∀ q x,mc.nts q x=[]
 nw:∀ i c j q,mc.start i c≠.wait j q
 nwt:∀ q x j q',(mc.turn q x).2.2≠.wait j q'
 lev1:∀ q j,mc.at_ q j->1≤lev q∧lev q≤L
 turn:∀ q j f,mc.at_ q j->mc.ok j (f j)->nlev lev (mc.turn q (f j)).2.2<lev q∨∃ op j' q',(mc.turn q (f j)).2.2=.turn op j' q'∧lev q'=lev q∧ws q' (updF f j (mc.turn q (f j)).2.1)+1≤ws q f∧∀ q'',ws q'' (updF f j (mc.turn q (f j)).2.1)=ws q'' f
theorem fv_set {K:List (Nat×Int)}{j:Nat}(hj:j<K.length) (b:Nat) (x:Int):fv (K.set j (b,x))=updF (fv K) j x:=by
 funext k
 unfold fv updF cellAt
 rw[List.getElem?_set]
 by_cases e:k=j
 ·subst e
  rw[if_pos rfl,if_pos hj,if_pos rfl]
  rfl
 ·rw[if_neg (fun h=>e h.symm),if_neg e]
section
variable {mc:Mc}(M:Met mc)
def tot:Ph->Nat
 |.turn _ _ q rest _ _=>M.L*rest.length+M.lev q
 |.wait _ _ _ _ _=>0
 |.done _=>0
def sw (K:List (Nat×Int)):Ph->Nat
 |.turn _ _ q _ _ _=>M.ws q (fv K)
 |_=>0
def sits (m:Nat):Ph->Prop
 |.turn _ j q _ _ _=>mc.at_ q j∧j<m
 |.wait _ _ _ _ _=>False
 |.done _=>True
theorem sw_le (K:List (Nat×Int)) (l:Ph):sw M K l≤5:=by
 cases l with
 |turn op j q r i a=>exact M.ws_le _ _
 |wait j q r i a=>exact Nat.zero_le _
 |done a=>exact Nat.zero_le _
def wtI (p:PSt) (i:Nat):Nat:=64*tot M (p.l i)+sw M p.K (p.l i)
def mu (p:PSt):Nat:=((List.range p.S.thr.length).map (wtI M p)).sum
structure Gd (p:PSt):Prop where
 len:p.S.thr.length≤8
 kok:KOk mc p.K
 sit:∀ i t,p.S.thr[i]? = some t->FitsN (p.l i) t∧StN (p.l i) t∧sits (mc:=mc) p.K.length (p.l i)
def Cells (m:Nat):Prop:=∀ q j,mc.at_ q j->j<m
theorem set_turn (stk:Bool) {x:Nx}(h:∀ j q,x≠.wait j q):mc.set stk x=x:=by
 cases x with
 |ans e y=>rfl
 |turn op j q=>rfl
 |wait j q=>exact absurd rfl (h j q)
theorem flow_tot (m:Nat) (hc:Cells (mc:=mc) m) (i:Nat):∀ (rest:List Cl) (ii:Nat) (sk:Bool) (ans:List (Int×Int)) (S:TS),tot M (flow i mc rest ii sk ans S).2≤M.L*rest.length∧(flow i mc rest ii sk ans S).1.n+2*tot M (flow i mc rest ii sk ans S).2≤S.n+2*(M.L*rest.length)+1∧sits (mc:=mc) m (flow i mc rest ii sk ans S).2
 | [],ii,sk,ans,S=>by cases sk<;>exact ⟨Nat.zero_le _,by show S.n+2*0≤_;omega,trivial⟩
 |c :: rest,ii,true,ans,S=>by
  have:=flow_tot m hc i rest (ii+1) true (ans.set ii (4,0)) S
  have e:flow i mc (c :: rest) ii true ans S=flow i mc rest (ii+1) true (ans.set ii (4,0)) S:=rfl
  have hL:=M.hL
  rw[e,List.length_cons,Nat.mul_succ]
  exact ⟨by omega,by omega,this.2.2⟩
 |c :: rest,ii,false,ans,S=>by
  have hL:=M.hL
  have hst:=set_turn (mc:=mc) S.stk (M.nw i c)
  rw[List.length_cons,Nat.mul_succ]
  unfold flow
  rw[hst]
  cases h:mc.start i c with
  |ans e x =>
   have:=flow_tot m hc i rest (ii+1) (e==4) (ans.set ii (e,x)) (Bn (Bn S undef i 9 (-1) ii 0) undef i 10 (-1) ii e)
   have en:(Bn (Bn S undef i 9 (-1) ii 0) undef i 10 (-1) ii e).n=S.n+2:=rfl
   rw[en] at this
   simp only
   exact ⟨by omega,by omega,this.2.2⟩
  |turn op j q =>
   have ha:=mc.atS i c op j q h
   obtain ⟨h1,h2⟩:=M.lev1 q j ha
   refine ⟨?_,?_,ha,hc q j ha⟩
   ·show M.L*rest.length+M.lev q≤_
    omega
   ·show S.n+1+2*(M.L*rest.length+M.lev q)≤_
    omega
  |wait j q=>exact absurd h (M.nw i c j q)
def Pro (l:Ph) (S:TS) (K:List (Nat×Int)) (R:TS×List (Nat×Int)×Ph):Prop :=
 sits (mc:=mc) K.length R.2.2∧KOk mc R.2.1∧R.2.1.length=K.length∧((R.1.n≤S.n+1∧tot M R.2.2=tot M l∧sw M R.2.1 R.2.2+1≤sw M K l∧∀ l',sw M R.2.1 l'=sw M K l') ∨
  (tot M R.2.2+1≤tot M l∧R.1.n+2*tot M R.2.2≤S.n+2*tot M l+1))
theorem resume_pro (i:Nat) (l:Ph) (S:TS) (K:List (Nat×Int)) (hc:Cells (mc:=mc) K.length) (hl:∀ a,l≠.done a) (hs:sits (mc:=mc) K.length l) (hK:KOk mc K):Pro M l S K (resume i mc l S K):=by
 match l,hl,hs with
 |.done a,hl,_=>exact absurd rfl (hl a)
 |.wait _ _ _ _ _,_,hs=>exact hs.elim
 |.turn op j q rest ii ans,_,hs =>
  obtain ⟨ha,hj⟩:=hs
  rw[F3]
  have hx:(cellAt K j).2=fv K j:=rfl
  have hok:mc.ok j (fv K j):=by
   unfold fv cellAt
   rw[List.getElem?_eq_getElem hj]
   exact hK j _ (List.getElem?_eq_getElem hj)
  have hnts:=M.nts q (cellAt K j).2
  rw[hnts,set_turn (mc:=mc) S.stk (M.nwt q (cellAt K j).2)]
  have hn1:(H9 i [] (didS S undef i (thrI S i) (mc.turn q (cellAt K j).2).1.1 (mc.turn q (cellAt K j).2).1.2)).n=S.n+1:=did_n _ _ _ _ _ _
  have hKs:=KOk.set hK j q ha (cellAt K j).1
  have hfv:=fv_set hj (cellAt K j).1 (mc.turn q (cellAt K j).2).2.1
  have hlen:(K.set j ((cellAt K j).1,(mc.turn q (cellAt K j).2).2.1)).length=K.length:=List.length_set
  have hlev:=M.lev1 q j ha
  generalize hS1:H9 i [] (didS S undef i (thrI S i) (mc.turn q (cellAt K j).2).1.1 (mc.turn q (cellAt K j).2).1.2)=S1 at *
  have ht:=M.turn q j (fv K) ha hok
  rw[←hx] at ht
  cases hnx:(mc.turn q (cellAt K j).2).2.2 with
  |ans e y =>
   have hf:=flow_tot M K.length hc i rest (ii+1) (e==4) (ans.set ii (e,y)) (Bn S1 undef i 10 (-1) ii e)
   have en:(Bn S1 undef i 10 (-1) ii e).n=S1.n+1:=rfl
   rw[en] at hf
   refine ⟨hf.2.2,hKs,hlen,.inr ⟨?_,?_⟩⟩
   ·show tot M (flow i mc rest (ii+1) (e==4) (ans.set ii (e,y)) (Bn S1 undef i 10 (-1) ii e)).2+1≤M.L*rest.length+M.lev q
    have:=hf.1
    omega
   ·show (flow i mc rest (ii+1) (e==4) (ans.set ii (e,y)) (Bn S1 undef i 10 (-1) ii e)).1.n+2*tot M (flow i mc rest (ii+1) (e==4) (ans.set ii (e,y)) (Bn S1 undef i 10 (-1) ii e)).2≤S.n+2*(M.L*rest.length+M.lev q)+1
    have:=hf.2.1
    omega
  |wait j' q'=>exact absurd hnx (M.nwt q _ j' q')
  |turn op' j' q' =>
   have ha':=mc.atT q j _ op' j' q' ha hok hnx
   refine ⟨⟨ha',hc q' j' ha'⟩,hKs,hlen,?_⟩
   rcases ht with ht|⟨op2,j2,q2,e1,e2,e3,e4⟩
   ·right
    rw[hnx] at ht
    have ht:M.lev q'<M.lev q:=ht
    refine ⟨?_,?_⟩
    ·show M.L*rest.length+M.lev q'+1≤M.L*rest.length+M.lev q
     omega
    ·show S1.n+2*(M.L*rest.length+M.lev q')≤S.n+2*(M.L*rest.length+M.lev q)+1
     omega
   ·left
    rw[hnx] at e1
    cases e1
    refine ⟨?_,?_,?_,?_⟩
    ·show S1.n≤S.n+1
     omega
    ·show M.L*rest.length+M.lev q'=M.L*rest.length+M.lev q
     rw[e2]
    ·show M.ws q' (fv (K.set j ((cellAt K j).1,(mc.turn q (cellAt K j).2).2.1)))+1≤M.ws q (fv K)
     rw[hfv]
     exact e3
    ·intro l'
     cases l' with
     |turn op3 j3 q3 r3 i3 a3 =>
      show M.ws q3 (fv (K.set j ((cellAt K j).1,(mc.turn q (cellAt K j).2).2.1)))=M.ws q3 (fv K)
      rw[hfv]
      exact e4 q3
     |wait _ _ _ _ _=>rfl
     |done _=>rfl
theorem pturn_mu {p p1:PSt}(g:Gd (mc:=mc) p) (hc:Cells (mc:=mc) p.K.length) (e:E7 mc p=some p1):Gd (mc:=mc) p1∧p1.K.length=p.K.length∧p1.S.stk=p.S.stk∧mu M p1<mu M p∧p1.S.n+mu M p1≤p.S.n+mu M p:=by
 unfold E7 at e
 split at e
 ·rename_i h0
  split at e
  ·rename_i hw
   exfalso
   unfold Db at hw
   rw[List.any_eq_true] at hw
   obtain ⟨i,hi,hst⟩:=hw
   cases ht:p.S.thr[i]? with
   |none=>rw[ht] at hst;cases hst
   |some t =>
    rw[ht] at hst
    have hst:t.st=2:=by simpa using hst
    obtain ⟨f1,f2,f3⟩:=g.sit i t ht
    cases hl:p.l i with
    |turn _ _ _ _ _ _=>rw[hl] at f2;have f2:t.st=1:=f2;omega
    |wait _ _ _ _ _=>rw[hl] at f3;exact f3
    |done _=>rw[hl] at f2;have f2:t.st=3:=f2;omega
  ·cases e
 ·rename_i h0
  obtain ⟨t,ht,hrd⟩:=nextI_in h0
  generalize hi:Dv p.S=i at ht e
  have eth:thrI p.S i=t:=Ej ht
  rw[eth] at e
  obtain ⟨hfit,hst,hsi⟩:=g.sit i t ht
  have hl:∀ a,p.l i≠.done a:=fun a ha=>by
   rw[ha] at hst
   have:t.st=3:=hst
   simp[rdy,this] at hrd
  have hk:=going_keeps (S:=p.S) (i:=i) (t:=t)
  have hgt:=going_thr ht
  have hm:=resume_pro M i (p.l i) (going p.S i t) p.K hc hl hsi g.kok
  have hg:=resume_fs i mc (going p.S i t) p.K { t with st:=0 } hgt (p.l i) hl
  have sta:=Fj i mc (p.l i) (going p.S i t) p.K
  generalize resume i mc (p.l i) (going p.S i t) p.K=R at e hm hg sta
  cases e
  have hilt:i<p.S.thr.length:=(List.getElem?_eq_some_iff.1 ht).1
  have hlen:R.1.thr.length=p.S.thr.length:=by rw[sta.len,going_len]
  have hoth:∀ j,j≠i->R.1.thr[j]? = p.S.thr[j]?:=fun j hj=>by rw[sta.oth j hj,going_oth hj]
  have hstk:R.1.stk=p.S.stk:=by rw[sta.stk,hk.2.1]
  have hwi:wtI M ⟨R.1,R.2.1,upd p.l i R.2.2⟩ i=64*tot M R.2.2+sw M R.2.1 R.2.2:=by
   show 64*tot M (upd p.l i R.2.2 i)+sw M R.2.1 (upd p.l i R.2.2 i)=_
   rw[upd_same]
  have hwi0:wtI M p i=64*tot M (p.l i)+sw M p.K (p.l i):=rfl
  obtain ⟨hsit,hkok,hkl,hm⟩:=hm
  have key:∃ d,1≤d∧R.1.n≤p.S.n+d∧((List.range R.1.thr.length).map (wtI M ⟨R.1,R.2.1,upd p.l i R.2.2⟩)).sum+d≤((List.range p.S.thr.length).map (wtI M p)).sum:=by
   rw[hlen]
   rcases hm with ⟨m3,m4,m5,m6⟩|⟨m1,m3⟩
   ·refine ⟨1,Nat.le_refl _,by rw[hk.2.2.1] at m3;exact m3,?_⟩
    have:=sum_drop (wtI M p) (wtI M ⟨R.1,R.2.1,upd p.l i R.2.2⟩) 0 1 i p.S.thr.length hilt (fun j _ hne=>by
     show 64*tot M (upd p.l i R.2.2 j)+sw M R.2.1 (upd p.l i R.2.2 j)≤_
     rw[upd_ne _ _ hne,m6]
     exact Nat.le_refl _) (by rw[hwi,hwi0,m4];omega)
    omega
   ·have h8:=g.len
    have s3:=sw_le M R.2.1 R.2.2
    rw[hk.2.2.1] at m3
    generalize hD:tot M (p.l i) - tot M R.2.2=D
    have hD':tot M (p.l i)=tot M R.2.2+D:=by omega
    refine ⟨1+2*D,by omega,by omega,?_⟩
    have:=sum_drop (wtI M p) (wtI M ⟨R.1,R.2.1,upd p.l i R.2.2⟩) 5 (64*D - 5) i p.S.thr.length hilt (fun j _ hne=>by
     show 64*tot M (upd p.l i R.2.2 j)+sw M R.2.1 (upd p.l i R.2.2 j)≤_
     rw[upd_ne _ _ hne]
     have:=sw_le M R.2.1 (p.l j)
     unfold wtI
     omega) (by rw[hwi,hwi0,hD'];omega)
    omega
  obtain ⟨d,d1,d2,d3⟩:=key
  refine ⟨⟨by rw[hlen];exact g.len,hkok,fun j tj htj=>?_⟩,hkl,hstk,?_,?_⟩
  ·show FitsN (upd p.l i R.2.2 j) tj∧StN (upd p.l i R.2.2 j) tj∧sits (mc:=mc) R.2.1.length (upd p.l i R.2.2 j)
   rw[hkl]
   by_cases hne:j=i
   ·subst hne
    obtain ⟨t',g1,g2,g3⟩:=hg
    have htj:R.1.thr[j]? = some tj:=htj
    rw[g1] at htj
    obtain rfl:=Option.some.inj htj
    rw[upd_same]
    exact ⟨g2,g3,hsit⟩
   ·rw[upd_ne _ _ hne]
    have htj:R.1.thr[j]? = some tj:=htj
    exact g.sit j tj (by rw[←hoth j hne];exact htj)
  ·unfold mu
   show ((List.range R.1.thr.length).map (wtI M ⟨R.1,R.2.1,upd p.l i R.2.2⟩)).sum<_
   omega
  ·unfold mu
   show R.1.n+((List.range R.1.thr.length).map (wtI M ⟨R.1,R.2.1,upd p.l i R.2.2⟩)).sum≤_
   omega
theorem turns_end:∀ (m:Nat) (p:PSt),mu M p≤m->Gd (mc:=mc) p->Cells (mc:=mc) p.K.length->∃ n p',n≤m∧Turns mc n p p'∧p'.S.n≤p.S.n+mu M p:=by
 intro m
 induction m with
 |zero =>
  intro p hm g hc
  cases e:E7 mc p with
  |none=>exact ⟨0,p,Nat.le_refl _,.stop e,Nat.le_add_right _ _⟩
  |some p1=>have:=(pturn_mu M g hc e).2.2.2.1;omega
 |succ m ih =>
  intro p hm g hc
  cases e:E7 mc p with
  |none=>exact ⟨0,p,Nat.zero_le _,.stop e,Nat.le_add_right _ _⟩
  |some p1 =>
   obtain ⟨g1,hl,_,h1,h2⟩:=pturn_mu M g hc e
   obtain ⟨n,p',k1,k2,k3⟩:=ih p1 (by omega) g1 (by rw[hl];exact hc)
   exact ⟨n+1,p',by omega,.step e k2,by omega⟩
theorem turns_gd {m:Nat}{p p':PSt}(h:Turns mc m p p'):Gd (mc:=mc) p->Cells (mc:=mc) p.K.length->Gd (mc:=mc) p'∧p'.K.length=p.K.length∧p'.S.stk=p.S.stk∧p'.S.n+mu M p'≤p.S.n+mu M p:=by
 induction h with
 |stop=>exact fun g _=>⟨g,rfl,rfl,Nat.le_refl _⟩
 |@step n p p1 p' e _ ih =>
  intro g hc
  obtain ⟨g1,hl,hs,_,h2⟩:=pturn_mu M g hc e
  have:=ih g1 (by rw[hl];exact hc)
  exact ⟨this.1,this.2.1.trans hl,this.2.2.1.trans hs,by omega⟩
theorem hires_gd (m:Nat) (hc:Cells (mc:=mc) m) {k:Nat}{ss:List (Scr mc)}{S S':TS}{l l':Nat->Ph}(h:Hires mc k ss S l S' l') (hk:S.thr.length=k) (h8:k+ss.length≤8) (hs:∀ i t,S.thr[i]? = some t->FitsN (l i) t∧StN (l i) t∧sits (mc:=mc) m (l i)) :
 S'.thr.length=k+ss.length∧(∀ i t,S'.thr[i]? = some t->FitsN (l' i) t∧StN (l' i) t∧sits (mc:=mc) m (l' i))∧S'.n≤S.n+2*lens ss∧((List.range S'.thr.length).map fun i=>tot M (l' i)).sum≤((List.range S.thr.length).map fun i=>tot M (l i)).sum+M.L*lens ss:=by
 induction h with
 |nil=>exact ⟨by simpa using hk,hs,Nat.le_add_right _ _,Nat.le_add_right _ _⟩
 |@cons k s ss S S' l l' tv tb gc h ih =>
  have hlen:(A6 S tv tb gc).thr.length=k+1:=by simp[A6,hk]
  obtain ⟨t0,ht0⟩:∃ t0,(A6 S tv tb gc).thr[k]? = some t0:=⟨_,List.getElem?_eq_getElem (by omega)⟩
  have sta:=Gj k mc s.calls 0 false s.ans (A6 S tv tb gc)
  obtain ⟨t1,f1,f2,f3⟩:=flow_fs k mc s.calls 0 false s.ans (A6 S tv tb gc) t0 ht0
  have hle:=flow_le k mc s.calls 0 false s.ans (A6 S tv tb gc)
  obtain ⟨hlf,_,hsf⟩:=flow_tot M m hc k s.calls 0 false s.ans (A6 S tv tb gc)
  have hn0:(A6 S tv tb gc).n=S.n:=rfl
  simp only[List.length_cons] at h8
  obtain ⟨i1,i2,i3,i4⟩:=ih (by rw[sta.len,hlen]) (by omega) (fun i t ht=>by
   by_cases hi:i=k
   ·subst hi
    rw[f1] at ht;cases ht
    rw[upd_same]
    exact ⟨f2,f3,hsf⟩
   ·rw[upd_ne _ _ hi]
    rw[sta.oth i hi] at ht
    refine hs i t ?_
    have:i<k:=by
     have:=(List.getElem?_eq_some_iff.1 ht).1
     omega
    simpa [A6,List.getElem?_append,hk,this] using ht)
  refine ⟨by rw[i1];simp only[List.length_cons];omega,i2,?_,?_⟩
  ·simp only[lens,List.map_cons,List.sum_cons] at i3 ⊢
   omega
  ·have e1:(flow k mc s.calls 0 false s.ans (A6 S tv tb gc)).1.thr.length=k+1:=by rw[sta.len,hlen]
   rw[e1,List.range_succ,List.map_append,List.sum_append] at i4
   simp only[List.map_cons,List.map_nil,List.sum_cons,List.sum_nil] at i4
   rw[upd_same] at i4
   have e2:(List.range k).map (fun i=>tot M (upd l k (flow k mc s.calls 0 false s.ans (A6 S tv tb gc)).2 i))=(List.range k).map (fun i=>tot M (l i)):=List.map_congr_left (fun i hi=>by
    have:i<k:=List.mem_range.1 hi
    rw[upd_ne _ _ (by omega)])
   rw[e2] at i4
   rw[hk]
   simp only[lens,List.map_cons,List.sum_cons] at i4 ⊢
   rw[Nat.mul_add]
   omega
theorem mu_le (p:PSt) (h8:p.S.thr.length≤8):mu M p≤40+64*((List.range p.S.thr.length).map fun i=>tot M (p.l i)).sum:=by
 have h:∀ k,((List.range k).map (wtI M p)).sum≤64*((List.range k).map fun i=>tot M (p.l i)).sum+5*k:=fun k=>by
  induction k with
  |zero=>simp
  |succ k ih =>
   rw[List.range_succ,List.map_append,List.map_append,List.sum_append,List.sum_append]
   simp only[List.map_cons,List.map_nil,List.sum_cons,List.sum_nil]
   have:=sw_le M p.K (p.l k)
   unfold wtI at ih ⊢
   omega
 have:=h p.S.thr.length
 unfold mu
 omega
theorem play_ends {ss:List (Scr mc)}{S S1:TS}{l0 l1:Nat->Ph}{K:List (Nat×Int)}(hc:Cells (mc:=mc) K.length) (hK:KOk mc K) (h:Hires mc 0 ss S l0 S1 l1) (h0:S.thr=[]) (h8:ss.length≤8) (hl:lens ss≤512) (hL:M.L≤8) (hn:S.n=0) :
 ∃ m p',m≤300000∧Turns mc m ⟨S1,K,l1⟩ p'∧p'.S.n*40≤140737488355328:=by
 obtain ⟨a1,a2,a3,a4⟩:=hires_gd M K.length hc h (by rw[h0];rfl) (by omega) (fun i t ht=>by rw[h0] at ht;cases ht)
 have g:Gd (mc:=mc) ⟨S1,K,l1⟩:=⟨by show S1.thr.length≤8;omega,hK,a2⟩
 have hm:=mu_le M ⟨S1,K,l1⟩ g.len
 rw[h0] at a4
 simp only[List.length_nil,List.range_zero,List.map_nil,List.sum_nil] at a4
 have h5:M.L*lens ss≤8*512:=Nat.mul_le_mul hL hl
 have hm2:mu M ⟨S1,K,l1⟩≤300000:=by
  refine Nat.le_trans hm ?_
  show 40+64*((List.range S1.thr.length).map fun i=>tot M (l1 i)).sum≤300000
  omega
 obtain ⟨m,p',k1,k2,k3⟩:=turns_end M 300000 ⟨S1,K,l1⟩ hm2 g hc
 refine ⟨m,p',k1,k2,?_⟩
 have k3:p'.S.n≤S1.n+mu M ⟨S1,K,l1⟩:=k3
 omega
end
end Go.Proofs.YtbbhahigofeacaaDoor.Gen.Mw
namespace Go.Proofs.YtbbhahigofeacaaDoor.Gen
open Go Go.Lift Go.Conc Go.RowKit
open Go.ConcN (upd upd_same upd_ne)
section
variable {mc:Mc}
theorem pturn_mvW {p p1:PSt}{v:Vw}(g:Mw.Gd (mc:=mc) p) (s:Seen p v) (e:E7 mc p=some p1):∃ v1,Mv mc p.S.thr.length v v1∧Seen p1 v1:=by
 unfold E7 at e
 split at e
 ·rename_i h0
  split at e
  ·rename_i hw
   cases e
   have hall:∀ i t,p.S.thr[i]? = some t->rdy p.S t=false:=fun i t ht=>by
    cases hr:rdy p.S t with
    |false=>rfl
    |true =>
     have:i∈Aq p.S p.S.thr.length:=by
      unfold Aq
      rw[List.mem_filter]
      exact ⟨List.mem_range.2 (List.getElem?_eq_some_iff.1 ht).1,by rw[ht];exact hr⟩
     rw[h0] at this;cases this
   unfold Db at hw
   rw[List.any_eq_true] at hw
   obtain ⟨i,hi,hst⟩:=hw
   have hi:=List.mem_range.1 hi
   obtain ⟨t,ht⟩:∃ t,p.S.thr[i]? = some t:=⟨_,List.getElem?_eq_getElem hi⟩
   rw[ht] at hst
   have hst:t.st=2:=by simpa using hst
   have hs:p.S.stk=false:=by
    have:=hall i t ht
    cases hs:p.S.stk with
    |false=>rfl
    |true=>simp[rdy,hst,hs] at this
   refine ⟨{ v with stk:=true,L:=v.L++[⟨-1,-1,7,0,0⟩] },.stuck (by rw[s.stk];exact hs) (fun k hk=>?_) ⟨i,hi,?_⟩ rfl,⟨s.K,rfl,s.chg,s.se,s.l,?_,?_,s.ce⟩⟩
   ·obtain ⟨tk,htk⟩:∃ t,p.S.thr[k]? = some t:=⟨_,List.getElem?_eq_getElem hk⟩
    have hnr:=hall k tk htk
    obtain ⟨_,h2,_⟩:=g.sit k tk htk
    have hce:=s.ce k tk htk
    rw[s.l,s.chg,s.se k,Ej htk]
    match hl:p.l k,h2 with
    |.done a,_=>exact .inl ⟨a,rfl⟩
    |.turn _ _ _ _ _ _,h2 =>
     have h2:tk.st=1:=h2
     simp[rdy,h2] at hnr
    |.wait j q r kk a,h2 =>
     have h2:tk.st=2:=h2
     have e1:=hce j q r kk a hl
     refine .inr ⟨j,q,r,kk,a,rfl,?_⟩
     have:Dt p.S.chg tk.ce=tk.se:=by simpa [rdy,h2,hs] using hnr
     rw[←e1]
     exact this
   ·obtain ⟨_,h2,_⟩:=g.sit i t ht
    rw[s.l]
    match hl:p.l i,h2 with
    |.done a,h2=>have h2:t.st=3:=h2;omega
    |.turn _ _ _ _ _ _,h2=>have h2:t.st=1:=h2;omega
    |.wait j q r kk a,_=>exact ⟨j,q,r,kk,a,rfl⟩
   ·show p.S.tr++_=flat (v.L++_)
    rw[flat_app,s.tr]
    rfl
   ·show p.S.n+1=(v.L++_).length
    rw[List.length_append,s.n]
    rfl
  ·cases e
 ·rename_i h0
  obtain ⟨t,ht,hrd⟩:=nextI_in h0
  generalize hi:Dv p.S=i at ht e
  have eth:thrI p.S i=t:=Ej ht
  rw[eth] at e
  obtain ⟨hfit,hst,hsi⟩:=g.sit i t ht
  have hl:∀ a,p.l i≠.done a:=fun a ha=>by
   rw[ha] at hst
   have:t.st=3:=hst
   simp[rdy,this] at hrd
  have hk:=going_keeps (S:=p.S) (i:=i) (t:=t)
  have hgt:=going_thr ht
  have sta:=Fj i mc (p.l i) (going p.S i t) p.K
  have hilt:i<p.S.thr.length:=(List.getElem?_eq_some_iff.1 ht).1
  have hoth:∀ j,j≠i->(resume i mc (p.l i) (going p.S i t) p.K).1.thr[j]? = p.S.thr[j]?:=fun j hj=>by rw[sta.oth j hj,going_oth hj]
  have hstk:(resume i mc (p.l i) (going p.S i t) p.K).1.stk=p.S.stk:=by rw[sta.stk,hk.2.1]
  cases e
  have seen:∀ (Y:List Stp) (chg':List Int) (K':List Int),Adds (going p.S i t) (resume i mc (p.l i) (going p.S i t) p.K).1 Y->(resume i mc (p.l i) (going p.S i t) p.K).1.chg=chg'->(resume i mc (p.l i) (going p.S i t) p.K).2.1.map (·.2)=K'->Aw chg' (resume i mc (p.l i) (going p.S i t) p.K).2.2 (thrI (resume i mc (p.l i) (going p.S i t) p.K).1 i) ->
   Seen ⟨(resume i mc (p.l i) (going p.S i t) p.K).1,(resume i mc (p.l i) (going p.S i t) p.K).2.1,upd p.l i (resume i mc (p.l i) (going p.S i t) p.K).2.2⟩ ⟨K',p.S.stk,chg',fun k=>(thrI (resume i mc (p.l i) (going p.S i t) p.K).1 k).se,upd p.l i (resume i mc (p.l i) (going p.S i t) p.K).2.2,v.L++Y⟩ ∧
   Els i (resume i mc (p.l i) (going p.S i t) p.K).2.2 v ⟨K',p.S.stk,chg',fun k=>(thrI (resume i mc (p.l i) (going p.S i t) p.K).1 k).se,upd p.l i (resume i mc (p.l i) (going p.S i t) p.K).2.2,v.L++Y⟩:=fun Y chg' K' ha hc hK hA=>by
   refine ⟨⟨hK.symm,hstk.symm,hc.symm,fun _=>rfl,rfl,?_,?_,fun k tk htk j q r kk a hl=>?_⟩,⟨by rw[s.l],fun k hne=>?_,fun j q r k a h=>(hA j q r k a h).2⟩⟩
   ·show (resume i mc (p.l i) (going p.S i t) p.K).1.tr=_
    rw[ha.tr,hk.2.2.2,s.tr,flat_app]
   ·show (resume i mc (p.l i) (going p.S i t) p.K).1.n=_
    rw[ha.n,hk.2.2.1,s.n,List.length_append]
   ·have htk:(resume i mc (p.l i) (going p.S i t) p.K).1.thr[k]? = some tk:=htk
    have hl:upd p.l i (resume i mc (p.l i) (going p.S i t) p.K).2.2 k=.wait j q r kk a:=hl
    by_cases hne:k=i
    ·subst hne
     rw[upd_same] at hl
     have:=(hA j q r kk a hl).1
     rw[Ej htk] at this
     exact this
    ·rw[upd_ne _ _ hne] at hl
     rw[hoth k hne] at htk
     exact s.ce k tk htk j q r kk a hl
   ·show (thrI (resume i mc (p.l i) (going p.S i t) p.K).1 k).se=_
    rw[s.se k]
    unfold thrI
    rw[hoth k hne]
  match hpl:p.l i,hl,hfit,hst with
  |.done a,hl,_,_=>exact absurd rfl (hl a)
  |.turn op j q rest ii ans,_,hfit,hst =>
   have hvl:v.l i=.turn op j q rest ii ans:=by rw[s.l];exact hpl
   have hx:v.K.getD j 0=(cellAt p.K j).2:=by rw[s.K];exact getD_cell _ _
   have ht0:thrI (going p.S i t) i={ t with st:=0 }:=Ej hgt
   rw[hpl] at seen
   rw[F3] at seen ⊢
   rw[ht0] at seen ⊢
   generalize hxx:(cellAt p.K j).2=x at *
   have hds:(didS (going p.S i t) undef i { t with st:=0 } (mc.turn q x).1.1 (mc.turn q x).1.2).stk=p.S.stk:=by rw[(sta_did (i:=i) _ _ _ _ _).stk,hk.2.1]
   obtain ⟨n1,n2,n3,n4⟩:=Hj (i:=i) (mc.nts q x) (didS (going p.S i t) undef i { t with st:=0 } (mc.turn q x).1.1 (mc.turn q x).1.2)
   rw[hk.2.1] at seen ⊢
   obtain ⟨X,o1,o2,o3,o4,o5⟩:=on_fw (mc:=mc) i rest ii ans (H9 i (mc.nts q x) (didS (going p.S i t) undef i { t with st:=0 } (mc.turn q x).1.1 (mc.turn q x).1.2)) (p.K.set j ((cellAt p.K j).1,(mc.turn q x).2.1)) (mc.set p.S.stk (mc.turn q x).2.2) { t with st:=0 } (by rw[n1];exact did_thr hgt)
   have hadd:=((adds_did (going p.S i t) undef i { t with st:=0 } (mc.turn q x).1.1 (mc.turn q x).1.2).trans (adds_notes i (mc.nts q x) _)).trans o2
   have ho:t.op=op:=hfit.1
   have hc:t.ce=j:=hfit.2
   have hadd:Adds (going p.S i t) (on i mc rest ii ans (H9 i (mc.nts q x) (didS (going p.S i t) undef i { t with st:=0 } (mc.turn q x).1.1 (mc.turn q x).1.2)) (p.K.set j ((cellAt p.K j).1,(mc.turn q x).2.1)) (mc.set p.S.stk (mc.turn q x).2.2)).1 (⟨i,j,op,(mc.turn q x).1.1,(mc.turn q x).1.2⟩ :: (ntsL i (mc.nts q x)++X)):=by
    rw[←ho,←hc]
    exact hadd
   have hchg:(didS (going p.S i t) undef i { t with st:=0 } (mc.turn q x).1.1 (mc.turn q x).1.2).chg=bump p.S.chg j (mc.turn q x).1.1 (mc.turn q x).1.2:=by
    unfold didS bump
    by_cases hb:(mc.turn q x).1.1≠(mc.turn q x).1.2∧j<p.S.chg.length
    ·rw[if_pos ⟨hb.1,by show (0:Int)≤t.ce;omega,by show t.ce<((going p.S i t).chg.length:Int);rw[hk.1];omega⟩,if_pos hb]
     show (going p.S i t).chg.modify t.ce.toNat _=_
     rw[hk.1,hc]
     rfl
    ·rw[if_neg (fun h=>hb ⟨h.1,by have h3:t.ce<((going p.S i t).chg.length:Int):=h.2.2;rw[hk.1] at h3;omega⟩),if_neg hb]
     exact hk.1
   rw[n3,hchg] at o3 o4
   rw[n4,hds] at o1
   obtain ⟨z1,z2⟩:=seen _ _ _ hadd o3 (by rw[o5]) o4
   refine ⟨_,.turn i op j q rest ii ans X _ hilt hvl (by rw[s.stk,hx];exact o1) z2 ?_ s.stk.symm (by rw[hx,s.chg]) (by rw[hx]),z1⟩
   show (p.K.set j _).map (·.2)=_
   rw[s.K,List.map_set,←s.K,hx]
  |.wait j q rest ii ans,_,hfit,hst =>
   have hvl:v.l i=.wait j q rest ii ans:=by rw[s.l];exact hpl
   have hst:t.st=2:=hst
   have hce:=s.ce i t ht j q rest ii ans hpl
   rw[hpl] at seen
   rw[F2] at seen ⊢
   cases hs:p.S.stk with
   |true =>
    have hs':(going p.S i t).stk=true:=by rw[hk.2.1];exact hs
    rw[if_pos hs'] at seen ⊢
    obtain ⟨X,o1,o2,o3,o4,o5⟩:=on_fw (mc:=mc) i rest ii ans (going p.S i t) p.K (mc.stuck q) { t with st:=0 } hgt
    rw[hs'] at o1
    rw[hk.1] at o3 o4
    obtain ⟨z1,z2⟩:=seen _ _ _ o2 o3 (by rw[o5]) o4
    exact ⟨_,.free i j q rest ii ans X _ hilt hvl (by rw[s.stk];exact hs) o1 z2 s.K.symm hs s.chg.symm rfl,z1⟩
   |false =>
    have hs':(going p.S i t).stk=false:=by rw[hk.2.1];exact hs
    rw[if_neg (by rw[hs'];decide)] at seen ⊢
    obtain ⟨X,o1,o2,o3,o4,o5⟩:=on_fw (mc:=mc) i rest ii ans (Bn (going p.S i t) undef i 6 j 0 0) p.K (mc.woke q) { t with st:=0 } hgt
    have hs2:(Bn (going p.S i t) undef i 6 j 0 0).stk=false:=hs'
    rw[hs2] at o1
    have hc2:(Bn (going p.S i t) undef i 6 j 0 0).chg=p.S.chg:=hk.1
    rw[hc2] at o3 o4
    obtain ⟨z1,z2⟩:=seen _ _ _ ((I4 (going p.S i t) undef i 6 j 0 0).trans o2) o3 (by rw[o5]) o4
    refine ⟨_,.wake i j q rest ii ans X _ hilt hvl (by rw[s.stk];exact hs) ?_ o1 z2 s.K.symm hs s.chg.symm rfl,z1⟩
    rw[s.chg,s.se i,eth,←hce]
    simpa [rdy,hst,hs] using hrd
theorem turns_mvW (M:Mw.Met mc) {Inv:Vw->Prop}{N B:Nat}(hI:∀ p v v1,Mw.Gd (mc:=mc) p->p.S.thr.length=N->p.S.n≤B->Seen p v->Inv v->Mv mc N v v1->Inv v1) {m:Nat}{p p':PSt}(h:Turns mc m p p'):∀ v,p.S.thr.length=N->Mw.Gd (mc:=mc) p->Mw.Cells (mc:=mc) p.K.length->p.S.n+Mw.mu M p≤B->Seen p v->Inv v->∃ v',Inv v'∧Seen p' v'∧p'.S.thr.length=N∧(∀ i,i<N->∃ a,v'.l i=.done a)∧Mw.Gd (mc:=mc) p'∧p'.S.n≤B:=by
 induction h with
 |@stop p hs =>
  intro v hN g hc hB s hv
  refine ⟨v,hv,s,hN,fun i hi=>?_,g,by omega⟩
  obtain ⟨t,ht⟩:∃ t,p.S.thr[i]? = some t:=⟨_,List.getElem?_eq_getElem (by omega)⟩
  obtain ⟨_,h2,_⟩:=g.sit i t ht
  unfold E7 at hs
  split at hs
  ·rename_i h0
   split at hs
   ·cases hs
   ·rename_i hw
    rw[s.l]
    match hl:p.l i,h2 with
    |.done a,_=>exact ⟨a,rfl⟩
    |.turn _ _ _ _ _ _,h2 =>
     have h2:t.st=1:=h2
     have:i∈Aq p.S p.S.thr.length:=by
      unfold Aq
      rw[List.mem_filter]
      exact ⟨List.mem_range.2 (by omega),by rw[ht];simp[rdy,h2]⟩
     rw[h0] at this;cases this
    |.wait _ _ _ _ _,h2 =>
     have h2:t.st=2:=h2
     exfalso
     apply hw
     unfold Db
     rw[List.any_eq_true]
     exact ⟨i,List.mem_range.2 (by omega),by rw[ht];simp[h2]⟩
  ·cases hs
 |@step n p p1 p' e _ ih =>
  intro v hN g hc hB s hv
  obtain ⟨v1,m1,s1⟩:=pturn_mvW g s e
  rw[hN] at m1
  have hlen:p1.S.thr.length=N:=by
   unfold E7 at e
   split at e
   ·split at e
    ·cases e;exact hN
    ·cases e
   ·cases e
    show (resume _ _ _ _ _).1.thr.length=_
    rw[(Fj _ _ _ _ _).len,going_len,hN]
  obtain ⟨g1,hl1,_,hm1,hm2⟩:=Mw.pturn_mu M g hc e
  exact ih v1 hlen g1 (by rw[hl1];exact hc) (by omega) s1 (hI p v v1 g hN (by omega) s hv m1)
end
theorem fw_notes {mc:Mc}{i:Nat}{stk:Bool}{rest:List Cl}{ii:Nat}{sk:Bool}{ans:List (Int×Int)}{X:List Stp}{l:Ph}(h:Fw mc i stk rest ii sk ans X l):(∀ s∈X,s.ce=-1)∧((∃ a,l=.done a)∨(∃ c op j q r k a,mc.set stk (mc.start i c)=.turn op j q∧l=.turn op j q r k a)∨∃ c j q r k a,mc.set stk (mc.start i c)=.wait j q∧l=.wait j q r k a):=by
 induction h with
 |nil=>exact ⟨fun s hs=>(by cases hs),.inl ⟨_,rfl⟩⟩
 |skip _ ih=>exact ih
 |ans h _ ih =>
  refine ⟨fun s hs=>?_,ih.2⟩
  simp only[List.mem_cons] at hs
  rcases hs with rfl|rfl|hs
  ·rfl
  ·rfl
  ·exact ih.1 s hs
 |turn h =>
  refine ⟨fun s hs=>?_,.inr (.inl ⟨_,_,_,_,_,_,_,h,rfl⟩)⟩
  simp only[List.mem_cons,List.not_mem_nil,or_false] at hs
  subst hs
  rfl
 |wait h =>
  refine ⟨fun s hs=>?_,.inr (.inr ⟨_,_,_,_,_,_,h,rfl⟩)⟩
  simp only[List.mem_cons,List.not_mem_nil,or_false] at hs
  subst hs
  rfl
theorem on_notes {mc:Mc}{i:Nat}{stk:Bool}{rest:List Cl}{ii:Nat}{ans:List (Int×Int)}{x:Nx}{X:List Stp}{l:Ph}(h:On mc i stk rest ii ans x X l):(∀ s∈X,s.ce=-1)∧((∃ a,l=.done a)∨(∃ op j q r k a,(x=.turn op j q∨∃ c,mc.set stk (mc.start i c)=.turn op j q)∧l=.turn op j q r k a)∨∃ j q r k a,(x=.wait j q∨∃ c,mc.set stk (mc.start i c)=.wait j q)∧l=.wait j q r k a):=by
 cases h with
 |ans h =>
  have:=fw_notes h
  refine ⟨fun s hs=>?_,?_⟩
  ·simp only[List.mem_cons] at hs
   rcases hs with rfl|hs
   ·rfl
   ·exact this.1 s hs
  ·rcases this.2 with h|⟨c,op,j,q,r,k,a,h,e⟩|⟨c,j,q,r,k,a,h,e⟩
   ·exact .inl h
   ·exact .inr (.inl ⟨op,j,q,r,k,a,.inr ⟨c,h⟩,e⟩)
   ·exact .inr (.inr ⟨j,q,r,k,a,.inr ⟨c,h⟩,e⟩)
 |turn=>exact ⟨fun s hs=>(by cases hs),.inr (.inl ⟨_,_,_,_,_,_,.inl rfl,rfl⟩)⟩
 |wait=>exact ⟨fun s hs=>(by cases hs),.inr (.inr ⟨_,_,_,_,_,.inl rfl,rfl⟩)⟩
end Go.Proofs.YtbbhahigofeacaaDoor.Gen
namespace Go.Proofs.YtbbhahigofeacaaDoor
open Go Go.Lift Go.Conc Go.RowKit
structure Alone (gs:Array Goroutine) (w:World) (T:Trace) (q:Nat->Nat):Prop where
 left:Leavers Tryd.prog T gs q
 past:∃ B,B≤w.heap.size∧Past (fun _=>False) B T
theorem D4 {gs:Array Goroutine}{w:World}{T:Trace}{q:Nat->Nat}(A:Alone gs w T q) {a:Goroutine}{Stop:Goroutine->World->Prop}(hg:gs[0]? = some a) (sl:Option (Nat×Nat)) (hG:GoesI Tryd.prog true (DT (ScZ zn) (fun _=>False)) Stop a w) :
 ∃ (N':Nat) (gs':Array Goroutine) (a':Goroutine) (w':World) (sl':Option (Nat×Nat)) (T':Trace) (q':Nat->Nat),runNT Tryd.prog N' (crowd gs w sl) T=(.next (crowd gs' w' sl'),T')∧gs'.size=gs.size∧gs'[0]? = some a'∧Stop a' w'∧Alone gs' w' T' q':=by
 obtain ⟨B,hB,hP⟩:=A.past
 have hno:∀ a,¬ ScZ zn a:=fun a ha=>by have:=ha.2;cases this
 have C0:Ring Tryd.prog (KC (ScZ zn) (fun _=>undef)) (Fv (ScZ zn)) B (fun g=>g=0) (fun _=>none) 0 T gs w q:=ring_begin (fun x hx=>by obtain ⟨a,_,h⟩:=hx;exact absurd h (hno a)) A.left hP (fun a ha=>absurd ha (hno a))
 obtain ⟨N1,gs1,a1,w1,sl1,T1,q1,B1,r1,z1,h1,hs1,⟨hB1,hB1b,hB1c⟩,C1⟩:=Dx (Inb:=fun _=>none) (Mem:=fun g=>g=0) (h:=0) (fun w d h=>Ip w d h) (Dz (fun i s c e=>by cases e)) hG gs sl T q B hg C0
 obtain ⟨hL,hP'⟩:=ring_end C1 rfl (fun _ _=>rfl)
 exact ⟨N1,gs1,a1,w1,sl1,T1,q1,r1,z1,h1,hs1,hL,B1,by omega,hP'⟩
noncomputable def B20:Code:=Tryd.f37.body.getD .skip
noncomputable def a200:Code:=seq1 B20
noncomputable def a201:Code:=seq1 (seq2 B20)
noncomputable def a202:Code:=seq1 (seq2 (seq2 B20))
noncomputable def a203:Code:=seq1 (seq2 (seq2 (seq2 B20)))
theorem fine200:A7 Tryd.prog true LT a200:=Dc Ci extT (by kernel_rfl)
theorem fine201:A7 Tryd.prog true LT a201:=Dc Ci extT (by kernel_rfl)
theorem fine202:A7 Tryd.prog true LT a202:=Dc Ci extT (by kernel_rfl)
theorem fine203:A7 Tryd.prog true LT a203:=Dc Ci extT (by kernel_rfl)
theorem info40:(Tryd.prog.info? 46).map (fun i=>(i.zero,i.size,i.bytes))=some (some (.slice none 0 0),1,24):=by kernel_rfl
theorem info42:(Tryd.prog.info? 48).map (fun i=>(i.zero,i.size,i.bytes))=some (some (.agg #[I 0,I 0]),2,16):=by kernel_rfl
theorem mk27 (n:Nat) (hn:n≤8) (w:World) :
 (Instr.makeSlice 31 (.int .i64 (n:Int)) (.int .i64 (n:Int))).run Tryd.prog w=.ok (.slice (some ⟨w.heap.size,0,none⟩) n n) (w.alloc (.cells (madeCells #[.slice none 0 0] n) 46)):=by
 obtain ⟨i,hq,hz,hs,hb⟩:=info_parts info40
 have:=run_make (P:=Tryd.prog) w 31 46 i _ Tryd.underlying31 hq hz .i64 .i64 (n:Int) (n:Int) (by omega) (by omega) (by rw[hb];omega) (by omega)
 rw[hs] at this
 rw[this]
 simp[Value.cells]
theorem mk40 (n:Nat) (hn:n≤64) (w:World) :
 (Instr.makeSlice 46 (.int .i64 (n:Int)) (.int .i64 (n:Int))).run Tryd.prog w=.ok (.slice (some ⟨w.heap.size,0,none⟩) n n) (w.alloc (.cells (madeCells #[I 0,I 0] (n*2)) 48)):=by
 obtain ⟨i,hq,hz,hs,hb⟩:=info_parts info42
 have:=run_make (P:=Tryd.prog) w 46 48 i _ Tryd.underlying46 hq hz .i64 .i64 (n:Int) (n:Int) (by omega) (by omega) (by rw[hb];omega) (by omega)
 rw[hs] at this
 rw[this]
 simp[Value.cells]
theorem a201_wp (v:World) (wb p2 n:Nat) (p:Option Addr) (cap:Nat) (F:Value) (hn:n≤8) :
 a201.wp Tryd.prog (fun e a w'=>e=.normal∧a={ tmps:=#[Pt wb 0,.slice p n cap,F,undef,undef,Pt p2 0,.slice none 0 0,Pt (v.heap.size+1) 0,undef,undef,undef,.slice p n cap,I n,.slice (some ⟨v.heap.size,0,none⟩) n n]++Array.replicate 25 undef,defers:=[] }∧w'.heap=(v.heap.push (.cells (madeCells #[.slice none 0 0] n) 46)).push (.cells #[.slice (some ⟨v.heap.size,0,none⟩) n n] 31)∧w'.os=v.os∧w'.output=v.output)
  { tmps:=#[Pt wb 0,.slice p n cap,F,undef,undef,Pt p2 0,.slice none 0 0]++Array.replicate 32 undef,defers:=[] } v:=by
 have hmk:=mk27 n hn
 show Code.wp Tryd.prog (seq1 (seq2 (Tryd.f37.body.getD .skip))) _ _ _
 unfold Tryd.f37 seq1 seq2
 simp only[Option.getD_some,Array.replicate_succ,Array.replicate_zero,List.push_toArray,List.append_toArray,List.nil_append,List.cons_append]
 go_wp2_with fail
 exact ⟨rfl,rfl,rfl⟩
theorem info80:(Tryd.prog.info? 113).map (fun i=>(i.zero,i.size,i.bytes))=some (some .nilFunc,1,8):=by kernel_rfl
theorem mk78 (n:Nat) (hn:n≤8) (w:World) :
 (Instr.makeSlice 111 (.int .i64 (n:Int)) (.int .i64 (n:Int))).run Tryd.prog w=.ok (.slice (some ⟨w.heap.size,0,none⟩) n n) (w.alloc (.cells (madeCells #[.nilFunc] n) 113)):=by
 obtain ⟨i,hq,hz,hs,hb⟩:=info_parts info80
 have:=run_make (P:=Tryd.prog) w 111 113 i _ Tryd.underlying111 hq hz .i64 .i64 (n:Int) (n:Int) (by omega) (by omega) (by rw[hb];omega) (by omega)
 rw[hs] at this
 rw[this]
 simp[Value.cells]
theorem a202_wp (v:World) (wb p2 p3 rr n:Nat) (p:Option Addr) (cap:Nat) (F:Value) (hn:n≤8) :
 a202.wp Tryd.prog (fun e a w'=>e=.normal∧a={ tmps:=#[Pt wb 0,.slice p n cap,F,undef,undef,Pt p2 0,.slice none 0 0,Pt p3 0,.slice (some ⟨v.heap.size,0,none⟩) n n,undef,undef,.slice p n cap,I n,.slice (some ⟨rr,0,none⟩) n n,.slice p n cap,I n,.slice (some ⟨v.heap.size,0,none⟩) n n]++Array.replicate 22 undef,defers:=[] }∧w'.heap=v.heap.push (.cells (madeCells #[.nilFunc] n) 113)∧w'.os=v.os∧w'.output=v.output)
  { tmps:=#[Pt wb 0,.slice p n cap,F,undef,undef,Pt p2 0,.slice none 0 0,Pt p3 0,undef,undef,undef,.slice p n cap,I n,.slice (some ⟨rr,0,none⟩) n n]++Array.replicate 25 undef,defers:=[] } v:=by
 have hmk:=mk78 n hn
 show Code.wp Tryd.prog (seq1 (seq2 (seq2 (Tryd.f37.body.getD .skip)))) _ _ _
 unfold Tryd.f37 seq1 seq2
 simp only[Option.getD_some,Array.replicate_succ,Array.replicate_zero,List.push_toArray,List.append_toArray,List.nil_append,List.cons_append]
 go_wp2_with fail
 exact ⟨rfl,rfl,rfl⟩
structure Laid (v:World) (n p2 p3 rr bb:Nat) (pc:Nat->Option Addr) (ln cp:Nat->Nat) (k:Nat) (u:World):Prop where
 size:u.heap.size=v.heap.size+3*k
 rrow:u.rowIs rr 46 n (fun j=>if j<k then .slice (some ⟨v.heap.size+3*j+2,0,none⟩) (ln j) (ln j) else .slice none 0 0)
 brow:u.rowIs bb 113 n (fun j=>if j<k then .func (.func 59) #[] #[Pt (v.heap.size+3*j+1) 0,Pt p2 0,Pt p3 0,Pt (v.heap.size+3*j) 0] else .nilFunc)
 blk:∀ j,j<k->u.heap[v.heap.size+3*j]? = some (.cells #[I j] 3)∧u.heap[v.heap.size+3*j+1]? = some (.cells #[.slice (pc j) (ln j) (cp j)] 45)∧u.heap[v.heap.size+3*j+2]? = some (.cells (madeCells #[I 0,I 0] (ln j*2)) 48)
 old:∀ b,b<v.heap.size->b≠rr->b≠bb->u.heap[b]? = v.heap[b]?
 os:u.os=v.os
 out:u.output=v.output
theorem laid_next {v wr W U:World}{n p2 p3 rr bb k:Nat}{pc:Nat->Option Addr}{ln cp:Nat->Nat}(h:Laid v n p2 p3 rr bb pc ln cp k wr) (hk:k<n) (hne:rr≠bb) (hW:W.heap=(wr.heap.push (.cells #[I k] 3)).push (.cells #[.slice (pc k) (ln k) (cp k)] 45)) (ho:W.os=wr.os) (hu:W.output=wr.output)
 (hU:U.heap=((((W.alloc (.cells (madeCells #[I 0,I 0] (ln k*2)) 48)).setCell ⟨rr,k,none⟩ (.slice (some ⟨W.heap.size,0,none⟩) (ln k) (ln k)))).setCell ⟨bb,k,none⟩ (.func (.func 59) #[] #[Pt (wr.heap.size+1) 0,Pt p2 0,Pt p3 0,Pt wr.heap.size 0])).heap) (hUo:U.os=W.os) (hUu:U.output=W.output):Laid v n p2 p3 rr bb pc ln cp (k+1) U:=by
 have hs:=h.size
 have lr:=h.rrow.lt
 have lb:=h.brow.lt
 have hWs:W.heap.size=wr.heap.size+2:=by rw[hW];simp
 have hold:∀ b,b<wr.heap.size->W.heap[b]? = wr.heap[b]?:=fun b hb=>by rw[hW,Array.getElem?_push,if_neg (by simp;omega),Array.getElem?_push,if_neg (by omega)]
 have hA:∀ b,b<W.heap.size->(W.alloc (.cells (madeCells #[I 0,I 0] (ln k*2)) 48)).heap[b]? = W.heap[b]?:=fun b hb=>by
  show (W.heap.push _)[b]? = _
  rw[Array.getElem?_push,if_neg (by omega)]
 have hUb:∀ b,b≠rr->b≠bb->U.heap[b]? = (W.alloc (.cells (madeCells #[I 0,I 0] (ln k*2)) 48)).heap[b]?:=fun b h1 h2=>by rw[hU,Below.heap_setCell _ _ _ _ h2,Below.heap_setCell _ _ _ _ h1]
 refine ⟨?_,?_,?_,fun j hj=>?_,fun b hb h1 h2=>?_,hUo.trans (ho.trans h.os),hUu.trans (hu.trans h.out)⟩
 ·rw[hU]
  show ((((W.alloc (.cells (madeCells #[I 0,I 0] (ln k*2)) 48)).setCell _ _).setCell _ _).heap).size=_
  simp only[World.setCell,Array.size_modify]
  show (W.heap.push _).size=_
  rw[Array.size_push];omega
 ·have r1:=((h.rrow.of_block (w':=(W.alloc (.cells (madeCells #[I 0,I 0] (ln k*2)) 48))) (by rw[hA rr (by omega),hold rr lr])).set k (.slice (some ⟨W.heap.size,0,none⟩) (ln k) (ln k))).setOther (a:=⟨bb,k,none⟩) hne (.func (.func 59) #[] #[Pt (wr.heap.size+1) 0,Pt p2 0,Pt p3 0,Pt wr.heap.size 0])
  refine (r1.of_block (by rw[hU])).congr fun i hi=>?_
  by_cases e:i=k
  ·subst e
   rw[if_pos rfl,if_pos (by omega),show v.heap.size+3*i+2=W.heap.size by omega]
  ·rw[if_neg e]
   by_cases hlt:i<k
   ·rw[if_pos hlt,if_pos (by omega)]
   ·rw[if_neg hlt,if_neg (by omega)]
 ·have r1:=((h.brow.of_block (w':=(W.alloc (.cells (madeCells #[I 0,I 0] (ln k*2)) 48))) (by rw[hA bb (by omega),hold bb lb])).setOther (a:=⟨rr,k,none⟩) (Ne.symm hne) (.slice (some ⟨W.heap.size,0,none⟩) (ln k) (ln k))).set k (.func (.func 59) #[] #[Pt (wr.heap.size+1) 0,Pt p2 0,Pt p3 0,Pt wr.heap.size 0])
  refine (r1.of_block (by rw[hU])).congr fun i hi=>?_
  by_cases e:i=k
  ·subst e
   rw[if_pos rfl,if_pos (by omega),hs]
  ·rw[if_neg e]
   by_cases hlt:i<k
   ·rw[if_pos hlt,if_pos (by omega)]
   ·rw[if_neg hlt,if_neg (by omega)]
 ·by_cases e:j=k
  ·subst e
   rw[←hs]
   refine ⟨?_,?_,?_⟩
   ·rw[hUb _ (by omega) (by omega),hA _ (by omega),hW,Array.getElem?_push,if_neg (by simp),Array.getElem?_push,if_pos rfl]
   ·rw[hUb _ (by omega) (by omega),hA _ (by omega),hW,Array.getElem?_push,if_pos (by simp)]
   ·rw[hUb _ (by omega) (by omega)]
    show (W.heap.push _)[wr.heap.size+2]? = _
    rw[←hWs]
    exact Array.getElem?_push_size
  ·have hj':j<k:=by omega
   obtain ⟨q1,q2,q3⟩:=h.blk j hj'
   have hne1:∀ b x,wr.heap[b]? = some x->(∃ c,x=.cells c 3 (0,0))∨(∃ c,x=.cells c 45 (0,0))∨(∃ c,x=.cells c 48 (0,0))->b≠rr∧b≠bb:=fun b x hb hx=>by
    obtain ⟨c1,r1,_⟩:=h.rrow
    obtain ⟨c2,r2,_⟩:=h.brow
    refine ⟨fun e=>?_,fun e=>?_⟩<;>subst e
    ·rw[r1] at hb;cases hb;rcases hx with ⟨c,hx⟩|⟨c,hx⟩|⟨c,hx⟩<;>cases hx
    ·rw[r2] at hb;cases hb;rcases hx with ⟨c,hx⟩|⟨c,hx⟩|⟨c,hx⟩<;>cases hx
   have n1:=hne1 _ _ q1 (.inl ⟨_,rfl⟩)
   have n2:=hne1 _ _ q2 (.inr (.inl ⟨_,rfl⟩))
   have n3:=hne1 _ _ q3 (.inr (.inr ⟨_,rfl⟩))
   refine ⟨?_,?_,?_⟩
   ·rw[hUb _ n1.1 n1.2,hA _ (by omega),hold _ (by omega)];exact q1
   ·rw[hUb _ n2.1 n2.2,hA _ (by omega),hold _ (by omega)];exact q2
   ·rw[hUb _ n3.1 n3.2,hA _ (by omega),hold _ (by omega)];exact q3
 ·rw[hUb b h1 h2,hA b (by omega),hold b (by omega)]
  exact h.old b hb h1 h2
theorem a203_wp (v:World) (wb p2 p3 rr bb sb so n:Nat) (cap:Nat) (F:Value) (hn:n≤8) (pc:Nat->Option Addr) (ln cp:Nat->Nat) (hln:∀ k,k<n->ln k≤64) (hs:∀ k,k<n->v.cell? ⟨sb,so+k,none⟩=some (.slice (pc k) (ln k) (cp k)))
 (hrr:v.rowIs rr 46 n (fun _=>.slice none 0 0)) (hbb:v.rowIs bb 113 n (fun _=>.nilFunc)) (h3:v.cell? ⟨p3,0,none⟩=some (.slice (some ⟨rr,0,none⟩) n n)) (hne:rr≠bb∧rr≠sb∧bb≠sb∧p3≠rr∧p3≠bb) :
 a203.wp Tryd.prog (fun e a w'=>e=.normal∧(∃ u:Nat->Value,a={ tmps:=#[Pt wb 0,.slice (some ⟨sb,so,none⟩) n cap,F,undef,undef,Pt p2 0,.slice none 0 0,Pt p3 0,.slice (some ⟨bb,0,none⟩) n n,u 9,u 10,u 11,u 12,u 13,u 14,u 15,u 16,u 17,u 18,u 19,u 20,u 21,u 22,u 23,u 24,u 25,u 26,u 27,u 28,u 29,u 30,u 31,u 32,u 33,u 34,u 35,u 36,u 37,u 38],defers:=[] })∧Laid v n p2 p3 rr bb pc ln cp n w')
  { tmps:=#[Pt wb 0,.slice (some ⟨sb,so,none⟩) n cap,F,undef,undef,Pt p2 0,.slice none 0 0,Pt p3 0,.slice (some ⟨bb,0,none⟩) n n,undef,undef,.slice (some ⟨sb,so,none⟩) n cap,I n,.slice (some ⟨rr,0,none⟩) n n,.slice (some ⟨sb,so,none⟩) n cap,I n,.slice (some ⟨bb,0,none⟩) n n]++Array.replicate 22 undef,defers:=[] } v:=by
 show Code.wp Tryd.prog (seq1 (seq2 (seq2 (seq2 (Tryd.f37.body.getD .skip))))) _ _ _
 unfold Tryd.f37 seq1 seq2
 simp only[Option.getD_some,Array.replicate_succ,Array.replicate_zero,List.push_toArray,List.append_toArray,List.nil_append,List.cons_append]
 have HS:Hid (∀ k,k<n->v.cell? ⟨sb,so+k,none⟩=some (.slice (pc k) (ln k) (cp k))):=⟨hs⟩
 have HLn:Hid (∀ k,k<n->ln k≤64):=⟨hln⟩
 have H0:Hid (Laid v n p2 p3 rr bb pc ln cp 0 v):=⟨⟨rfl,hrr.congr fun i _=>by simp,hbb.congr fun i _=>by simp,fun j hj=>by omega,fun _ _ _ _=>rfl,rfl,rfl⟩⟩
 have H3:Hid (v.cell? ⟨p3,0,none⟩=some (.slice (some ⟨rr,0,none⟩) n n)):=⟨h3⟩
 clear hs hln hrr hbb h3
 go_wp2_with fail
 go_loopw [19] (fun i u=>∃ k:Nat,k≤n∧i=.int .i64 k∧Laid v n p2 p3 rr bb pc ln cp k u) (fun i _=>n - (intOf i).toNat)
 case atStart=>exact ⟨0,Nat.zero_le _,rfl,H0.out⟩
 case round =>
  obtain ⟨k,hk,rfl,hL⟩:=hrel
  have HL:Hid (Laid v n p2 p3 rr bb pc ln cp k wr):=⟨hL⟩
  by_cases hlt:k<n
  ·have hsk:wr.cell? ⟨sb,so+k,none⟩=some (.slice (pc k) (ln k) (cp k)):=by
    have:=HS.out k hlt
    rw[World.cell?_of_block (hL.old sb (World.block_lt_of_cell? _ _ this) (Ne.symm hne.2.1) (Ne.symm hne.2.2.1))]
    exact this
   have h3k:wr.cell? ⟨p3,0,none⟩=some (.slice (some ⟨rr,0,none⟩) n n):=by
    rw[World.cell?_of_block (hL.old p3 (World.block_lt_of_cell? _ _ H3.out) hne.2.2.2.1 hne.2.2.2.2)]
    exact H3.out
   have hmk:=mk40 (ln k) (HLn.out k hlt)
   have hlt':(k:Int)<(n:Int):=by omega
   have r0:wr.cell? ⟨rr,k,none⟩=some (.slice none 0 0):=by rw[hL.rrow.cell hlt];simp
   have r1:wr.frozen? ⟨rr,k,none⟩=false:=hL.rrow.frozen k
   have b0:wr.cell? ⟨bb,k,none⟩=some .nilFunc:=by rw[hL.brow.cell hlt];simp
   have b1:wr.frozen? ⟨bb,k,none⟩=false:=hL.brow.frozen k
   have lr:=hL.rrow.lt
   have lb:=hL.brow.lt
   have l3:p3<wr.heap.size:=World.block_lt_of_cell? _ _ h3k
   have HW:Hid ((fun W:World=>W.heap=(wr.heap.push (.cells #[I k] 3)).push (.cells #[.slice (pc k) (ln k) (cp k)] 45)∧W.os=wr.os∧W.output=wr.output∧W.cell? ⟨p3,0,none⟩=some (.slice (some ⟨rr,0,none⟩) n n)∧W.cell? ⟨wr.heap.size,0,none⟩=some (I k)∧W.cell? ⟨wr.heap.size+1,0,none⟩=some (.slice (pc k) (ln k) (cp k))∧W.cell? ⟨rr,k,none⟩=some (.slice none 0 0)∧W.frozen? ⟨rr,k,none⟩=false∧W.cell? ⟨bb,k,none⟩=some .nilFunc∧W.frozen? ⟨bb,k,none⟩=false∧W.heap.size=wr.heap.size+2) ((wr.alloc (.cells #[I k] 3)).alloc (.cells #[.slice (pc k) (ln k) (cp k)] 45))):=⟨by
    have ho:∀ b,b<wr.heap.size->((wr.alloc (.cells #[I k] 3)).alloc (.cells #[.slice (pc k) (ln k) (cp k)] 45)).heap[b]? = wr.heap[b]?:=fun b hb=>by
     show ((wr.heap.push _).push _)[b]? = _
     rw[Array.getElem?_push,if_neg (by simp;omega),Array.getElem?_push,if_neg (by omega)]
    have hN:((wr.alloc (.cells #[I k] 3)).alloc (.cells #[.slice (pc k) (ln k) (cp k)] 45)).heap[wr.heap.size]? = some (.cells #[I k] 3):=by
     show ((wr.heap.push _).push _)[wr.heap.size]? = _
     rw[Array.getElem?_push,if_neg (by simp),Array.getElem?_push,if_pos rfl]
    have hN1:((wr.alloc (.cells #[I k] 3)).alloc (.cells #[.slice (pc k) (ln k) (cp k)] 45)).heap[wr.heap.size+1]? = some (.cells #[.slice (pc k) (ln k) (cp k)] 45):=by
     show ((wr.heap.push _).push _)[wr.heap.size+1]? = _
     rw[Array.getElem?_push,if_pos (by simp)]
    refine ⟨rfl,rfl,rfl,?_,by unfold World.cell?;rw[hN];rfl,by unfold World.cell?;rw[hN1];rfl,?_,?_,?_,?_,by show ((wr.heap.push _).push _).size=_;simp⟩
    ·rw[World.cell?_of_block (ho p3 l3)];exact h3k
    ·rw[World.cell?_of_block (ho rr lr)];exact r0
    ·rw[World.frozen?_of_block (ho rr lr)];exact r1
    ·rw[World.cell?_of_block (ho bb lb)];exact b0
    ·rw[World.frozen?_of_block (ho bb lb)];exact b1⟩
   have e9:rr≠bb:=hne.1
   have e10:bb≠rr:=fun e=>hne.1 e.symm
   have Hl:Hid (rr<wr.heap.size∧bb<wr.heap.size∧p3<wr.heap.size):=⟨⟨lr,lb,l3⟩⟩
   clear hL lr lb l3 r0 r1 b0 b1 h3k
   go_wp2_with fail
   refine (show ∀ W:World,(W.heap=(wr.heap.push (.cells #[I k] 3)).push (.cells #[.slice (pc k) (ln k) (cp k)] 45)∧W.os=wr.os∧W.output=wr.output∧W.cell? ⟨p3,0,none⟩=some (.slice (some ⟨rr,0,none⟩) n n)∧W.cell? ⟨wr.heap.size,0,none⟩=some (I k)∧W.cell? ⟨wr.heap.size+1,0,none⟩=some (.slice (pc k) (ln k) (cp k))∧W.cell? ⟨rr,k,none⟩=some (.slice none 0 0)∧W.frozen? ⟨rr,k,none⟩=false∧W.cell? ⟨bb,k,none⟩=some .nilFunc∧W.frozen? ⟨bb,k,none⟩=false∧W.heap.size=wr.heap.size+2)->Code.wp Tryd.prog _ _ _ W from fun W hW=>?_) _ HW.out
   clear hsk
   obtain ⟨hWh,hWo,hWu,g3,g0,g1,gr,gf,gb,gbf,hWs⟩:=hW
   have HH:Hid (W.heap=(wr.heap.push (.cells #[I k] 3)).push (.cells #[.slice (pc k) (ln k) (cp k)] 45)∧W.os=wr.os∧W.output=wr.output∧W.heap.size=wr.heap.size+2):=⟨⟨hWh,hWo,hWu,hWs⟩⟩
   have x1:p3≠W.heap.size:=by have:=Hl.out;omega
   have x2:rr≠W.heap.size:=by have:=Hl.out;omega
   have x3:bb≠W.heap.size:=by have:=Hl.out;omega
   have x4:wr.heap.size≠W.heap.size:=by omega
   have x5:wr.heap.size+1≠W.heap.size:=by omega
   have hA:∀ b,b<W.heap.size->(W.alloc (.cells (madeCells #[I 0,I 0] (ln k*2)) 48)).heap[b]? = W.heap[b]?:=fun b hb=>by
    show (W.heap.push _)[b]? = _
    rw[Array.getElem?_push,if_neg (by omega)]
   have lA:p3<W.heap.size∧rr<W.heap.size∧bb<W.heap.size:=by have:=Hl.out;omega
   have a3:(W.alloc (.cells (madeCells #[I 0,I 0] (ln k*2)) 48)).cell? ⟨p3,0,none⟩=some (.slice (some ⟨rr,0,none⟩) n n):=by rw[World.cell?_of_block (hA p3 lA.1)];exact g3
   have a0:(W.alloc (.cells (madeCells #[I 0,I 0] (ln k*2)) 48)).cell? ⟨wr.heap.size,0,none⟩=some (I k):=by rw[World.cell?_of_block (hA wr.heap.size (by omega))];exact g0
   have a1:(W.alloc (.cells (madeCells #[I 0,I 0] (ln k*2)) 48)).cell? ⟨wr.heap.size+1,0,none⟩=some (.slice (pc k) (ln k) (cp k)):=by rw[World.cell?_of_block (hA (wr.heap.size+1) (by omega))];exact g1
   have ar:(W.alloc (.cells (madeCells #[I 0,I 0] (ln k*2)) 48)).cell? ⟨rr,k,none⟩=some (.slice none 0 0):=by rw[World.cell?_of_block (hA rr lA.2.1)];exact gr
   have af:(W.alloc (.cells (madeCells #[I 0,I 0] (ln k*2)) 48)).frozen? ⟨rr,k,none⟩=false:=by rw[World.frozen?_of_block (hA rr lA.2.1)];exact gf
   have hZ:∀ b,b<W.heap.size->b≠rr->((W.alloc (.cells (madeCells #[I 0,I 0] (ln k*2)) 48)).setCell ⟨rr,k,none⟩ (.slice (some ⟨W.heap.size,0,none⟩) (ln k) (ln k))).heap[b]? = W.heap[b]?:=fun b hb hb2=>by rw[Below.heap_setCell _ _ _ _ hb2,hA b hb]
   have z0:((W.alloc (.cells (madeCells #[I 0,I 0] (ln k*2)) 48)).setCell ⟨rr,k,none⟩ (.slice (some ⟨W.heap.size,0,none⟩) (ln k) (ln k))).cell? ⟨wr.heap.size,0,none⟩=some (I k):=by rw[World.cell?_of_block (hZ wr.heap.size (by omega) (by have:=Hl.out;omega))];exact g0
   have zb:((W.alloc (.cells (madeCells #[I 0,I 0] (ln k*2)) 48)).setCell ⟨rr,k,none⟩ (.slice (some ⟨W.heap.size,0,none⟩) (ln k) (ln k))).cell? ⟨bb,k,none⟩=some .nilFunc:=by rw[World.cell?_of_block (hZ bb lA.2.2 e10)];exact gb
   have zf:((W.alloc (.cells (madeCells #[I 0,I 0] (ln k*2)) 48)).setCell ⟨rr,k,none⟩ (.slice (some ⟨W.heap.size,0,none⟩) (ln k) (ln k))).frozen? ⟨bb,k,none⟩=false:=by rw[World.frozen?_of_block (hZ bb lA.2.2 e10)];exact gbf
   have hst:(store ⟨bb,k,none⟩ (.func (.func 59) #[] #[Pt (wr.heap.size+1) 0,Pt p2 0,Pt p3 0,Pt wr.heap.size 0])).run Tryd.prog ((W.alloc (.cells (madeCells #[I 0,I 0] (ln k*2)) 48)).setCell ⟨rr,k,none⟩ (.slice (some ⟨W.heap.size,0,none⟩) (ln k) (ln k))).drew=.ok () (((W.alloc (.cells (madeCells #[I 0,I 0] (ln k*2)) 48)).setCell ⟨rr,k,none⟩ (.slice (some ⟨W.heap.size,0,none⟩) (ln k) (ln k))).setCell ⟨bb,k,none⟩ (.func (.func 59) #[] #[Pt (wr.heap.size+1) 0,Pt p2 0,Pt p3 0,Pt wr.heap.size 0])).drew:=by
    have zb':((W.alloc (.cells (madeCells #[I 0,I 0] (ln k*2)) 48)).setCell ⟨rr,k,none⟩ (.slice (some ⟨W.heap.size,0,none⟩) (ln k) (ln k))).drew.cell? ⟨bb,k,none⟩=some .nilFunc:=zb
    have zf':((W.alloc (.cells (madeCells #[I 0,I 0] (ln k*2)) 48)).setCell ⟨rr,k,none⟩ (.slice (some ⟨W.heap.size,0,none⟩) (ln k) (ln k))).drew.frozen? ⟨bb,k,none⟩=false:=zf
    show Sem.run Tryd.prog (Sem.store .plain _ _ (Sem.pure ())) _=_
    simp only[Sem.run,zb',zf',Bool.false_eq_true,if_false]
    rfl
   clear hWh hWo hWu hWs hA lA hZ
   go_region
   go_wp2_with fail
   go_roundw
   case rel =>
    refine ⟨k+1,by omega,by go_num,?_⟩
    exact laid_next HL.out hlt e9 HH.out.1 HH.out.2.1 HH.out.2.2.1 rfl rfl rfl
   case measure=>simp[intOf];omega
  ·have hkk:k=n:=by omega
   subst hkk
   clear hL
   go_wp2_with fail
   exact ⟨⟨fun m=>match m with|9=>u9|10=>u10|11=>.slice (some ⟨sb,so,none⟩) k cap|12=>I k|13=>.slice (some ⟨rr,0,none⟩) k k|14=>.slice (some ⟨sb,so,none⟩) k cap|15=>I k|16=>.slice (some ⟨bb,0,none⟩) k k|17=>.slice (some ⟨sb,so,none⟩) k cap|18=>I k|19=>I k|20=>.bool false|21=>u21|22=>u22|23=>u23|24=>u24|25=>u25|26=>u26|27=>u27|28=>u28|29=>u29|30=>u30|31=>u31|32=>u32|33=>u33|34=>u34|_=>undef,by simp⟩,HL.out⟩
def Celled (wb:Nat) (tv:Value) (n base:Nat) (xs:List Value) (x:Value) (w w':World):Prop :=
 ∃ g cap,(∀ c t f,w.heap[wb]? = some (.cells c t f)->w'.heap[wb]? = some (.cells (c.setIfInBounds 3 (.slice (some ⟨g,0,none⟩) (n+1) cap)) t f)) ∧
   w'.ownsRow base 3 1 (.slice (some ⟨g,0,none⟩) (n+1) cap) (n+1) (xs++[x])∧(tv.ownBlock=some g∨w.heap.size≤g)∧Fr (fun b=>b=wb∨some b=tv.ownBlock) w w'
theorem celled_of {wb:Nat}{tv x:Value}{n base:Nat}{xs:List Value}{w u w6:World}{g cap:Nat}(hb:Below w.heap.size w u) (hw:wb<w.heap.size) (hg:u.grownBy w6 tv.ownBlock) (hown:w6.ownsRow base 3 1 (.slice (some ⟨g,0,none⟩) (n+1) cap) (n+1) (xs++[x]))
 (hat:tv.ownBlock=some g∨g=u.heap.size) (hne:tv.ownBlock≠some wb):Celled wb tv n base xs x w (w6.setCell ⟨wb,3,none⟩ (.slice (some ⟨g,0,none⟩) (n+1) cap)):=by
 have hgw:g≠wb:=by
  rcases hat with h|h
  ·exact fun e=>hne (by rw[h,e])
  ·have:=hb.size;omega
 have e6:w6.heap[wb]? = w.heap[wb]?:=(hg.block wb (Nat.lt_of_lt_of_le hw hb.size) (Ne.symm hne)).trans (hb.block wb hw)
 refine ⟨g,cap,fun c t f h=>heap_setCell_same (by rw[e6];exact h) _,own_set hown _ _ (fun e=>hgw (Option.some.inj e)),?_,?_⟩
 ·rcases hat with h|h
  ·exact .inl h
  ·exact .inr (by have:=hb.size;omega)
 ·refine ⟨by show w6.os=_;rw[hg.os,hb.os],by show w6.output=_;rw[hg.output,hb.output],?_,fun b hlt hs=>?_⟩
  ·have:=hb.size
   have:=hg.size
   simp only[World.setCell,Array.size_modify]
   omega
  ·rw[Below.heap_setCell _ _ _ _ (fun e=>hs (.inl e)),hg.block b (Nat.lt_of_lt_of_le hlt hb.size) (fun e=>hs (.inr e)),hb.block b hlt]
def Ez (S:TS) (cv:Value):TS:={ S with cv:=cv,chg:=S.chg++[0] }
theorem celled_ev {z:Nat->Option Nat}{S:TS}{v v':World}(h:Rep z S v) (hN:Celled S.wb S.cv S.chg.length S.base (S.chg.map I) (I 0) v v'):∃ cv',Ev z S v (Ez S cv') v':=by
 obtain ⟨g,cap,hw,hown,hat,hfr⟩:=hN
 have hst:∀ k b,blk S k=some b->k≠0->k≠1->v'.heap[b]? = v.heap[b]?:=fun k b hk h0 h3=>hfr.block b (h.lt hk) (fun hS=>by
  rcases hS with rfl|hS
  ·exact h0 (h.apart k 0 _ hk rfl)
  ·exact h3 (h.apart k 1 b hk hS.symm))
 have hnew:∀ k b,blk (Ez S (.slice (some ⟨g,0,none⟩) (S.chg.length+1) cap)) k=some b->(blk S k=some b)∨(k=1∧b=g):=fun k b hk=>by
  match k,hk with
  |0,hk=>exact .inl hk
  |1,hk=>cases hk;exact .inr ⟨rfl,rfl⟩
  |2,hk=>exact .inl hk
  |3,hk=>exact .inl hk
  |4,hk=>exact .inl hk
  |k+5,hk=>exact .inl hk
 refine ⟨.slice (some ⟨g,0,none⟩) (S.chg.length+1) cap,⟨?_,fun j t' ht'=>?_,Au (fun b hb=>hst 3 b hb (by omega) (by omega)) h.own,?_,Au (fun b hb=>hst 2 b hb (by omega) (by omega)) h.ths,Au (fun b hb=>hst 4 b hb (by omega) (by omega)) h.sch,Nat.le_trans h.bs hfr.size,fun j k b hj hk=>?_,h.kept⟩,hfr.mono (fun x _ hx=>?_),fun b ⟨k,hk⟩=>?_⟩
 ·have:=hw _ _ _ h.wor
  simpa [Ez] using this
 ·rw[hst (j+5) t'.tb (by simp only[blk];rw[show S.thr[j]? = some t' from ht'];rfl) (by omega) (by omega)]
  exact h.thr j t' ht'
 ·show v'.ownsRow S.base 3 1 _ (S.chg++[0]).length ((S.chg++[0]).map I)
  rw[List.length_append,List.map_append]
  exact hown
 ·rcases hnew j b hj with e1|⟨rfl,rfl⟩<;>rcases hnew k b hk with e2|⟨rfl,e2⟩
  ·exact h.apart j k b e1 e2
  ·subst e2
   rcases hat with ha|ha
   ·exact h.apart j 1 b e1 ha
   ·have:=h.lt e1;omega
  ·rcases hat with ha|ha
   ·exact h.apart 1 k b ha e2
   ·have:=h.lt e2;omega
  ·rfl
 ·rcases hx with rfl|hx
  ·exact ⟨0,rfl⟩
  ·exact ⟨1,hx.symm⟩
 ·rcases hnew k b hk with e1|⟨_,rfl⟩
  ·exact .inl ⟨k,e1⟩
  ·rcases hat with ha|ha
   ·exact .inl ⟨1,ha⟩
   ·exact .inr ha
theorem info3:(Tryd.prog.info? 3).map (fun i=>(i.zero,i.size,i.bytes))=some (some (I 0),1,8):=by kernel_rfl
theorem newsI (w:World) (x:Int) (t:TypeId):∀ j u,[I x][j]? = some u->(w.alloc (.cells #[I x] t)).cell? ((⟨w.heap.size,0,none⟩:Addr).add j)=some u:=by
 intro j u hj
 have hb:(w.alloc (.cells #[I x] t)).heap[w.heap.size]? = some (.cells #[I x] t):=Array.getElem?_push_size
 exact World.news_of_block hb j u hj
theorem oneI (x:Int):∀ u∈[I x],u.oneCell'=true:=by
 intro u hu
 simp at hu
 subst hu
 rfl
theorem body24 {z:Nat->Option Nat}{S:TS}{v:World}(h:Rep z S v) (hn:S.chg.length≤17592186043904):Body Tryd.f64 #[Pt S.wb 0] v (fun r v'=>r=I S.chg.length∧∃ cv,Ev z S v (Ez S cv) v'):=by
 intro code hb
 obtain rfl:=Option.some.inj hb
 clear hb
 have c3:=h.wcell.2.2.2.1
 have f3:=fz_off h 3 (by omega)
 have HR:Hid (Rep z S v):=⟨h⟩
 have q3:S.wb<v.heap.size:=World.block_lt_of_cell? _ _ c3
 have qb:S.base≤v.heap.size:=h.bs
 obtain ⟨tp,tc,htv⟩:=E8 h.chg
 have HO:Hid (v.ownsRow S.base 3 1 (.slice tp S.chg.length tc) S.chg.length (S.chg.map I)):=⟨by rw[←htv];exact h.chg⟩
 have n1:(Value.slice tp S.chg.length tc).ownBlock≠some S.wb:=by
  rw[←htv]
  exact fun e=>by have:=h.apart 1 0 S.wb e rfl;omega
 have HT:Hid (S.cv=.slice tp S.chg.length tc):=⟨htv⟩
 rw[htv] at c3
 obtain ⟨j0,hj,hj0,hj1,hj2⟩:=info_parts info3
 have hne:S.wb≠v.heap.size:=by omega
 have hne':v.heap.size≠S.wb:=by omega
 have K3:Hid (v.cell? ⟨S.wb,3,none⟩=some (.slice tp S.chg.length tc)∧v.frozen? ⟨S.wb,3,none⟩=false):=⟨⟨c3,f3⟩⟩
 clear h htv
 simp only[Tryd.ntmps64,List.size_toArray,List.length_cons,List.length_nil,Nat.reduceAdd,Nat.reduceSub,Array.replicate_succ,Array.replicate_zero,List.push_toArray,List.append_toArray,List.nil_append,List.cons_append]
 go_wp2_with (first
  |(refine wpList_append_lies _ rfl (.tmp 9) (.tmp 10) 25 rfl S.base 3 j0 _ 1 8 Tryd.underlying25 hj hj0 hj1 hj2 rfl (by decide) (.slice tp S.chg.length tc) S.chg.length (S.chg.map I) rfl (F5 (Br (Below.refl _ _) _) HO.out) ⟨_,0,none⟩ 1 1 [I 0] rfl rfl (newsI _ _ _) (oneI _) (by decide) (by unfold maxLen;omega) (by omega) (by simp;omega) _ rfl ?_
    intro g cpg w6 hown6 hgrow6 hat6 hlt6
    obtain ⟨k5,k6⟩:=keep2g ⟨kcell (Br (Below.refl _ _) _) K3.out.1,by rw[(Br (Below.refl _ _) _).frozen q3];exact K3.out.2⟩ hgrow6 n1))
 go_ret
 exact ⟨_,rfl,rfl,celled_ev HR.out (by rw[HT.out];exact celled_of (Br (Below.refl _ _) _) q3 hgrow6 hown6 hat6 n1)⟩
theorem mem_newcell {z:Nat->Option Nat}{S:TS}{K:List (Nat×Int)}{v v1 v3:World}{cv:Value}{x:Int}(hm:Mem z S K v) (he:Ev z S v (Ez S cv) v1) (hh:v3.heap=v1.heap.push (.cells #[I S.chg.length,I x] 123)) (ho:v3.os=v1.os) (hu:v3.output=v1.output) :
 Mem z (Ez S cv) (K++[(v1.heap.size,x)]) v3∧Fr (Own S K) v v3∧∀ b,Own (Ez S cv) (K++[(v1.heap.size,x)]) b->Own S K b∨v.heap.size≤b:=by
 have hold:∀ b,b<v1.heap.size->v3.heap[b]? = v1.heap[b]?:=fun b hb=>by rw[hh,Array.getElem?_push,if_neg (by omega)]
 have hs3:v3.heap.size=v1.heap.size+1:=by rw[hh];simp
 have hrep:Rep z (Ez S cv) v3:=he.rep.grows (by omega) hold
 have hKl:K.length=S.chg.length:=hm.len.symm
 have hget:∀ (j:Nat) (c:Nat×Int),(K++[(v1.heap.size,x)])[j]? = some c->(j<K.length∧K[j]? = some c)∨(j=K.length∧c=(v1.heap.size,x)):=fun j c hj=>by
  rcases Nat.lt_trichotomy j K.length with h1|h1|h1
  ·rw[List.getElem?_append_left h1] at hj;exact .inl ⟨h1,hj⟩
  ·subst h1
   rw[List.getElem?_append_right (Nat.le_refl _)] at hj
   simp at hj
   exact .inr ⟨rfl,hj.symm⟩
  ·rw[List.getElem?_append_right (by omega)] at hj
   have:j - K.length≠0:=by omega
   simp[this] at hj
 have hKlt:∀ (j:Nat) (c:Nat×Int),K[j]? = some c->c.1<v.heap.size:=fun j c hc=>hm.lt (.inr ⟨j,c,hc,rfl⟩)
 have hits:∀ b,Its (Ez S cv) b->b<v1.heap.size:=fun b ⟨k,hk⟩=>he.rep.lt hk
 refine ⟨⟨hrep,fun j c hj=>?_,fun j c hj hi=>?_,fun i j c d hi hj e=>?_,?_⟩,⟨ho.trans he.fr.os,hu.trans he.fr.output,by have:=he.fr.size;omega,fun b hb hs=>?_⟩,fun b hb=>?_⟩
 ·rcases hget j c hj with ⟨h1,h2⟩|⟨rfl,rfl⟩
  ·have hlt:=hKlt j c h2
   rw[hold c.1 (by have:=he.fr.size;omega),he.fr.block c.1 hlt (hm.far j c h2)]
   exact hm.cel j c h2
  ·show v3.heap[v1.heap.size]? = _
   rw[hh,hKl]
   exact Array.getElem?_push_size
 ·rcases hget j c hj with ⟨h1,h2⟩|⟨rfl,rfl⟩
  ·rcases he.new _ hi with h3|h3
   ·exact hm.far j c h2 h3
   ·have:=hKlt j c h2;omega
  ·have h9:=hits _ hi
   exact Nat.lt_irrefl _ h9
 ·rcases hget i c hi with ⟨h1,h2⟩|⟨rfl,rfl⟩<;>rcases hget j d hj with ⟨h3,h4⟩|⟨rfl,rfl⟩
  ·exact hm.inj i j c d h2 h4 e
  ·have:=hKlt i c h2
   have:=he.fr.size
   have e':c.1=v1.heap.size:=e
   omega
  ·have:=hKlt j d h4
   have:=he.fr.size
   have e':v1.heap.size=d.1:=e
   omega
  ·rfl
 ·show (S.chg++[0]).length=(K++[_]).length
  simp[hKl]
 ·rw[hold b (by have:=he.fr.size;omega),he.fr.block b hb (fun hi=>hs (.inl hi))]
 ·rcases hb with hb|⟨j,c,hj,rfl⟩
  ·exact (he.new b hb).imp .inl id
  ·rcases hget j c hj with ⟨h1,h2⟩|⟨rfl,rfl⟩
   ·exact .inl (.inr ⟨j,c,h2,rfl⟩)
   ·right;exact he.fr.size
theorem body10 {z:Nat->Option Nat}{S:TS}{K:List (Nat×Int)}{v:World}(hm:Mem z S K v) (x:Int) (hn:S.chg.length≤17592186043904):Body Tryd.f41 #[Pt S.wb 0,I x] v (fun r v'=>∃ cb cv,r=Pt cb 0∧Mem z (Ez S cv) (K++[(cb,x)]) v'∧Fr (Own S K) v v'∧∀ b,Own (Ez S cv) (K++[(cb,x)]) b->Own S K b∨v.heap.size≤b):=by
 intro code hb
 obtain rfl:=Option.some.inj hb
 clear hb
 have HM:Hid (Mem z S K v):=⟨hm⟩
 have h24:=(body24 hm.rep hn).calls Tryd.func64 rfl
 have H24:Hid _:=⟨h24⟩
 clear hm h24
 simp only[Tryd.ntmps41,List.size_toArray,List.length_cons,List.length_nil,Nat.reduceAdd,Nat.reduceSub,Array.replicate_succ,Array.replicate_zero,List.push_toArray,List.append_toArray,List.nil_append,List.cons_append]
 go_wp2_with (first
  |(go_at_call 64;refine H24.out.mono ?_;rintro e w1 ⟨r1,rfl,rfl,cv,hev⟩;have HEV:Hid (Ev z S v (Ez S cv) w1):=⟨hev⟩;clear hev)
  |(go_at_call 65
    have hb:(w1.alloc (.cells #[I S.chg.length,I 0] 123)).heap[w1.heap.size]? = some (.cells #[I S.chg.length,I 0] 123):=Array.getElem?_push_size
    refine ((body25 w1.heap.size 0 x _ (by unfold World.cell?;rw[hb];rfl) (by unfold World.frozen?;rw[hb];rfl)).calls Tryd.func65 rfl).mono ?_;rintro e w2 ⟨r2,rfl,rfl,rfl⟩))
 go_ret
 exact ⟨_,rfl,w1.heap.size,cv,rfl,mem_newcell HM.out HEV.out rfl rfl rfl⟩
end Go.Proofs.YtbbhahigofeacaaDoor
