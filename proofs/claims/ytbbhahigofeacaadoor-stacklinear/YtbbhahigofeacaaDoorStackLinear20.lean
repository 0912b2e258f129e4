/- StackLinear, part 20 of 32: GMeasW, GViewW. -/
import Derived.Test.YtbbhahigofeacaaDoorStackLinear01
import Derived.Test.YtbbhahigofeacaaDoorStackLinear09
import Derived.Test.YtbbhahigofeacaaDoorStackLinear10
set_option linter.unusedSimpArgs false
set_option linter.unusedVariables false
set_option maxHeartbeats 4000000
set_option maxRecDepth 100000
noncomputable section
namespace Go.Proofs.YtbbhahigofeacaaDoor.Gen.Mw
open Go Go.Lift Go.Conc Go.RowKit
open Go.ConcN (upd upd_same upd_ne)
def nlev (lev:Q->Nat):Nx->Nat
 |.ans _ _=>0
 |.turn _ _ q=>lev q
 |.wait _ _=>0
def fv (K:List (Nat×Int)) (j:Nat):Int:=(cellAt K j).2
def updF (f:Nat->Int) (j:Nat) (x:Int):Nat->Int:=λk=>if k=j then x else f k
structure Met (mc:Mc) where
 L:Nat
 hL:1<=L
 lev:Q->Nat
 ws:Q->(Nat->Int)->Nat
 ws_le:∀ q f,ws q f<=5
 nts:∀ q x,mc.nts q x=[]
 nw:∀ i c j q,mc.start i c≠.wait j q
 nwt:∀ q x j q',(mc.turn q x).2.2≠.wait j q'
 lev1:∀ q j,mc.at_ q j->1<=lev q∧lev q<=L
 turn:∀ q j f,mc.at_ q j->mc.ok j (f j)->nlev lev (mc.turn q (f j)).2.2<lev q∨∃ op j' q',(mc.turn q (f j)).2.2=.turn op j' q'∧lev q'=lev q∧ws q' (updF f j (mc.turn q (f j)).2.1)+1<=ws q f∧∀ q'',ws q'' (updF f j (mc.turn q (f j)).2.1)=ws q'' f
theorem fv_set {K:List (Nat×Int)}{j:Nat}(hj:j<K.length) (b:Nat) (x:Int):fv (K.set j (b,x))=updF (fv K) j x:=by
 funext k;unfold fv updF cellAt;rw[Qq];by_cases e:k=j
 .subst e
  rw[if_pos rfl,if_pos hj,if_pos rfl];rfl
 rw[if_neg (λh=>e h.symm),if_neg e]
section
variable {mc:Mc}(M:Met mc)
def tot:Ph->Nat
 |.turn _ _ q rest _ _=>M.L*rest.length+M.lev q
 |.wait _ _ _ _ _=>0
 |.done _=>0
def sw (K:List (Nat×Int)):Ph->Nat
 |.turn _ _ q _ _ _=>M.ws q (fv K)
 |_=>0
def sits (m:Nat):Ph->Prop
 |.turn _ j q _ _ _=>mc.at_ q j∧j<m
 |.wait _ _ _ _ _=>False
 |.done _=>True
theorem sw_le (K:List (Nat×Int)) (l:Ph):sw M K l<=5:=by
 cases l with
 |turn op j q r i a=>exact M.ws_le _ _
 |wait j q r i a=>exact Nat.zero_le _
 |done a=>exact Nat.zero_le _
def wtI (p:PSt) (i:Nat):Nat:=64*tot M (p.l i)+sw M p.K (p.l i)
def mu (p:PSt):Nat:=((List.range p.S.thr.length).map (wtI M p)).sum
structure Gd (p:PSt):Prop where
 len:p.S.thr.length<=8
 kok:KOk mc p.K
 sit:∀ i t,p.S.thr[i]? = some t->FitsN (p.l i) t∧StN (p.l i) t∧sits (mc:=mc) p.K.length (p.l i)
def Cells (m:Nat):Prop:=∀ q j,mc.at_ q j->j<m
theorem set_turn (stk:Bool) {x:Nx}(h:∀ j q,x≠.wait j q):mc.set stk x=x:=by
 cases x with
 |ans e y=>rfl
 |turn op j q=>rfl
 |wait j q=>exact absurd rfl (h j q)
theorem flow_tot (m:Nat) (hc:Cells (mc:=mc) m) (i:Nat):∀ (rest:List Cl) (ii:Nat) (sk:Bool) (ans:List (Int×Int)) (S:TS),tot M (flow i mc rest ii sk ans S).2<=M.L*rest.length∧(flow i mc rest ii sk ans S).1.n+2*tot M (flow i mc rest ii sk ans S).2<=S.n+2*(M.L*rest.length)+1∧sits (mc:=mc) m (flow i mc rest ii sk ans S).2
 | [],ii,sk,ans,S=>by cases sk<;>exact ⟨Nat.zero_le _,by show S.n+2*0<=_;omega,trivial⟩
 |c :: rest,ii,true,ans,S=>by have:=flow_tot m hc i rest (ii+1) true (ans.set ii (4,0)) S;have e:flow i mc (c :: rest) ii true ans S=flow i mc rest (ii+1) true (ans.set ii (4,0)) S:=rfl;have hL:=M.hL;rw[e,List.length_cons,Nat.mul_succ];exact ⟨by omega,by omega,this.2.2⟩
 |c :: rest,ii,false,ans,S=>by
  have hL:=M.hL;have hst:=set_turn (mc:=mc) S.stk (M.nw i c);rw[List.length_cons,Nat.mul_succ];unfold flow;rw[hst];cases h:mc.start i c with
  |ans e x =>have:=flow_tot m hc i rest (ii+1) (e==4) (ans.set ii (e,x)) (Bv (Bv S undef i 9 (-1) ii 0) undef i 10 (-1) ii e);have en:(Bv (Bv S undef i 9 (-1) ii 0) undef i 10 (-1) ii e).n=S.n+2:=rfl;rw[en] at this;simp only;exact ⟨by omega,by omega,this.2.2⟩
  |turn op j q =>
   have ha:=mc.atS i c op j q h;obtain ⟨h1,h2⟩:=M.lev1 q j ha;refine ⟨?_,?_,ha,hc q j ha⟩
   .show M.L*rest.length+M.lev q<=_
    omega
   .show S.n+1+2*(M.L*rest.length+M.lev q)<=_
    omega
  |wait j q=>exact absurd h (M.nw i c j q)
def Pro (l:Ph) (S:TS) (K:List (Nat×Int)) (R:TS×List (Nat×Int)×Ph):Prop :=
 sits (mc:=mc) K.length R.2.2∧KOk mc R.2.1∧R.2.1.length=K.length∧((R.1.n<=S.n+1∧tot M R.2.2=tot M l∧sw M R.2.1 R.2.2+1<=sw M K l∧∀ l',sw M R.2.1 l'=sw M K l') ∨
  (tot M R.2.2+1<=tot M l∧R.1.n+2*tot M R.2.2<=S.n+2*tot M l+1))
theorem resume_pro (i:Nat) (l:Ph) (S:TS) (K:List (Nat×Int)) (hc:Cells (mc:=mc) K.length) (hl:∀ a,l≠.done a) (hs:sits (mc:=mc) K.length l) (hK:KOk mc K):Pro M l S K (resume i mc l S K):=by
 match l,hl,hs with
 |.done a,hl,_=>exact absurd rfl (hl a)
 |.wait _ _ _ _ _,_,hs=>exact hs.elim
 |.turn op j q rest ii ans,_,hs =>
  obtain ⟨ha,hj⟩:=hs;rw[Gn];have hx:(cellAt K j).2=fv K j:=rfl;have hok:mc.ok j (fv K j):=by unfold fv cellAt;rw[Qf hj];exact hK j _ (Qf hj)
  have hnts:=M.nts q (cellAt K j).2;rw[hnts,set_turn (mc:=mc) S.stk (M.nwt q (cellAt K j).2)];have hn1:(Iy i [] (didS S undef i (thrI S i) (mc.turn q (cellAt K j).2).1.1 (mc.turn q (cellAt K j).2).1.2)).n=S.n+1:=did_n _ _ _ _ _ _;have hKs:=KOk.set hK j q ha (cellAt K j).1;have hfv:=fv_set hj (cellAt K j).1 (mc.turn q (cellAt K j).2).2.1;have hlen:(K.set j ((cellAt K j).1,(mc.turn q (cellAt K j).2).2.1)).length=K.length:=List.length_set;have hlev:=M.lev1 q j ha;generalize hS1:Iy i [] (didS S undef i (thrI S i) (mc.turn q (cellAt K j).2).1.1 (mc.turn q (cellAt K j).2).1.2)=S1 at *;have ht:=M.turn q j (fv K) ha hok;rw[<-hx] at ht;cases hnx:(mc.turn q (cellAt K j).2).2.2 with
  |ans e y =>
   have hf:=flow_tot M K.length hc i rest (ii+1) (e==4) (ans.set ii (e,y)) (Bv S1 undef i 10 (-1) ii e);have en:(Bv S1 undef i 10 (-1) ii e).n=S1.n+1:=rfl;rw[en] at hf;refine ⟨hf.2.2,hKs,hlen,.inr ⟨?_,?_⟩⟩
   .show tot M (flow i mc rest (ii+1) (e==4) (ans.set ii (e,y)) (Bv S1 undef i 10 (-1) ii e)).2+1<=M.L*rest.length+M.lev q
    have:=hf.1;omega
   .show (flow i mc rest (ii+1) (e==4) (ans.set ii (e,y)) (Bv S1 undef i 10 (-1) ii e)).1.n+2*tot M (flow i mc rest (ii+1) (e==4) (ans.set ii (e,y)) (Bv S1 undef i 10 (-1) ii e)).2<=S.n+2*(M.L*rest.length+M.lev q)+1
    have:=hf.2.1;omega
  |wait j' q'=>exact absurd hnx (M.nwt q _ j' q')
  |turn op' j' q' =>
   have ha':=mc.atT q j _ op' j' q' ha hok hnx;refine ⟨⟨ha',hc q' j' ha'⟩,hKs,hlen,?_⟩;rcases ht with ht|⟨op2,j2,q2,e1,e2,e3,e4⟩
   .right
    rw[hnx] at ht;have ht:M.lev q'<M.lev q:=ht;refine ⟨?_,?_⟩
    .show M.L*rest.length+M.lev q'+1<=M.L*rest.length+M.lev q
     omega
    .show S1.n+2*(M.L*rest.length+M.lev q')<=S.n+2*(M.L*rest.length+M.lev q)+1
     omega
   .left
    rw[hnx] at e1;cases e1;refine ⟨?_,?_,?_,?_⟩
    .show S1.n<=S.n+1
     omega
    .show M.L*rest.length+M.lev q'=M.L*rest.length+M.lev q
     rw[e2]
    .show M.ws q' (fv (K.set j ((cellAt K j).1,(mc.turn q (cellAt K j).2).2.1)))+1<=M.ws q (fv K)
     rw[hfv];exact e3
    .intro l'
     cases l' with
     |turn op3 j3 q3 r3 i3 a3 =>show M.ws q3 (fv (K.set j ((cellAt K j).1,(mc.turn q (cellAt K j).2).2.1)))=M.ws q3 (fv K);rw[hfv];exact e4 q3
     |wait _ _ _ _ _=>rfl
     |done _=>rfl
theorem pturn_mu {p p1:PSt}(g:Gd (mc:=mc) p) (hc:Cells (mc:=mc) p.K.length) (e:Fv mc p=some p1):Gd (mc:=mc) p1∧p1.K.length=p.K.length∧p1.S.stk=p.S.stk∧mu M p1<mu M p∧p1.S.n+mu M p1<=p.S.n+mu M p:=by
 unfold Fv at e;split at e
 .rename_i h0
  split at e
  .rename_i hw
   exfalso;unfold Di at hw;rw[List.any_eq_true] at hw;obtain ⟨i,hi,hst⟩:=hw;cases ht:p.S.thr[i]? with
   |none=>rw[ht] at hst;cases hst
   |some t =>
    rw[ht] at hst;have hst:t.st=2:=by simpa using hst
    obtain ⟨f1,f2,f3⟩:=g.sit i t ht;cases hl:p.l i with
    |turn _ _ _ _ _ _=>rw[hl] at f2;have f2:t.st=1:=f2;omega
    |wait _ _ _ _ _=>rw[hl] at f3;exact f3
    |done _=>rw[hl] at f2;have f2:t.st=3:=f2;omega
  cases e
 .rename_i h0
  obtain ⟨t,ht,hrd⟩:=nextI_in h0;generalize hi:D6 p.S=i at ht e;have eth:thrI p.S i=t:=E0 ht;rw[eth] at e;obtain ⟨hfit,hst,hsi⟩:=g.sit i t ht;have hl:∀ a,p.l i≠.done a:=λa ha=>by rw[ha] at hst;have:t.st=3:=hst;simp[rdy,this] at hrd
  have hk:=going_keeps (S:=p.S) (i:=i) (t:=t);have hgt:=going_thr ht;have hm:=resume_pro M i (p.l i) (going p.S i t) p.K hc hl hsi g.kok;have hg:=resume_fs i mc (going p.S i t) p.K { t with st:=0 } hgt (p.l i) hl;have sta:=F9 i mc (p.l i) (going p.S i t) p.K;generalize resume i mc (p.l i) (going p.S i t) p.K=R at e hm hg sta;cases e;have hilt:i<p.S.thr.length:=(Qc ht).1;have hlen:R.1.thr.length=p.S.thr.length:=by rw[sta.len,going_len]
  have hoth:∀ j,j≠i->R.1.thr[j]? = p.S.thr[j]?:=λj hj=>by rw[sta.oth j hj,going_oth hj]
  have hstk:R.1.stk=p.S.stk:=by rw[sta.stk,hk.2.1]
  have hwi:wtI M ⟨R.1,R.2.1,upd p.l i R.2.2⟩ i=64*tot M R.2.2+sw M R.2.1 R.2.2:=by show 64*tot M (upd p.l i R.2.2 i)+sw M R.2.1 (upd p.l i R.2.2 i)=_;rw[upd_same]
  have hwi0:wtI M p i=64*tot M (p.l i)+sw M p.K (p.l i):=rfl;obtain ⟨hsit,hkok,hkl,hm⟩:=hm;have key:∃ d,1<=d∧R.1.n<=p.S.n+d∧((List.range R.1.thr.length).map (wtI M ⟨R.1,R.2.1,upd p.l i R.2.2⟩)).sum+d<=((List.range p.S.thr.length).map (wtI M p)).sum:=by
   rw[hlen];rcases hm with ⟨m3,m4,m5,m6⟩|⟨m1,m3⟩
   .refine ⟨1,Qi _,by rw[hk.2.2.1] at m3;exact m3,?_⟩
    have:=sum_drop (wtI M p) (wtI M ⟨R.1,R.2.1,upd p.l i R.2.2⟩) 0 1 i p.S.thr.length hilt (λj _ hne=>by show 64*tot M (upd p.l i R.2.2 j)+sw M R.2.1 (upd p.l i R.2.2 j)<=_;rw[upd_ne _ _ hne,m6];exact Qi _) (by rw[hwi,hwi0,m4];omega)
    omega
   .have h8:=g.len
    have s3:=sw_le M R.2.1 R.2.2;rw[hk.2.2.1] at m3;generalize hD:tot M (p.l i) - tot M R.2.2=D;have hD':tot M (p.l i)=tot M R.2.2+D:=by omega
    refine ⟨1+2*D,by omega,by omega,?_⟩;have:=sum_drop (wtI M p) (wtI M ⟨R.1,R.2.1,upd p.l i R.2.2⟩) 5 (64*D - 5) i p.S.thr.length hilt (λj _ hne=>by show 64*tot M (upd p.l i R.2.2 j)+sw M R.2.1 (upd p.l i R.2.2 j)<=_;rw[upd_ne _ _ hne];have:=sw_le M R.2.1 (p.l j);unfold wtI;omega) (by rw[hwi,hwi0,hD'];omega)
    omega
  obtain ⟨d,d1,d2,d3⟩:=key;refine ⟨⟨by rw[hlen];exact g.len,hkok,λj tj htj=>?_⟩,hkl,hstk,?_,?_⟩
  .show FitsN (upd p.l i R.2.2 j) tj∧StN (upd p.l i R.2.2 j) tj∧sits (mc:=mc) R.2.1.length (upd p.l i R.2.2 j)
   rw[hkl];by_cases hne:j=i
   .subst hne
    obtain ⟨t',g1,g2,g3⟩:=hg;have htj:R.1.thr[j]? = some tj:=htj;rw[g1] at htj;obtain rfl:=Qd htj;rw[upd_same];exact ⟨g2,g3,hsit⟩
   .rw[upd_ne _ _ hne]
    have htj:R.1.thr[j]? = some tj:=htj;exact g.sit j tj (by rw[<-hoth j hne];exact htj)
  .unfold mu
   show ((List.range R.1.thr.length).map (wtI M ⟨R.1,R.2.1,upd p.l i R.2.2⟩)).sum<_;omega
  .unfold mu
   show R.1.n+((List.range R.1.thr.length).map (wtI M ⟨R.1,R.2.1,upd p.l i R.2.2⟩)).sum<=_;omega
theorem turns_end:∀ (m:Nat) (p:PSt),mu M p<=m->Gd (mc:=mc) p->Cells (mc:=mc) p.K.length->∃ n p',n<=m∧Turns mc n p p'∧p'.S.n<=p.S.n+mu M p:=by
 intro m;induction m with
 |zero =>
  intro p hm g hc;cases e:Fv mc p with
  |none=>exact ⟨0,p,Qi _,.stop e,Nat.le_add_right _ _⟩
  |some p1=>have:=(pturn_mu M g hc e).2.2.2.1;omega
 |succ m ih =>
  intro p hm g hc;cases e:Fv mc p with
  |none=>exact ⟨0,p,Nat.zero_le _,.stop e,Nat.le_add_right _ _⟩
  |some p1 =>obtain ⟨g1,hl,_,h1,h2⟩:=pturn_mu M g hc e;obtain ⟨n,p',k1,k2,k3⟩:=ih p1 (by omega) g1 (by rw[hl];exact hc);exact ⟨n+1,p',by omega,.step e k2,by omega⟩
theorem hires_gd (m:Nat) (hc:Cells (mc:=mc) m) {k:Nat}{ss:List (Scr mc)}{S S':TS}{l l':Nat->Ph}(h:Hires mc k ss S l S' l') (hk:S.thr.length=k) (h8:k+ss.length<=8) (hs:∀ i t,S.thr[i]? = some t->FitsN (l i) t∧StN (l i) t∧sits (mc:=mc) m (l i)):
 S'.thr.length=k+ss.length∧(∀ i t,S'.thr[i]? = some t->FitsN (l' i) t∧StN (l' i) t∧sits (mc:=mc) m (l' i))∧S'.n<=S.n+2*lens ss∧((List.range S'.thr.length).map λi=>tot M (l' i)).sum<=((List.range S.thr.length).map λi=>tot M (l i)).sum+M.L*lens ss:=by
 induction h with
 |nil=>exact ⟨by simpa using hk,hs,Nat.le_add_right _ _,Nat.le_add_right _ _⟩
 |@cons k s ss S S' l l' tv tb gc h ih =>
  have hlen:(A6 S tv tb gc).thr.length=k+1:=by simp[A6,hk]
  obtain ⟨t0,ht0⟩:∃ t0,(A6 S tv tb gc).thr[k]? = some t0:=⟨_,Qf (by omega)⟩
  have sta:=G4 k mc s.calls 0 false s.ans (A6 S tv tb gc);obtain ⟨t1,f1,f2,f3⟩:=flow_fs k mc s.calls 0 false s.ans (A6 S tv tb gc) t0 ht0;have hle:=flow_le k mc s.calls 0 false s.ans (A6 S tv tb gc);obtain ⟨hlf,_,hsf⟩:=flow_tot M m hc k s.calls 0 false s.ans (A6 S tv tb gc);have hn0:(A6 S tv tb gc).n=S.n:=rfl;simp only[List.length_cons] at h8;obtain ⟨i1,i2,i3,i4⟩:=ih (by rw[sta.len,hlen]) (by omega) (λi t ht=>by
   by_cases hi:i=k
   .subst hi
    rw[f1] at ht;cases ht;rw[upd_same];exact ⟨f2,f3,hsf⟩
   .rw[upd_ne _ _ hi]
    rw[sta.oth i hi] at ht;refine hs i t ?_;have:i<k:=by have:=(Qc ht).1;omega
    simpa [A6,List.getElem?_append,hk,this] using ht)
  refine ⟨by rw[i1];simp only[List.length_cons];omega,i2,?_,?_⟩
  .simp only[lens,List.map_cons,List.sum_cons] at i3 ⊢
   omega
  .have e1:(flow k mc s.calls 0 false s.ans (A6 S tv tb gc)).1.thr.length=k+1:=by rw[sta.len,hlen]
   rw[e1,List.range_succ,List.map_append,List.sum_append] at i4;simp only[List.map_cons,List.map_nil,List.sum_cons,List.sum_nil] at i4;rw[upd_same] at i4;have e2:(List.range k).map (λi=>tot M (upd l k (flow k mc s.calls 0 false s.ans (A6 S tv tb gc)).2 i))=(List.range k).map (λi=>tot M (l i)):=List.map_congr_left (λi hi=>by have:i<k:=List.mem_range.1 hi;rw[upd_ne _ _ (by omega)])
   rw[e2] at i4;rw[hk];simp only[lens,List.map_cons,List.sum_cons] at i4 ⊢;rw[Nat.mul_add];omega
theorem mu_le (p:PSt) (h8:p.S.thr.length<=8):mu M p<=40+64*((List.range p.S.thr.length).map λi=>tot M (p.l i)).sum:=by
 have h:∀ k,((List.range k).map (wtI M p)).sum<=64*((List.range k).map λi=>tot M (p.l i)).sum+5*k:=λk=>by
  induction k with
  |zero=>simp
  |succ k ih =>rw[List.range_succ,List.map_append,List.map_append,List.sum_append,List.sum_append];simp only[List.map_cons,List.map_nil,List.sum_cons,List.sum_nil];have:=sw_le M p.K (p.l k);unfold wtI at ih ⊢;omega
 have:=h p.S.thr.length;unfold mu;omega
theorem play_ends {ss:List (Scr mc)}{S S1:TS}{l0 l1:Nat->Ph}{K:List (Nat×Int)}(hc:Cells (mc:=mc) K.length) (hK:KOk mc K) (h:Hires mc 0 ss S l0 S1 l1) (h0:S.thr=[]) (h8:ss.length<=8) (hl:lens ss<=512) (hL:M.L<=8) (hn:S.n=0):
 ∃ m p',m<=300000∧Turns mc m ⟨S1,K,l1⟩ p'∧p'.S.n*40<=140737488355328:=by
 obtain ⟨a1,a2,a3,a4⟩:=hires_gd M K.length hc h (by rw[h0];rfl) (by omega) (λi t ht=>by rw[h0] at ht;cases ht);have g:Gd (mc:=mc) ⟨S1,K,l1⟩:=⟨by show S1.thr.length<=8;omega,hK,a2⟩
 have hm:=mu_le M ⟨S1,K,l1⟩ g.len;rw[h0] at a4;simp only[List.length_nil,List.range_zero,List.map_nil,List.sum_nil] at a4;have h5:M.L*lens ss<=8*512:=Nat.mul_le_mul hL hl;have hm2:mu M ⟨S1,K,l1⟩<=300000:=by refine Qk hm ?_;show 40+64*((List.range S1.thr.length).map λi=>tot M (l1 i)).sum<=300000;omega
 obtain ⟨m,p',k1,k2,k3⟩:=turns_end M 300000 ⟨S1,K,l1⟩ hm2 g hc;refine ⟨m,p',k1,k2,?_⟩;have k3:p'.S.n<=S1.n+mu M ⟨S1,K,l1⟩:=k3;omega
end
end Go.Proofs.YtbbhahigofeacaaDoor.Gen.Mw
namespace Go.Proofs.YtbbhahigofeacaaDoor.Gen
open Go Go.Lift Go.Conc Go.RowKit
open Go.ConcN (upd upd_same upd_ne)
section
variable {mc:Mc}
theorem pturn_mvW {p p1:PSt}{v:Vw}(g:Mw.Gd (mc:=mc) p) (s:Seen p v) (e:Fv mc p=some p1):∃ v1,Mv mc p.S.thr.length v v1∧Seen p1 v1:=by
 unfold Fv at e;split at e
 .rename_i h0
  split at e
  .rename_i hw
   cases e;have hall:∀ i t,p.S.thr[i]? = some t->rdy p.S t=false:=λi t ht=>by
    cases hr:rdy p.S t with
    |false=>rfl
    |true =>
     have:i∈Aq p.S p.S.thr.length:=by unfold Aq;rw[List.mem_filter];exact ⟨List.mem_range.2 (Qc ht).1,by rw[ht];exact hr⟩
     rw[h0] at this;cases this
   unfold Di at hw;rw[List.any_eq_true] at hw;obtain ⟨i,hi,hst⟩:=hw;have hi:=List.mem_range.1 hi;obtain ⟨t,ht⟩:∃ t,p.S.thr[i]? = some t:=⟨_,Qf hi⟩
   rw[ht] at hst;have hst:t.st=2:=by simpa using hst
   have hs:p.S.stk=false:=by
    have:=hall i t ht;cases hs:p.S.stk with
    |false=>rfl
    |true=>simp[rdy,hst,hs] at this
   refine ⟨{ v with stk:=true,L:=v.L++[⟨-1,-1,7,0,0⟩] },.stuck (by rw[s.stk];exact hs) (λk hk=>?_) ⟨i,hi,?_⟩ rfl,⟨s.K,rfl,s.chg,s.se,s.l,?_,?_,s.ce⟩⟩
   .obtain ⟨tk,htk⟩:∃ t,p.S.thr[k]? = some t:=⟨_,Qf hk⟩
    have hnr:=hall k tk htk;obtain ⟨_,h2,_⟩:=g.sit k tk htk;have hce:=s.ce k tk htk;rw[s.l,s.chg,s.se k,E0 htk]
    match hl:p.l k,h2 with
    |.done a,_=>exact .inl ⟨a,rfl⟩
    |.turn _ _ _ _ _ _,h2 =>have h2:tk.st=1:=h2;simp[rdy,h2] at hnr
    |.wait j q r kk a,h2 =>
     have h2:tk.st=2:=h2;have e1:=hce j q r kk a hl;refine .inr ⟨j,q,r,kk,a,rfl,?_⟩;have:D4 p.S.chg tk.ce=tk.se:=by simpa [rdy,h2,hs] using hnr
     rw[<-e1];exact this
   .obtain ⟨_,h2,_⟩:=g.sit i t ht
    rw[s.l]
    match hl:p.l i,h2 with
    |.done a,h2=>have h2:t.st=3:=h2;omega
    |.turn _ _ _ _ _ _,h2=>have h2:t.st=1:=h2;omega
    |.wait j q r kk a,_=>exact ⟨j,q,r,kk,a,rfl⟩
   .show p.S.tr++_=flat (v.L++_)
    rw[flat_app,s.tr];rfl
   .show p.S.n+1=(v.L++_).length
    rw[Qj,s.n];rfl
  cases e
 .rename_i h0
  obtain ⟨t,ht,hrd⟩:=nextI_in h0;generalize hi:D6 p.S=i at ht e;have eth:thrI p.S i=t:=E0 ht;rw[eth] at e;obtain ⟨hfit,hst,hsi⟩:=g.sit i t ht;have hl:∀ a,p.l i≠.done a:=λa ha=>by rw[ha] at hst;have:t.st=3:=hst;simp[rdy,this] at hrd
  have hk:=going_keeps (S:=p.S) (i:=i) (t:=t);have hgt:=going_thr ht;have sta:=F9 i mc (p.l i) (going p.S i t) p.K;have hilt:i<p.S.thr.length:=(Qc ht).1;have hoth:∀ j,j≠i->(resume i mc (p.l i) (going p.S i t) p.K).1.thr[j]? = p.S.thr[j]?:=λj hj=>by rw[sta.oth j hj,going_oth hj]
  have hstk:(resume i mc (p.l i) (going p.S i t) p.K).1.stk=p.S.stk:=by rw[sta.stk,hk.2.1]
  cases e;have seen:∀ (Y:List Stp) (chg':List Int) (K':List Int),Adds (going p.S i t) (resume i mc (p.l i) (going p.S i t) p.K).1 Y->(resume i mc (p.l i) (going p.S i t) p.K).1.chg=chg'->(resume i mc (p.l i) (going p.S i t) p.K).2.1.map (·.2)=K'->Aw chg' (resume i mc (p.l i) (going p.S i t) p.K).2.2 (thrI (resume i mc (p.l i) (going p.S i t) p.K).1 i) ->
   Seen ⟨(resume i mc (p.l i) (going p.S i t) p.K).1,(resume i mc (p.l i) (going p.S i t) p.K).2.1,upd p.l i (resume i mc (p.l i) (going p.S i t) p.K).2.2⟩ ⟨K',p.S.stk,chg',λk=>(thrI (resume i mc (p.l i) (going p.S i t) p.K).1 k).se,upd p.l i (resume i mc (p.l i) (going p.S i t) p.K).2.2,v.L++Y⟩ ∧
   Els i (resume i mc (p.l i) (going p.S i t) p.K).2.2 v ⟨K',p.S.stk,chg',λk=>(thrI (resume i mc (p.l i) (going p.S i t) p.K).1 k).se,upd p.l i (resume i mc (p.l i) (going p.S i t) p.K).2.2,v.L++Y⟩:=λY chg' K' ha hc hK hA=>by
   refine ⟨⟨hK.symm,hstk.symm,hc.symm,λ_=>rfl,rfl,?_,?_,λk tk htk j q r kk a hl=>?_⟩,⟨by rw[s.l],λk hne=>?_,λj q r k a h=>(hA j q r k a h).2⟩⟩
   .show (resume i mc (p.l i) (going p.S i t) p.K).1.tr=_
    rw[ha.tr,hk.2.2.2,s.tr,flat_app]
   .show (resume i mc (p.l i) (going p.S i t) p.K).1.n=_
    rw[ha.n,hk.2.2.1,s.n,Qj]
   .have htk:(resume i mc (p.l i) (going p.S i t) p.K).1.thr[k]? = some tk:=htk
    have hl:upd p.l i (resume i mc (p.l i) (going p.S i t) p.K).2.2 k=.wait j q r kk a:=hl;by_cases hne:k=i
    .subst hne
     rw[upd_same] at hl;have:=(hA j q r kk a hl).1;rw[E0 htk] at this;exact this
    .rw[upd_ne _ _ hne] at hl
     rw[hoth k hne] at htk;exact s.ce k tk htk j q r kk a hl
   .show (thrI (resume i mc (p.l i) (going p.S i t) p.K).1 k).se=_
    rw[s.se k];unfold thrI;rw[hoth k hne]
  match hpl:p.l i,hl,hfit,hst with
  |.done a,hl,_,_=>exact absurd rfl (hl a)
  |.turn op j q rest ii ans,_,hfit,hst =>
   have hvl:v.l i=.turn op j q rest ii ans:=by rw[s.l];exact hpl
   have hx:v.K.getD j 0=(cellAt p.K j).2:=by rw[s.K];exact getD_cell _ _
   have ht0:thrI (going p.S i t) i={ t with st:=0 }:=E0 hgt;rw[hpl] at seen;rw[Gn] at seen ⊢;rw[ht0] at seen ⊢;generalize hxx:(cellAt p.K j).2=x at *;have hds:(didS (going p.S i t) undef i { t with st:=0 } (mc.turn q x).1.1 (mc.turn q x).1.2).stk=p.S.stk:=by rw[(sta_did (i:=i) _ _ _ _ _).stk,hk.2.1]
   obtain ⟨n1,n2,n3,n4⟩:=Ic (i:=i) (mc.nts q x) (didS (going p.S i t) undef i { t with st:=0 } (mc.turn q x).1.1 (mc.turn q x).1.2);rw[hk.2.1] at seen ⊢;obtain ⟨X,o1,o2,o3,o4,o5⟩:=on_fw (mc:=mc) i rest ii ans (Iy i (mc.nts q x) (didS (going p.S i t) undef i { t with st:=0 } (mc.turn q x).1.1 (mc.turn q x).1.2)) (p.K.set j ((cellAt p.K j).1,(mc.turn q x).2.1)) (mc.set p.S.stk (mc.turn q x).2.2) { t with st:=0 } (by rw[n1];exact did_thr hgt);have hadd:=((adds_did (going p.S i t) undef i { t with st:=0 } (mc.turn q x).1.1 (mc.turn q x).1.2).trans (adds_notes i (mc.nts q x) _)).trans o2;have ho:t.op=op:=hfit.1;have hc:t.ce=j:=hfit.2;have hadd:Adds (going p.S i t) (on i mc rest ii ans (Iy i (mc.nts q x) (didS (going p.S i t) undef i { t with st:=0 } (mc.turn q x).1.1 (mc.turn q x).1.2)) (p.K.set j ((cellAt p.K j).1,(mc.turn q x).2.1)) (mc.set p.S.stk (mc.turn q x).2.2)).1 (⟨i,j,op,(mc.turn q x).1.1,(mc.turn q x).1.2⟩ :: (ntsL i (mc.nts q x)++X)):=by rw[<-ho,<-hc];exact hadd
   have hchg:(didS (going p.S i t) undef i { t with st:=0 } (mc.turn q x).1.1 (mc.turn q x).1.2).chg=bump p.S.chg j (mc.turn q x).1.1 (mc.turn q x).1.2:=by
    unfold didS bump;by_cases hb:(mc.turn q x).1.1≠(mc.turn q x).1.2∧j<p.S.chg.length
    .rw[if_pos ⟨hb.1,by show (0:Int)<=t.ce;omega,by show t.ce<((going p.S i t).chg.length:Int);rw[hk.1];omega⟩,if_pos hb]
     show (going p.S i t).chg.modify t.ce.toNat _=_;rw[hk.1,hc];rfl
    .rw[if_neg (λh=>hb ⟨h.1,by have h3:t.ce<((going p.S i t).chg.length:Int):=h.2.2;rw[hk.1] at h3;omega⟩),if_neg hb]
     exact hk.1
   rw[n3,hchg] at o3 o4;rw[n4,hds] at o1;obtain ⟨z1,z2⟩:=seen _ _ _ hadd o3 (by rw[o5]) o4;refine ⟨_,.turn i op j q rest ii ans X _ hilt hvl (by rw[s.stk,hx];exact o1) z2 ?_ s.stk.symm (by rw[hx,s.chg]) (by rw[hx]),z1⟩;show (p.K.set j _).map (·.2)=_;rw[s.K,List.map_set,<-s.K,hx]
  |.wait j q rest ii ans,_,hfit,hst =>
   have hvl:v.l i=.wait j q rest ii ans:=by rw[s.l];exact hpl
   have hst:t.st=2:=hst;have hce:=s.ce i t ht j q rest ii ans hpl;rw[hpl] at seen;rw[Gm] at seen ⊢;cases hs:p.S.stk with
   |true =>
    have hs':(going p.S i t).stk=true:=by rw[hk.2.1];exact hs
    rw[if_pos hs'] at seen ⊢;obtain ⟨X,o1,o2,o3,o4,o5⟩:=on_fw (mc:=mc) i rest ii ans (going p.S i t) p.K (mc.stuck q) { t with st:=0 } hgt;rw[hs'] at o1;rw[hk.1] at o3 o4;obtain ⟨z1,z2⟩:=seen _ _ _ o2 o3 (by rw[o5]) o4;exact ⟨_,.free i j q rest ii ans X _ hilt hvl (by rw[s.stk];exact hs) o1 z2 s.K.symm hs s.chg.symm rfl,z1⟩
   |false =>
    have hs':(going p.S i t).stk=false:=by rw[hk.2.1];exact hs
    rw[if_neg (by rw[hs'];decide)] at seen ⊢;obtain ⟨X,o1,o2,o3,o4,o5⟩:=on_fw (mc:=mc) i rest ii ans (Bv (going p.S i t) undef i 6 j 0 0) p.K (mc.woke q) { t with st:=0 } hgt;have hs2:(Bv (going p.S i t) undef i 6 j 0 0).stk=false:=hs';rw[hs2] at o1;have hc2:(Bv (going p.S i t) undef i 6 j 0 0).chg=p.S.chg:=hk.1;rw[hc2] at o3 o4;obtain ⟨z1,z2⟩:=seen _ _ _ ((Jp (going p.S i t) undef i 6 j 0 0).trans o2) o3 (by rw[o5]) o4;refine ⟨_,.wake i j q rest ii ans X _ hilt hvl (by rw[s.stk];exact hs) ?_ o1 z2 s.K.symm hs s.chg.symm rfl,z1⟩;rw[s.chg,s.se i,eth,<-hce];simpa [rdy,hst,hs] using hrd
theorem turns_mvW (M:Mw.Met mc) {Inv:Vw->Prop}{N B:Nat}(hI:∀ p v v1,Mw.Gd (mc:=mc) p->p.S.thr.length=N->p.S.n<=B->Seen p v->Inv v->Mv mc N v v1->Inv v1) {m:Nat}{p p':PSt}(h:Turns mc m p p'):∀ v,p.S.thr.length=N->Mw.Gd (mc:=mc) p->Mw.Cells (mc:=mc) p.K.length->p.S.n+Mw.mu M p<=B->Seen p v->Inv v->∃ v',Inv v'∧Seen p' v'∧p'.S.thr.length=N∧(∀ i,i<N->∃ a,v'.l i=.done a)∧Mw.Gd (mc:=mc) p'∧p'.S.n<=B:=by
 induction h with
 |@stop p hs =>
  intro v hN g hc hB s hv;refine ⟨v,hv,s,hN,λi hi=>?_,g,by omega⟩;obtain ⟨t,ht⟩:∃ t,p.S.thr[i]? = some t:=⟨_,Qf (by omega)⟩
  obtain ⟨_,h2,_⟩:=g.sit i t ht;unfold Fv at hs;split at hs
  .rename_i h0
   split at hs;cases hs
   .rename_i hw
    rw[s.l]
    match hl:p.l i,h2 with
    |.done a,_=>exact ⟨a,rfl⟩
    |.turn _ _ _ _ _ _,h2 =>
     have h2:t.st=1:=h2;have:i∈Aq p.S p.S.thr.length:=by unfold Aq;rw[List.mem_filter];exact ⟨List.mem_range.2 (by omega),by rw[ht];simp[rdy,h2]⟩
     rw[h0] at this;cases this
    |.wait _ _ _ _ _,h2 =>have h2:t.st=2:=h2;exfalso;apply hw;unfold Di;rw[List.any_eq_true];exact ⟨i,List.mem_range.2 (by omega),by rw[ht];simp[h2]⟩
  cases hs
 |@step n p p1 p' e _ ih =>
  intro v hN g hc hB s hv;obtain ⟨v1,m1,s1⟩:=pturn_mvW g s e;rw[hN] at m1;have hlen:p1.S.thr.length=N:=by
   unfold Fv at e;split at e
   .split at e
    cases e;exact hN;cases e
   .cases e
    show (resume _ _ _ _ _).1.thr.length=_;rw[(F9 _ _ _ _ _).len,going_len,hN]
  obtain ⟨g1,hl1,_,hm1,hm2⟩:=Mw.pturn_mu M g hc e;exact ih v1 hlen g1 (by rw[hl1];exact hc) (by omega) s1 (hI p v v1 g hN (by omega) s hv m1)
end
end Go.Proofs.YtbbhahigofeacaaDoor.Gen
