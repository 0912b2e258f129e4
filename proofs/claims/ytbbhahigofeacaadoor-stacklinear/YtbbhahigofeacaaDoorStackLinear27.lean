/- StackLinear, part 27 of 32: StL2, StL3, StV3, StKg, StL4. -/
import Derived.Test.YtbbhahigofeacaaDoorStackLinear01
import Derived.Test.YtbbhahigofeacaaDoorStackLinear11
import Derived.Test.YtbbhahigofeacaaDoorStackLinear12
import Derived.Test.YtbbhahigofeacaaDoorStackLinear26
set_option linter.unusedSimpArgs false
set_option linter.unusedVariables false
set_option maxHeartbeats 4000000
set_option maxRecDepth 100000
noncomputable section
namespace Go.Proofs.YtbbhahigofeacaaDoor.Gen
open Go Go.Lift Go.Conc Go.RowKit
open R1 (fstI verI hdI)
open Go.ConcN (upd upd_same upd_ne)
def fvT (n N:Nat) (v:Vw):Nat->Option Int:=λi=>if i<N then (flP n (λj=>v.K.getD j 0) (v.l i)).head? else none
def svT (n:Nat) (v:Vw) (S:List Nat):List Int:=S.map λa=>v.K.getD (vlJ n a) 0
theorem upd_none {f:Nat->Option Int}{i:Nat}(h:f i=none):upd f i none=f:=by funext k;by_cases e:k=i;subst e;rw[upd_same,h];rw[upd_ne _ _ e]
section
variable {N n:Nat}{cl:Nat->List Cl}
theorem sn_turn {v v1:Vw}{F S S':List Nat}(h:TJ N n cl v F S) (hNI:NI N cl v) (hA:Sn8 N cl (λi=>(v.l i).ans) v.L (svT n v S) (fvT n N v)) {i:Nat}(hi:i<N) {op:Int}{j:Nat}{q:Q}{rest:List Cl}{ii:Nat}{ans:List (Int×Int)}(hl:v.l i=.turn op j q rest ii ans)
 (ha:atT n q j) {X:List Stp} {l':Ph} {o y:Int} (hon:On (mcT n) i false rest ii ans (Ak n q (v.K.getD j 0)).2.2 X l') (els:Els i l' v v1) (hL:v1.L=v.L++(⟨i,j,op,o,y⟩:Stp) :: X)
 (hS:SSt q (v.K.getD j 0) S S') (hv':∀ a∈S',v1.K.getD (vlJ n a) 0=v.K.getD (vlJ n a) 0) (hv:∀ a∈S,v1.K.getD (vlJ n a) 0=v.K.getD (vlJ n a) 0) (hfl:∀ k,k<N->k≠i->flP n (λj=>v1.K.getD j 0) (v.l k)=flP n (λj=>v.K.getD j 0) (v.l k)):
 Sn8 N cl (λi=>(v1.l i).ans) v1.L (svT n v1 S') (fvT n N v1):=by
 have hnt:=hNI.thr i hi;rw[hl] at hnt;obtain ⟨hlen,hn,hlt,hrest,hno,h9,h10⟩:=hnt;have hlen:ans.length=(cl i).length:=hlen;have hno:No4 ans ii:=hno;have hsi:=h.sit i hi;rw[hl] at hsi;obtain ⟨c1,c2,c3,c4⟩:=hsi;obtain ⟨c,hc⟩:∃ c,(cl i)[ii]? = some c:=⟨_,Qf hlt⟩
 have hcc:cAt (cl i) ii=c:=by unfold cAt;rw[hc];rfl
 rw[hcc] at c4;have hst:=h.ki.st;clear h hNI;have eS:svT n v1 S'=S'.map λa=>v.K.getD (vlJ n a) 0:=List.map_congr_left λa ha=>hv' a ha;have eSS:S'=S->svT n v1 S'=svT n v S:=λe=>by rw[eS,e];rfl
 have ef:fvT n N v1=upd (fvT n N v) i ((flP n (λj=>v1.K.getD j 0) l').head?):=by
  funext k;by_cases e:k=i
  .subst e
   rw[upd_same];unfold fvT;rw[if_pos hi,els.l,upd_same]
  .rw[upd_ne _ _ e]
   unfold fvT;by_cases hk:k<N;rw[if_pos hk,if_pos hk,els.l,upd_ne _ _ e,hfl k hk e];rw[if_neg hk,if_neg hk]
 have efi:fvT n N v i=(flQ n (λj=>v.K.getD j 0) q).head?:=by unfold fvT;rw[if_pos hi,hl];rfl
 have ean:l'.ans=ans->(λk=>(v1.l k).ans)=λk=>(v.l k).ans:=λe=>by have:=els.l;rw[this,ans_upd,e,upd_self (by rw[hl];rfl)]
 have turnC:∀ {op':Int} {j':Nat} {q':Q},(Ak n q (v.K.getD j 0)).2.2=.turn op' j' q'->S'=S->flQ n (λj=>v1.K.getD j 0) q'=flQ n (λj=>v.K.getD j 0) q->Sn8 N cl (λi=>(v1.l i).ans) v1.L (svT n v1 S') (fvT n N v1):=λ{op' j' q'} e eS' efl=>by
  rw[e] at hon;cases hon;have e2:flP n (λj=>v1.K.getD j 0) (.turn op' j' q' rest ii ans)=flQ n (λj=>v1.K.getD j 0) q':=rfl;rw[ean rfl,hL,eSS eS',ef,e2,efl,<-efi];have:upd (fvT n N v) i (fvT n N v i)=fvT n N v:=by funext k;by_cases ek:k=i;subst ek;rw[upd_same];rw[upd_ne _ _ ek]
  rw[this];exact hA.other h9 h10
 have ansC:∀ {e yy:Int},(Ak n q (v.K.getD j 0)).2.2=.ans e yy->e≠4->(fvT n N v i=none∧wayS (svT n v S) c (e,yy) (svT n v1 S'))∨(fvT n N v i=some yy∧e=0∧c.po=2∧S'=S)->Sn8 N cl (λi=>(v1.l i).ans) v1.L (svT n v1 S') (fvT n N v1):=λ{e yy} ee e4 hway=>by
  rw[ee] at hon;cases hon with
  |@ans _ _ X' _ hfw =>
   have he4:(e==4)=false:=by simpa using e4
   rw[he4] at hfw;have hfl0:=(fw_j hfw (cl i) (λj=>v1.K.getD j 0) rfl (by omega) (by rw[c2]) (by rw[List.length_set];exact hlen)).2.1;have b0:Sn8 N cl (upd (λk=>(v.l k).ans) i (ans.set ii (e,yy))) v.L (svT n v S) (fvT n N v):=hA.mono λk m hk=>by
    by_cases ek:k=i
    .subst ek
     rw[upd_same,Qq,if_neg (by omega),hl];rfl
    rw[upd_ne _ _ ek]
   have b1:=b0.other (x:=⟨i,j,op,o,y⟩) h9 h10;have hn1:nt (v.L++[⟨i,j,op,o,y⟩]) i=2*ii+1:=by rw[Ib h9 h10];exact hn
   have hget:(upd (λk=>(v.l k).ans) i (ans.set ii (e,yy)) i)[ii]? = some (e,yy):=by rw[upd_same,Qq,if_pos rfl,if_pos (by omega)]
   have b2:Sn8 N cl (upd (λk=>(v.l k).ans) i (ans.set ii (e,yy))) ((v.L++[⟨i,j,op,o,y⟩])++[⟨i,-1,10,ii,e⟩]) (svT n v1 S') (upd (fvT n N v) i none):=by
    rcases hway with ⟨w1,w2⟩|⟨w1,rfl,w3,w4⟩
    .rw[upd_none w1]
     exact b1.fin (a:=(e,yy)) hi hn1 hc hget e4 w1 w2
    .rw[eSS w4]
     exact b1.told hi hn1 hc w3 hget w1
   have b3:=fw_sn hi hfw rfl hrest (by omega) (by rw[List.length_set];exact hlen) _ _ _ _ b2 (upd_same _ _ _) (by rw[Dp _ _ _ _ (.inr rfl),hn1];omega) (hno.next e4);have eL:=els.l;rw[eL,ans_upd,hL,ef,hfl0];simpa only[List.append_assoc,List.singleton_append,List.cons_append,List.nil_append,List.head?_nil] using b3
 obtain ⟨p1,p2,q1,q2⟩:=c4;obtain ⟨k,l⟩:=q;unfold atT at ha;simp only at ha p1 p2 q1 q2;simp only[SSt] at hS;generalize e0:l.getD 0 0=a at *;generalize e1:l.getD 1 0=b at *;generalize e2:l.getD 2 0=c2' at *;generalize hx:v.K.getD j 0=x at *;have stay:k≠8->k≠13->S'=S:=λh8 h13=>by rcases hS with h|h|h;exact absurd h.1 h8;exact absurd h.1 h13;exact h.2.2
 have none_:k<14->fvT n N v i=none:=λhk=>by rw[efi];unfold flQ;rw[if_neg (by simp only;omega),if_neg (by simp only;omega)];rfl
 split at ha
 .by_cases hz:fstI x=0
  refine ansC (e:=80) (yy:=0) (by simp only[Ak,same];rw[if_pos hz]) (by decide) (.inl ⟨none_ (by decide),.inr (.inl ⟨p1 (by decide),rfl,eSS (stay (by decide) (by decide))⟩)⟩);exact turnC (by simp only[Ak,same];rw[if_neg hz]) (stay (by decide) (by decide)) rfl
 exact turnC rfl (stay (by decide) (by decide)) rfl
 .by_cases hxx:x=b
  exact turnC (by simp only[Ak,put_,e1];rw[if_pos hxx]) (stay (by decide) (by decide)) rfl;exact turnC (by simp only[Ak,same,e1];rw[if_neg hxx]) (stay (by decide) (by decide)) rfl
 exact turnC rfl (stay (by decide) (by decide)) rfl;exact turnC rfl (stay (by decide) (by decide)) rfl;exact turnC rfl (stay (by decide) (by decide)) rfl;exact turnC rfl (stay (by decide) (by decide)) rfl
 .obtain ⟨a1,rfl⟩:=ha
  by_cases hxx:x=b
  .have eS':S'=a.toNat :: S:=by rcases hS with h|h|h;exact h.2.2;exact absurd h.1 (by decide);exact absurd ⟨rfl,hxx⟩ h.1
   refine ansC (e:=0) (yy:=0) (by simp only[Ak,put_,e1];rw[if_pos hxx]) (by decide) (.inl ⟨none_ (by decide),.inl ⟨p1 (by decide),rfl,?_⟩⟩);rw[eS,eS',List.map_cons,q2 (by decide) (by decide)];rfl
  .have eS':S'=S:=by rcases hS with h|h|h;exact absurd h.2.1 hxx;exact absurd h.1 (by decide);exact h.2.2
   exact turnC (by simp only[Ak,same,e1];rw[if_neg hxx]) eS' rfl
 .subst ha
  by_cases hz:fstI x=0
  .have hS0:S=[]:=by
    cases S with
    |nil=>rfl
    |cons s S0 =>have h1:=hst.1;rw[hx,hz] at h1;omega
   refine ansC (e:=90) (yy:=0) (by simp only[Ak,same];rw[if_pos hz]) (by decide) (.inl ⟨none_ (by decide),.inr (.inr (.inl ⟨p2 (by decide),?_,rfl,eSS (stay (by decide) (by decide))⟩))⟩);rw[hS0];rfl
  exact turnC (by simp only[Ak,same];rw[if_neg hz]) (stay (by decide) (by decide)) rfl
 exact turnC rfl (stay (by decide) (by decide)) rfl
 .obtain ⟨a1,a2,a3,a4,rfl⟩:=ha
  by_cases hxx:x=a
  .have eS':S=slI x :: S':=by rcases hS with h|h|h;exact absurd h.1 (by decide);exact h.2.2;exact absurd ⟨rfl,hxx⟩ h.2.1
   have et:(Ak n (13,l) x).2.2=.turn 1 (vlJ n (slI a)) (14,[(slI a:Nat)]):=by simp only[Ak,put_,e0];rw[if_pos hxx]
   rw[et] at hon;cases hon;have e3:(flP n (λj=>v1.K.getD j 0) (.turn 1 (vlJ n (slI a)) (14,[(slI a:Nat)]) rest ii ans)).head? = some (v.K.getD (vlJ n (slI x)) 0):=by have e4:flP n (λj=>v1.K.getD j 0) (.turn 1 (vlJ n (slI a)) (14,[((slI a:Nat):Int)]) rest ii ans)=[v1.K.getD (vlJ n (slI a)) 0]:=rfl;rw[e4,<-hxx,hv (slI x) (by rw[eS'];exact List.mem_cons_self ..)];rfl
   rw[ean rfl,hL,ef,e3,eS];have hA':Sn8 N cl (λi=>(v.l i).ans) v.L (v.K.getD (vlJ n (slI x)) 0 :: S'.map λa=>v.K.getD (vlJ n a) 0) (fvT n N v):=by
    have:svT n v S=v.K.getD (vlJ n (slI x)) 0 :: S'.map λa=>v.K.getD (vlJ n a) 0:=by rw[eS'];rfl
    rw[<-this];exact hA
   exact hA'.pop hi hn hc (p2 (by decide)) (none_ (by decide)) h9 h10
  .have eS':S'=S:=by rcases hS with h|h|h;exact absurd h.1 (by decide);exact absurd h.2.1 hxx;exact h.2.2
   exact turnC (by simp only[Ak,same,e0];rw[if_neg hxx]) eS' rfl
 .obtain ⟨a1,rfl⟩:=ha
  refine turnC rfl (stay (by decide) (by decide)) ?_;show flQ n _ (15,[l.getD 0 0,x])=flQ n _ (14,l);have e4:flQ n (λj=>v.K.getD j 0) (14,l)=[v.K.getD (vlJ n (l.getD 0 0).toNat) 0]:=rfl;rw[e4,e0,hx];rfl
 .have hfi:fvT n N v i=some b:=by rw[efi,<-e1];rfl
  by_cases hxx:x=1;exact turnC (by simp only[Ak,put_,e0,e1];rw[if_pos hxx]) (stay (by decide) (by decide)) (by rw[<-e1];rfl);exact ansC (e:=0) (yy:=b) (by simp only[Ak,same,e1];rw[if_neg hxx]) (by decide) (.inr ⟨hfi,rfl,p2 (by decide),stay (by decide) (by decide)⟩)
 exact turnC rfl (stay (by decide) (by decide)) rfl;exact turnC rfl (stay (by decide) (by decide)) rfl
 .have hfi:fvT n N v i=some b:=by rw[efi,<-e1];rfl
  by_cases hxx:x=c2';exact ansC (e:=0) (yy:=b) (by simp only[Ak,put_,e1,e2];rw[if_pos hxx]) (by decide) (.inr ⟨hfi,rfl,p2 (by decide),stay (by decide) (by decide)⟩);exact turnC (by simp only[Ak,same,e0,e1,e2];rw[if_neg hxx]) (stay (by decide) (by decide)) (by rw[<-e1];rfl)
 exact ha.elim
theorem tsn_mv (hn:n<=1000) {p:PSt}{v v1:Vw}(g:Mw.Gd (mc:=mcT n) p) (hB:p.S.n<=400000) (s:Seen p v) (hN:p.S.thr.length=N) (hstk:v.stk=false) (hNI:NI N cl v) (h:∃ F S,TJ N n cl v F S∧Sn8 N cl (λi=>(v.l i).ans) v.L (svT n v S) (fvT n N v)) (m:Mv (mcT n) N v v1):∃ F S,TJ N n cl v1 F S∧Sn8 N cl (λi=>(v1.l i).ans) v1.L (svT n v1 S) (fvT n N v1)∧v1.stk=false:=by
 obtain ⟨F,S,h,hA⟩:=h;have hsit:∀ i,i<N->Mw.sits (mc:=mcT n) p.K.length (v.l i):=λi hi=>by
  obtain ⟨t,ht⟩:∃ t,p.S.thr[i]? = some t:=⟨_,Qf (by omega)⟩
  rw[s.l];exact (g.sit i t ht).2.2
 have hL:v.L.length<=400000:=by have:=s.n;omega
 have nowait:∀ i,i<N->∀ j q r k a,v.l i≠.wait j q r k a:=λi hi j q r k a e=>by have:=hsit i hi;rw[e] at this;exact this
 have hat:∀ k,k<N->∀ q,Ix (v.l k)=some q->∃ j,atT n q j:=λk hk q hq=>by
  cases hlk:v.l k with
  |turn op j q1 r k1 a =>rw[hlk] at hq;cases hq;have:=hsit k hk;rw[hlk] at this;exact ⟨j,this.1 hn⟩
  |wait _ _ _ _ _=>rw[hlk] at hq;cases hq
  |done _=>rw[hlk] at hq;cases hq
 cases m with
 |stuck _ _ h3 _=>obtain ⟨i,hi,j,q,r,k,a,e⟩:=h3;exact absurd e (nowait i hi j q r k a)
 |wake i j q rest ii ans X l' hi hl _ _ _ _ _ _ _ _=>exact absurd hl (nowait i hi _ _ _ _ _)
 |free i j q rest ii ans X l' hi hl _ _ _ _ _ _ _=>exact absurd hl (nowait i hi _ _ _ _ _)
 |turn i op j q rest ii ans X l' hi hl hon els hK hsk' _ hLL =>
  have hst:=hsit i hi;rw[hl] at hst;have ha:atT n q j:=hst.1 hn;have hjl:j<v.K.length:=by rw[s.K,List.length_map];exact hst.2
  have hx:okT n j (v.K.getD j 0):=by
   have e:v.K.getD j 0=(cellAt p.K j).2:=by rw[s.K];exact getD_cell p.K j
   rw[e];unfold cellAt;rw[Qf hst.2];exact g.kok j _ (Qf hst.2) hn
  have hset:(mcT n).set v.stk ((mcT n).turn q (v.K.getD j 0)).2.2=(Ak n q (v.K.getD j 0)).2.2:=Mw.set_turn (mc:=mcT n) v.stk (turnT_nw q (v.K.getD j 0));rw[hset] at hon;have hK:v1.K=v.K.set j (Ak n q (v.K.getD j 0)).2.1:=hK;have hLL:v1.L=v.L++(⟨i,j,op,(Ak n q (v.K.getD j 0)).1.1,(Ak n q (v.K.getD j 0)).1.2⟩:Stp) :: X:=hLL;have ho:=turn_old (n:=n) q (v.K.getD j 0);rw[ho] at hLL;obtain ⟨F',S',t1,t2,t3,t4,t5⟩:=tj_turn hn h hL hat hi hl ha hjl hx hon els hK hLL;have hon':=hon;rw[hstk] at hon';exact ⟨F',S',t1,sn_turn h hNI hA hi hl ha hon' els hLL t2 t3 t4 t5,hsk'.trans hstk⟩
end
end Go.Proofs.YtbbhahigofeacaaDoor.Gen
namespace Go.Proofs.YtbbhahigofeacaaDoor.Gen
open Go Go.Lift Go.Conc Go.RowKit
open Go.Proofs.YtbbhahigofeacaaDoor.His
open Go.ConcN (upd upd_same upd_ne)
def trivS:Ways Unit:=λ_ e=>[(e.ans,())]
structure It where
 m:Nat
 op:Int
 a:Int
 ans:Int×Int
def wayI (S:List Int) (x:It) (S':List Int):Prop :=
 (x.op=1∧x.ans=(0,0)∧S'=x.a :: S)∨(x.op=1∧x.ans=(80,0)∧S'=S)∨(x.op=2∧S=[]∧x.ans=(90,0)∧S'=S)∨(x.op=2∧∃ y,S=y :: S'∧x.ans=(0,y))
def chn:List Int->List It->List Int->Prop
 |S,[],T=>S=T
 |S,x :: r,T=>∃ S1,wayI S x S1∧chn S1 r T
theorem chn_snoc {x:It}{T T':List Int}(h:wayI T x T'):∀ {R:List It}{S:List Int},chn S R T->chn S (R++[x]) T'
 | [],S,k=>by have:S=T:=k;subst this;exact ⟨T',h,rfl⟩
 |y :: R,S,k=>by obtain ⟨S1,k1,k2⟩:=k;exact ⟨S1,k1,chn_snoc h k2⟩
structure LS (L:List Stp) (E:List His.Ev) (id:Nat->Nat) (R:List It) (S:List Int) (f:Nat->Option Int):Prop where
 nodup:(R.map (·.m)).Nodup
 agr:∀ x∈R,(x.op=1∨x.op=2)∧∃ e,E[x.m]? = some e∧e.op=x.op∧e.a=x.a∧(e.fin≠-1->e.ans=x.ans)
 all:∀ m e,E[m]? = some e->e.fin≠-1->(e.op=1∨e.op=2)->∃ x∈R,x.m=m
 rel:R.Pairwise λx y=>∀ ex ey,E[x.m]? = some ex->E[y.m]? = some ey->ey.fin=-1∨ex.beg<ey.fin
 chn:chn [] R S
 fly:∀ i y,f i=some y->(∃ k,nt L i=2*k+1)∧(∃ x∈R,x.m=id i)∧∀ x∈R,x.m=id i->x.ans=(0,y)
 nfl:∀ i k,nt L i=2*k+1->f i=none->∀ x∈R,x.m≠id i
section
variable {cl:Nat->List Cl}{an:Nat->List (Int×Int)}{L:List Stp}{E:List His.Ev}{id:Nat->Nat}{ord:List Nat}{R:List It}{S S':List Int}{f:Nat->Option Int}
theorem id_ne (hI:EvI cl an trivS () L E id ord ()) {i j k q:Nat}(hi:nt L i=2*k+1) (hj:nt L j=2*q+1) (hne:j≠i):id i≠id j:=λe=>by obtain ⟨e1,c1,k1,k2,_⟩:=hI.act i k hi;obtain ⟨e2,c2,m1,m2,_⟩:=hI.act j q hj;rw[e,m1] at k1;cases k1;rw[k2] at m2;omega
theorem LS.skip (h:LS L E id R S f) {x:Stp}(h9:x.op≠9) (h10:x.op≠10):LS (L++[x]) E id R S f :=
 ⟨h.nodup,h.agr,h.all,h.rel,h.chn,λi y hy=>by rw[Ib h9 h10];exact h.fly i y hy,λi k hn=>by rw[Ib h9 h10] at hn;exact h.nfl i k hn⟩
theorem LS.begin (h:LS L E id R S f) {i k:Nat}(hn:nt L i=2*k) (hf:f i=none) (ev:His.Ev) (hev:ev.fin=-1):LS (L++[⟨i,-1,9,k,0⟩]) (E++[ev]) (upd id i E.length) R S f:=by
 have get:∀ (m:Nat) (e:His.Ev),(E++[ev])[m]? = some e->E[m]? = some e∨(m=E.length∧e=ev):=λm e he=>by
  rw[List.getElem?_append] at he;split at he;exact .inl he
  .right
   have:m - E.length=0:=by have:=(Qc he).1;simp at this;omega
   rw[this] at he;exact ⟨by omega,by simpa using he.symm⟩
 have lift:∀ (m:Nat) (e:His.Ev),E[m]? = some e->(E++[ev])[m]? = some e:=λm e he=>by rw[Qn (Qc he).1];exact he
 have mem:∀ x∈R,∀ e,(E++[ev])[x.m]? = some e->E[x.m]? = some e:=λx hx e he=>by obtain ⟨_,e1,k1,_⟩:=h.agr x hx;rw[lift _ _ k1] at he;rw[k1];exact he
 refine ⟨h.nodup,λx hx=>?_,λm e he ho hop=>?_,?_,h.chn,λj y hy=>?_,λj q hq hfj x hx=>?_⟩
 .obtain ⟨k0,e1,k1,k2⟩:=h.agr x hx
  exact ⟨k0,e1,lift _ _ k1,k2⟩
 .rcases get m e he with h1|⟨_,rfl⟩
  exact h.all m e h1 ho hop;exact absurd hev ho
 exact h.rel.imp_of_mem λha hb hr ex ey hx hy=>hr ex ey (mem _ ha _ hx) (mem _ hb _ hy)
 .have hji:j≠i:=λe=>by rw[e,hf] at hy;cases hy
  rw[Ds _ hji,upd_ne _ _ hji];exact h.fly j y hy
 .by_cases e:j=i
  .subst e
   rw[upd_same];obtain ⟨_,e1,k1,_⟩:=h.agr x hx;have:=(Qc k1).1;omega
  .rw[Ds _ e] at hq
   rw[upd_ne _ _ e];exact h.nfl j q hq hfj x hx
theorem LS.pop (hI:EvI cl an trivS () L E id ord ()) {y:Int}(h:LS L E id R (y :: S) f) {i k:Nat}{e0:His.Ev}{x:Stp}(hn:nt L i=2*k+1) (he0:E[id i]? = some e0) (hf0:e0.fin=-1) (hop:e0.op=2) (hf:f i=none) (h9:x.op≠9) (h10:x.op≠10):
 LS (L++[x]) E id (R++[⟨id i,2,e0.a,(0,y)⟩]) S (upd f i (some y)):=by
 have hno:=h.nfl i k hn hf;refine ⟨?_,λz hz=>?_,λm e he ho hop=>?_,?_,chn_snoc (.inr (.inr (.inr ⟨rfl,y,rfl,rfl⟩))) h.chn,λj q hq=>?_,λj q hq hfj z hz=>?_⟩
 .rw[List.map_append,List.nodup_append]
  refine ⟨h.nodup,by simp,λm hm m' hm' e=>?_⟩;obtain ⟨z,hz,rfl⟩:=List.mem_map.1 hm;simp only[List.map_cons,List.map_nil,List.mem_singleton] at hm';exact hno z hz (e.trans hm')
 .rcases List.mem_append.1 hz with hz|hz
  exact h.agr z hz
  .rw[List.mem_singleton] at hz
   subst hz;exact ⟨.inr rfl,e0,he0,hop,rfl,λq=>absurd hf0 q⟩
 .obtain ⟨z,hz,e⟩:=h.all m e he ho hop
  exact ⟨z,List.mem_append_left _ hz,e⟩
 .rw[List.pairwise_append]
  refine ⟨h.rel,List.pairwise_singleton _ _,λu hu z hz=>?_⟩;rw[List.mem_singleton] at hz;subst hz;intro ex ey _ hy;have hy:E[id i]? = some ey:=hy;rw[he0] at hy;cases hy;exact .inl hf0
 .rw[Ib h9 h10]
  by_cases e:j=i
  .subst e
   rw[upd_same] at hq;cases hq;refine ⟨⟨k,hn⟩,⟨_,List.mem_append_right _ (List.mem_singleton.2 rfl),rfl⟩,λz hz hzm=>?_⟩;rcases List.mem_append.1 hz with hz|hz;exact absurd hzm (hno z hz)
   .rw[List.mem_singleton] at hz
    subst hz;rfl
  .rw[upd_ne _ _ e] at hq
   obtain ⟨⟨q1,f0⟩,⟨z,hz,f1⟩,f2⟩:=h.fly j q hq;refine ⟨⟨q1,f0⟩,⟨z,List.mem_append_left _ hz,f1⟩,λz hz hzm=>?_⟩;rcases List.mem_append.1 hz with hz|hz;exact f2 z hz hzm
   .rw[List.mem_singleton] at hz
    subst hz;exact absurd hzm (id_ne hI hn f0 e)
 .rw[Ib h9 h10] at hq
  by_cases e:j=i
  .subst e
   rw[upd_same] at hfj;cases hfj
  .rw[upd_ne _ _ e] at hfj
   rcases List.mem_append.1 hz with hz|hz;exact h.nfl j q hq hfj z hz
   .rw[List.mem_singleton] at hz
    subst hz;exact id_ne hI hn hq e
theorem LS.fin (hI:EvI cl an trivS () L E id ord ()) (h:LS L E id R S f) {i k:Nat}{c:Cl}{a:Int×Int}{e0:His.Ev}(hn:nt L i=2*k+1) (he0:E[id i]? = some e0) (hop:e0.op=c.po) (hca:e0.a=c.ca) (hf:f i=none) (hw:wayS S c a S'):
 ∃ R',LS (L++[⟨i,-1,10,k,a.1⟩]) (E.set (id i) ⟨e0.thr,e0.op,e0.a,e0.b,e0.beg,L.length,a.1,a.2⟩) id R' S' f:=by
 have hno:=h.nfl i k hn hf;have hlt0:id i<E.length:=(Qc he0).1;generalize hE:E.set (id i) (⟨e0.thr,e0.op,e0.a,e0.b,e0.beg,L.length,a.1,a.2⟩:His.Ev)=E2;have far:∀ m,m≠id i->E2[m]? = E[m]?:=λm hm=>by rw[<-hE,Qq,if_neg (λx=>hm x.symm)]
 have near:E2[id i]? = some (⟨e0.thr,e0.op,e0.a,e0.b,e0.beg,L.length,a.1,a.2⟩:His.Ev):=by rw[<-hE,Qq,if_pos rfl,if_pos hlt0]
 have ntE:∀ j q,nt (L++[⟨i,-1,10,k,a.1⟩]) j=2*q+1->j≠i∧nt L j=2*q+1:=λj q hq=>by
  have hji:j≠i:=λe=>by subst e;rw[Dp _ _ _ _ (.inr rfl),hn] at hq;omega
  rw[Ds _ hji] at hq;exact ⟨hji,hq⟩
 have agr0:∀ x∈R,(x.op=1∨x.op=2)∧∃ e,E2[x.m]? = some e∧e.op=x.op∧e.a=x.a∧(e.fin≠-1->e.ans=x.ans):=λx hx=>by rw[far _ (hno x hx)];exact h.agr x hx
 have rel0:R.Pairwise λx y=>∀ ex ey,E2[x.m]? = some ex->E2[y.m]? = some ey->ey.fin=-1∨ex.beg<ey.fin:=h.rel.imp_of_mem λha hb hr=>by rw[far _ (hno _ ha),far _ (hno _ hb)];exact hr
 have fly0:∀ j y,f j=some y->j≠i∧(∃ q,nt (L++[⟨i,-1,10,k,a.1⟩]) j=2*q+1)∧(∃ x∈R,x.m=id j)∧∀ x∈R,x.m=id j->x.ans=(0,y):=λj y hy=>by
  have hji:j≠i:=λe=>by rw[e,hf] at hy;cases hy
  rw[Ds _ hji];exact ⟨hji,h.fly j y hy⟩
 by_cases h12:c.po=1∨c.po=2
 .have hwI:wayI S ⟨id i,e0.op,e0.a,a⟩ S':=by
   rcases hw with ⟨w1,w2,w3⟩|⟨w1,w2,w3⟩|⟨w1,w2,w3,w4⟩|⟨w1,w2,w3⟩
   exact .inl ⟨hop.trans w1,w2,by rw[w3];show _=e0.a :: S;rw[hca]⟩;exact .inr (.inl ⟨hop.trans w1,w2,w3⟩);exact .inr (.inr (.inl ⟨hop.trans w1,w2,w3,w4⟩));omega
  refine ⟨R++[⟨id i,e0.op,e0.a,a⟩],?_,λz hz=>?_,λm e he ho hop'=>?_,?_,chn_snoc hwI h.chn,λj y hy=>?_,λj q hq hfj z hz=>?_⟩
  .rw[List.map_append,List.nodup_append]
   refine ⟨h.nodup,by simp,λm hm m' hm' e=>?_⟩;obtain ⟨z,hz,rfl⟩:=List.mem_map.1 hm;simp only[List.map_cons,List.map_nil,List.mem_singleton] at hm';exact hno z hz (e.trans hm')
  .rcases List.mem_append.1 hz with hz|hz
   exact agr0 z hz
   .rw[List.mem_singleton] at hz
    subst hz;exact ⟨by show e0.op=1∨e0.op=2;omega,_,near,rfl,rfl,λ_=>rfl⟩
  .by_cases em:m=id i
   exact ⟨_,List.mem_append_right _ (List.mem_singleton.2 rfl),em.symm⟩
   .rw[far m em] at he
    obtain ⟨z,hz,e⟩:=h.all m e he ho hop';exact ⟨z,List.mem_append_left _ hz,e⟩
  .rw[List.pairwise_append]
   refine ⟨rel0,List.pairwise_singleton _ _,λu hu z hz=>?_⟩;rw[List.mem_singleton] at hz;subst hz;intro ex ey hx hy;have hy:E2[id i]? = some ey:=hy;rw[near] at hy;cases hy;rw[far _ (hno u hu)] at hx;exact .inr (hI.timed _ _ hx).2.1
  .obtain ⟨hji,f0,⟨z,hz,f1⟩,f2⟩:=fly0 j y hy
   obtain ⟨q,hq⟩:=f0;refine ⟨⟨q,hq⟩,⟨z,List.mem_append_left _ hz,f1⟩,λz hz hzm=>?_⟩;rcases List.mem_append.1 hz with hz|hz;exact f2 z hz hzm
   .rw[List.mem_singleton] at hz
    subst hz;exact absurd hzm (id_ne hI hn (ntE j q hq).2 hji)
  .obtain ⟨hji,hq⟩:=ntE j q hq
   rcases List.mem_append.1 hz with hz|hz;exact h.nfl j q hq hfj z hz
   .rw[List.mem_singleton] at hz
    subst hz;exact id_ne hI hn hq hji
 .have hS:S'=S:=by
   rcases hw with ⟨w1,_⟩|⟨w1,_⟩|⟨w1,_⟩|⟨w1,w2,w3⟩
   omega;omega;omega;exact w3
  subst hS;refine ⟨R,h.nodup,agr0,λm e he ho hop'=>?_,rel0,h.chn,λj y hy=>(fly0 j y hy).2,λj q hq hfj z hz=>h.nfl j q (ntE j q hq).2 hfj z hz⟩;by_cases em:m=id i
  .rw[em,near] at he
   cases he;have:e0.op=1∨e0.op=2:=hop';omega
  .rw[far m em] at he
   exact h.all m e he ho hop'
theorem LS.told (hI:EvI cl an trivS () L E id ord ()) (h:LS L E id R S f) {i k:Nat}{y:Int}{e0:His.Ev}(hn:nt L i=2*k+1) (he0:E[id i]? = some e0) (hf:f i=some y):
 LS (L++[⟨i,-1,10,k,0⟩]) (E.set (id i) ⟨e0.thr,e0.op,e0.a,e0.b,e0.beg,L.length,0,y⟩) id R S (upd f i none):=by
 obtain ⟨_,⟨x0,hx0,ex0⟩,hall⟩:=h.fly i y hf;have hlt0:id i<E.length:=(Qc he0).1;generalize hE:E.set (id i) (⟨e0.thr,e0.op,e0.a,e0.b,e0.beg,L.length,0,y⟩:His.Ev)=E2;have far:∀ m,m≠id i->E2[m]? = E[m]?:=λm hm=>by rw[<-hE,Qq,if_neg (λx=>hm x.symm)]
 have near:E2[id i]? = some (⟨e0.thr,e0.op,e0.a,e0.b,e0.beg,L.length,0,y⟩:His.Ev):=by rw[<-hE,Qq,if_pos rfl,if_pos hlt0]
 have beg:∀ (m:Nat) (e:His.Ev),E2[m]? = some e->∃ e':His.Ev,E[m]? = some e'∧e'.beg=e.beg:=λm e he=>by
  by_cases em:m=id i
  .rw[em,near] at he
   cases he;exact ⟨e0,by rw[em];exact he0,rfl⟩
  .rw[far m em] at he
   exact ⟨e,he,rfl⟩
 have ntE:∀ j q,nt (L++[⟨i,-1,10,k,0⟩]) j=2*q+1->j≠i∧nt L j=2*q+1:=λj q hq=>by
  have hji:j≠i:=λe=>by subst e;rw[Dp _ _ _ _ (.inr rfl),hn] at hq;omega
  rw[Ds _ hji] at hq;exact ⟨hji,hq⟩
 refine ⟨h.nodup,λx hx=>?_,λm e he ho hop=>?_,?_,h.chn,λj z hz=>?_,λj q hq hfj x hx=>?_⟩
 .obtain ⟨k0,e1,k1,k2,k3,k4⟩:=h.agr x hx
  refine ⟨k0,?_⟩;by_cases em:x.m=id i
  .rw[em] at k1 ⊢
   rw[he0] at k1;cases k1;exact ⟨_,near,k2,k3,λ_=>(hall x hx em).symm⟩
  .rw[far _ em]
   exact ⟨e1,k1,k2,k3,k4⟩
 .by_cases em:m=id i
  exact ⟨x0,hx0,ex0.trans em.symm⟩
  .rw[far m em] at he
   exact h.all m e he ho hop
 .refine h.rel.imp λhr ex ey hx hy=>?_
  obtain ⟨ex',hx',hb⟩:=beg _ _ hx;rename_i u z;by_cases em:z.m=id i
  .rw[em,near] at hy
   cases hy;right;rw[<-hb];exact (hI.timed _ _ hx').2.1
  .rw[far _ em] at hy
   rw[<-hb];exact hr ex' ey hx' hy
 .have hji:j≠i:=λe=>by rw[e,upd_same] at hz;cases hz
  rw[upd_ne _ _ hji] at hz;rw[Ds _ hji];exact h.fly j z hz
 .obtain ⟨hji,hq⟩:=ntE j q hq
  rw[upd_ne _ _ hji] at hfj;exact h.nfl j q hq hfj x hx
end
theorem sn8_lin {N:Nat}{cl:Nat->List Cl}{an:Nat->List (Int×Int)}{L:List Stp}{S:List Int}{f:Nat->Option Int}(h:Sn8 N cl an L S f):∃ E id ord R,Ev9 cl an L E id∧EvI cl an trivS () L E id ord ()∧LS L E id R S f:=by
 induction h with
 |nil=>exact ⟨[],_,[],[],.nil,⟨λm e he=>by simp at he,λi k hn=>by simp[nt] at hn,λm m' e e' _ he=>by simp at he,λm e i he=>by simp at he,List.nodup_nil,λm hm=>(nomatch hm),λm e he=>by simp at he,.nil,rfl⟩,⟨.nil,λx hx=>(nomatch hx),λm e he=>(by simp at he),.nil,rfl,λi y hy=>(by cases hy),λi k hn=>(by simp[nt] at hn)⟩⟩
 |@other L S f x h h9 h10 ih =>obtain ⟨E,id,ord,R,h1,h2,h3⟩:=ih;exact ⟨E,id,ord,R,.other h1 h9 h10,h2.skip x (λi k hn=>by rw[Ib h9 h10] at hn;exact hn) (λi m _ _=>.inl (Ib h9 h10 i)),h3.skip h9 h10⟩
 |@beg L S f i k c h hi hn hc h4 hf ih =>obtain ⟨E,id,ord,R,h1,h2,h3⟩:=ih;exact ⟨_,_,ord,R,.beg h1 hn hc,h2.begin hn hc h4,h3.begin hn hf _ rfl⟩
 |@pop L S f i k c x y h hi hn hc hp hf h9 h10 ih =>
  obtain ⟨E,id,ord,R,h1,h2,h3⟩:=ih;obtain ⟨e0,c0,k1,k2,k3,k4,k5,k6,k7⟩:=h2.act i k hn;obtain rfl:c=c0:=by rw[hc] at k4;exact Qd k4
  exact ⟨E,id,ord,_,.other h1 h9 h10,h2.skip x (λi k hn=>by rw[Ib h9 h10] at hn;exact hn) (λi m _ _=>.inl (Ib h9 h10 i)),LS.pop h2 h3 hn k1 k3 (k5.trans hp) hf h9 h10⟩
 |@fin L S S' f i k c a h hi hn hc ha h4 hf hw ih =>
  obtain ⟨E,id,ord,R,h1,h2,h3⟩:=ih;obtain ⟨e0,c0,k1,k2,k3,k4,k5,k6,k7⟩:=h2.act i k hn;obtain rfl:c=c0:=by rw[hc] at k4;exact Qd k4
  obtain ⟨R',h5⟩:=LS.fin h2 h3 hn k1 k5 k6 hf hw;exact ⟨_,_,_,R',.fin (a:=a) h1 hn ha h4 k1,h2.finish (a:=a) (o:=(a,())) hn k1 k3 k2 (List.mem_singleton.2 rfl) rfl,h5⟩
 |@told L S f i k c y h hi hn hc hp ha hf ih =>obtain ⟨E,id,ord,R,h1,h2,h3⟩:=ih;obtain ⟨e0,c0,k1,k2,k3,k4,k5,k6,k7⟩:=h2.act i k hn;exact ⟨_,_,_,R,.fin (a:=(0,y)) h1 hn ha (show ¬ (0:Int)=4 by decide) k1,h2.finish (a:=(0,y)) (o:=((0,y),())) hn k1 k3 k2 (List.mem_singleton.2 rfl) rfl,LS.told h2 h3 hn k1 hf⟩
end Go.Proofs.YtbbhahigofeacaaDoor.Gen
namespace Go.Proofs.YtbbhahigofeacaaDoor.Gen
open Go Go.Lift Go.Conc Go.RowKit
open R1 (fstI verI hdI)
open Go.ConcN (upd upd_same upd_ne)
theorem sts_hd (n:Nat):(sts n n).getD (hdJ n) 0=0:=by
 rw[Ql];cases h:(sts n n)[hdJ n]? with
 |none=>rfl
 |some x =>
  show x=0;rcases sts_get n n (hdJ n) x h with h|⟨_,rfl⟩
  .have:=(Qc h).1
   rw[Fb] at this;unfold hdJ at this;omega
  rfl
theorem sts_free (n:Nat):(sts n n).getD 0 0=hdI (bh 0 n) 0∧∀ i,i<n->(sts n n).getD (nxJ i) 0=bh (i+1) n:=by
 have hlen:=G0 n n;refine ⟨?_,λi hi=>?_⟩
 .have h:(sts n n)[0]? = some ((sts n n)[0]'(by omega)):=Qf _
  rw[Ql,h];rcases sts_get n n 0 _ h with h1|h1
  .rcases nxs_get n n 0 _ h1 with h2|⟨i,_,h2,_⟩|⟨i,_,h2,_⟩
   exact h2.2;unfold nxJ at h2;omega;unfold usJ at h2;omega
  omega
 .have hl:nxJ i<(sts n n).length:=by unfold nxJ;omega
  have h:(sts n n)[nxJ i]? = some ((sts n n)[nxJ i]'hl):=Qf _;rw[Ql,h];rcases sts_get n n _ _ h with h1|h1
  .rcases nxs_get n n _ _ h1 with h2|⟨k,_,h2,h3⟩|⟨k,_,h2,_⟩
   have:=h2.1;unfold nxJ at this;omega
   .have:k=i:=by unfold nxJ at h2;omega
    subst this;exact h3
   unfold usJ nxJ at h2;omega
  have:=h1.1;unfold nxJ at this;omega
theorem lnk_free {n:Nat}{nx:Nat->Int}(h:∀ i,i<n->nx i=bh (i+1) n):∀ m,m<=n->Lnk nx (bh (n - m) n) (List.range' (n - m) m)
 |0,_=>by show bh (n - 0) n=0;unfold bh;simp
 |m+1,hm=>by
  have e:n - m=n - (m+1)+1:=by omega
  have ih:=lnk_free h m (by omega);rw[e] at ih;refine ⟨?_,?_⟩;unfold bh;rw[if_neg (by omega)]
  .rw[h _ (by omega)]
   exact ih
end Go.Proofs.YtbbhahigofeacaaDoor.Gen
namespace Go.Proofs.YtbbhahigofeacaaDoor.Gen
open Go Go.Lift Go.Conc Go.RowKit
open R1 (fstI verI hdI)
open Go.Proofs.YtbbhahigofeacaaDoor.His
open Go.ConcN (upd upd_same upd_ne)
variable {E:List His.Ev}
def isPP (e:His.Ev):Bool:=e.op==1||e.op==2
theorem isPP_iff {e:His.Ev}:isPP e=true↔e.op=1∨e.op=2:=by unfold isPP;simp
def rk (p:His.Ev->Bool):List His.Ev->Nat->Nat
 | [],_=>0
 |_ :: _,0=>0
 |x :: E,m+1=>(if p x=true then 1 else 0)+rk p E m
theorem rk_get {p:His.Ev->Bool}:∀ (E:List His.Ev) (m:Nat) (e:His.Ev),E[m]? = some e->p e=true->(E.filter p)[rk p E m]? = some e
 |x :: E,0,e,h,hp=>by
  obtain rfl:x=e:=by simpa using h
  rw[List.filter_cons_of_pos hp];rfl
 |x :: E,m+1,e,h,hp=>by
  have ih:=rk_get E m e (by simpa using h) hp;by_cases hx:p x=true
  .rw[List.filter_cons_of_pos hx]
   show (x :: E.filter p)[(if p x=true then 1 else 0)+rk p E m]? = some e;rw[if_pos hx,Nat.add_comm,List.getElem?_cons_succ];exact ih
  .rw[List.filter_cons_of_neg hx]
   show (E.filter p)[(if p x=true then 1 else 0)+rk p E m]? = some e;rw[if_neg hx,Nat.zero_add];exact ih
theorem rk_mono {p:His.Ev->Bool}:∀ (E:List His.Ev) (m m':Nat),m<=m'->rk p E m<=rk p E m'
 | [],_,_,_=>Qi _
 |_ :: _,0,_,_=>Nat.zero_le _
 |x :: E,m+1,0,h=>absurd h (Nat.not_succ_le_zero _)
 |x :: E,m+1,m'+1,h=>Nat.add_le_add_left (rk_mono E m m' (by omega)) _
theorem rk_lt {p:His.Ev->Bool}:∀ (E:List His.Ev) (m m':Nat) (e:His.Ev),E[m]? = some e->p e=true->m<m'->rk p E m<rk p E m'
 |x :: E,0,0,e,_,_,hlt=>absurd hlt (Nat.lt_irrefl _)
 |x :: E,0,m'+1,e,h,hp,_=>by
  obtain rfl:x=e:=by simpa using h
  show 0<(if p x=true then 1 else 0)+rk p E m';rw[if_pos hp];omega
 |x :: E,m+1,0,e,_,_,hlt=>absurd hlt (Nat.not_lt_zero _)
 |x :: E,m+1,m'+1,e,h,hp,hlt=>Nat.add_lt_add_left (rk_lt E m m' e (by simpa using h) hp (by omega)) _
theorem rk_on {p:His.Ev->Bool}:∀ (E:List His.Ev) (j:Nat),j<(E.filter p).length->∃ (m:Nat) (e:His.Ev),E[m]? = some e∧p e=true∧rk p E m=j
 | [],j,h=>absurd h (Nat.not_lt_zero _)
 |x :: E,j,h=>by
  by_cases hx:p x=true
  .rw[List.filter_cons_of_pos hx] at h
   cases j with
   |zero=>exact ⟨0,x,rfl,hx,rfl⟩
   |succ j =>obtain ⟨m,e,h1,h2,h3⟩:=rk_on E j (by simpa using h);refine ⟨m+1,e,by simpa using h1,h2,?_⟩;show (if p x=true then 1 else 0)+rk p E m=j+1;rw[if_pos hx,h3];omega
  .rw[List.filter_cons_of_neg hx] at h
   obtain ⟨m,e,h1,h2,h3⟩:=rk_on E j h;refine ⟨m+1,e,by simpa using h1,h2,?_⟩;show (if p x=true then 1 else 0)+rk p E m=j;rw[if_neg hx,h3];omega
theorem getD_rk {p:His.Ev->Bool}{m:Nat}{e:His.Ev}(h:E[m]? = some e) (hp:p e=true):(E.filter p).getD (rk p E m) ev0=e:=G3 (rk_get E m e h hp)
theorem hist_filter (h:Hist E) (p:His.Ev->Bool):Hist (E.filter p):=λj hj=>by
 obtain ⟨m,e,h1,h2,rfl⟩:=rk_on E j hj;have hm:=(Qc h1).1;rw[getD_rk h1 h2];have hE:=h m hm;rw[G3 h1] at hE;refine ⟨hE.1,λk hk=>?_⟩;obtain ⟨m',e',k1,k2,rfl⟩:=rk_on (p:=p) E k (by omega);rw[getD_rk k1 k2];have hlt:m'<m:=by rcases Nat.lt_or_ge m' m with h|h;exact h;have:=rk_mono (p:=p) E m m' h;omega
 have:=hE.2 m' hlt;rw[G3 k1] at this;exact this
theorem chn_acc {E:List His.Ev}:∀ (R:List It) (S T:List Int),chn S R T->(∀ x∈R,∃ e,E[x.m]? = some e∧isPP e=true∧e.op=x.op∧e.a=x.a∧(e.fin≠-1->e.ans=x.ans)) ->
 Acc (Bl 2 0) S.reverse ((R.map λx=>rk isPP E x.m).map λi=>(E.filter isPP).getD i ev0)
 | [],_,_,_,_=>trivial
 |x :: R,S,T,h,ha=>by
  obtain ⟨S1,h1,h2⟩:=h;obtain ⟨e,e1,e2,e3,e4,e5⟩:=ha x (List.mem_cons_self ..);have ih:=chn_acc R S1 T h2 (λy hy=>ha y (List.mem_cons_of_mem _ hy));rw[List.map_cons,List.map_cons,getD_rk e1 e2];have ew:∀ s,Bl 2 0 s e=Dj s e:=λ_=>rfl;have hov:∀ z:Int×Int,z=x.ans->e.over=true->z=e.ans:=λz hz ho=>hz.trans (e5 (F2.1 ho)).symm;rcases h1 with ⟨w1,w2,w3⟩|⟨w1,w2,w3⟩|⟨w1,w2,w3,w4⟩|⟨w1,y,w2,w3⟩
  .refine ⟨((0,0),S1.reverse),?_,hov _ w2.symm,ih⟩
   rw[ew];unfold Dj;rw[if_pos (e3.trans w1),w3,List.reverse_cons,e4];simp
  .refine ⟨((80,0),S1.reverse),?_,hov _ w2.symm,ih⟩
   rw[ew];unfold Dj;rw[if_pos (e3.trans w1),w3];simp
  .refine ⟨((90,0),S1.reverse),?_,hov _ w3.symm,ih⟩
   rw[ew];unfold Dj;rw[if_neg (by rw[e3,w1];decide),if_pos (e3.trans w1),w4,w2];simp
  .refine ⟨((0,y),S1.reverse),?_,hov _ w3.symm,ih⟩
   rw[ew];unfold Dj;rw[if_neg (by rw[e3,w1];decide),if_pos (e3.trans w1),w2,List.reverse_reverse,List.reverse_cons];simp
theorem LS.lin {L:List Stp}{id:Nat->Nat}{R:List It}{S:List Int}{f:Nat->Option Int}(h:LS L E id R S f):Lin (Bl 2 0) (Dq 2 0) (E.filter isPP):=by
 have hag:∀ x∈R,∃ e,E[x.m]? = some e∧isPP e=true∧e.op=x.op∧e.a=x.a∧(e.fin≠-1->e.ans=x.ans):=λx hx=>by obtain ⟨h1,e,h2,h3,h4⟩:=h.agr x hx;exact ⟨e,h2,isPP_iff.2 (by omega),h3,h4⟩
 have hnd:R.Pairwise λx y=>x.m≠y.m:=List.pairwise_map.1 h.nodup;have e0:Dq 2 0=([]:List Int).reverse:=by unfold Dq;rw[if_pos rfl];rfl
 rw[e0];refine ⟨R.map λx=>rk isPP E x.m,?_,λj hj=>?_,λj hj ho=>?_,?_,chn_acc R [] S h.chn hag⟩
 .refine List.pairwise_map.2 (hnd.imp_of_mem λ{x y} hx hy hne e=>?_)
  obtain ⟨e1,a1,a2,_⟩:=hag x hx;obtain ⟨e2,b1,b2,_⟩:=hag y hy;rcases Nat.lt_trichotomy x.m y.m with h|h|h;have:=rk_lt E x.m y.m e1 a1 a2 h;omega;exact hne h;have:=rk_lt E y.m x.m e2 b1 b2 h;omega
 .obtain ⟨x,hx,rfl⟩:=List.mem_map.1 hj
  obtain ⟨e1,a1,a2,_⟩:=hag x hx;exact (Qc (rk_get E x.m e1 a1 a2)).1
 .obtain ⟨m,e,h1,h2,rfl⟩:=rk_on E j hj
  rw[getD_rk h1 h2] at ho;obtain ⟨x,hx,rfl⟩:=h.all m e h1 (F2.1 ho) (isPP_iff.1 h2);exact List.mem_map.2 ⟨x,hx,rfl⟩
 .refine List.pairwise_map.2 (h.rel.imp_of_mem λ{x y} hx hy hr=>?_)
  obtain ⟨e1,a1,a2,_⟩:=hag x hx;obtain ⟨e2,b1,b2,_⟩:=hag y hy;rw[getD_rk a1 a2,getD_rk b1 b2];unfold Bq;rcases hr e1 e2 a1 b1 with h|h
  .have:e2.over=false:=by
    cases ho:e2.over with
    |false=>rfl
    |true=>exact absurd h (F2.1 ho)
   rw[this];rfl
  .rw[Bool.and_eq_false_iff]
   right;exact decide_eq_false (by omega)
theorem fw_ntx {mc:Mc}{i:Nat}{stk:Bool}{rest:List Cl}{ii:Nat}{sk:Bool}{ans:List (Int×Int)}{X:List Stp}{l:Ph}(h:Fw mc i stk rest ii sk ans X l):∀ (L:List Stp) (j:Nat),j≠i->nt (L++X) j=nt L j:=by
 induction h with
 |nil=>intro L j _;rw[List.append_nil]
 |skip _ ih=>exact ih
 |@ans c rest ii ans X l e x hs hf ih =>intro L j hj;have:=ih ((L++[⟨i,-1,9,ii,0⟩])++[⟨i,-1,10,ii,e⟩]) j hj;rw[Ds _ hj,Ds _ hj] at this;simpa only[List.append_assoc,List.singleton_append,List.cons_append,List.nil_append] using this
 |turn=>intro L j hj;exact Ds _ hj _ _ _
 |wait=>intro L j hj;exact Ds _ hj _ _ _
theorem hi_sn8 {n N:Nat}{cl:Nat->List Cl}{k:Nat}{cs:List (List Cl)}{v v':Vw}(h:Hi (mcT n) k cs v v'):cs=(List.range' k cs.length).map cl->k+cs.length=N->v.stk=false->(∀ i,k<=i->nt v.L i=0)->(∀ i,k<=i->i<N->v.l i=.done [])->Sn8 N cl (λi=>(v.l i).ans) v.L [] (fvT n N v)->(∀ i,i<k->flP n (λj=>v.K.getD j 0) (v.l i)=[])->Sn8 N cl (λi=>(v'.l i).ans) v'.L [] (fvT n N v'):=by
 induction h with
 |nil=>intro _ _ _ _ _ hA _;exact hA
 |@cons k c cs v v1 v2 X l' hF e1 e2 e3 e4 e5 h ih =>
  intro hc hN hsk h0 hd hA hfl;rw[List.length_cons,List.range'_succ,List.map_cons] at hc;obtain ⟨hc1,hc2⟩:=List.cons.inj hc;subst hc1;simp only[List.length_cons] at hN;rw[hsk] at hF;have hf0:fvT n N v k=none:=by unfold fvT;rw[if_pos (by omega),hd k (Qi _) (by omega)];rfl
  have hfl0:=(fw_j hF (cl k) (λj=>v1.K.getD j 0) rfl (Nat.zero_le _) rfl (by simp)).2.1;have eK:(λj=>v1.K.getD j 0)=λj=>v.K.getD j 0:=by rw[e1]
  have hA':Sn8 N cl (upd (λi=>(v.l i).ans) k (List.replicate (cl k).length (0,0))) v.L [] (fvT n N v):=hA.mono λj q hq=>by by_cases e:j=k;subst e;rw[h0 j (Qi _)] at hq;omega;rw[upd_ne _ _ e]
  have b:=fw_sn (by omega:k<N) hF rfl rfl (Nat.zero_le _) (by simp) _ _ _ _ hA' hf0 (h0 k (Qi _)) (λq a hq _=>by omega);have ef:fvT n N v1=fvT n N v:=by
   funext j;unfold fvT;by_cases hj:j<N
   .rw[if_pos hj,if_pos hj,e5.l]
    by_cases e:j=k
    .subst e
     rw[upd_same,hfl0,hd j (Qi _) hj];rfl
    rw[upd_ne _ _ e,eK]
   rw[if_neg hj,if_neg hj]
  refine ih hc2 (by omega) (e2.trans hsk) (λi hi=>?_) (λi hi hiN=>?_) ?_ (λi hi=>?_);rw[e4,fw_ntx hF _ i (by omega)];exact h0 i (by omega);rw[e5.l,upd_ne _ _ (by omega)];exact hd i (by omega) hiN;rw[ef,e4,e5.l,ans_upd];exact b
  .rw[e5.l]
   by_cases e:i=k;subst e;rw[upd_same];exact hfl0;rw[upd_ne _ _ e,eK];exact hfl i (by omega)
end Go.Proofs.YtbbhahigofeacaaDoor.Gen
