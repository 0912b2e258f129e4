/- OnceLinear, part 20 of 26: OnI, OnI2, OnI3, OnLin, OnLin2, OnLin3. -/
import Derived.Test.YtfjjoohflcchnaaDoorOnceLinear01
import Derived.Test.YtfjjoohflcchnaaDoorOnceLinear18
import Derived.Test.YtfjjoohflcchnaaDoorOnceLinear19
set_option linter.unusedSimpArgs false
set_option linter.unusedVariables false
set_option maxHeartbeats 4000000
set_option maxRecDepth 100000
noncomputable section
namespace Go.Proofs.YtfjjoohflcchnaaDoor.Gen
open Go Go.Lift Go.Conc Go.RowKit
open Go.ConcN (upd upd_same upd_ne)
variable {N i ii j k o t:Nat} {K K':List Int} {x:Int} {cs:List Cl} {l:Ph} {X:List Stp} {v:Vw}
def isO (c:Cl):Prop:=1<=c.po∧c.po<=4
def actR (c:Cl):Int×Int:=if c.po=4 then (70,72) else cmO (c.po - 1) c.cb
theorem actR_code (c:Cl):(0<=(actR c).1∧(actR c).1<1048576)∧(actR c).1≠4:=by
 unfold actR cmO;split;simp
 .split
  simp
  .split<;>simp
abbrev wdO (K:List Int) (o:Nat):Int:=K.getD (2*o) 0
abbrev vlO (K:List Int) (o:Nat):Int:=K.getD (2*o+1) 0
abbrev lOc (m:Nat) (c:Cl) (d i:Nat):List Int:=lO (which c.ca m) (c.po - 1) c.cb d i
def CSeat (m:Nat) (c:Cl) (K:List Int) (i:Nat) (op:Int) (j:Nat) (q:Q):Prop :=
 (op=1∧j=2*which c.ca m∧q=(1,lOc m c 0 i)) ∨
 (op=4∧j=2*which c.ca m∧q=(3,lOc m c 0 i++[0])) ∨
 (op=1∧j=2*which c.ca m+1∧q=(2,lOc m c 0 i++[R1.codI (wdO K (which c.ca m))])∧R1.stI (wdO K (which c.ca m))=2) ∨
 (op=1∧j=2*which c.ca m∧q=(1,lOc m c 1 i)∧c.po=4∧wdO K (which c.ca m)=R1.Ae 1 i 0) ∨
 (op=2∧j=2*which c.ca m+1∧q=(5,lOc m c 0 i++[(actR c).1,(actR c).2])∧wdO K (which c.ca m)=R1.Ae 1 i 0) ∨
 (op=2∧j=2*which c.ca m∧q=(6,lOc m c 0 i++[(actR c).1,(actR c).2])∧wdO K (which c.ca m)=R1.Ae 1 i 0∧vlO K (which c.ca m)=(actR c).2)
def SeatO (m:Nat) (cl:List Cl) (K:List Int) (se:Int) (i:Nat):Ph->Prop
 |.done ans=>ans.length=cl.length
 |.turn op j q rest ii ans=>ans.length=cl.length∧rest=cl.drop (ii+1)∧∃ c,cl[ii]? = some c∧isO c∧CSeat m c K i op j q
 |.wait j q rest ii ans=>ans.length=cl.length∧rest=cl.drop (ii+1)∧∃ c,cl[ii]? = some c∧isO c∧j=2*which c.ca m∧q=(4,lOc m c 0 i)∧se=1
def upO (cl:List Cl):Ph->Nat
 |.turn _ _ _ _ ii _=>ii
 |.wait _ _ _ ii _=>ii
 |.done _=>cl.length
def EndO (m:Nat) (cl:List Cl) (K:List Int) (l:Ph):Prop:=∀ k c,k<upO cl l->cl[k]? = some c->isO c->R1.stI (wdO K (which c.ca m))=2∧l.ans[k]? = some (R1.codI (wdO K (which c.ca m)),vlO K (which c.ca m))
def BldP (o:Nat) (l:Ph):Prop:=∃ op j q r k a,l=.turn op j q r k a∧oA q=o∧(q.1=5∨q.1=6∨(q.1=1∧dA q=1))
def ActO (N m:Nat) (cl:Nat->List Cl) (o:Nat) (a:Int×Int):Prop:=∃ i,i<N∧∃ (k:Nat) (c:Cl),(cl i)[k]? = some c∧isO c∧which c.ca m=o∧actR c=a
def WordO (N m:Nat) (cl:Nat->List Cl) (v:Vw) (o:Nat):Prop :=
 (wdO v.K o=0∧v.chg.getD (2*o) 0=0) ∨
 (∃ t,t<N∧wdO v.K o=R1.Ae 1 t 0∧v.chg.getD (2*o) 0=1∧BldP o (v.l t)) ∨
 (∃ e,wdO v.K o=R1.Ae 2 0 e∧v.chg.getD (2*o) 0=2∧(0<=e∧e<1048576)∧e≠4∧ActO N m cl o (e,vlO v.K o))
structure OV (N m:Nat) (cl:Nat->List Cl) (v:Vw):Prop where
 kl:v.K.length=2*m
 cgl:v.chg.length=2*m
 stk:v.stk=false
 seat:∀ i,i<N->SeatO m (cl i) v.K (v.se i) i (v.l i)
 word:∀ o,o<m->WordO N m cl v o
 ends:∀ i,i<N->EndO m (cl i) v.K (v.l i)
section
variable {m N:Nat}{cl:Nat->List Cl}
theorem st0:R1.stI 0=0:=by kernel_rfl
theorem st1 (i:Nat):R1.stI (R1.Ae 1 i 0)=1:=R1.st_word (by decide) (by decide)
theorem st2 (e:Int):R1.stI (R1.Ae 2 0 e)=2:=R1.st_word (by decide) (by decide)
theorem who1 (h:i<256):R1.whoI (R1.Ae 1 i 0)=i:=R1.who_word (by decide) (by decide) (by omega) (by omega) (by decide) (by decide)
theorem cod2 {e:Int}(h:0<=e∧e<1048576):R1.codI (R1.Ae 2 0 e)=e:=R1.cod_word (by decide) (by decide) (by decide) (by decide) h.1 h.2
theorem word1_inj (hi:i<256) (ht:t<256) (h:R1.Ae 1 i 0=R1.Ae 1 t 0):i=t:=by have:=congrArg R1.whoI h;rw[who1 hi,who1 ht] at this;omega
theorem getD_set {a b:Nat}(ha:a<K.length):(K.set a x).getD b 0=if a=b then x else K.getD b 0:=by rw[Ql,Qq,Ql];by_cases e:a=b;subst e;rw[if_pos rfl,if_pos rfl,if_pos ha];rfl;rw[if_neg e,if_neg e]
theorem Ar :K.set j (K.getD j 0)=K:=by
 apply List.ext_getElem?;intro k;rw[Qq];split
 .rename_i e
  subst e;split
  .rename_i h
   rw[Ql,Qf h];rfl
  .rename_i h
   rw[List.getElem?_eq_none (by omega)]
 rfl
theorem bump_same (g:List Int) (j:Nat) (x:Int):bump g j x x=g:=by unfold bump;rw[if_neg (by simp)]
theorem bump_get {g:List Int}{y:Int}(hj:j<g.length) (hxy:x≠y):(bump g j x y).getD k 0=if j=k then wrap64 (g.getD k 0+1) else g.getD k 0:=by
 unfold bump;rw[if_pos ⟨hxy,hj⟩,Ql,List.getElem?_modify,Ql];by_cases e:j=k
 .subst e
  rw[if_pos rfl,Qf hj];simp
 .simp only[if_neg e]
  cases g[k]?<;>rfl
theorem bump_far {g:List Int}{y:Int}(hjk:j≠k):(bump g j x y).getD k 0=g.getD k 0:=by
 unfold bump;split
 .rw[Ql,List.getElem?_modify,Ql]
  simp only[if_neg hjk];cases g[k]?<;>rfl
 rfl
theorem bump_len (g:List Int) (j:Nat) (x y:Int):(bump g j x y).length=g.length:=by unfold bump;split;rw[List.length_modify];rfl
structure Sty (o i:Nat) (K K':List Int):Prop where
 oth:∀ o',o'≠o->wdO K' o'=wdO K o'∧vlO K' o'=vlO K o'
 mine:wdO K o=0∨wdO K o=R1.Ae 1 i 0
theorem Sty.not2 (h:Sty o i K K'):R1.stI (wdO K o)≠2:=by rcases h.mine with e|e;rw[e,st0];decide;rw[e,st1];decide
theorem Sty.notT (h:Sty o i K K') (hi:i<256) (ht:t<256) (hti:t≠i):wdO K o≠R1.Ae 1 t 0:=λe=>by
 rcases h.mine with e'|e'
 .rw[e'] at e
  have:=congrArg R1.stI e;rw[st0,st1] at this;cases this
 .rw[e'] at e
  exact hti (word1_inj hi ht e).symm
theorem CSeat.sta {c:Cl}{op:Int}{q:Q}(h:Sty o i K K') (hi:i<256) (ht:t<256) (hti:t≠i) (hs:CSeat m c K t op j q):CSeat m c K' t op j q:=by
 by_cases e:which c.ca m=o
 .unfold CSeat at hs ⊢
  rw[e] at hs ⊢;rcases hs with hs|hs|⟨_,_,_,h4⟩|⟨_,_,_,_,h4⟩|⟨_,_,_,h4⟩|⟨_,_,_,h4,_⟩
  exact .inl hs;exact .inr (.inl hs);exact absurd h4 h.not2;exact absurd h4 (h.notT hi ht hti);exact absurd h4 (h.notT hi ht hti);exact absurd h4 (h.notT hi ht hti)
 .obtain ⟨e1,e2⟩:=h.oth _ e
  unfold CSeat at hs ⊢;rw[e1,e2];exact hs
theorem SeatO.sta {se se':Int}(h:Sty o i K K') (hi:i<256) (ht:t<256) (hti:t≠i) (hse:se'=se) (hs:SeatO m cs K se t l):SeatO m cs K' se' t l:=by
 subst hse;cases l with
 |done a=>exact hs
 |turn op j q r ii a =>obtain ⟨h1,h2,c,h3,h4,h5⟩:=hs;exact ⟨h1,h2,c,h3,h4,h5.sta h hi ht hti⟩
 |wait j q r ii a=>exact hs
theorem EndO.sta (h:Sty o i K K') (hs:EndO m cs K l):EndO m cs K' l:=λk c h1 h2 h3=>by
 obtain ⟨q1,q2⟩:=hs k c h1 h2 h3;by_cases e:which c.ca m=o
 .rw[e] at q1
  exact absurd q1 h.not2
 .obtain ⟨e1,e2⟩:=h.oth _ e
  rw[e1,e2];exact ⟨q1,q2⟩
theorem fw_O {rest:List Cl}{sk:Bool}{ans:List (Int×Int)}(h:Fw (mcO m) i false rest ii sk ans X l):
 sk=false->rest=cs.drop ii->ii<=cs.length->ans.length=cs.length->∀ K se,SeatO m cs K se i l∧ii<=upO cs l∧(∀ k c,ii<=k->k<upO cs l->cs[k]? = some c->¬ isO c)∧(∀ k,k<ii->l.ans[k]? = ans[k]?)∧∀ o,¬ BldP o l:=by
 induction h with
 |@nil ii sk ans =>
  intro _ hr hi ha K se;have hge:cs.length<=ii:=by have:=congrArg List.length hr;simp at this;omega
  exact ⟨ha,hi,λk c h1 h2=>by have h2:k<cs.length:=h2;omega,λk hk=>rfl,λo hb=>by obtain ⟨op,j,q,r,k,a,e,_⟩:=hb;cases e⟩
 |skip=>intro hsk;cases hsk
 |@ans c rest ii ans X l e x hst _ ih =>
  intro _ hr hi ha K se;rw[Mc.set_false] at hst;have hcs:cs[ii]? = some c:=by have:=congrArg (·[0]?) hr;simpa using this.symm
  have hlt:=(Qc hcs).1;have hno:¬ isO c:=λhc=>by have hst':(if 1<=c.po∧c.po<=4 then Nx.turn 1 (2*which c.ca m) (1,lO (which c.ca m) (c.po - 1) c.cb 0 i) else .ans 1 0)=.ans e x:=hst;rw[if_pos (show 1<=c.po∧c.po<=4 from hc)] at hst';cases hst'
  have hex:e=1∧x=0:=by have hst':(if 1<=c.po∧c.po<=4 then Nx.turn 1 (2*which c.ca m) (1,lO (which c.ca m) (c.po - 1) c.cb 0 i) else .ans 1 0)=.ans e x:=hst;rw[if_neg (show ¬ (1<=c.po∧c.po<=4) from hno)] at hst';cases hst';exact ⟨rfl,rfl⟩
  obtain ⟨rfl,rfl⟩:=hex;obtain ⟨q1,q2,q3,q4,q5⟩:=ih rfl (by rw[<-List.tail_drop,<-hr];rfl) hlt (by rw[List.length_set];exact ha) K se;refine ⟨q1,by omega,λk c' h1 h2 h3=>?_,λk hk=>?_,q5⟩
  .by_cases hk:k=ii
   .subst hk
    rw[hcs] at h3;cases h3;exact hno
   exact q3 k c' (by omega) h2 h3
  rw[q4 k (by omega),Qq,if_neg (by omega)]
 |@turn c rest ii ans op j q hst =>
  intro _ hr hi ha K se;rw[Mc.set_false] at hst;have hcs:cs[ii]? = some c:=by have:=congrArg (·[0]?) hr;simpa using this.symm
  have hst':(if 1<=c.po∧c.po<=4 then Nx.turn 1 (2*which c.ca m) (1,lO (which c.ca m) (c.po - 1) c.cb 0 i) else .ans 1 0)=.turn op j q:=hst;by_cases hc:1<=c.po∧c.po<=4
  .rw[if_pos hc] at hst'
   cases hst';refine ⟨⟨ha,by rw[<-List.tail_drop,<-hr];rfl,c,hcs,hc,.inl ⟨rfl,rfl,rfl⟩⟩,Qi _,λk c' h1 h2=>by have h2:k<ii:=h2;omega,λk _=>rfl,λo hb=>?_⟩;obtain ⟨op,j,q,r,k,a,e,_,e2⟩:=hb;cases e;rcases e2 with e2|e2|⟨_,e2⟩
   cases e2;cases e2
   .have:=dA_l 1 (which c.ca m) (c.po - 1) c.cb 0 i []
    rw[List.append_nil] at this;rw[this] at e2;cases e2
  .rw[if_neg hc] at hst'
   cases hst'
 |@wait c rest ii ans j q hst =>intro _ hr hi ha K se;rw[Mc.set_false] at hst;have hst':(if 1<=c.po∧c.po<=4 then Nx.turn 1 (2*which c.ca m) (1,lO (which c.ca m) (c.po - 1) c.cb 0 i) else .ans 1 0)=.wait j q:=hst;split at hst'<;>cases hst'
end
section
variable {m N:Nat}{cl:Nat->List Cl}{v v1:Vw}{i:Nat}{l':Ph}
theorem OV.go (h:OV N m cl v) (e:Els i l' v v1) (hst:v1.stk=v.stk) (kl:v1.K.length=2*m) (cg:v1.chg.length=2*m) (hseat:SeatO m (cl i) v1.K (v1.se i) i l') (hend:EndO m (cl i) v1.K l')
 (hoth:∀ t,t≠i->t<N->SeatO m (cl t) v1.K (v.se t) t (v.l t)∧EndO m (cl t) v1.K (v.l t)) (hw:∀ o,o<m->WordO N m cl v1 o):OV N m cl v1:=by
 refine ⟨kl,cg,hst.trans h.stk,λt ht=>?_,hw,λt ht=>?_⟩
 .by_cases ht':t=i
  .subst ht';rw[e.l,upd_same];exact hseat
  rw[e.l,upd_ne _ _ ht',e.oth t ht'];exact (hoth t ht' ht).1
 .by_cases ht':t=i
  subst ht';rw[e.l,upd_same];exact hend;rw[e.l,upd_ne _ _ ht'];exact (hoth t ht' ht).2
theorem OV.same (h:OV N m cl v) (hi:i<N) (e:Els i l' v v1) (hst:v1.stk=v.stk) (hK:v1.K=v.K) (hg:v1.chg=v.chg) (hseat:SeatO m (cl i) v.K (v1.se i) i l') (hend:EndO m (cl i) v.K l') (hb:∀ o,BldP o (v.l i)->BldP o l'):OV N m cl v1:=by
 refine h.go e hst (by rw[hK];exact h.kl) (by rw[hg];exact h.cgl) (by rw[hK];exact hseat) (by rw[hK];exact hend) (λt _ ht=>by rw[hK];exact ⟨h.seat t ht,h.ends t ht⟩) (λo ho=>?_);unfold WordO;rw[hK,hg];rcases h.word o ho with w|⟨t,w1,w2,w3,w4⟩|w;exact .inl w
 .refine .inr (.inl ⟨t,w1,w2,w3,?_⟩)
  rw[e.l];by_cases ht:t=i;subst ht;rw[upd_same];exact hb o w4;rw[upd_ne _ _ ht];exact w4
 exact .inr (.inr w)
theorem bld_not {op:Int}{q:Q}{r:List Cl}{a:List (Int×Int)}(h5:q.1≠5) (h6:q.1≠6) (h1:q.1=1->dA q=0):¬ BldP o (.turn op j q r k a):=λhb=>by
 obtain ⟨op',j',q',r',k',a',e,_,e2⟩:=hb;cases e;rcases e2 with e2|e2|⟨e2,e3⟩
 exact h5 e2;exact h6 e2;have:=h1 e2;omega
theorem chg_nat (g:List Int) (j:Nat):chgOf g (j:Int)=g.getD j 0:=by unfold chgOf;rw[if_neg (by omega)];rfl
theorem dA_0 (n o:Nat) (k b:Int) (d i:Nat):dA (n,lO o k b d i)=d:=by have:=dA_l n o k b d i [];rwa [List.append_nil] at this
theorem oA_0 (n o:Nat) (k b:Int) (d i:Nat):oA (n,lO o k b d i)=o:=by have:=oA_l n o k b d i [];rwa [List.append_nil] at this
theorem ans_go {c:Cl}{rest:List Cl}{ans:List (Int×Int)}{a:Int×Int}{se:Int}(hfw:Fw (mcO m) i false rest (ii+1) (a.1==4) (ans.set ii a) X l') (h4:a.1≠4) (hal:ans.length=cs.length) (hr:rest=cs.drop (ii+1)) (hc:cs[ii]? = some c)
 (hst:R1.stI (wdO K (which c.ca m))=2) (ha:a=(R1.codI (wdO K (which c.ca m)),vlO K (which c.ca m)))
 (hold:∀ k c,k<ii->cs[k]? = some c->isO c->R1.stI (wdO K (which c.ca m))=2∧ans[k]? = some (R1.codI (wdO K (which c.ca m)),vlO K (which c.ca m))):
 SeatO m cs K se i l'∧EndO m cs K l'∧∀ o,¬ BldP o l':=by
 have hlt:=(Qc hc).1;obtain ⟨q1,q2,q3,q4,q5⟩:=fw_O hfw (by simpa using h4) hr hlt (by rw[List.length_set];exact hal) K se;refine ⟨q1,λk c' h1 h2 h3=>?_,q5⟩;by_cases hk:k<ii
 .obtain ⟨p1,p2⟩:=hold k c' hk h2 h3
  exact ⟨p1,by rw[q4 k (by omega),Qq,if_neg (by omega)];exact p2⟩
 .by_cases hk2:k=ii
  .subst hk2
   rw[hc] at h2;cases h2;refine ⟨hst,?_⟩;rw[q4 k (by omega),Qq,if_pos rfl,if_pos (by omega),ha]
  exact absurd h3 (q3 k c' (by omega) h1 h2)
theorem oi_mv (h0:0<m) (hN:N<=256) (h:OV N m cl v) (hm:Mv (mcO m) N v v1):OV N m cl v1:=by
 cases hm with
 |stuck hs hall hex _ =>
  obtain ⟨t,ht,j,q,r,k,a,hl⟩:=hex;exfalso;have hse:=h.seat t ht;rw[hl] at hse;obtain ⟨_,_,c,_,_,hj,_,hs1⟩:=hse;have hch:chgOf v.chg j=v.se t:=by
   rcases hall t ht with ⟨a',e⟩|⟨j',q',r',k',a',e,e2⟩
   rw[hl] at e;cases e;rw[hl] at e;cases e;exact e2
  have ho:=which_lt c.ca h0;have hg:v.chg.getD (2*which c.ca m) 0=1:=by rw[hs1,hj,chg_nat] at hch;exact hch
  rcases h.word _ ho with ⟨_,w⟩|⟨b,w1,_,_,op,j',q',r',k',a',e,_⟩|⟨e,_,w,_⟩
  rw[w] at hg;cases hg
  .rcases hall b w1 with ⟨a'',e2⟩|⟨j'',q'',r'',k'',a'',e2,_⟩
   rw[e] at e2;cases e2;rw[e] at e2;cases e2
  rw[w] at hg;cases hg
 |turn i op j q rest ii ans X l' hi hl ho e hK hst hg hL =>
  rw[h.stk,Mc.set_false] at ho;have hs:=h.seat i hi;have hen:=h.ends i hi;rw[hl] at hs hen;obtain ⟨hal,hr,c,hc,hco,hse⟩:=hs;have hold:∀ k c,k<ii->(cl i)[k]? = some c->isO c->R1.stI (wdO v.K (which c.ca m))=2∧ans[k]? = some (R1.codI (wdO v.K (which c.ca m)),vlO v.K (which c.ca m)):=hen;have hom:=which_lt c.ca h0;have hw:=h.word _ hom;have hlw:2*which c.ca m<v.K.length:=by rw[h.kl];omega
  have hlv:2*which c.ca m+1<v.K.length:=by rw[h.kl];omega
  have hgw:2*which c.ca m<v.chg.length:=by rw[h.cgl];omega
  rcases hse with ⟨rfl,rfl,rfl⟩|⟨rfl,rfl,rfl⟩|⟨rfl,rfl,rfl,h2⟩|⟨rfl,rfl,rfl,hp4,hwi⟩|⟨rfl,rfl,rfl,hwi⟩|⟨rfl,rfl,rfl,hwi,hvi⟩
  . -- it looks
   rw[turn1] at ho hK hg;have hK:v1.K=v.K:=hK.trans Ar;have hg:v1.chg=v.chg:=hg.trans (bump_same _ _ _);have hnb:∀ o,BldP o (v.l i)->BldP o l':=λo hb=>by rw[hl] at hb;exact absurd hb (bld_not (by simp) (by simp) (λ_=>dA_0 _ _ _ _ _ _))
   have ho:On (mcO m) i false rest ii ans (Av (which c.ca m) (c.po - 1) c.cb 0 i (wdO v.K (which c.ca m))) X l':=ho;unfold Av at ho;rcases hw with ⟨w,_⟩|⟨t,w1,w2,w3,w4⟩|⟨e2,w1,w2,w3,w4,w5⟩
   .rw[w,if_neg (by rw[st0];decide),if_pos st0] at ho
    cases ho;exact h.same hi e hst hK hg ⟨hal,hr,c,hc,hco,.inr (.inl ⟨rfl,rfl,rfl⟩)⟩ hen hnb
   .have hti:t≠i:=λq=>by subst q;rw[hl] at w4;exact absurd w4 (bld_not (by simp) (by simp) (λ_=>dA_0 _ _ _ _ _ _))
    rw[w2,if_neg (by rw[st1];decide),if_neg (by rw[st1];decide),if_neg (by rw[who1 (by omega)];omega)] at ho;cases ho;refine h.same hi e hst hK hg ⟨hal,hr,c,hc,hco,rfl,rfl,?_⟩ hen hnb;rw[e.own _ _ _ _ _ rfl,hg,chg_nat];exact w3
   .rw[if_pos (by rw[w1];exact st2 e2)] at ho
    cases ho;exact h.same hi e hst hK hg ⟨hal,hr,c,hc,hco,.inr (.inr (.inl ⟨rfl,rfl,rfl,by rw[w1];exact st2 e2⟩))⟩ hen hnb
  . -- it tries
   rw[turn3] at ho hK hg;have hnb:∀ o,BldP o (v.l i)->BldP o l':=λo hb=>by rw[hl] at hb;exact absurd hb (bld_not (by simp) (by simp) (λq=>by simp at q))
   by_cases hx:wdO v.K (which c.ca m)=0
   .rw[if_pos hx] at ho hK hg
    have hK:v1.K=v.K.set (2*which c.ca m) (R1.Ae 1 i 0):=hK;have hg:v1.chg=bump v.chg (2*which c.ca m) 0 (R1.Ae 1 i 0):=hg;have ho:On (mcO m) i false rest ii ans (Au (which c.ca m) (c.po - 1) c.cb 0 i) X l':=ho;have hne:(0:Int)≠R1.Ae 1 i 0:=λq=>by have:=congrArg R1.stI q;rw[st0,st1] at this;cases this
    have sty:Sty (which c.ca m) i v.K v1.K:=⟨λo' q=>by rw[hK];unfold wdO vlO;rw[getD_set hlw,getD_set hlw,if_neg (by omega),if_neg (by omega)];exact ⟨rfl,rfl⟩,.inl hx⟩
    have hw1:wdO v1.K (which c.ca m)=R1.Ae 1 i 0:=by rw[hK];unfold wdO;rw[getD_set hlw,if_pos rfl]
    have key:SeatO m (cl i) v1.K (v1.se i) i l'∧EndO m (cl i) v1.K l'∧BldP (which c.ca m) l':=by
     unfold Au at ho;split at ho
     .rename_i h3
      cases ho;refine ⟨⟨hal,hr,c,hc,hco,.inr (.inr (.inr (.inl ⟨rfl,rfl,rfl,by omega,hw1⟩)))⟩,hen.sta sty,_,_,_,_,_,_,rfl,oA_0 _ _ _ _ _ _,.inr (.inr ⟨rfl,dA_0 _ _ _ _ _ _⟩)⟩
     .rename_i h3
      cases ho;have ea:actR c=cmO (c.po - 1) c.cb:=by unfold actR;rw[if_neg (by omega)]
      refine ⟨⟨hal,hr,c,hc,hco,.inr (.inr (.inr (.inr (.inl ⟨rfl,rfl,by rw[ea],hw1⟩))))⟩,hen.sta sty,_,_,_,_,_,_,rfl,oA_l _ _ _ _ _ _ _,.inl rfl⟩
    refine h.go e hst (by rw[hK,List.length_set];exact h.kl) (by rw[hg,bump_len];exact h.cgl) key.1 key.2.1 (λt q ht=>⟨(h.seat t ht).sta sty (by omega) (by omega) q rfl,(h.ends t ht).sta sty⟩) (λo ho'=>?_);by_cases q:o=which c.ca m
    .subst q
     refine .inr (.inl ⟨i,hi,hw1,?_,by rw[e.l,upd_same];exact key.2.2⟩);rw[hg,bump_get hgw hne,if_pos rfl];rcases hw with ⟨_,w⟩|⟨t,w1,w2,_⟩|⟨e2,w1,_⟩
     rw[w];simp[wrap64]
     .rw[hx] at w2
      have:=congrArg R1.stI w2;rw[st0,st1] at this;cases this
     .rw[hx] at w1
      have:=congrArg R1.stI w1;rw[st0,st2] at this;cases this
    .unfold WordO
     rw[(sty.oth o q).1,(sty.oth o q).2,hg,bump_far (by omega)];rcases h.word o ho' with w|⟨t,w1,w2,w3,w4⟩|w;exact .inl w
     .refine .inr (.inl ⟨t,w1,w2,w3,?_⟩)
      rw[e.l];by_cases ht:t=i;subst ht;rw[upd_same];exact hnb o w4;rw[upd_ne _ _ ht];exact w4
     exact .inr (.inr w)
   .rw[if_neg hx] at ho hK hg
    have hK:v1.K=v.K:=hK.trans Ar;have hg:v1.chg=v.chg:=hg.trans (bump_same _ _ _);have ho:On (mcO m) i false rest ii ans (.turn 1 (2*which c.ca m) (1,lO (which c.ca m) (c.po - 1) c.cb 0 i)) X l':=ho;cases ho;exact h.same hi e hst hK hg ⟨hal,hr,c,hc,hco,.inl ⟨rfl,rfl,rfl⟩⟩ hen hnb
  . -- it reads the value
   rw[turn2] at ho hK hg;have hK:v1.K=v.K:=hK.trans Ar;have hg:v1.chg=v.chg:=hg.trans (bump_same _ _ _);have ho:On (mcO m) i false rest ii ans (.ans (R1.codI (wdO v.K (which c.ca m))) (vlO v.K (which c.ca m))) X l':=ho;have h4:R1.codI (wdO v.K (which c.ca m))≠4:=by
    rcases hw with ⟨w,_⟩|⟨t,_,w,_⟩|⟨e2,w1,_,w3,w4,_⟩
    rw[w,st0] at h2;cases h2;rw[w,st1] at h2;cases h2;rw[w1,cod2 w3];exact w4
   cases ho with
   |ans hfw =>obtain ⟨k1,k2,k3⟩:=ans_go (a:=(R1.codI (wdO v.K (which c.ca m)),vlO v.K (which c.ca m))) (se:=v1.se i) hfw h4 hal hr hc h2 rfl hold;refine h.same hi e hst hK hg k1 k2 (λo hb=>?_);rw[hl] at hb;exact absurd hb (bld_not (by simp) (by simp) (λq=>by simp at q))
  . -- the act asks again
   rw[turn1] at ho hK hg;have hK:v1.K=v.K:=hK.trans Ar;have hg:v1.chg=v.chg:=hg.trans (bump_same _ _ _);have ho:On (mcO m) i false rest ii ans (Av (which c.ca m) (c.po - 1) c.cb 1 i (wdO v.K (which c.ca m))) X l':=ho;unfold Av at ho;rw[hwi,if_neg (by rw[st1];decide),if_neg (by rw[st1];decide),if_pos (who1 (by omega))] at ho;have ho:On (mcO m) i false rest ii ans (.turn 2 (2*which c.ca m+1) (5,lO (which c.ca m) (c.po - 1) c.cb 0 i++[70,72])) X l':=ho;cases ho;have ea:actR c=(70,72):=by unfold actR;rw[if_pos hp4]
   refine h.same hi e hst hK hg ⟨hal,hr,c,hc,hco,.inr (.inr (.inr (.inr (.inl ⟨rfl,rfl,by rw[ea],hwi⟩))))⟩ hen (λo hb=>?_);rw[hl] at hb;obtain ⟨op',j',q',r',k',a',e',e2,_⟩:=hb;cases e';rw[oA_0] at e2;exact ⟨_,_,_,_,_,_,rfl,(oA_l _ _ _ _ _ _ _).trans e2,.inl rfl⟩
  . -- the value is stored
   rw[turn5] at ho hK hg;have hK:v1.K=v.K.set (2*which c.ca m+1) (actR c).2:=hK;have ho:On (mcO m) i false rest ii ans (.turn 2 (2*which c.ca m) (6,lO (which c.ca m) (c.po - 1) c.cb 0 i++[(actR c).1,(actR c).2])) X l':=ho;cases ho;have sty:Sty (which c.ca m) i v.K v1.K:=⟨λo' q=>by rw[hK];unfold wdO vlO;rw[getD_set hlv,getD_set hlv,if_neg (by omega),if_neg (by omega)];exact ⟨rfl,rfl⟩,.inr hwi⟩
   have hw1:wdO v1.K (which c.ca m)=R1.Ae 1 i 0:=by rw[hK];unfold wdO;rw[getD_set hlv,if_neg (by omega)];exact hwi
   have hv1:vlO v1.K (which c.ca m)=(actR c).2:=by rw[hK];unfold vlO;rw[getD_set hlv,if_pos rfl]
   refine h.go e hst (by rw[hK,List.length_set];exact h.kl) (by rw[hg,bump_len];exact h.cgl) ⟨hal,hr,c,hc,hco,.inr (.inr (.inr (.inr (.inr ⟨rfl,rfl,rfl,hw1,hv1⟩))))⟩ (hen.sta sty) (λt q ht=>⟨(h.seat t ht).sta sty (by omega) (by omega) q rfl,(h.ends t ht).sta sty⟩) (λo ho'=>?_);have hbl:∀ o,BldP o (v.l i)->BldP o (v1.l i):=λo hb=>by rw[hl] at hb;obtain ⟨op',j',q',r',k',a',e',e2,_⟩:=hb;cases e';rw[oA_l] at e2;rw[e.l,upd_same];exact ⟨_,_,_,_,_,_,rfl,(oA_l _ _ _ _ _ _ _).trans e2,.inr (.inl rfl)⟩
   have hbt:∀ t o,BldP o (v.l t)->BldP o (v1.l t):=λt o hb=>by by_cases ht:t=i;subst ht;exact hbl o hb;rw[e.l,upd_ne _ _ ht];exact hb
   by_cases q:o=which c.ca m
   .subst q
    rcases hw with ⟨w,_⟩|⟨t,w1,w2,w3,w4⟩|⟨e2,w1,_⟩
    .rw[w] at hwi
     have:=congrArg R1.stI hwi;rw[st0,st1] at this;cases this
    .rw[hwi] at w2
     obtain rfl:=word1_inj (by omega) (by omega) w2;exact .inr (.inl ⟨i,hi,hw1,by rw[hg,bump_far (by omega)];exact w3,hbt i _ w4⟩)
    .rw[w1] at hwi
     have:=congrArg R1.stI hwi;rw[st1,st2] at this;cases this
   .unfold WordO
    rw[(sty.oth o q).1,(sty.oth o q).2,hg,bump_far (by omega)];rcases h.word o ho' with w|⟨t,w1,w2,w3,w4⟩|w;exact .inl w;exact .inr (.inl ⟨t,w1,w2,w3,hbt t o w4⟩);exact .inr (.inr w)
  . -- the word is stored
   rw[turn6] at ho hK hg;have hK:v1.K=v.K.set (2*which c.ca m) (R1.Ae 2 0 (actR c).1):=hK;have hg:v1.chg=bump v.chg (2*which c.ca m) (wdO v.K (which c.ca m)) (R1.Ae 2 0 (actR c).1):=hg;have ho:On (mcO m) i false rest ii ans (.ans (actR c).1 (actR c).2) X l':=ho;obtain ⟨hcd,hc4⟩:=actR_code c;have sty:Sty (which c.ca m) i v.K v1.K:=⟨λo' q=>by rw[hK];unfold wdO vlO;rw[getD_set hlw,getD_set hlw,if_neg (by omega),if_neg (by omega)];exact ⟨rfl,rfl⟩,.inr hwi⟩
   have hw1:wdO v1.K (which c.ca m)=R1.Ae 2 0 (actR c).1:=by rw[hK];unfold wdO;rw[getD_set hlw,if_pos rfl]
   have hv1:vlO v1.K (which c.ca m)=(actR c).2:=by rw[hK];unfold vlO;rw[getD_set hlw,if_neg (by omega)];exact hvi
   have hen1:EndO m (cl i) v1.K (.turn 2 (2*which c.ca m) (6,lOc m c 0 i++[(actR c).1,(actR c).2]) rest ii ans):=hen.sta sty;cases ho with
   |ans hfw =>
    obtain ⟨k1,k2,k3⟩:=ans_go (a:=actR c) (K:=v1.K) (se:=v1.se i) hfw hc4 hal hr hc (by rw[hw1];exact st2 _) (by rw[hw1,hv1,cod2 hcd]) hen1;refine h.go e hst (by rw[hK,List.length_set];exact h.kl) (by rw[hg,bump_len];exact h.cgl) k1 k2 (λt q ht=>⟨(h.seat t ht).sta sty (by omega) (by omega) q rfl,(h.ends t ht).sta sty⟩) (λo ho'=>?_);by_cases q:o=which c.ca m
    .subst q
     have hne:wdO v.K (which c.ca m)≠R1.Ae 2 0 (actR c).1:=λq=>by rw[hwi] at q;have:=congrArg R1.stI q;rw[st1,st2] at this;cases this
     refine .inr (.inr ⟨_,hw1,?_,hcd,hc4,i,hi,ii,c,hc,hco,rfl,by rw[hv1]⟩);rw[hg,bump_get hgw hne,if_pos rfl];rcases hw with ⟨w,_⟩|⟨t,_,_,w3,_⟩|⟨e2,w1,_⟩
     .rw[w] at hwi
      have:=congrArg R1.stI hwi;rw[st0,st1] at this;cases this
     rw[w3];simp[wrap64]
     .rw[w1] at hwi
      have:=congrArg R1.stI hwi;rw[st1,st2] at this;cases this
    .unfold WordO
     rw[(sty.oth o q).1,(sty.oth o q).2,hg,bump_far (by omega)];rcases h.word o ho' with w|⟨t,w1,w2,w3,w4⟩|w;exact .inl w
     .refine .inr (.inl ⟨t,w1,w2,w3,?_⟩)
      rw[e.l];by_cases ht:t=i
      .subst ht
       rw[hl] at w4;obtain ⟨op',j',q',r',k',a',e',e2,_⟩:=w4;cases e';rw[oA_l] at e2;exact absurd e2.symm q
      rw[upd_ne _ _ ht];exact w4
     exact .inr (.inr w)
 |wake i j q rest ii ans X l' hi hl hs hch ho e hK hst hg hL =>have hse:=h.seat i hi;have hen:=h.ends i hi;rw[hl] at hse hen;obtain ⟨hal,hr,c,hc,hco,rfl,rfl,hs1⟩:=hse;rw[woke4] at ho;cases ho;refine h.same hi e (hst.trans h.stk.symm) hK hg ⟨hal,hr,c,hc,hco,.inl ⟨rfl,rfl,rfl⟩⟩ hen (λo hb=>?_);rw[hl] at hb;obtain ⟨op',j',q',r',k',a',e',_⟩:=hb;cases e'
 |free i j q rest ii ans X l' hi hl hs=>rw[h.stk] at hs;cases hs
end
section
variable {m:Nat}{cl:Nat->List Cl}
theorem hi_on {cs:List (List Cl)}{v':Vw}(h:Hi (mcO m) k cs v v'):cs=(List.range' k cs.length).map cl->OV k m cl v->OV (k+cs.length) m cl v':=by
 induction h with
 |nil=>exact λ_ hv=>hv
 |@cons k c cs v v1 v2 X l' hF e1 e2 e3 e4 e5 _ ih =>
  intro hc hv;rw[List.length_cons,List.range'_succ,List.map_cons] at hc;obtain ⟨hc1,hc2⟩:=List.cons.inj hc;rw[hv.stk] at hF;obtain ⟨q1,q2,q3,q4,q5⟩:=fw_O (cs:=cl k) hF rfl (by rw[hc1];rfl) (Nat.zero_le _) (by rw[List.length_replicate,hc1]) v.K (v1.se k);have hl:v1.l=upd v.l k l':=e5.l;have:=ih hc2 ⟨by rw[e1];exact hv.kl,by rw[e3];exact hv.cgl,by rw[e2];exact hv.stk,λi hi=>?_,λo ho=>?_,λi hi=>?_⟩
  .rw[show k+(c :: cs).length=k+1+cs.length by simp only[List.length_cons];omega]
   exact this
  .rw[hl,e1]
   by_cases hne:i=k;subst hne;rw[upd_same];exact q1;rw[upd_ne _ _ hne,e5.oth i hne];exact hv.seat i (by omega)
  .unfold WordO
   rw[e1,e3];rcases hv.word o ho with w|⟨t,w1,w2,w3,w4⟩|⟨e,w1,w2,w3,w4,i,w5,w6⟩
   exact .inl w;exact .inr (.inl ⟨t,by omega,w2,w3,by rw[hl,upd_ne _ _ (by omega)];exact w4⟩);exact .inr (.inr ⟨e,w1,w2,w3,w4,i,by omega,w6⟩)
  .rw[hl,e1]
   by_cases hne:i=k
   .subst hne
    rw[upd_same];exact λj c' h1 h2 h3=>absurd h3 (q3 j c' (Nat.zero_le _) h1 h2)
   rw[upd_ne _ _ hne];exact hv.ends i (by omega)
theorem on_meets {p:PSt}(hN:N<=256) (hlen:p.S.thr.length=N) (s:Seen p v) (h:OV N m cl v):Meets (metO m) p:=by
 intro i t ht op j q r k a hl h1 hd;have hi:i<N:=by rw[<-hlen];exact (Qc ht).1
 have hs:=h.seat i hi;rw[s.l,hl] at hs;obtain ⟨_,_,c,_,_,hse⟩:=hs;have hx:(cellAt p.K j).2=v.K.getD j 0:=by rw[s.K,getD_cell]
 rw[hx];rcases hse with ⟨rfl,rfl,rfl⟩|⟨rfl,rfl,rfl⟩|⟨rfl,rfl,rfl,_⟩|⟨rfl,rfl,rfl,_,hwi⟩|⟨rfl,rfl,rfl,_⟩|⟨rfl,rfl,rfl,_⟩
 rw[dA_0] at hd;omega;cases h1;cases h1
 .have hwi:v.K.getD (2*which c.ca m) 0=R1.Ae 1 i 0:=hwi
  rw[hwi];have hia:iA (1,lOc m c 1 i)=i:=by have:=iA_l 1 (which c.ca m) (c.po - 1) c.cb 1 i [];rwa [List.append_nil] at this
  rw[hia];exact ⟨st1 i,who1 (by omega)⟩
 cases h1;cases h1
theorem pturn_len {mc:Mc}{p p1:PSt}(e:pturn mc p=some p1):p1.S.thr.length=p.S.thr.length:=by
 unfold pturn at e;split at e
 .split at e
  cases e;rfl;cases e
 .cases e
  show (resume _ _ _ _ _).1.thr.length=_;rw[(resume_sta _ _ _ _ _).len,going_len]
def OIP (N m:Nat) (cl:Nat->List Cl) (p:PSt):Prop:=p.S.thr.length=N∧∃ v,Seen p v∧OV N m cl v
theorem oip_turn (h0:0<m) (hN:N<=256) (p p1:PSt) (g:Gd (metO m) p) (h:OIP N m cl p) (e:pturn (mcO m) p=some p1):OIP N m cl p1:=by obtain ⟨hl,v,s,hv⟩:=h;obtain ⟨v1,m1,s1⟩:=pturn_mv (metO m) g s e;rw[hl] at m1;exact ⟨(pturn_len e).trans hl,v1,s1,oi_mv h0 hN hv m1⟩
theorem oip_meets (hN:N<=256) (p:PSt) (h:OIP N m cl p):Meets (metO m) p:=by obtain ⟨hl,v,s,hv⟩:=h;exact on_meets hN hl s hv
theorem once_start {ss:List (Scr (mcO m))}{S S1:TS}{l0 l1:Nat->Ph}{K:List (Nat×Int)}
 (hn:ss.length=N) (hss:ss.map (·.calls)=(List.range' 0 N).map cl) (ha:∀ x∈ss,x.ans=List.replicate x.calls.length (0,0))
 (ht:S.thr=[]) (htr:S.tr=[]) (hSn:S.n=0) (hsk:S.stk=false) (hchg:S.chg=List.replicate (2*m) 0) (hK:K.map (·.2)=List.replicate (2*m) 0) (hH:Hires (mcO m) 0 ss S l0 S1 l1):
 ∃ v,Seen ⟨S1,K,l1⟩ v∧OV N m cl v:=by
 let v0:Vw:=⟨List.replicate (2*m) 0,false,S.chg,λi=>(thrI S i).se,l0,[]⟩
 have hs0:Seen ⟨S,K,l0⟩ v0:=⟨hK.symm,hsk.symm,rfl,λi=>rfl,rfl,htr,hSn,λi t h=>by rw[ht] at h;cases h⟩
 obtain ⟨v1,hi1,hs1⟩:=hires_hi (K:=K) hH v0 (by rw[ht];rfl) ha hs0;rw[hss] at hi1;have z:∀ j,(List.replicate (2*m) (0:Int)).getD j 0=0:=λj=>by rw[Ql,List.getElem?_replicate];split<;>rfl
 have hc0:OV 0 m cl v0:=⟨by simp[v0],by show S.chg.length=_;rw[hchg,List.length_replicate],rfl,λi hi=>by omega,λo ho=>.inl ⟨z _,by show S.chg.getD _ 0=0;rw[hchg];exact z _⟩,λi hi=>by omega⟩
 have hci:=hi_on hi1 (by simp) hc0;rw[List.length_map,List.length_range',Nat.zero_add] at hci;exact ⟨v1,hs1,hci⟩
theorem once_ends {ss:List (Scr (mcO m))}{S S1:TS}{l0 l1:Nat->Ph}{K:List (Nat×Int)}(h0:0<m)
 (hn:ss.length=N) (hn8:N<=8) (hl:lens ss<=512) (hss:ss.map (·.calls)=(List.range' 0 N).map cl) (ha:∀ x∈ss,x.ans=List.replicate x.calls.length (0,0))
 (ht:S.thr=[]) (htr:S.tr=[]) (hSn:S.n=0) (hsk:S.stk=false) (hchg:S.chg=List.replicate (2*m) 0) (hK:K.map (·.2)=List.replicate (2*m) 0) (hH:Hires (mcO m) 0 ss S l0 S1 l1):
 (∃ n p',n<=300000∧Turns (mcO m) n ⟨S1,K,l1⟩ p'∧p'.S.n*40<=140737488355328)∧∀ n p',Turns (mcO m) n ⟨S1,K,l1⟩ p'->p'.S.n<=400000∧∃ v,Seen p' v∧OV N m cl v:=by
 obtain ⟨v,hs,hv⟩:=once_start hn hss ha ht htr hSn hsk hchg hK hH;obtain ⟨a1,a2,a3,a4⟩:=hires_gd (metO m) hH (by rw[ht];rfl) (by omega) (λi t h=>by rw[ht] at h;cases h);have g:Gd (metO m) ⟨S1,K,l1⟩:=⟨by show S1.thr.length<=8;omega,a2⟩
 have hip:OIP N m cl ⟨S1,K,l1⟩:=⟨by show S1.thr.length=N;omega,v,hs,hv⟩
 have hm:=mu_le (metO m) ⟨S1,K,l1⟩ g.len;rw[ht] at a4;simp only[List.length_nil,List.range_zero,List.map_nil,List.sum_nil] at a4;have h5:(metO m).L*lens ss<=5*512:=Nat.mul_le_mul (Qi 5) hl;have hm2:mu (metO m) ⟨S1,K,l1⟩<=300000:=by refine Qk hm ?_;show 25+32*((List.range S1.thr.length).map λi=>tot (metO m) (l1 i)).sum<=300000;omega
 refine ⟨?_,λn p' hT=>?_⟩
 .obtain ⟨n,p',k1,k2,k3⟩:=turns_endI (metO m) (I:=OIP N m cl) (λp p1 g h e=>oip_turn h0 (by omega) p p1 g h e) (λp h=>oip_meets (by omega) p h) 300000 ⟨S1,K,l1⟩ hm2 g hip
  refine ⟨n,p',k1,k2,?_⟩;have k3:p'.S.n<=S1.n+mu (metO m) ⟨S1,K,l1⟩:=k3;omega
 .obtain ⟨_,hI,k3⟩:=turns_gdI (metO m) (I:=OIP N m cl) (λp p1 g h e=>oip_turn h0 (by omega) p p1 g h e) (λp h=>oip_meets (by omega) p h) hT g hip
  have k3:p'.S.n+mu (metO m) p'<=S1.n+mu (metO m) ⟨S1,K,l1⟩:=k3;obtain ⟨_,v',s',hv'⟩:=hI;exact ⟨by omega,v',s',hv'⟩
end
def ost (m:Nat) (s:Nat->Option (Int×Int)) (c:Cl) (a:Int×Int) (s':Nat->Option (Int×Int)):Prop:=isO c∧((s (which c.ca m)=some a∧s'=s)∨(s (which c.ca m)=none∧a=actR c∧s'=upd s (which c.ca m) (some a)))
section
variable {m N:Nat}{cl:Nat->List Cl}
theorem opOk_once:OpOk (mcO m):=by
 have hnx:∀ (o:Nat) (k b:Int) (d i:Nat) (a:Int×Int) op j q,nxO o k b d i a=.turn op j q->op≠9∧op≠10:=λo k b d i a op j q h=>by unfold nxO at h;split at h;cases h;cases h;exact ⟨by decide,by decide⟩
 have hset:∀ s (x:Nx) op j q,(mcO m).set s x=.turn op j q->x=.turn op j q∨∃ q',(mcO m).stuck q'=.turn op j q:=λs x op j q h=>by
  cases x with
  |ans e y=>cases s<;>exact .inl h
  |turn op' j' q'=>cases s<;>exact .inl h
  |wait j' q' =>
   cases s with
   |false=>exact .inl h
   |true=>exact .inr ⟨q',h⟩
 have hst:∀ q op j q',(mcO m).stuck q=.turn op j q'->op≠9∧op≠10:=λq op j q' h=>hnx _ _ _ _ _ _ _ _ _ h;refine ⟨λs i c op j q h=>?_,λs q x op j q' h=>?_,λq op j q' h=>?_,hst,λq x n hn=>by cases hn⟩
 .rcases hset _ _ _ _ _ h with h|⟨_,h⟩
  .have h:(if 1<=c.po∧c.po<=4 then Nx.turn 1 (2*which c.ca m) (1,lO (which c.ca m) (c.po - 1) c.cb 0 i) else .ans 1 0)=.turn op j q:=h
   split at h;cases h;exact ⟨by decide,by decide⟩;cases h
  exact hst _ _ _ _ h
 .rcases hset _ _ _ _ _ h with h|⟨_,h⟩
  .unfold mcO at h
   simp only at h;split at h
   .simp only[Av] at h
    split at h;cases h;exact ⟨by decide,by decide⟩
    .split at h
     cases h;exact ⟨by decide,by decide⟩
     .split at h
      exact hnx _ _ _ _ _ _ _ _ _ h;cases h
   .split at h
    exact hnx _ _ _ _ _ _ _ _ _ h
    .split at h
     .split at h
      .simp only[Au] at h
       split at h<;>cases h<;>exact ⟨by decide,by decide⟩
      cases h;exact ⟨by decide,by decide⟩
     .split at h
      cases h;exact ⟨by decide,by decide⟩;exact hnx _ _ _ _ _ _ _ _ _ h
  exact hst _ _ _ _ h
 .have h:Nx.turn 1 (2*oA q) (1,lO (oA q) (kA q) (bA q) (dA q) (iA q))=.turn op j q':=h
  cases h;exact ⟨by decide,by decide⟩
theorem fw_lo {rest:List Cl}{sk:Bool}{ans:List (Int×Int)}(h:Fw (mcO m) i false rest ii sk ans X l):(∀ c∈rest,isO c)->(∀ x∈X,x.op≠10)∧∀ k,k<ii->l.ans[k]? = ans[k]?:=by
 have no9:∀ (i ii:Nat),∀ x∈[(⟨i,-1,9,ii,0⟩:Stp)],x.op≠10:=λi ii x hx=>by rw[List.mem_singleton] at hx;subst hx;show ¬ (9:Int)=10;decide
 induction h with
 |nil=>intro _;exact ⟨λx hx=>(nomatch hx),λ_ _=>rfl⟩
 |@skip c rest ii ans X l h ih =>intro ho;obtain ⟨h1,h2⟩:=ih λc hc=>ho c (List.mem_cons_of_mem _ hc);refine ⟨h1,λk hk=>?_⟩;rw[h2 k (by omega),Qq,if_neg (by omega)]
 |@ans c rest ii ans X l e x hst h ih =>intro ho;exfalso;rw[Mc.set_false] at hst;have hst:(if 1<=c.po∧c.po<=4 then Nx.turn 1 (2*which c.ca m) (1,lO (which c.ca m) (c.po - 1) c.cb 0 i) else .ans 1 0)=.ans e x:=hst;rw[if_pos (show 1<=c.po∧c.po<=4 from ho c (List.mem_cons_self ..))] at hst;cases hst
 |turn hst=>intro _;exact ⟨no9 _ _,λ_ _=>rfl⟩
 |wait hst=>intro _;exact ⟨no9 _ _,λ_ _=>rfl⟩
def kp (K:List Int) (o:Nat):Option (Int×Int):=if R1.stI (wdO K o)=2 then some (R1.codI (wdO K o),vlO K o) else none
def AO (m:Nat) (cl:Nat->List Cl) (v:Vw):Prop:=∃ s,(∀ o,o<m->s o=kp v.K o)∧Ac9 cl (λi=>(v.l i).ans) (ost m) (λ_=>none) v.L s
theorem once_ac (h0:0<m) (hN8:N<=256) (hops:∀ i,i<N->∀ c∈cl i,isO c) {v1:Vw}(h:OV N m cl v) (hN:NI N cl v) (hA:AO m cl v) (hm:Mv (mcO m) N v v1):AO m cl v1:=by
 obtain ⟨s,hkp,hac⟩:=hA;have dro:∀ i,i<N->∀ k,∀ x∈(cl i).drop k,isO x:=λi hi k x hx=>hops i hi x (List.mem_of_mem_drop hx);cases hm with
 |stuck hs hall hex e=>subst e;exact ⟨s,hkp,hac.other (.inl (by show ¬ (7:Int)=10;decide))⟩
 |wake i j q rest ii ans X l' hi hl hs hce ho e eK eS eC eL =>have hT:=h.seat i hi;rw[hl] at hT;obtain ⟨_,_,c,_,_,rfl,rfl,_⟩:=hT;rw[woke4] at ho;cases ho;refine ⟨s,by rw[eK];exact hkp,?_⟩;rw[eL,e.l,ans_upd,upd_self (by rw[hl];rfl)];exact hac.other (.inl (by show ¬ (6:Int)=10;decide))
 |free i j q rest ii ans X l' hi hl hs=>rw[h.stk] at hs;cases hs
 |turn i op j q rest ii ans X l' hi hl ho e eK eS eC eL =>
  rw[h.stk,Mc.set_false] at ho;have eL:v1.L=v.L++⟨i,j,op,((mcO m).turn q (v.K.getD j 0)).1.1,((mcO m).turn q (v.K.getD j 0)).1.2⟩ :: X:=eL;have hT:=h.seat i hi;have hn:=hN.thr i hi;rw[hl] at hT hn;obtain ⟨hal,hr,c,hc,hco,hse⟩:=hT;obtain ⟨hlen,hn,hlt,_,_,h9,h10⟩:=hn;have hom:=which_lt c.ca h0;have hlw:2*which c.ca m<v.K.length:=by rw[h.kl];omega
  have hlv:2*which c.ca m+1<v.K.length:=by rw[h.kl];omega
  have stay:∀ (x:Stp),x.op≠10->v1.L=v.L++[x]->(∀ o,o<m->kp v1.K o=kp v.K o)->l'.ans=ans->AO m cl v1:=λx k1 k2 k3 k5=>by refine ⟨s,λo ho=>(hkp o ho).trans (k3 o ho).symm,?_⟩;rw[k2,e.l,ans_upd,k5,upd_self (by rw[hl];rfl)];exact hac.other (.inl k1)
  have done:∀ (x:Stp) (ee yy:Int) (s2:Nat->Option (Int×Int)) (X':List Stp),x.op≠9->x.op≠10->Fw (mcO m) i false rest (ii+1) (ee==4) (ans.set ii (ee,yy)) X' l'->ee≠4->ost m s c (ee,yy) s2->v1.L=v.L++x :: ⟨i,-1,10,ii,ee⟩ :: X'->(∀ o,o<m->s2 o=kp v1.K o)->AO m cl v1:=λx ee yy s2 X' k9 k10 kf k4 kl kL kK=>by
   rw[hr] at kf;obtain ⟨f1,f2⟩:=fw_lo kf (dro i hi _);refine ⟨s2,kK,?_⟩;rw[kL,e.l,ans_upd];have h1:Ac9 cl (upd (λk=>(v.l k).ans) i l'.ans) (ost m) (λ_=>none) (v.L++[x]) s:=.other (hac.mono λj k hk=>by
    by_cases ej:j=i
    .subst ej
     rw[upd_same,f2 k (by omega),Qq,if_neg (by omega),hl];rfl
    rw[upd_ne _ _ ej]) (.inl k10)
   have h2:Ac9 cl (upd (λk=>(v.l k).ans) i l'.ans) (ost m) (λ_=>none) ((v.L++[x])++[⟨i,-1,10,ii,ee⟩]) s2:=.fin (a:=(ee,yy)) h1 (by rw[nt_no k9 k10];exact hn) hc (by rw[upd_same,f2 ii (by omega),Qq,if_pos rfl,if_pos (by omega)]) k4 kl;have:=h2.more X' f1;simp only[List.append_assoc,List.singleton_append,List.cons_append,List.nil_append] at this;exact this
  have same:v1.K=v.K->∀ o,o<m->kp v1.K o=kp v.K o:=λq o _=>by rw[q]
  rcases hse with ⟨rfl,rfl,rfl⟩|⟨rfl,rfl,rfl⟩|⟨rfl,rfl,rfl,h2⟩|⟨rfl,rfl,rfl,hp4,hwi⟩|⟨rfl,rfl,rfl,hwi⟩|⟨rfl,rfl,rfl,hwi,hvi⟩
  . -- it looks
   rw[turn1] at ho eK;have eK:v1.K=v.K:=eK.trans Ar;have ho:On (mcO m) i false rest ii ans (Av (which c.ca m) (c.po - 1) c.cb 0 i (wdO v.K (which c.ca m))) X l':=ho;unfold Av at ho;rcases h.word _ hom with ⟨w,_⟩|⟨t,w1,w2,w3,w4⟩|⟨e2,w1,w2,w3,w4,w5⟩
   .rw[w,if_neg (by rw[st0];decide),if_pos st0] at ho
    cases ho;exact stay _ h10 eL (same eK) rfl
   .have hti:t≠i:=λq=>by subst q;rw[hl] at w4;exact absurd w4 (bld_not (by simp) (by simp) (λ_=>dA_0 _ _ _ _ _ _))
    rw[w2,if_neg (by rw[st1];decide),if_neg (by rw[st1];decide),if_neg (by rw[who1 (by omega)];omega)] at ho;cases ho;exact stay _ h10 eL (same eK) rfl
   .rw[if_pos (by rw[w1];exact st2 e2)] at ho
    cases ho;exact stay _ h10 eL (same eK) rfl
  . -- it tries
   rw[turn3] at ho eK;by_cases hx:wdO v.K (which c.ca m)=0
   .rw[if_pos hx] at ho eK
    have eK:v1.K=v.K.set (2*which c.ca m) (R1.Ae 1 i 0):=eK;have ho:On (mcO m) i false rest ii ans (Au (which c.ca m) (c.po - 1) c.cb 0 i) X l':=ho;have hk:∀ o,o<m->kp v1.K o=kp v.K o:=λo _=>by
     unfold kp;by_cases q:o=which c.ca m
     .subst q
      have hw1:wdO v1.K (which c.ca m)=R1.Ae 1 i 0:=by rw[eK];unfold wdO;rw[getD_set hlw,if_pos rfl]
      rw[hw1,hx,if_neg (by rw[st1];decide),if_neg (by rw[st0];decide)]
     .have e1:wdO v1.K o=wdO v.K o:=by rw[eK];unfold wdO;rw[getD_set hlw,if_neg (by omega)]
      have e2:vlO v1.K o=vlO v.K o:=by rw[eK];unfold vlO;rw[getD_set hlw,if_neg (by omega)]
      rw[e1,e2]
    unfold Au at ho;split at ho;cases ho;exact stay _ h10 eL hk rfl;cases ho;exact stay _ h10 eL hk rfl
   .rw[if_neg hx] at ho eK
    have eK:v1.K=v.K:=eK.trans Ar;cases ho;exact stay _ h10 eL (same eK) rfl
  . -- it reads the value
   rw[turn2] at ho eK;have eK:v1.K=v.K:=eK.trans Ar;have ho:On (mcO m) i false rest ii ans (.ans (R1.codI (wdO v.K (which c.ca m))) (vlO v.K (which c.ca m))) X l':=ho;have h4:R1.codI (wdO v.K (which c.ca m))≠4:=by
    rcases h.word _ hom with ⟨w,_⟩|⟨t,_,w,_⟩|⟨e2,w1,_,w3,w4,_⟩
    rw[w,st0] at h2;cases h2;rw[w,st1] at h2;cases h2;rw[w1,cod2 w3];exact w4
   cases ho with
   |ans hfw =>refine done _ _ _ s _ h9 h10 hfw h4 ⟨hco,.inl ⟨?_,rfl⟩⟩ eL (λo ho=>by rw[eK];exact hkp o ho);rw[hkp _ hom];unfold kp;rw[if_pos h2]
  . -- the act asks again
   rw[turn1] at ho eK;have eK:v1.K=v.K:=eK.trans Ar;have ho:On (mcO m) i false rest ii ans (Av (which c.ca m) (c.po - 1) c.cb 1 i (wdO v.K (which c.ca m))) X l':=ho;unfold Av at ho;rw[hwi,if_neg (by rw[st1];decide),if_neg (by rw[st1];decide),if_pos (who1 (by omega))] at ho;have ho:On (mcO m) i false rest ii ans (.turn 2 (2*which c.ca m+1) (5,lO (which c.ca m) (c.po - 1) c.cb 0 i++[70,72])) X l':=ho;cases ho;exact stay _ h10 eL (same eK) rfl
  . -- the value is stored
   rw[turn5] at ho eK;have eK:v1.K=v.K.set (2*which c.ca m+1) (actR c).2:=eK;have ho:On (mcO m) i false rest ii ans (.turn 2 (2*which c.ca m) (6,lO (which c.ca m) (c.po - 1) c.cb 0 i++[(actR c).1,(actR c).2])) X l':=ho;cases ho;refine stay _ h10 eL (λo _=>?_) rfl;unfold kp;have e1:wdO v1.K o=wdO v.K o:=by rw[eK];unfold wdO;rw[getD_set hlv,if_neg (by omega)]
   rw[e1];by_cases q:o=which c.ca m
   .subst q
    rw[hwi,if_neg (by rw[st1];decide),if_neg (by rw[st1];decide)]
   .have e2:vlO v1.K o=vlO v.K o:=by rw[eK];unfold vlO;rw[getD_set hlv,if_neg (by omega)]
    rw[e2]
  . -- the word is stored
   rw[turn6] at ho eK;have eK:v1.K=v.K.set (2*which c.ca m) (R1.Ae 2 0 (actR c).1):=eK;have ho:On (mcO m) i false rest ii ans (.ans (actR c).1 (actR c).2) X l':=ho;obtain ⟨hcd,hc4⟩:=actR_code c;cases ho with
   |ans hfw =>
    refine done _ _ _ (upd s (which c.ca m) (some (actR c))) _ h9 h10 hfw hc4 ⟨hco,.inr ⟨?_,rfl,rfl⟩⟩ eL (λo ho=>?_)
    .rw[hkp _ hom]
     unfold kp;rw[hwi,if_neg (by rw[st1];decide)]
    .by_cases q:o=which c.ca m
     .subst q
      have hw1:wdO v1.K (which c.ca m)=R1.Ae 2 0 (actR c).1:=by rw[eK];unfold wdO;rw[getD_set hlw,if_pos rfl]
      have hv1:vlO v1.K (which c.ca m)=(actR c).2:=by rw[eK];unfold vlO;rw[getD_set hlw,if_neg (by omega)];exact hvi
      unfold kp;rw[upd_same,hw1,hv1,if_pos (st2 _),cod2 hcd]
     .rw[upd_ne _ _ q,hkp o ho]
      unfold kp;have e1:wdO v1.K o=wdO v.K o:=by rw[eK];unfold wdO;rw[getD_set hlw,if_neg (by omega)]
      have e2:vlO v1.K o=vlO v.K o:=by rw[eK];unfold vlO;rw[getD_set hlw,if_neg (by omega)]
      rw[e1,e2]
end
end Go.Proofs.YtfjjoohflcchnaaDoor.Gen
namespace Go.Proofs.YtfjjoohflcchnaaDoor.Gen
open Go Go.Lift Go.Conc Go.RowKit
open Go.Proofs.YtfjjoohflcchnaaDoor.His
open Go.ConcN (upd upd_same upd_ne)
variable {N m n:Nat} {cl:Nat->List Cl}
section
variable {m:Nat}{cl:Nat->List Cl}
theorem hi_ao {k:Nat}{cs:List (List Cl)}{v v':Vw}(h:Hi (mcO m) k cs v v'):cs=(List.range' k cs.length).map cl->k+cs.length=N->v.stk=false->(∀ i,i<N->∀ c∈cl i,isO c)->(∀ i,k<=i->nt v.L i=0)->AO m cl v->AO m cl v':=by
 induction h with
 |nil=>intro _ _ _ _ _ hA;exact hA
 |@cons k c cs v v1 v2 X l' hF e1 e2 e3 e4 e5 h ih =>
  intro hc hN hsk ho h0 hA;rw[List.length_cons,List.range'_succ,List.map_cons] at hc;obtain ⟨hc1,hc2⟩:=List.cons.inj hc;subst hc1;simp only[List.length_cons] at hN;rw[hsk] at hF;have hF0:Fit9 (k+1) cl (upd (λ_=>[]) k (List.replicate (cl k).length (0,0))) []:=.nil;obtain ⟨f1,f2⟩:=fw_lo hF (ho k (by omega));obtain ⟨_,_,k3⟩:=fw_note (N:=k+1) (cl:=cl) opOk_once (by omega) hF (λ_=>[]) [] (by simp) (Nat.zero_le _) (by simp) hF0 (λ_=>⟨rfl,λq a hq _=>absurd hq (by omega)⟩) (λh=>by cases h);obtain ⟨s,hK,hac⟩:=hA;refine ih hc2 (by omega) (e2.trans hsk) ho (λi hi=>?_) ⟨s,by rw[e1];exact hK,?_⟩
  .have q:nt X i=0:=by have:=k3 i (by omega);simpa [nt] using this
   rw[e4];have:nt (v.L++X) i=nt v.L i+nt X i:=by unfold nt;rw[List.countP_append]
   rw[this,h0 i (by omega),q]
  .rw[e4,e5.l,ans_upd]
   refine (hac.mono λj q hq=>?_).more X f1;by_cases e:j=k;subst e;rw[h0 j (Qi _)] at hq;omega;rw[upd_ne _ _ e]
theorem once_calls {ss:List (Scr (mcO m))}{S S1:TS}{l0 l1:Nat->Ph}{K:List (Nat×Int)}(h0:0<m) (hl0:∀ i,l0 i=.done [])
 (hn:ss.length=N) (hn8:N<=8) (hss:ss.map (·.calls)=(List.range' 0 N).map cl) (ha:∀ x∈ss,x.ans=List.replicate x.calls.length (0,0)) (hops:∀ i,i<N->∀ c∈cl i,isO c)
 (ht:S.thr=[]) (htr:S.tr=[]) (hSn:S.n=0) (hsk:S.stk=false) (hchg:S.chg=List.replicate (2*m) 0) (hK:K.map (·.2)=List.replicate (2*m) 0) (hH:Hires (mcO m) 0 ss S l0 S1 l1)
 {p':PSt} (hT:Turns (mcO m) n ⟨S1,K,l1⟩ p'):
 ∃ L s,p'.S.tr=flat L∧p'.S.n=L.length∧Fit9 N cl (λi=>(p'.l i).ans) L∧Ac9 cl (λi=>(p'.l i).ans) (ost m) (λ_=>none) L s∧∀ i,i<N->(p'.l i).ans.length=(cl i).length:=by
 let v0:Vw:=⟨List.replicate (2*m) 0,false,S.chg,λi=>(thrI S i).se,l0,[]⟩
 have hs0:Seen ⟨S,K,l0⟩ v0:=⟨hK.symm,hsk.symm,rfl,λi=>rfl,rfl,htr,hSn,λi t h=>by rw[ht] at h;cases h⟩
 obtain ⟨v1,hi1,hs1⟩:=hires_hi (K:=K) hH v0 (by rw[ht];rfl) ha hs0;rw[hss] at hi1;have z:∀ j,(List.replicate (2*m) (0:Int)).getD j 0=0:=λj=>by rw[Ql,List.getElem?_replicate];split<;>rfl
 have hc0:OV 0 m cl v0:=⟨by simp[v0],by show S.chg.length=_;rw[hchg,List.length_replicate],rfl,λi hi=>by omega,λo ho=>.inl ⟨z _,by show S.chg.getD _ 0=0;rw[hchg];exact z _⟩,λi hi=>by omega⟩
 have hci:=hi_on hi1 (by simp) hc0;rw[List.length_map,List.length_range',Nat.zero_add] at hci;have hni:NI N cl v1:=hi_note opOk_once hi1 (by simp) (by simp) .nil (λi hi=>by omega) (λ_ _=>rfl);have hai:AO m cl v1:=hi_ao (N:=N) hi1 (by simp) (by simp) rfl hops (λ_ _=>rfl) ⟨λ_=>none,λo _=>by unfold kp;rw[if_neg (by show ¬ R1.stI ((List.replicate (2*m) (0:Int)).getD (2*o) 0)=2;rw[z,st0];decide)],.nil⟩
 obtain ⟨a1,a2,a3,a4⟩:=hires_gd (metO m) hH (by rw[ht];rfl) (by omega) (λi t h=>by rw[ht] at h;cases h);have g:Gd (metO m) ⟨S1,K,l1⟩:=⟨by show S1.thr.length<=8;omega,a2⟩
 have key:=turns_gdI (metO m) (I:=λp=>p.S.thr.length=N∧∃ v,Seen p v∧OV N m cl v∧NI N cl v∧AO m cl v) (λp p1 g h e=>by
  obtain ⟨hl,v,s,hv,hv2,hv3⟩:=h;obtain ⟨v',m1,s1⟩:=pturn_mv (metO m) g s e;rw[hl] at m1;exact ⟨(pturn_len e).trans hl,v',s1,oi_mv h0 (by omega) hv m1,note_mv opOk_once hv2 m1,once_ac h0 (by omega) hops hv hv2 hv3 m1⟩) (λp h=>by
  obtain ⟨hl,v,s,hv,_⟩:=h;exact on_meets (by omega) hl s hv) hT g ⟨by show S1.thr.length=N;omega,v1,hs1,hci,hni,hai⟩
 obtain ⟨g',⟨hl',v',s',hv',hN,s,_,hA⟩,_⟩:=key;refine ⟨v'.L,s,s'.tr,s'.n,?_,?_,λi hi=>?_⟩;rw[<-s'.l];exact hN.fit;rw[<-s'.l];exact hA;rw[<-s'.l];exact (hN.thr i hi).1
def shelf (m:Nat) (s:Nat->Option (Int×Int)):List Int:=(List.range m).flatMap λo=>match s o with
 |some a=>[1,a.1,a.2]
 |none=>[0,0,0]
end
theorem ops_of {m:Int}(h:∀ i,i<(scL n cl).length->∀ k,k<((scL n cl).getD i []).length->R3.OpIn m (((scL n cl).getD i []).getD k R3.call0)):∀ i,i<n->∀ c∈cl i,1<=c.po∧c.po<=m:=λi hi c hc=>by
 obtain ⟨k,hk,e⟩:=List.mem_iff_getElem.1 hc;have:=h i (by rw[scL_len];exact hi) k (by rw[scL_get cl hi,List.length_map];exact hk);rw[scL_get cl hi] at this;have e2:((cl i).map toCall).getD k R3.call0=toCall c:=by simp[Ql,hk,e]
 rw[e2] at this;exact this
theorem lin_of {σ:Type}{an:Nat->List (Int×Int)}{st:σ->Cl->Int×Int->σ->Prop}{s0 s:σ}{ob n0:Int}(f:σ->List Int) (hf:f s0=firstOf ob n0) (hS:R3.Starts ob n0) (hl:∀ i,i<N->(an i).length=(cl i).length)
 (hw:∀ (s:σ) (c:Cl) (a:Int×Int) (s':σ) (e:His.Ev),st s c a s'->e.op=c.po->e.a=c.ca->e.b=c.cb->e.ans=a->∃ o,o∈refWays ob n0 (f s) e∧o.1=a∧o.2=f s') {L:List Stp} (hF:Fit9 N cl an L) (hA:Ac9 cl an st s0 L s) (h12:R3.sumL (scL N cl) (scL N cl).length<=12):
 R3.Alike (scL N cl) (anL N an)∧∀ r,R3.Ofs (scL N cl) (anL N an) 0 (L.map toStep) R3.st0 r->∃ s,r=some s∧R3.Starts ob n0∧s.evs.length<=12∧Hist s.evs∧Lin (refWays ob n0) (firstOf ob n0) s.evs:=by
 refine ⟨alike_of hl,λr hr=>?_⟩;obtain ⟨E,id,ord,hE,hI⟩:=run_lin (ways:=refWays ob n0) f hw (run9_of hF s hA);refine ⟨_,ofs_is hl hE hF hr,hS,Qk (ev_le hE hF) h12,hI.hist,?_⟩;rw[<-hf];exact hI.lin
def sh (s:Nat->Option (Int×Int)) (o r:Nat):Int:=match s o with
 |none=>0
 |some a=>if r=0 then 1 else if r=1 then a.1 else a.2
def shl (m:Nat) (s:Nat->Option (Int×Int)):List Int:=(List.range (3*m)).map λj=>sh s (j / 3) (j % 3)
theorem shl_get {s:Nat->Option (Int×Int)}{o r:Nat}(ho:o<m) (hr:r<3):(shl m s).getD (3*o+r) 0=sh s o r:=by unfold shl;rw[Ql,List.getElem?_map,List.getElem?_range (by omega)];show sh s ((3*o+r) / 3) ((3*o+r) % 3)=_;rw[show (3*o+r) / 3=o by omega,show (3*o+r) % 3=r by omega]
theorem shl_put {s:Nat->Option (Int×Int)}{o:Nat}(ho:o<m) (a:Int×Int):(((shl m s).set (3*o) 1).set (3*o+1) a.1).set (3*o+2) a.2=shl m (upd s o (some a)):=by
 have hl:∀ s,(shl m s).length=3*m:=λs=>by simp[shl]
 apply List.ext_getElem?;intro j;by_cases hj:j<3*m
 .have hg:∀ s,(shl m s)[j]? = some (sh s (j / 3) (j % 3)):=λs=>by unfold shl;rw[List.getElem?_map,List.getElem?_range hj];rfl
  rw[hg (upd s o (some a)),Qq,Qq,Qq,hg];simp only[List.length_set,hl];by_cases e2:3*o+2=j
  .subst e2
   rw[if_pos rfl,if_pos hj];rw[show (3*o+2) / 3=o by omega,show (3*o+2) % 3=2 by omega];unfold sh;rw[upd_same];rfl
  .rw[if_neg e2]
   by_cases e1:3*o+1=j
   .subst e1
    rw[if_pos rfl,if_pos hj];rw[show (3*o+1) / 3=o by omega,show (3*o+1) % 3=1 by omega];unfold sh;rw[upd_same];rfl
   .rw[if_neg e1]
    by_cases e0:3*o=j
    .subst e0
     rw[if_pos rfl,if_pos hj];rw[show (3*o) / 3=o by omega,show (3*o) % 3=0 by omega];unfold sh;rw[upd_same];rfl
    .rw[if_neg e0]
     unfold sh;rw[upd_ne _ _ (by omega)]
 rw[List.getElem?_eq_none (by simp only[List.length_set,hl];omega),List.getElem?_eq_none (by rw[hl];omega)]
theorem which_mod (a:Int) (h:0<m):(a % (m:Int)).toNat=which a m:=by
 unfold which;by_cases hn:a.tmod m<0;rw[if_pos hn,R3.emod_neg (by omega) hn]
 .rw[if_neg hn]
  congr 1
  rw[Int.tmod_eq_emod] at hn ⊢;split at hn
  .rename_i hc;rw[if_pos hc];omega
  .rename_i hc
   exfalso;have h1:=Int.emod_lt_of_pos a (show (0:Int)<m by omega);rw[Int.natAbs_natCast] at hn;omega
theorem once_way (h0:0<m) (s:Nat->Option (Int×Int)) (c:Cl) (a:Int×Int) (s':Nat->Option (Int×Int)) (e:His.Ev) (h:ost m s c a s') (h1:e.op=c.po) (h2:e.a=c.ca) (h3:e.b=c.cb) (h4:e.ans=a):∃ o,o∈refWays 5 (m:Int) (shl m s) e∧o.1=a∧o.2=shl m s':=by
 obtain ⟨hco,h⟩:=h;have hom:=which_lt c.ca h0;have key:refWays 5 (m:Int) (shl m s) e=wayThree (m:Int) (shl m s) e:=rfl;have hact:actOf e=some (actR c):=by
  obtain ⟨k1,k2⟩:=hco;have:c.po=1∨c.po=2∨c.po=3∨c.po=4:=by omega
  unfold actOf actR cmO;rw[h1,h3];rcases this with q|q|q|q<;>rw[q]<;>rfl
 rw[key];unfold wayThree;rw[hact];simp only;rw[h2,which_mod _ h0];have g0:=shl_get (s:=s) (r:=0) hom (by decide);have g1:=shl_get (s:=s) (r:=1) hom (by decide);have g2:=shl_get (s:=s) (r:=2) hom (by decide);rw[Nat.add_zero] at g0;rw[g0,g1,g2];rcases h with ⟨hs,es⟩|⟨hs,rfl,rfl⟩
 .have e0:sh s (which c.ca m) 0=1:=by unfold sh;rw[hs];rfl
  have e1:sh s (which c.ca m) 1=a.1:=by unfold sh;rw[hs];rfl
  have e2:sh s (which c.ca m) 2=a.2:=by unfold sh;rw[hs];rfl
  rw[e0,e1,e2,if_pos rfl,es];exact ⟨_,List.mem_singleton.2 rfl,rfl,rfl⟩
 .have e0:sh s (which c.ca m) 0=0:=by unfold sh;rw[hs]
  rw[e0,if_neg (by decide)];exact ⟨_,List.mem_singleton.2 rfl,rfl,shl_put hom _⟩
theorem once_lin {ss:List (Scr (mcO m))}{S S1:TS}{l0 l1:Nat->Ph}{K:List (Nat×Int)}(h0:0<m) (hm:m<=1000) (hl0:∀ i,l0 i=.done [])
 (hn:ss.length=N) (hn8:N<=8) (hss:ss.map (·.calls)=(List.range' 0 N).map cl) (ha:∀ x∈ss,x.ans=List.replicate x.calls.length (0,0))
 (ht:S.thr=[]) (htr:S.tr=[]) (hSn:S.n=0) (hsk:S.stk=false) (hchg:S.chg=List.replicate (2*m) 0) (hK:K.map (·.2)=List.replicate (2*m) 0) (hH:Hires (mcO m) 0 ss S l0 S1 l1)
 {p':PSt} (hT:Turns (mcO m) n ⟨S1,K,l1⟩ p') {L:List Stp} (hL:p'.S.tr=flat L)
 (hop:∀ i,i<(scL N cl).length->∀ k,k<((scL N cl).getD i []).length->R3.OpIn 4 (((scL N cl).getD i []).getD k R3.call0)) (h12:R3.sumL (scL N cl) (scL N cl).length<=12):
 R3.Alike (scL N cl) (anL N λi=>(p'.l i).ans)∧∀ r,R3.Ofs (scL N cl) (anL N λi=>(p'.l i).ans) 0 (L.map toStep) R3.st0 r->∃ s,r=some s∧R3.Starts 5 (m:Int)∧s.evs.length<=12∧Hist s.evs∧Lin (refWays 5 (m:Int)) (firstOf 5 (m:Int)) s.evs:=by
 obtain ⟨L',s,t1,t2,hF,hA,hl⟩:=once_calls h0 hl0 hn hn8 hss ha (λi hi c hc=>ops_of hop i hi c hc) ht htr hSn hsk hchg hK hH hT;obtain rfl:L'=L:=flat_inj (t1.symm.trans hL);refine lin_of (shl m) ?_ (.inr (.inr (.inr (.inr ⟨rfl,by omega,by omega⟩)))) hl (once_way h0) hF hA h12;unfold shl firstOf;rw[if_neg (by decide),if_pos rfl,Int.toNat_natCast];apply List.ext_getElem?;intro j;rw[List.getElem?_map,List.getElem?_replicate];by_cases hj:j<3*m;rw[List.getElem?_range hj,if_pos hj];rfl;rw[List.getElem?_eq_none (by simp;omega),if_neg hj];rfl
end Go.Proofs.YtfjjoohflcchnaaDoor.Gen
