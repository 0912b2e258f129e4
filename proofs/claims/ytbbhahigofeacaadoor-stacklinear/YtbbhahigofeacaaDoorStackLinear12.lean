/- StackLinear, part 12 of 32: GNote, GAc, GEvs, GEvs2, GOfs, GLinE. -/
import Derived.Test.YtbbhahigofeacaaDoorStackLinear01
import Derived.Test.YtbbhahigofeacaaDoorStackLinear09
import Derived.Test.YtbbhahigofeacaaDoorStackLinear10
import Derived.Test.YtbbhahigofeacaaDoorStackLinear11
set_option linter.unusedSimpArgs false
set_option linter.unusedVariables false
set_option maxHeartbeats 4000000
set_option maxRecDepth 100000
noncomputable section
namespace Go.Proofs.YtbbhahigofeacaaDoor.Gen
open Go Go.Lift Go.Conc Go.RowKit
open Go.ConcN (upd upd_same upd_ne)
variable {L:List Stp} {N i k:Nat} {an:Nat->List (Int×Int)} {mc:Mc} {v:Vw}
def nt (L:List Stp) (i:Nat):Nat:=L.countP λs=>(s.op==9||s.op==10)&&s.th==(i:Int)
theorem nt_one (L:List Stp) (s:Stp) (i:Nat):nt (L++[s]) i=nt L i+if ((s.op==9||s.op==10)&&s.th==(i:Int))=true then 1 else 0:=by unfold nt;rw[List.countP_append,List.countP_singleton]
theorem Ib {s:Stp}(h9:s.op≠9) (h10:s.op≠10) (i:Nat):nt (L++[s]) i=nt L i:=by rw[nt_one,if_neg (by simp[h9,h10])];rfl
theorem Dp (L:List Stp) (i k:Nat) (x:Int) {op:Int}(h:op=9∨op=10):nt (L++[⟨i,-1,op,k,x⟩]) i=nt L i+1:=by rw[nt_one,if_pos (by rcases h with rfl|rfl<;>simp)]
theorem Ds (L:List Stp) {j:Nat}(hne:j≠i) (k:Nat) (x op:Int):nt (L++[⟨i,-1,op,k,x⟩]) j=nt L j:=by rw[nt_one,if_neg (by simp;intro _;omega)];rfl
def No4 (ans:List (Int×Int)) (k:Nat):Prop:=∀ q a,q<k->ans[q]? = some a->a.1≠4
theorem No4.set {ans:List (Int×Int)}(h:No4 ans k) (a:Int×Int):No4 (ans.set k a) k:=λq b hq hb=>by rw[Qq,if_neg (by omega)] at hb;exact h q b hq hb
theorem No4.next {ans:List (Int×Int)}(h:No4 ans k) {a:Int×Int}(ha:a.1≠4):No4 (ans.set k a) (k+1):=λq b hq hb=>by
 by_cases e:q=k
 .subst e
  rw[Qq,if_pos rfl] at hb;split at hb;cases hb;exact ha;cases hb
 exact h.set a q b (by omega) hb
inductive Fit9 (N:Nat) (cl:Nat->List Cl) (an:Nat->List (Int×Int)):List Stp->Prop
 |nil:Fit9 N cl an []
 |other {L:List Stp} {s:Stp}:Fit9 N cl an L->s.op≠9->s.op≠10->Fit9 N cl an (L++[s])
 |beg {L:List Stp} {i k:Nat}:Fit9 N cl an L->i<N->nt L i=2*k->k<(cl i).length->No4 (an i) k->Fit9 N cl an (L++[⟨i,-1,9,k,0⟩])
 |fin {L:List Stp} {i k:Nat} {a:Int×Int}:Fit9 N cl an L->i<N->nt L i=2*k+1->k<(cl i).length->(an i)[k]? = some a->Fit9 N cl an (L++[⟨i,-1,10,k,a.1⟩])
theorem Fit9.mono {cl:Nat->List Cl}{an':Nat->List (Int×Int)}(h:Fit9 N cl an L):(∀ i k,k<nt L i / 2->(an' i)[k]? = (an i)[k]?)->Fit9 N cl an' L:=by
 induction h with
 |nil=>intro _;exact .nil
 |other h h9 h10 ih=>intro hk;exact .other (ih λi k hi=>hk i k (by rw[Ib h9 h10];exact hi)) h9 h10
 |@beg L i k h hi hn hl h4 ih =>intro hk;refine .beg (ih λj q hq=>hk j q ?_) hi hn hl (λq a hq ha=>h4 q a hq (by rw[<-hk i q (by rw[Dp _ _ _ _ (.inl rfl)];omega)];exact ha));by_cases e:j=i;subst e;rw[Dp _ _ _ _ (.inl rfl)];omega;rw[Ds _ e];exact hq
 |@fin L i k a h hi hn hl ha ih =>
  intro hk;refine .fin (ih λj q hq=>hk j q ?_) hi hn hl ?_
  .by_cases e:j=i
   subst e;rw[Dp _ _ _ _ (.inr rfl)];omega;rw[Ds _ e];exact hq
  rw[hk i k (by rw[Dp _ _ _ _ (.inr rfl)];omega)];exact ha
def NT (calls:List Cl) (n:Nat) (l:Ph):Prop:=l.ans.length=calls.length∧match l with
 |.turn op _ _ rest ii _=>n=2*ii+1∧ii<calls.length∧rest=calls.drop (ii+1)∧No4 l.ans ii∧op≠9∧op≠10
 |.wait _ _ rest ii _=>n=2*ii+1∧ii<calls.length∧rest=calls.drop (ii+1)∧No4 l.ans ii
 |.done _=>n % 2=0∧n / 2<=calls.length
structure OpOk (mc:Mc):Prop where
 start:∀ s i c op j q,mc.set s (mc.start i c)=.turn op j q->op≠9∧op≠10
 turn:∀ s q x op j q',mc.set s (mc.turn q x).2.2=.turn op j q'->op≠9∧op≠10
 woke:∀ q op j q',mc.woke q=.turn op j q'->op≠9∧op≠10
 stuck:∀ q op j q',mc.stuck q=.turn op j q'->op≠9∧op≠10
 nts:∀ q x n,n∈mc.nts q x->n.1≠9∧n.1≠10
theorem nt_nos (i:Nat):∀ (X:List Stp) {L:List Stp},(∀ x∈X,x.op≠9∧x.op≠10)->nt (L++X) i=nt L i
 | [],L,_=>by rw[List.append_nil]
 |x :: X,L,h=>by have h1:=h x (List.mem_cons_self ..);have:=nt_nos i X (L:=L++[x]) (λy hy=>h y (List.mem_cons_of_mem _ hy));rw[List.append_assoc,List.singleton_append] at this;rw[this,Ib h1.1 h1.2]
theorem Fit9.others {cl:Nat->List Cl}:∀ (X:List Stp) {L:List Stp},Fit9 N cl an L->(∀ x∈X,x.op≠9∧x.op≠10)->Fit9 N cl an (L++X)
 | [],L,h,_=>by rw[List.append_nil];exact h
 |x :: X,L,h,hX=>by have h1:=hX x (List.mem_cons_self ..);have:=Fit9.others X (h.other h1.1 h1.2) (λy hy=>hX y (List.mem_cons_of_mem _ hy));rw[List.append_assoc,List.singleton_append] at this;exact this
theorem OpOk.ntsL (h:OpOk mc) (i:Nat) (q:Q) (x:Int):∀ s∈ntsL i (mc.nts q x),s.op≠9∧s.op≠10:=λs hs=>by unfold Gen.ntsL at hs;rw[List.mem_map] at hs;obtain ⟨n,hn,rfl⟩:=hs;exact h.nts q x n hn
section
variable {mc:Mc}{N:Nat}{cl:Nat->List Cl}{i:Nat}
theorem fw_note (hop:OpOk mc) (hi:i<N) {stk:Bool}{rest:List Cl}{ii:Nat}{sk:Bool}{ans:List (Int×Int)}{X:List Stp}{l:Ph}(h:Fw mc i stk rest ii sk ans X l):∀ (an0:Nat->List (Int×Int)) (L:List Stp),rest=(cl i).drop ii->ii<=(cl i).length->ans.length=(cl i).length->Fit9 N cl (upd an0 i ans) L->(sk=false->nt L i=2*ii∧No4 ans ii)->(sk=true->nt L i % 2=0∧nt L i / 2<=ii) ->
 Fit9 N cl (upd an0 i l.ans) (L++X)∧NT (cl i) (nt (L++X) i) l∧∀ k,k≠i->nt (L++X) k=nt L k:=by
 have dr:∀ {c:Cl} {rest:List Cl} {ii:Nat},c :: rest=(cl i).drop ii->ii<(cl i).length∧rest=(cl i).drop (ii+1):=λ{c rest ii} hr=>by constructor;have:=congrArg List.length hr;simp at this;omega;have:=congrArg List.tail hr;simpa [List.tail_drop] using this
 have put:∀ {an0:Nat->List (Int×Int)} {ans:List (Int×Int)} {L:List Stp} {ii:Nat} (a:Int×Int),Fit9 N cl (upd an0 i ans) L->nt L i / 2<=ii->Fit9 N cl (upd an0 i (ans.set ii a)) L:=λ{an0 ans L ii} a hF hn=>hF.mono λj k hk=>by
  by_cases e:j=i
  .subst e
   rw[upd_same,upd_same,Qq,if_neg (by omega)]
  rw[upd_ne _ _ e,upd_ne _ _ e]
 have one:∀ {an0:Nat->List (Int×Int)} {ans:List (Int×Int)} {L:List Stp} {ii:Nat} (a:Int×Int),ii<(cl i).length->ans.length=(cl i).length->Fit9 N cl (upd an0 i ans) L->nt L i=2*ii->No4 ans ii->Fit9 N cl (upd an0 i (ans.set ii a)) ((L++[⟨i,-1,9,ii,0⟩])++[⟨i,-1,10,ii,a.1⟩])∧nt ((L++[⟨i,-1,9,ii,0⟩])++[⟨i,-1,10,ii,a.1⟩]) i=2*(ii+1)∧∀ k,k≠i->nt ((L++[⟨i,-1,9,ii,0⟩])++[⟨i,-1,10,ii,a.1⟩]) k=nt L k:=λ{an0 ans L ii} a hlt hlen hF hn h4=>by
  have h1:nt (L++[⟨i,-1,9,ii,0⟩]) i=2*ii+1:=by rw[Dp _ _ _ _ (.inl rfl),hn]
  refine ⟨.fin (.beg (put a hF (by omega)) hi hn hlt (by rw[upd_same];exact h4.set a)) hi h1 hlt ?_,by rw[Dp _ _ _ _ (.inr rfl),h1];omega,λk hk=>by rw[Ds _ hk,Ds _ hk]⟩;rw[upd_same,Qq,if_pos rfl,if_pos (by omega)]
 induction h with
 |@nil ii sk ans =>
  intro an0 L hr hii hlen hF h0 h1;have hl:ii=(cl i).length:=by have:=congrArg List.length hr;simp at this;omega
  rw[List.append_nil];refine ⟨hF,⟨hlen,?_⟩,λ_ _=>rfl⟩;cases sk with
  |false=>have:=(h0 rfl).1;exact ⟨by omega,by omega⟩
  |true=>have:=h1 rfl;exact ⟨this.1,by omega⟩
 |@skip c rest ii ans X l h ih =>intro an0 L hr hii hlen hF h0 h1;obtain ⟨hlt,hr'⟩:=dr hr;obtain ⟨e1,e2⟩:=h1 rfl;exact ih an0 L hr' (by omega) (by rw[List.length_set];exact hlen) (put _ hF e2) (λh=>by cases h) (λ_=>⟨e1,by omega⟩)
 |@ans c rest ii ans X l e x hst h ih =>intro an0 L hr hii hlen hF h0 h1;obtain ⟨hlt,hr'⟩:=dr hr;obtain ⟨g1,g2,g3⟩:=one (e,x) hlt hlen hF (h0 rfl).1 (h0 rfl).2;obtain ⟨k1,k2,k3⟩:=ih an0 _ hr' (by omega) (by rw[List.length_set];exact hlen) g1 (λhh=>⟨g2,(h0 rfl).2.next (by simpa using hh)⟩) (λ_=>⟨by omega,by omega⟩);simp only[List.append_assoc,List.singleton_append] at k1 k2 k3 g3;exact ⟨k1,k2,λk hk=>(k3 k hk).trans (g3 k hk)⟩
 |@turn c rest ii ans op j q hst =>intro an0 L hr hii hlen hF h0 h1;obtain ⟨hlt,hr'⟩:=dr hr;refine ⟨.beg hF hi (h0 rfl).1 hlt (by rw[upd_same];exact (h0 rfl).2),⟨hlen,?_⟩,λk hk=>Ds _ hk _ _ _⟩;exact ⟨by rw[Dp _ _ _ _ (.inl rfl),(h0 rfl).1],hlt,hr',(h0 rfl).2,hop.start _ _ _ _ _ _ hst⟩
 |@wait c rest ii ans j q hst =>intro an0 L hr hii hlen hF h0 h1;obtain ⟨hlt,hr'⟩:=dr hr;refine ⟨.beg hF hi (h0 rfl).1 hlt (by rw[upd_same];exact (h0 rfl).2),⟨hlen,?_⟩,λk hk=>Ds _ hk _ _ _⟩;exact ⟨by rw[Dp _ _ _ _ (.inl rfl),(h0 rfl).1],hlt,hr',(h0 rfl).2⟩
theorem end_note (hop:OpOk mc) (hi:i<N) {stk:Bool}{rest:List Cl}{ii:Nat}{ans:List (Int×Int)}{a:Int×Int}{X:List Stp}{l:Ph}(h:Fw mc i stk rest (ii+1) (a.1==4) (ans.set ii a) X l) {an0:Nat->List (Int×Int)}(hr:rest=(cl i).drop (ii+1)) (hlt:ii<(cl i).length) (hlen:ans.length=(cl i).length) (hF:Fit9 N cl (upd an0 i ans) L) (hn:nt L i=2*ii+1) (h4:No4 ans ii):
 Fit9 N cl (upd an0 i l.ans) (L++⟨i,-1,10,ii,a.1⟩ :: X)∧NT (cl i) (nt (L++⟨i,-1,10,ii,a.1⟩ :: X) i) l∧∀ k,k≠i->nt (L++⟨i,-1,10,ii,a.1⟩ :: X) k=nt L k:=by
 have hF1:Fit9 N cl (upd an0 i (ans.set ii a)) (L++[⟨i,-1,10,ii,a.1⟩]):=by
  refine .fin (hF.mono λj k hk=>?_) hi hn hlt (by rw[upd_same,Qq,if_pos rfl,if_pos (by omega)]);by_cases e:j=i
  .subst e
   rw[upd_same,upd_same,Qq,if_neg (by omega)]
  rw[upd_ne _ _ e,upd_ne _ _ e]
 have hn1:nt (L++[⟨i,-1,10,ii,a.1⟩]) i=2*(ii+1):=by rw[Dp _ _ _ _ (.inr rfl),hn];omega
 obtain ⟨k1,k2,k3⟩:=fw_note hop hi h an0 _ hr (by omega) (by rw[List.length_set];exact hlen) hF1 (λhh=>⟨hn1,h4.next (by simpa using hh)⟩) (λ_=>⟨by omega,by omega⟩);rw[List.append_assoc,List.singleton_append] at k1 k2 k3;exact ⟨k1,k2,λk hk=>by rw[k3 k hk,Ds _ hk]⟩
end
structure NI (N:Nat) (cl:Nat->List Cl) (v:Vw):Prop where
 fit:Fit9 N cl (λi=>(v.l i).ans) v.L
 thr:∀ i,i<N->NT (cl i) (nt v.L i) (v.l i)
theorem upd_self {x:List (Int×Int)}(h:an i=x):upd an i x=an:=by funext k;by_cases e:k=i;subst e;rw[upd_same];exact h.symm;rw[upd_ne _ _ e]
theorem ans_upd {l:Nat->Ph}{l':Ph}:(λk=>(upd l i l' k).ans)=upd (λk=>(l k).ans) i l'.ans:=by funext k;by_cases e:k=i;subst e;rw[upd_same,upd_same];rw[upd_ne _ _ e,upd_ne _ _ e]
theorem NI.put {cl:Nat->List Cl}{v1:Vw}(h:NI N cl v) {l':Ph}(e:Els i l' v v1) (hF:Fit9 N cl (upd (λk=>(v.l k).ans) i l'.ans) v1.L) (ho:NT (cl i) (nt v1.L i) l') (hk:∀ k,k≠i->nt v1.L k=nt v.L k):NI N cl v1:=by refine ⟨by rw[e.l,ans_upd];exact hF,λk hkN=>?_⟩;rw[e.l];by_cases hne:k=i;subst hne;rw[upd_same];exact ho;rw[upd_ne _ _ hne,hk k hne];exact h.thr k hkN
theorem note_mv (hop:OpOk mc) {cl:Nat->List Cl}{v1:Vw}(h:NI N cl v) (m:Mv mc N v v1):NI N cl v1:=by
 cases m with
 |stuck hs hall hex e =>subst e;refine ⟨.other h.fit (by show ¬ (7:Int)=9;decide) (by show ¬ (7:Int)=10;decide),λi hi=>?_⟩;rw[Ib (by show ¬ (7:Int)=9;decide) (by show ¬ (7:Int)=10;decide)];exact h.thr i hi
 |turn i op j q rest ii ans X l' hi hl ho e eK eS eC eL =>
  have hT:=h.thr i hi;rw[hl] at hT;obtain ⟨hlen,hn,hlt,hr,h4,h9,h10⟩:=hT;have hF0:Fit9 N cl (upd (λk=>(v.l k).ans) i ans) (v.L++[⟨i,j,op,(mc.turn q (v.K.getD j 0)).1.1,(mc.turn q (v.K.getD j 0)).1.2⟩]):=.other (by rw[upd_self (by rw[hl];rfl)];exact h.fit) h9 h10;have hF:=hF0.others _ (hop.ntsL i q (v.K.getD j 0));have hn1:∀ k,nt ((v.L++[⟨i,j,op,(mc.turn q (v.K.getD j 0)).1.1,(mc.turn q (v.K.getD j 0)).1.2⟩])++ntsL i (mc.nts q (v.K.getD j 0))) k=nt v.L k:=λk=>(nt_nos k _ (hop.ntsL i q (v.K.getD j 0))).trans (Ib h9 h10 k);generalize hx:mc.set v.stk (mc.turn q (v.K.getD j 0)).2.2=nx at ho;cases ho with
  |@ans ee yy _ _ hf =>obtain ⟨k1,k2,k3⟩:=end_note (a:=(ee,yy)) hop hi hf hr hlt hlen hF (by rw[hn1];exact hn) h4;simp only[List.append_assoc,List.cons_append,List.nil_append] at k1 k2 k3 hn1;rw[<-eL] at k1 k2 k3;exact h.put e k1 k2 (λk hk=>by rw[k3 k hk,hn1])
  |turn =>rw[List.append_nil] at eL;simp only[List.append_assoc,List.cons_append,List.nil_append] at hF hn1;rw[<-eL] at hF hn1;exact h.put e hF ⟨hlen,by rw[hn1];exact hn,hlt,hr,h4,hop.turn _ _ _ _ _ _ hx⟩ (λk _=>hn1 k)
  |wait =>rw[List.append_nil] at eL;simp only[List.append_assoc,List.cons_append,List.nil_append] at hF hn1;rw[<-eL] at hF hn1;exact h.put e hF ⟨hlen,by rw[hn1];exact hn,hlt,hr,h4⟩ (λk _=>hn1 k)
 |wake i j q rest ii ans X l' hi hl hs hc ho e eK eS eC eL =>
  have hT:=h.thr i hi;rw[hl] at hT;obtain ⟨hlen,hn,hlt,hr,h4⟩:=hT;have h9:(⟨i,j,6,0,0⟩:Stp).op≠9:=by show ¬ (6:Int)=9;decide
  have h10:(⟨i,j,6,0,0⟩:Stp).op≠10:=by show ¬ (6:Int)=10;decide
  have hF:Fit9 N cl (upd (λk=>(v.l k).ans) i ans) (v.L++[⟨i,j,6,0,0⟩]):=.other (by rw[upd_self (by rw[hl];rfl)];exact h.fit) h9 h10;have hn1:∀ k,nt (v.L++[⟨i,j,6,0,0⟩]) k=nt v.L k:=Ib h9 h10;generalize hx:mc.woke q=nx at ho;cases ho with
  |@ans ee yy _ _ hf =>obtain ⟨k1,k2,k3⟩:=end_note (a:=(ee,yy)) hop hi hf hr hlt hlen hF (by rw[hn1];exact hn) h4;rw[List.append_assoc,List.singleton_append,<-eL] at k1 k2 k3;exact h.put e k1 k2 (λk hk=>by rw[k3 k hk,hn1])
  |turn =>rw[<-eL] at hF hn1;exact h.put e hF ⟨hlen,by rw[hn1];exact hn,hlt,hr,h4,hop.woke _ _ _ _ hx⟩ (λk _=>hn1 k)
  |wait =>rw[<-eL] at hF hn1;exact h.put e hF ⟨hlen,by rw[hn1];exact hn,hlt,hr,h4⟩ (λk _=>hn1 k)
 |free i j q rest ii ans X l' hi hl hs hf e eK eS eC eL =>
  have hT:=h.thr i hi;rw[hl] at hT;obtain ⟨hlen,hn,hlt,hr,h4⟩:=hT;have hF:Fit9 N cl (upd (λk=>(v.l k).ans) i ans) v.L:=by rw[upd_self (by rw[hl];rfl)];exact h.fit
  generalize hx:mc.stuck q=nx at hf;cases hf with
  |@ans ee yy _ _ hf =>obtain ⟨k1,k2,k3⟩:=end_note (a:=(ee,yy)) hop hi hf hr hlt hlen hF hn h4;rw[<-eL] at k1 k2 k3;exact h.put e k1 k2 k3
  |turn =>rw[List.append_nil] at eL;rw[<-eL] at hF;exact h.put e hF ⟨hlen,by rw[eL];exact hn,hlt,hr,h4,hop.stuck _ _ _ _ hx⟩ (λk _=>by rw[eL])
  |wait =>rw[List.append_nil] at eL;rw[<-eL] at hF;exact h.put e hF ⟨hlen,by rw[eL];exact hn,hlt,hr,h4⟩ (λk _=>by rw[eL])
theorem hi_note (hop:OpOk mc) {cl:Nat->List Cl}{cs:List (List Cl)}{v':Vw}(h:Hi mc k cs v v'):cs=(List.range' k cs.length).map cl->k+cs.length=N->Fit9 N cl (λi=>(v.l i).ans) v.L->(∀ i,i<k->NT (cl i) (nt v.L i) (v.l i))->(∀ i,k<=i->nt v.L i=0)->NI N cl v':=by
 induction h with
 |nil=>intro _ hN hF hT _;simp at hN;subst hN;exact ⟨hF,hT⟩
 |@cons k c cs v v1 v2 X l' hF e1 e2 e3 e4 e5 h ih =>
  intro hc hN hfit hT h0;rw[List.length_cons,List.range'_succ,List.map_cons] at hc;obtain ⟨hc1,hc2⟩:=List.cons.inj hc;subst hc1;simp only[List.length_cons] at hN;have hF0:Fit9 N cl (upd (λi=>(v.l i).ans) k (List.replicate (cl k).length (0,0))) v.L:=hfit.mono λj q hq=>by by_cases e:j=k;subst e;rw[h0 j (Qi _)] at hq;omega;rw[upd_ne _ _ e]
  obtain ⟨k1,k2,k3⟩:=fw_note (N:=N) (cl:=cl) hop (by omega) hF _ v.L (by simp) (Nat.zero_le _) (by simp) hF0 (λ_=>⟨h0 k (Qi _),λq a hq _=>absurd hq (by omega)⟩) (λh=>by cases h);rw[<-e4] at k1 k2 k3;refine ih hc2 (by omega) (by rw[e5.l,ans_upd];exact k1) (λi hi=>?_) (λi hi=>by rw[k3 i (by omega)];exact h0 i (by omega));rw[e5.l];by_cases hne:i=k;subst hne;rw[upd_same];exact k2;rw[upd_ne _ _ hne,k3 i hne];exact hT i (by omega)
theorem nt_le (L:List Stp) (s:Stp) (i:Nat):nt L i<=nt (L++[s]) i:=by rw[nt_one];omega
section
variable {σ:Type}{cl:Nat->List Cl}{an an':Nat->List (Int×Int)}{st:σ->Cl->Int×Int->σ->Prop}{s0 s:σ}{L:List Stp}
end
end Go.Proofs.YtbbhahigofeacaaDoor.Gen
namespace Go.Proofs.YtbbhahigofeacaaDoor.Gen
open Go Go.Lift Go.Conc Go.RowKit
open Go.Proofs.YtbbhahigofeacaaDoor.His
open Go.ConcN (upd upd_same upd_ne)
variable {α:Type} {e:His.Ev} {E:List His.Ev} {N i n:Nat} {an:Nat->List (Int×Int)} {L:List Stp} {W:World}
theorem snoc_inj {A B:List α}{x y:α}(h:A++[x]=B++[y]):A=B∧x=y:=by have:=List.append_inj' h rfl;exact ⟨this.1,by simpa using this.2⟩
section
variable {σ:Type}
end
inductive Ev9 (cl:Nat->List Cl) (an:Nat->List (Int×Int)):List Stp->List His.Ev->(Nat->Nat)->Prop
 |nil:Ev9 cl an [] [] (λ_=>0)
 |other {L:List Stp} {x:Stp} {E:List His.Ev} {id:Nat->Nat}:Ev9 cl an L E id->x.op≠9->x.op≠10->Ev9 cl an (L++[x]) E id
 |beg {L:List Stp} {E:List His.Ev} {id:Nat->Nat} {i k:Nat} {c:Cl}:Ev9 cl an L E id->nt L i=2*k->(cl i)[k]? = some c->Ev9 cl an (L++[⟨i,-1,9,k,0⟩]) (E++[⟨i,c.po,c.ca,c.cb,L.length,-1,4,0⟩]) (upd id i E.length)
 |stuck {L:List Stp} {E:List His.Ev} {id:Nat->Nat} {i k:Nat} {a:Int×Int}:Ev9 cl an L E id->nt L i=2*k+1->(an i)[k]? = some a->a.1=4->Ev9 cl an (L++[⟨i,-1,10,k,a.1⟩]) E id
 |fin {L:List Stp} {E:List His.Ev} {id:Nat->Nat} {i k:Nat} {a:Int×Int} {e:His.Ev}:Ev9 cl an L E id->nt L i=2*k+1->(an i)[k]? = some a->a.1≠4->E[id i]? = some e->Ev9 cl an (L++[⟨i,-1,10,k,a.1⟩]) (E.set (id i) ⟨e.thr,e.op,e.a,e.b,e.beg,L.length,a.1,a.2⟩) id
def AccTo {τ:Type}(ways:Ways τ):τ->List His.Ev->τ->Prop
 |s,[],t=>s=t
 |s,e :: r,t=>∃ o,o∈ways s e∧o.1=e.ans∧AccTo ways o.2 r t
theorem AccTo.snoc {τ:Type}{ways:Ways τ}{o:(Int×Int)×τ}:∀ {l:List His.Ev}{s t:τ},AccTo ways s l t->o∈ways t e->o.1=e.ans->AccTo ways s (l++[e]) o.2
 | [],s,t,h,h1,h2=>by have:s=t:=h;subst this;exact ⟨o,h1,h2,rfl⟩
 |x :: r,s,t,h,h1,h2=>by obtain ⟨p,k1,k2,k3⟩:=h;exact ⟨p,k1,k2,AccTo.snoc k3 h1 h2⟩
structure EvI (cl:Nat->List Cl) (an:Nat->List (Int×Int)) {τ:Type}(ways:Ways τ) (t0:τ) (L:List Stp) (E:List His.Ev) (id:Nat->Nat) (ord:List Nat) (t:τ):Prop where
 timed:∀ (m:Nat) (e:His.Ev),E[m]? = some e->0<=e.beg∧e.beg<L.length∧(e.fin=-1∨(e.beg<e.fin∧e.fin<L.length))
 act:∀ (i k:Nat),nt L i=2*k+1->∃ (e:His.Ev) (c:Cl),E[id i]? = some e∧e.thr=(i:Int)∧e.fin=-1∧(cl i)[k]? = some c∧e.op=c.po∧e.a=c.ca∧e.b=c.cb
 two:∀ (m m':Nat) (e e':His.Ev),m'<m->E[m]? = some e->E[m']? = some e'->e.thr=e'.thr->Bq e' e=true
 open_:∀ (m:Nat) (e:His.Ev) (i:Nat),E[m]? = some e->e.thr=(i:Int)->e.fin=-1->(nt L i % 2=1∧m=id i)∨∃ (q:Nat) (a:Int×Int),q<nt L i / 2∧(an i)[q]? = some a∧a.1=4
 nodup:ord.Nodup
 over:∀ (m:Nat),m∈ord->∃ (e:His.Ev),E[m]? = some e∧e.over=true
 all:∀ (m:Nat) (e:His.Ev),E[m]? = some e->e.over=true->m∈ord
 ord_:ord.Pairwise λm m'=>(E.getD m ev0).fin<(E.getD m' ev0).fin
 acc:AccTo ways t0 (ord.map λm=>E.getD m ev0) t
theorem G3 {m:Nat}(h:E[m]? = some e):E.getD m ev0=e:=by rw[Ql,h];rfl
theorem F2 :e.over=true↔e.fin≠-1:=over_iff
section
variable {cl:Nat->List Cl}{an:Nat->List (Int×Int)}{τ:Type}{ways:Ways τ}{t0 t:τ}{L:List Stp}{E:List His.Ev}{id:Nat->Nat}{ord:List Nat}
theorem EvI.skip (h:EvI cl an ways t0 L E id ord t) (x:Stp) (ha:∀ (i k:Nat),nt (L++[x]) i=2*k+1->nt L i=2*k+1) (ho:∀ (i m:Nat),nt L i % 2=1->m=id i->nt (L++[x]) i=nt L i∨∃ (q:Nat) (a:Int×Int),q<nt (L++[x]) i / 2∧(an i)[q]? = some a∧a.1=4):EvI cl an ways t0 (L++[x]) E id ord t:=by
 refine ⟨λm e he=>?_,λi k hn=>h.act i k (ha i k hn),h.two,λm e i he hi hf=>?_,h.nodup,h.over,h.all,h.ord_,h.acc⟩
 .have:=h.timed m e he
  rw[Qj,List.length_singleton];refine ⟨this.1,by omega,?_⟩;rcases this.2.2 with h|h;exact .inl h;exact .inr ⟨h.1,by omega⟩
 .rcases h.open_ m e i he hi hf with ⟨h1,h2⟩|⟨q,a,h1,h2,h3⟩
  .rcases ho i m h1 h2 with e|e
   exact .inl ⟨by rw[e];exact h1,h2⟩;exact .inr e
  exact .inr ⟨q,a,by have:=nt_le L x i;omega,h2,h3⟩
theorem EvI.begin (h:EvI cl an ways t0 L E id ord t) {k:Nat}{c:Cl}(hn:nt L i=2*k) (hc:(cl i)[k]? = some c) (h4:No4 (an i) k):EvI cl an ways t0 (L++[⟨i,-1,9,k,0⟩]) (E++[⟨i,c.po,c.ca,c.cb,L.length,-1,4,0⟩]) (upd id i E.length) ord t:=by
 have get:∀ (m:Nat) (e:His.Ev),(E++[(⟨i,c.po,c.ca,c.cb,L.length,-1,4,0⟩:His.Ev)])[m]? = some e->E[m]? = some e∨(m=E.length∧e=⟨i,c.po,c.ca,c.cb,L.length,-1,4,0⟩):=λm e he=>by
  rw[List.getElem?_append] at he;split at he;exact .inl he
  .right
   have:m - E.length=0:=by have:=(Qc he).1;simp at this;omega
   rw[this] at he;exact ⟨by omega,by simpa using he.symm⟩
 have lift:∀ (m:Nat) (e:His.Ev),E[m]? = some e->(E++[(⟨i,c.po,c.ca,c.cb,L.length,-1,4,0⟩:His.Ev)])[m]? = some e:=λm e he=>by rw[Qn (Qc he).1];exact he
 have own:nt (L++[⟨i,-1,9,k,0⟩]) i=2*k+1:=by rw[Dp _ _ _ _ (.inl rfl),hn]
 have oth:∀ j,j≠i->nt (L++[⟨i,-1,9,k,0⟩]) j=nt L j:=λj hj=>Ds _ hj _ _ _;have mem:∀ (m:Nat),m∈ord->(E++[(⟨i,c.po,c.ca,c.cb,L.length,-1,4,0⟩:His.Ev)]).getD m ev0=E.getD m ev0:=λm hm=>by obtain ⟨e,he,_⟩:=h.over m hm;rw[G3 he,G3 (lift m e he)]
 refine ⟨λm e he=>?_,λj q hq=>?_,λm m' e e' hlt he he' ht=>?_,λm e j he hj hf=>?_,h.nodup,λm hm=>?_,λm e he ho=>?_,?_,?_⟩
 .rw[Qj,List.length_singleton]
  rcases get m e he with he|⟨_,rfl⟩
  .have:=h.timed m e he
   refine ⟨this.1,by omega,?_⟩;rcases this.2.2 with h|h;exact .inl h;exact .inr ⟨h.1,by omega⟩
  exact ⟨by show (0:Int)<=(L.length:Int);omega,by show (L.length:Int)<((L.length+1:Nat):Int);omega,.inl rfl⟩
 .by_cases e:j=i
  .subst e
   have:q=k:=by omega
   subst this;rw[upd_same];exact ⟨⟨j,c.po,c.ca,c.cb,L.length,-1,4,0⟩,c,by rw[List.getElem?_append_right (Qi _)];simp,rfl,rfl,hc,rfl,rfl,rfl⟩
  .rw[oth j e] at hq
   obtain ⟨e1,c1,k1,k2⟩:=h.act j q hq;rw[upd_ne _ _ e];exact ⟨e1,c1,lift _ _ k1,k2⟩
 .rcases get m e he with he|⟨rfl,rfl⟩
  .rcases get m' e' he' with he'|⟨rfl,_⟩
   exact h.two m m' e e' hlt he he' ht;have:=(Qc he).1;omega
  .rcases get m' e' he' with he'|⟨rfl,_⟩
   .have hfin:e'.fin≠-1:=λhf=>by
     rcases h.open_ m' e' i he' ht.symm hf with ⟨h1,_⟩|⟨q,a,h1,h2,h3⟩
     omega;exact h4 q a (by omega) h2 h3
    have:=(h.timed m' e' he').2.2;unfold Bq;rw[F2.2 hfin,Bool.true_and];exact decide_eq_true (by show e'.fin<(L.length:Int);rcases this with h|h;exact absurd h hfin;exact h.2)
   omega
 .rcases get m e he with hE|⟨rfl,rfl⟩
  .by_cases ej:j=i
   .subst ej
    rcases h.open_ m e j hE hj hf with ⟨h1,_⟩|⟨q,a,h1,h2,h3⟩
    omega;exact .inr ⟨q,a,by omega,h2,h3⟩
   .rw[oth j ej,upd_ne _ _ ej]
    exact h.open_ m e j hE hj hf
  .have:(i:Int)=j:=hj
   obtain rfl:j=i:=by omega
   exact .inl ⟨by omega,by rw[upd_same]⟩
 .obtain ⟨e,he,ho⟩:=h.over m hm
  exact ⟨e,lift m e he,ho⟩
 .rcases get m e he with he|⟨rfl,rfl⟩
  exact h.all m e he ho;exact absurd rfl (F2.1 ho)
 exact h.ord_.imp_of_mem λha hb hlt=>by rw[mem _ ha,mem _ hb];exact hlt
 .have:ord.map (λm=>(E++[(⟨i,c.po,c.ca,c.cb,L.length,-1,4,0⟩:His.Ev)]).getD m ev0)=ord.map λm=>E.getD m ev0:=List.map_congr_left mem
  rw[this];exact h.acc
theorem EvI.finish (h:EvI cl an ways t0 L E id ord t) {k:Nat}{a:Int×Int}{e0:His.Ev}{o:(Int×Int)×τ}(hn:nt L i=2*k+1) (he0:E[id i]? = some e0) (hf0:e0.fin=-1) (ht0:e0.thr=(i:Int)) (ho:o∈ways t ⟨e0.thr,e0.op,e0.a,e0.b,e0.beg,L.length,a.1,a.2⟩) (hoa:o.1=a):
 EvI cl an ways t0 (L++[⟨i,-1,10,k,a.1⟩]) (E.set (id i) ⟨e0.thr,e0.op,e0.a,e0.b,e0.beg,L.length,a.1,a.2⟩) id (ord++[id i]) o.2:=by
 have hlt0:id i<E.length:=(Qc he0).1;have get:∀ (m:Nat) (e:His.Ev),(E.set (id i) (⟨e0.thr,e0.op,e0.a,e0.b,e0.beg,L.length,a.1,a.2⟩:His.Ev))[m]? = some e->(m≠id i∧E[m]? = some e)∨(m=id i∧e=⟨e0.thr,e0.op,e0.a,e0.b,e0.beg,L.length,a.1,a.2⟩):=λm e he=>by
  rw[Qq] at he;by_cases em:id i=m
  .rw[if_pos em,if_pos hlt0] at he
   exact .inr ⟨em.symm,(Qd he).symm⟩
  .rw[if_neg em] at he
   exact .inl ⟨λx=>em x.symm,he⟩
 have put:(E.set (id i) (⟨e0.thr,e0.op,e0.a,e0.b,e0.beg,L.length,a.1,a.2⟩:His.Ev))[id i]? = some ⟨e0.thr,e0.op,e0.a,e0.b,e0.beg,L.length,a.1,a.2⟩:=by rw[Qq,if_pos rfl,if_pos hlt0]
 have lift:∀ (m:Nat) (e:His.Ev),m≠id i->E[m]? = some e->(E.set (id i) (⟨e0.thr,e0.op,e0.a,e0.b,e0.beg,L.length,a.1,a.2⟩:His.Ev))[m]? = some e:=λm e hm he=>by rw[Qq,if_neg (λx=>hm x.symm)];exact he
 have nin:id i ∉ ord:=λhm=>by obtain ⟨e,he,hov⟩:=h.over _ hm;rw[he0] at he;cases he;exact F2.1 hov hf0
 have mem:∀ (m:Nat),m∈ord->(E.set (id i) (⟨e0.thr,e0.op,e0.a,e0.b,e0.beg,L.length,a.1,a.2⟩:His.Ev)).getD m ev0=E.getD m ev0:=λm hm=>by obtain ⟨e,he,_⟩:=h.over m hm;rw[G3 he,G3 (lift m e (λx=>nin (x▸hm)) he)]
 have own:nt (L++[⟨i,-1,10,k,a.1⟩]) i=2*(k+1):=by rw[Dp _ _ _ _ (.inr rfl),hn];omega
 have oth:∀ j,j≠i->nt (L++[⟨i,-1,10,k,a.1⟩]) j=nt L j:=λj hj=>Ds _ hj _ _ _;have hb0:=h.timed _ _ he0;have hov:(⟨e0.thr,e0.op,e0.a,e0.b,e0.beg,L.length,a.1,a.2⟩:His.Ev).over=true:=F2.2 (by show (L.length:Int)≠-1;omega);refine ⟨λm e he=>?_,λj q hq=>?_,λm m' e e' hlt he he' ht=>?_,λm e j he hj hf=>?_,?_,λm hm=>?_,λm e he ho=>?_,?_,?_⟩
 .rw[Qj,List.length_singleton]
  rcases get m e he with ⟨_,he⟩|⟨_,rfl⟩
  .have:=h.timed m e he
   refine ⟨this.1,by omega,?_⟩;rcases this.2.2 with h|h;exact .inl h;exact .inr ⟨h.1,by omega⟩
  exact ⟨hb0.1,by have:=hb0.2.1;show e0.beg<((L.length+1:Nat):Int);omega,.inr ⟨hb0.2.1,by show (L.length:Int)<((L.length+1:Nat):Int);omega⟩⟩
 .by_cases e:j=i
  subst e;omega
  .rw[oth j e] at hq
   obtain ⟨e1,c1,k1,k2,k3⟩:=h.act j q hq;have:id j≠id i:=λx=>by rw[x,he0] at k1;cases k1;rw[ht0] at k2;exact e (by omega)
   exact ⟨e1,c1,lift _ _ this k1,k2,k3⟩
 .rcases get m e he with ⟨_,he⟩|⟨rfl,rfl⟩
  .rcases get m' e' he' with ⟨_,he'⟩|⟨rfl,rfl⟩
   exact h.two m m' e e' hlt he he' ht
   .have:=evAhead_over (h.two m _ e e0 hlt he he0 ht)
    exact absurd hf0 (F2.1 this)
  .rcases get m' e' he' with ⟨_,he'⟩|⟨rfl,_⟩
   exact h.two _ m' e0 e' hlt he0 he' ht;omega
 .rcases get m e he with ⟨hm,hE⟩|⟨rfl,rfl⟩
  .by_cases ej:j=i
   .subst ej
    rcases h.open_ m e j hE hj hf with ⟨_,h1⟩|⟨q,b,h1,h2,h3⟩
    exact absurd h1 hm;exact .inr ⟨q,b,by omega,h2,h3⟩
   .rw[oth j ej]
    exact h.open_ m e j hE hj hf
  exact absurd hf (F2.1 hov)
 exact List.nodup_append.2 ⟨h.nodup,by simp,λx hx y hy=>by rw[List.mem_singleton] at hy;subst hy;exact λe=>nin (e▸hx)⟩
 .rw[List.mem_append,List.mem_singleton] at hm
  rcases hm with hm|rfl
  .obtain ⟨e,he,ho⟩:=h.over m hm
   exact ⟨e,lift m e (λx=>nin (x▸hm)) he,ho⟩
  exact ⟨_,put,hov⟩
 .rw[List.mem_append,List.mem_singleton]
  rcases get m e he with ⟨_,he⟩|⟨rfl,_⟩
  exact .inl (h.all m e he ho);exact .inr rfl
 .rw[List.pairwise_append]
  refine ⟨h.ord_.imp_of_mem λha hb hlt=>by rw[mem _ ha,mem _ hb];exact hlt,List.pairwise_singleton _ _,λx hx y hy=>?_⟩;rw[List.mem_singleton] at hy;subst hy;obtain ⟨e,he,ho⟩:=h.over x hx;rw[mem _ hx,G3 he,G3 put];have:=(h.timed x e he).2.2;rcases this with h|h;exact absurd h (F2.1 ho);exact h.2
 .have e1:ord.map (λm=>(E.set (id i) (⟨e0.thr,e0.op,e0.a,e0.b,e0.beg,L.length,a.1,a.2⟩:His.Ev)).getD m ev0)=ord.map λm=>E.getD m ev0:=List.map_congr_left mem
  rw[List.map_append,e1,List.map_singleton,G3 put];exact h.acc.snoc ho (by rw[hoa];rfl)
end
theorem EvI.hist {cl:Nat->List Cl}{τ:Type}{ways:Ways τ}{t0 t:τ}{id:Nat->Nat}{ord:List Nat}(h:EvI cl an ways t0 L E id ord t):Hist E:=λi hi=>by
 have hg:∀ m,m<E.length->E[m]? = some (E.getD m ev0):=λm hm=>by rw[Ql,Qf hm];rfl
 refine ⟨?_,λk hk ht=>.inr (h.two i k _ _ hk (hg i hi) (hg k (by omega)) ht)⟩;have:=h.timed i _ (hg i hi);exact ⟨this.1,this.2.2.imp (λx=>x) (·.1)⟩
def Gz (s:Stp):R3.Step:=⟨s.th,s.ce,s.op,s.ol,s.ne⟩
def toCall (c:Cl):R3.Call:=⟨c.po,c.ca,c.cb,c.cc⟩
def scL (N:Nat) (cl:Nat->List Cl):List (List R3.Call):=(List.range N).map λi=>(cl i).map toCall
def anL (N:Nat) (an:Nat->List (Int×Int)):List (List (Int×Int)):=(List.range N).map an
def Ep (L:List Stp) (id:Nat->Nat):Nat->Nat×Nat×Nat:=λt=>((nt L t+1) / 2,nt L t / 2,id t)
theorem I1 (N:Nat) (cl:Nat->List Cl):(scL N cl).length=N:=by simp[scL]
theorem anL_len (N:Nat) (an:Nat->List (Int×Int)):(anL N an).length=N:=by simp[anL]
theorem scL_get (cl:Nat->List Cl) (h:i<N):(scL N cl).getD i []=(cl i).map toCall:=by simp[scL,Ql,h]
theorem anL_get (an:Nat->List (Int×Int)) (h:i<N):(anL N an).getD i []=an i:=by simp[anL,Ql,h]
theorem alike_of {cl:Nat->List Cl}(hl:∀ i,i<N->(an i).length=(cl i).length):R3.Alike (scL N cl) (anL N an):=by refine ⟨by rw[I1,anL_len],λi hi=>?_⟩;rw[I1] at hi;rw[scL_get cl hi,anL_get an hi,List.length_map,hl i hi]
theorem Ih {cl:Nat->List Cl}{M:List Stp}(h:Fit9 N cl an M):∀ (L:List Stp) (x:Stp),M=L++[x]->Fit9 N cl an L∧((x.op=9∨x.op=10)->∃ i:Nat,x.th=(i:Int)∧i<N):=by
 cases h with
 |nil=>intro L x e;exact absurd e.symm (by simp)
 |other h h9 h10 =>intro L x e;obtain ⟨rfl,rfl⟩:=snoc_inj e;exact ⟨h,λhh=>by rcases hh with hh|hh;exact absurd hh h9;exact absurd hh h10⟩
 |beg h hi hn hk h4 =>intro L x e;obtain ⟨rfl,rfl⟩:=snoc_inj e;exact ⟨h,λ_=>⟨_,rfl,hi⟩⟩
 |fin h hi hn hk ha =>intro L x e;obtain ⟨rfl,rfl⟩:=snoc_inj e;exact ⟨h,λ_=>⟨_,rfl,hi⟩⟩
theorem ofs_ev {cl:Nat->List Cl}(hl:∀ i,i<N->(an i).length=(cl i).length) {id:Nat->Nat}(h:Ev9 cl an L E id):
 Fit9 N cl an L->∀ l r,R3.Ofs (scL N cl) (anL N an) 0 (L.map Gz++l) R3.st0 r->R3.Ofs (scL N cl) (anL N an) L.length l ⟨E,Ep L id⟩ r:=by
 induction h with
 |nil =>
  intro _ l r ho;have et:Ep [] (λ_=>0)=λ_=>(0,0,0):=funext λt=>by simp[Ep,nt]
  rw[et];exact ho
 |@other L x E id h h9 h10 ih =>
  intro hF l r ho;obtain ⟨hF,_⟩:=Ih hF _ _ rfl;rw[List.map_append,List.append_assoc] at ho;have:=R3.ofs_skip (show (Gz x).op≠9 from h9) (show (Gz x).op≠10 from h10) (ih hF _ _ ho);have et:Ep (L++[x]) id=Ep L id:=funext λt=>by simp only[Ep,Ib h9 h10]
  rw[Qj,List.length_singleton,et];exact this
 |@beg L E id i k c h hn hc ih =>
  intro hF l r ho;obtain ⟨hF,hi⟩:=Ih hF _ _ rfl;obtain ⟨j,hj,hi⟩:=hi (.inl rfl);have hj:(i:Int)=j:=hj;obtain rfl:i=j:=by omega
  rw[List.map_append,List.append_assoc] at ho;have hk:k<(cl i).length:=(Qc hc).1;have t1:(Ep L id i).1=k:=by show (nt L i+1) / 2=k;omega
  have t2:(Ep L id i).2.1=k:=by show nt L i / 2=k;omega
  have:=R3.ofs_begin (t:=i) (show (Gz ⟨i,-1,9,k,0⟩).op=9 from rfl) rfl (by rw[I1];exact hi) ⟨by rw[t1,t2],by rw[t1,anL_get an hi,hl i hi];exact hk,by rw[t1];rfl,rfl⟩ (ih hF _ _ ho);have es:R3.Dx (scL N cl) ⟨E,Ep L id⟩ i L.length=⟨E++[⟨i,c.po,c.ca,c.cb,L.length,-1,4,0⟩],Ep (L++[⟨i,-1,9,k,0⟩]) (upd id i E.length)⟩:=by
   unfold R3.Dx;simp only[t1,t2,scL_get cl hi];have e1:((cl i).map toCall).getD k R3.call0=toCall c:=by simp[Ql,hc]
   rw[e1]
   congr 1
   funext t;by_cases e:t=i
   .subst e
    simp only[R3.upd,if_pos,Ep,upd_same,Dp _ _ _ _ (.inl rfl),hn]
    congr 1
    omega
    .congr 1;omega
   simp only[R3.upd,if_neg e,Ep,upd_ne _ _ e,Ds _ e]
  rw[Qj,List.length_singleton,<-es];exact this
 |@stuck L E id i k a h hn ha h4 ih =>
  intro hF l r ho;obtain ⟨hF,hi⟩:=Ih hF _ _ rfl;obtain ⟨j,hj,hi⟩:=hi (.inr rfl);have hj:(i:Int)=j:=hj;obtain rfl:i=j:=by omega
  rw[List.map_append,List.append_assoc] at ho;have t1:(Ep L id i).1=k+1:=by show (nt L i+1) / 2=k+1;omega
  have t2:(Ep L id i).2.1=k:=by show nt L i / 2=k;omega
  have ea:(an i).getD k (0,0)=a:=by simp[Ql,ha]
  have:=R3.ofs_end (t:=i) (show (Gz ⟨i,-1,10,k,a.1⟩).op=10 from rfl) rfl (by rw[I1];exact hi) ⟨by rw[t1,t2];omega,by rw[t2];rfl,by rw[t2,anL_get an hi,ea];rfl⟩ (ih hF _ _ ho);have es:R3.endSt (anL N an) ⟨E,Ep L id⟩ i L.length=⟨E,Ep (L++[⟨i,-1,10,k,a.1⟩]) id⟩:=by
   unfold R3.endSt;simp only[t1,t2,anL_get an hi,ea,h4,if_pos]
   congr 1
   funext t;by_cases e:t=i
   .subst e
    simp only[R3.upd,if_pos,Ep,Dp _ _ _ _ (.inr rfl),hn]
    congr 1
    omega
    .congr 1;omega
   simp only[R3.upd,if_neg e,Ep,Ds _ e]
  rw[Qj,List.length_singleton,<-es];exact this
 |@fin L E id i k a e h hn ha h4 he ih =>
  intro hF l r ho;obtain ⟨hF,hi⟩:=Ih hF _ _ rfl;obtain ⟨j,hj,hi⟩:=hi (.inr rfl);have hj:(i:Int)=j:=hj;obtain rfl:i=j:=by omega
  rw[List.map_append,List.append_assoc] at ho;have t1:(Ep L id i).1=k+1:=by show (nt L i+1) / 2=k+1;omega
  have t2:(Ep L id i).2.1=k:=by show nt L i / 2=k;omega
  have t3:(Ep L id i).2.2=id i:=rfl;have ea:(an i).getD k (0,0)=a:=by simp[Ql,ha]
  have:=R3.ofs_end (t:=i) (show (Gz ⟨i,-1,10,k,a.1⟩).op=10 from rfl) rfl (by rw[I1];exact hi) ⟨by rw[t1,t2];omega,by rw[t2];rfl,by rw[t2,anL_get an hi,ea];rfl⟩ (ih hF _ _ ho);have es:R3.endSt (anL N an) ⟨E,Ep L id⟩ i L.length=⟨E.set (id i) ⟨e.thr,e.op,e.a,e.b,e.beg,L.length,a.1,a.2⟩,Ep (L++[⟨i,-1,10,k,a.1⟩]) id⟩:=by
   unfold R3.endSt;simp only[t1,t2,t3,anL_get an hi,ea,h4,if_neg,not_false_eq_true];rw[G3 he];unfold R3.ended
   congr 1
   funext t;by_cases e:t=i
   .subst e
    simp only[R3.upd,if_pos,Ep,Dp _ _ _ _ (.inr rfl),hn]
    congr 1
    omega
    .congr 1;omega
   simp only[R3.upd,if_neg e,Ep,Ds _ e]
  rw[Qj,List.length_singleton,<-es];exact this
theorem ofs_is {cl:Nat->List Cl}(hl:∀ i,i<N->(an i).length=(cl i).length) {id:Nat->Nat}(h:Ev9 cl an L E id) (hF:Fit9 N cl an L) {r:Option R3.St}
 (ho:R3.Ofs (scL N cl) (anL N an) 0 (L.map Gz) R3.st0 r):r=some ⟨E,Ep L id⟩ :=
 ofs_ev hl h hF [] r (by rw[List.append_nil];exact ho)
def sumG (f:Nat->Nat):Nat->Nat
 |0=>0
 |n+1=>sumG f n+f n
theorem Kw {f g:Nat->Nat}:∀ (n:Nat),(∀ i,i<n->f i=g i)->sumG f n=sumG g n
 |0,_=>rfl
 |n+1,h=>by rw[sumG,sumG,Kw n (λi hi=>h i (by omega)),h n (by omega)]
theorem sumG_one {f g:Nat->Nat}{j d:Nat}(hj:g j=f j+d) (ho:∀ i,i≠j->g i=f i):∀ (n:Nat),j<n->sumG g n=sumG f n+d
 |0,h=>absurd h (Nat.not_lt_zero _)
 |n+1,h=>by
  rw[sumG,sumG];by_cases e:j=n
  .subst e
   rw[Kw (f:=g) (g:=f) j (λi hi=>ho i (by omega)),hj];omega
  rw[sumG_one hj ho n (by omega),ho n (λx=>e x.symm)];omega
theorem sumG_le {f g:Nat->Nat}:∀ (n:Nat),(∀ i,i<n->f i<=g i)->sumG f n<=sumG g n
 |0,_=>Qi _
 |n+1,h=>by have:=sumG_le n (λi hi=>h i (by omega));have:=h n (by omega);show sumG f n+f n<=sumG g n+g n;omega
theorem ev_len {cl:Nat->List Cl}{id:Nat->Nat}(h:Ev9 cl an L E id):Fit9 N cl an L->E.length=sumG (λi=>(nt L i+1) / 2) N:=by
 have one:∀ {L:List Stp} {i k:Nat} {a:Int},i<N->nt L i=2*k+1->sumG (λj=>(nt (L++[⟨i,-1,10,k,a⟩]) j+1) / 2) N=sumG (λj=>(nt L j+1) / 2) N:=λ{L i k a} hi hn=>Kw N λj _=>by by_cases e:j=i;subst e;rw[Dp _ _ _ _ (.inr rfl)];omega;rw[Ds _ e]
 induction h with
 |nil =>
  intro _;rw[Kw (g:=λ_=>0) N (λi _=>by simp[nt])];have:∀ n,sumG (λ_=>0) n=0:=λn=>by induction n with|zero=>rfl|succ n ih=>rw[sumG,ih]
  rw[this];rfl
 |@other L x E id h h9 h10 ih =>intro hF;rw[ih (Ih hF _ _ rfl).1];exact Kw N λi _=>by rw[Ib h9 h10]
 |@beg L E id i k c h hn hc ih =>
  intro hF;obtain ⟨hF,hi⟩:=Ih hF _ _ rfl;obtain ⟨j,hj,hi⟩:=hi (.inl rfl);have hj:(i:Int)=j:=hj;obtain rfl:i=j:=by omega
  rw[Qj,List.length_singleton,ih hF];exact (sumG_one (j:=i) (d:=1) (by rw[Dp _ _ _ _ (.inl rfl),hn];omega) (λj hj=>by rw[Ds _ hj]) N hi).symm
 |@stuck L E id i k a h hn ha h4 ih =>
  intro hF;obtain ⟨hF,hi⟩:=Ih hF _ _ rfl;obtain ⟨j,hj,hi⟩:=hi (.inr rfl);have hj:(i:Int)=j:=hj;obtain rfl:i=j:=by omega
  rw[ih hF,one hi hn]
 |@fin L E id i k a e h hn ha h4 he ih =>
  intro hF;obtain ⟨hF,hi⟩:=Ih hF _ _ rfl;obtain ⟨j,hj,hi⟩:=hi (.inr rfl);have hj:(i:Int)=j:=hj;obtain rfl:i=j:=by omega
  rw[List.length_set,ih hF,one hi hn]
theorem fit_nt {cl:Nat->List Cl}(h:Fit9 N cl an L):∀ i,nt L i<=2*(cl i).length:=by
 induction h with
 |nil=>intro i;simp[nt]
 |other h h9 h10 ih=>intro i;rw[Ib h9 h10];exact ih i
 |@beg L i k h hi hn hk h4 ih =>intro j;by_cases e:j=i;subst e;rw[Dp _ _ _ _ (.inl rfl)];omega;rw[Ds _ e];exact ih j
 |@fin L i k a h hi hn hk ha ih =>intro j;by_cases e:j=i;subst e;rw[Dp _ _ _ _ (.inr rfl)];omega;rw[Ds _ e];exact ih j
theorem SLw_grows {enc:α->List Value}{w w':World}{v:Value}{l:List α}(hg:Grows w w') (h:R3.SLw n enc w v l):R3.SLw n enc w' v l:=by obtain ⟨p,cap,rfl,h1,h2,h3⟩:=h;refine ⟨p,cap,rfl,h1,h2,λi a hi=>?_⟩;obtain ⟨blk,off,e,hlt,hr⟩:=h3 i a hi;exact ⟨blk,off,e,Qp hlt hg.size,λj u hj=>hg.cell (hr j u hj)⟩
theorem SSw_grows {enc:α->List Value}{w w':World}{v:Value}{ll:List (List α)}(hg:Grows w w') (h:R3.SSw n enc w v ll):R3.SSw n enc w' v ll:=by obtain ⟨p,cap,rfl,h1,h2,h3⟩:=h;refine ⟨p,cap,rfl,h1,h2,λi l hi=>?_⟩;obtain ⟨blk,off,vi,e,hc,hs⟩:=h3 i l hi;exact ⟨blk,off,vi,e,hg.cell hc,SLw_grows hg hs⟩
theorem ss_scripts {p:Option Addr}{b o cap:Nat}{pc:Nat->Option Addr}{ln cp rb:Nat->Nat}{cl:Nat->List Cl}(h:InS W p b o n pc ln cp rb cl) (h64:∀ j,j<n->ln j<=64) (hn:n<=8):R3.SSw 4 R3.callL W (.slice p n cap) (scL n cl):=by
 refine ⟨p,cap,by rw[I1],by rw[I1];omega,Qi _,λi l hi=>?_⟩;have hin:i<n:=by have:=(Qc hi).1;rwa [I1] at this
 obtain rfl:l=(cl i).map toCall:=by simpa [scL,hin] using hi.symm
 refine ⟨b,o,_,h.at_ (by omega),h.row i hin,pc i,cp i,by rw[List.length_map,h.len i hin],by rw[List.length_map,h.len i hin];have:=h64 i hin;omega,Qi _,λk a hk=>?_⟩;rw[List.getElem?_map] at hk;cases hc:(cl i)[k]? with
 |none=>rw[hc] at hk;cases hk
 |some c =>
  rw[hc] at hk;obtain rfl:toCall c=a:=by simpa using hk
  have hl:0<ln i:=by have:=(Qc hc).1;rw[h.len i hin] at this;omega
  obtain ⟨c0,c1,c2,c3⟩:=h.call i hin k c hc;refine ⟨rb i,roOf (pc i),h.pq i hin hl,World.block_lt_of_cell? _ _ c0,λj u hj=>?_⟩
  match j,hj with
  |0,hj=>cases hj;exact c0
  |1,hj=>cases hj;exact c1
  |2,hj=>cases hj;exact c2
  |3,hj=>cases hj;exact c3
  |j+4,hj=>simp[R3.callL] at hj
theorem ss_answers {M:Nat}{A ln:Nat->Nat}{l:Nat->Ph}{t:TypeId}(h64:∀ j,j<n->ln j<=64) (hn:n<=8) (hrow:∀ j,j<n->W.cell? ⟨M,j,none⟩=some (.slice (some ⟨A j,0,none⟩) (ln j) (ln j))) (hans:∀ j,j<n->(l j).ans.length=ln j∧(0<ln j->W.heap[A j]? = some (.cells (arow (l j).ans).toArray t (0,0)))):
 R3.SSw 2 R3.ansL W (.slice (some ⟨M,0,none⟩) n n) (anL n λi=>(l i).ans):=by
 refine ⟨some ⟨M,0,none⟩,n,by rw[anL_len],by rw[anL_len];omega,Qi _,λi a hi=>?_⟩;have hin:i<n:=by have:=(Qc hi).1;rwa [anL_len] at this
 obtain rfl:a=(l i).ans:=by simpa [anL,hin] using hi.symm
 refine ⟨M,0,_,rfl,by rw[Nat.zero_add];exact hrow i hin,some ⟨A i,0,none⟩,ln i,by rw[(hans i hin).1],by rw[(hans i hin).1];have:=h64 i hin;omega,Qi _,λk q hk=>?_⟩;have hl:0<ln i:=by have:=(Qc hk).1;rw[(hans i hin).1] at this;omega
 have hb:=(hans i hin).2 hl;obtain ⟨a0,a1⟩:=arow_get _ _ _ hk;have c0:W.cell? ⟨A i,k*2,none⟩=some (I q.1):=cell_of hb (by rw[List.getElem?_toArray];exact a0);have c1:W.cell? ⟨A i,k*2+1,none⟩=some (I q.2):=cell_of hb (by rw[List.getElem?_toArray];exact a1);refine ⟨A i,0,rfl,World.block_lt_of_cell? _ _ c0,λj u hj=>?_⟩;rw[Nat.zero_add]
 match j,hj with
 |0,hj=>cases hj;exact c0
 |1,hj=>cases hj;exact c1
 |j+2,hj=>simp[R3.ansL] at hj
theorem sl_trace {p:Option Addr}{g cap m:Nat}(hm:m=L.length) (hs:m<=400000) (hp:0<m->p=some ⟨g,0,none⟩) (hc:∀ j u,(flat L)[j]? = some u->W.cell? ⟨g,j,none⟩=some u):R3.SLw 5 R3.Jc W (.slice p m cap) (L.map Gz):=by
 subst hm;refine ⟨p,cap,by rw[List.length_map],by rw[List.length_map];omega,Qi _,λi a hi=>?_⟩;rw[List.getElem?_map] at hi;cases hs:L[i]? with
 |none=>rw[hs] at hi;cases hi
 |some s =>
  rw[hs] at hi;obtain rfl:Gz s=a:=by simpa using hi
  have hl:=(Qc hs).1;obtain ⟨f0,f1,f2,f3,f4⟩:=flat_get L i s hs;refine ⟨g,0,hp (by omega),World.block_lt_of_cell? _ _ (hc _ _ f0),λj u hj=>?_⟩;rw[Nat.zero_add]
  match j,hj with
  |0,hj=>cases hj;exact hc _ _ f0
  |1,hj=>cases hj;exact hc _ _ f1
  |2,hj=>cases hj;exact hc _ _ f2
  |3,hj=>cases hj;exact hc _ _ f3
  |4,hj=>cases hj;exact hc _ _ f4
  |j+5,hj=>simp[R3.Jc] at hj
end Go.Proofs.YtbbhahigofeacaaDoor.Gen
