/- OnceLinear, part 19 of 26: GNote, GAc, GEvs, GEvs2, GOfs, GIns, GLinE, La4a, GWb, GFin, GAe, OnE. -/
import Derived.Test.YtfjjoohflcchnaaDoorOnceLinear01
import Derived.Test.YtfjjoohflcchnaaDoorOnceLinear10
import Derived.Test.YtfjjoohflcchnaaDoorOnceLinear11
import Derived.Test.YtfjjoohflcchnaaDoorOnceLinear15
import Derived.Test.YtfjjoohflcchnaaDoorOnceLinear17
import Derived.Test.YtfjjoohflcchnaaDoorOnceLinear18
import Derived.BigQuiet
import Derived.Deep.RegionHeld3
import Derived.BigRegion
import Derived.Deep.RegionLaw
set_option linter.unusedSimpArgs false
set_option linter.unusedVariables false
set_option maxHeartbeats 4000000
set_option maxRecDepth 100000
noncomputable section
namespace Go.Proofs.YtfjjoohflcchnaaDoor.Gen
open Go Go.Lift Go.Conc Go.RowKit
open Go.ConcN (upd upd_same upd_ne)
variable {L:List Stp} {N i k:Nat} {cl:Nat->List Cl} {an:Nat->List (Int×Int)} {mc:Mc} {v:Vw}
def nt (L:List Stp) (i:Nat):Nat:=L.countP λs=>(s.op==9||s.op==10)&&s.th==(i:Int)
theorem nt_one (L:List Stp) (s:Stp) (i:Nat):nt (L++[s]) i=nt L i+if ((s.op==9||s.op==10)&&s.th==(i:Int))=true then 1 else 0:=by unfold nt;rw[List.countP_append,List.countP_singleton]
theorem nt_no {s:Stp}(h9:s.op≠9) (h10:s.op≠10) (i:Nat):nt (L++[s]) i=nt L i:=by rw[nt_one,if_neg (by simp[h9,h10])];rfl
theorem nt_own (L:List Stp) (i k:Nat) (x:Int) {op:Int}(h:op=9∨op=10):nt (L++[⟨i,-1,op,k,x⟩]) i=nt L i+1:=by rw[nt_one,if_pos (by rcases h with rfl|rfl<;>simp)]
theorem nt_oth (L:List Stp) {j:Nat}(hne:j≠i) (k:Nat) (x op:Int):nt (L++[⟨i,-1,op,k,x⟩]) j=nt L j:=by rw[nt_one,if_neg (by simp;intro _;omega)];rfl
def No4 (ans:List (Int×Int)) (k:Nat):Prop:=∀ q a,q<k->ans[q]? = some a->a.1≠4
theorem No4.set {ans:List (Int×Int)}(h:No4 ans k) (a:Int×Int):No4 (ans.set k a) k:=λq b hq hb=>by rw[Qq,if_neg (by omega)] at hb;exact h q b hq hb
theorem No4.next {ans:List (Int×Int)}(h:No4 ans k) {a:Int×Int}(ha:a.1≠4):No4 (ans.set k a) (k+1):=λq b hq hb=>by
 by_cases e:q=k
 .subst e
  rw[Qq,if_pos rfl] at hb;split at hb;cases hb;exact ha;cases hb
 exact h.set a q b (by omega) hb
inductive Fit9 (N:Nat) (cl:Nat->List Cl) (an:Nat->List (Int×Int)):List Stp->Prop
 |nil:Fit9 N cl an []
 |other {L:List Stp} {s:Stp}:Fit9 N cl an L->s.op≠9->s.op≠10->Fit9 N cl an (L++[s])
 |beg {L:List Stp} {i k:Nat}:Fit9 N cl an L->i<N->nt L i=2*k->k<(cl i).length->No4 (an i) k->Fit9 N cl an (L++[⟨i,-1,9,k,0⟩])
 |fin {L:List Stp} {i k:Nat} {a:Int×Int}:Fit9 N cl an L->i<N->nt L i=2*k+1->k<(cl i).length->(an i)[k]? = some a->Fit9 N cl an (L++[⟨i,-1,10,k,a.1⟩])
theorem Fit9.mono {an':Nat->List (Int×Int)}(h:Fit9 N cl an L):(∀ i k,k<nt L i / 2->(an' i)[k]? = (an i)[k]?)->Fit9 N cl an' L:=by
 induction h with
 |nil=>intro _;exact .nil
 |other h h9 h10 ih=>intro hk;exact .other (ih λi k hi=>hk i k (by rw[nt_no h9 h10];exact hi)) h9 h10
 |@beg L i k h hi hn hl h4 ih =>intro hk;refine .beg (ih λj q hq=>hk j q ?_) hi hn hl (λq a hq ha=>h4 q a hq (by rw[<-hk i q (by rw[nt_own _ _ _ _ (.inl rfl)];omega)];exact ha));by_cases e:j=i;subst e;rw[nt_own _ _ _ _ (.inl rfl)];omega;rw[nt_oth _ e];exact hq
 |@fin L i k a h hi hn hl ha ih =>
  intro hk;refine .fin (ih λj q hq=>hk j q ?_) hi hn hl ?_
  .by_cases e:j=i
   subst e;rw[nt_own _ _ _ _ (.inr rfl)];omega;rw[nt_oth _ e];exact hq
  rw[hk i k (by rw[nt_own _ _ _ _ (.inr rfl)];omega)];exact ha
def NT (calls:List Cl) (n:Nat) (l:Ph):Prop:=l.ans.length=calls.length∧match l with
 |.turn op _ _ rest ii _=>n=2*ii+1∧ii<calls.length∧rest=calls.drop (ii+1)∧No4 l.ans ii∧op≠9∧op≠10
 |.wait _ _ rest ii _=>n=2*ii+1∧ii<calls.length∧rest=calls.drop (ii+1)∧No4 l.ans ii
 |.done _=>n % 2=0∧n / 2<=calls.length
structure OpOk (mc:Mc):Prop where
 start:∀ s i c op j q,mc.set s (mc.start i c)=.turn op j q->op≠9∧op≠10
 turn:∀ s q x op j q',mc.set s (mc.turn q x).2.2=.turn op j q'->op≠9∧op≠10
 woke:∀ q op j q',mc.woke q=.turn op j q'->op≠9∧op≠10
 stuck:∀ q op j q',mc.stuck q=.turn op j q'->op≠9∧op≠10
 nts:∀ q x n,n∈mc.nts q x->n.1≠9∧n.1≠10
theorem nt_nos (i:Nat):∀ (X:List Stp) {L:List Stp},(∀ x∈X,x.op≠9∧x.op≠10)->nt (L++X) i=nt L i
 | [],L,_=>by rw[List.append_nil]
 |x :: X,L,h=>by have h1:=h x (List.mem_cons_self ..);have:=nt_nos i X (L:=L++[x]) (λy hy=>h y (List.mem_cons_of_mem _ hy));rw[List.append_assoc,List.singleton_append] at this;rw[this,nt_no h1.1 h1.2]
theorem Fit9.others :∀ (X:List Stp) {L:List Stp},Fit9 N cl an L->(∀ x∈X,x.op≠9∧x.op≠10)->Fit9 N cl an (L++X)
 | [],L,h,_=>by rw[List.append_nil];exact h
 |x :: X,L,h,hX=>by have h1:=hX x (List.mem_cons_self ..);have:=Fit9.others X (h.other h1.1 h1.2) (λy hy=>hX y (List.mem_cons_of_mem _ hy));rw[List.append_assoc,List.singleton_append] at this;exact this
theorem OpOk.ntsL (h:OpOk mc) (i:Nat) (q:Q) (x:Int):∀ s∈ntsL i (mc.nts q x),s.op≠9∧s.op≠10:=λs hs=>by unfold Gen.ntsL at hs;rw[List.mem_map] at hs;obtain ⟨n,hn,rfl⟩:=hs;exact h.nts q x n hn
section
variable {mc:Mc}{N:Nat}{cl:Nat->List Cl}{i:Nat}
theorem fw_note (hop:OpOk mc) (hi:i<N) {stk:Bool}{rest:List Cl}{ii:Nat}{sk:Bool}{ans:List (Int×Int)}{X:List Stp}{l:Ph}(h:Fw mc i stk rest ii sk ans X l):∀ (an0:Nat->List (Int×Int)) (L:List Stp),rest=(cl i).drop ii->ii<=(cl i).length->ans.length=(cl i).length->Fit9 N cl (upd an0 i ans) L->(sk=false->nt L i=2*ii∧No4 ans ii)->(sk=true->nt L i % 2=0∧nt L i / 2<=ii) ->
 Fit9 N cl (upd an0 i l.ans) (L++X)∧NT (cl i) (nt (L++X) i) l∧∀ k,k≠i->nt (L++X) k=nt L k:=by
 have dr:∀ {c:Cl} {rest:List Cl} {ii:Nat},c :: rest=(cl i).drop ii->ii<(cl i).length∧rest=(cl i).drop (ii+1):=λ{c rest ii} hr=>by constructor;have:=congrArg List.length hr;simp at this;omega;have:=congrArg List.tail hr;simpa [List.tail_drop] using this
 have put:∀ {an0:Nat->List (Int×Int)} {ans:List (Int×Int)} {L:List Stp} {ii:Nat} (a:Int×Int),Fit9 N cl (upd an0 i ans) L->nt L i / 2<=ii->Fit9 N cl (upd an0 i (ans.set ii a)) L:=λ{an0 ans L ii} a hF hn=>hF.mono λj k hk=>by
  by_cases e:j=i
  .subst e
   rw[upd_same,upd_same,Qq,if_neg (by omega)]
  rw[upd_ne _ _ e,upd_ne _ _ e]
 have one:∀ {an0:Nat->List (Int×Int)} {ans:List (Int×Int)} {L:List Stp} {ii:Nat} (a:Int×Int),ii<(cl i).length->ans.length=(cl i).length->Fit9 N cl (upd an0 i ans) L->nt L i=2*ii->No4 ans ii->Fit9 N cl (upd an0 i (ans.set ii a)) ((L++[⟨i,-1,9,ii,0⟩])++[⟨i,-1,10,ii,a.1⟩])∧nt ((L++[⟨i,-1,9,ii,0⟩])++[⟨i,-1,10,ii,a.1⟩]) i=2*(ii+1)∧∀ k,k≠i->nt ((L++[⟨i,-1,9,ii,0⟩])++[⟨i,-1,10,ii,a.1⟩]) k=nt L k:=λ{an0 ans L ii} a hlt hlen hF hn h4=>by
  have h1:nt (L++[⟨i,-1,9,ii,0⟩]) i=2*ii+1:=by rw[nt_own _ _ _ _ (.inl rfl),hn]
  refine ⟨.fin (.beg (put a hF (by omega)) hi hn hlt (by rw[upd_same];exact h4.set a)) hi h1 hlt ?_,by rw[nt_own _ _ _ _ (.inr rfl),h1];omega,λk hk=>by rw[nt_oth _ hk,nt_oth _ hk]⟩;rw[upd_same,Qq,if_pos rfl,if_pos (by omega)]
 induction h with
 |@nil ii sk ans =>
  intro an0 L hr hii hlen hF h0 h1;have hl:ii=(cl i).length:=by have:=congrArg List.length hr;simp at this;omega
  rw[List.append_nil];refine ⟨hF,⟨hlen,?_⟩,λ_ _=>rfl⟩;cases sk with
  |false=>have:=(h0 rfl).1;exact ⟨by omega,by omega⟩
  |true=>have:=h1 rfl;exact ⟨this.1,by omega⟩
 |@skip c rest ii ans X l h ih =>intro an0 L hr hii hlen hF h0 h1;obtain ⟨hlt,hr'⟩:=dr hr;obtain ⟨e1,e2⟩:=h1 rfl;exact ih an0 L hr' (by omega) (by rw[List.length_set];exact hlen) (put _ hF e2) (λh=>by cases h) (λ_=>⟨e1,by omega⟩)
 |@ans c rest ii ans X l e x hst h ih =>intro an0 L hr hii hlen hF h0 h1;obtain ⟨hlt,hr'⟩:=dr hr;obtain ⟨g1,g2,g3⟩:=one (e,x) hlt hlen hF (h0 rfl).1 (h0 rfl).2;obtain ⟨k1,k2,k3⟩:=ih an0 _ hr' (by omega) (by rw[List.length_set];exact hlen) g1 (λhh=>⟨g2,(h0 rfl).2.next (by simpa using hh)⟩) (λ_=>⟨by omega,by omega⟩);simp only[List.append_assoc,List.singleton_append] at k1 k2 k3 g3;exact ⟨k1,k2,λk hk=>(k3 k hk).trans (g3 k hk)⟩
 |@turn c rest ii ans op j q hst =>intro an0 L hr hii hlen hF h0 h1;obtain ⟨hlt,hr'⟩:=dr hr;refine ⟨.beg hF hi (h0 rfl).1 hlt (by rw[upd_same];exact (h0 rfl).2),⟨hlen,?_⟩,λk hk=>nt_oth _ hk _ _ _⟩;exact ⟨by rw[nt_own _ _ _ _ (.inl rfl),(h0 rfl).1],hlt,hr',(h0 rfl).2,hop.start _ _ _ _ _ _ hst⟩
 |@wait c rest ii ans j q hst =>intro an0 L hr hii hlen hF h0 h1;obtain ⟨hlt,hr'⟩:=dr hr;refine ⟨.beg hF hi (h0 rfl).1 hlt (by rw[upd_same];exact (h0 rfl).2),⟨hlen,?_⟩,λk hk=>nt_oth _ hk _ _ _⟩;exact ⟨by rw[nt_own _ _ _ _ (.inl rfl),(h0 rfl).1],hlt,hr',(h0 rfl).2⟩
theorem end_note (hop:OpOk mc) (hi:i<N) {stk:Bool}{rest:List Cl}{ii:Nat}{ans:List (Int×Int)}{a:Int×Int}{X:List Stp}{l:Ph}(h:Fw mc i stk rest (ii+1) (a.1==4) (ans.set ii a) X l) {an0:Nat->List (Int×Int)}(hr:rest=(cl i).drop (ii+1)) (hlt:ii<(cl i).length) (hlen:ans.length=(cl i).length) (hF:Fit9 N cl (upd an0 i ans) L) (hn:nt L i=2*ii+1) (h4:No4 ans ii):
 Fit9 N cl (upd an0 i l.ans) (L++⟨i,-1,10,ii,a.1⟩ :: X)∧NT (cl i) (nt (L++⟨i,-1,10,ii,a.1⟩ :: X) i) l∧∀ k,k≠i->nt (L++⟨i,-1,10,ii,a.1⟩ :: X) k=nt L k:=by
 have hF1:Fit9 N cl (upd an0 i (ans.set ii a)) (L++[⟨i,-1,10,ii,a.1⟩]):=by
  refine .fin (hF.mono λj k hk=>?_) hi hn hlt (by rw[upd_same,Qq,if_pos rfl,if_pos (by omega)]);by_cases e:j=i
  .subst e
   rw[upd_same,upd_same,Qq,if_neg (by omega)]
  rw[upd_ne _ _ e,upd_ne _ _ e]
 have hn1:nt (L++[⟨i,-1,10,ii,a.1⟩]) i=2*(ii+1):=by rw[nt_own _ _ _ _ (.inr rfl),hn];omega
 obtain ⟨k1,k2,k3⟩:=fw_note hop hi h an0 _ hr (by omega) (by rw[List.length_set];exact hlen) hF1 (λhh=>⟨hn1,h4.next (by simpa using hh)⟩) (λ_=>⟨by omega,by omega⟩);rw[List.append_assoc,List.singleton_append] at k1 k2 k3;exact ⟨k1,k2,λk hk=>by rw[k3 k hk,nt_oth _ hk]⟩
end
structure NI (N:Nat) (cl:Nat->List Cl) (v:Vw):Prop where
 fit:Fit9 N cl (λi=>(v.l i).ans) v.L
 thr:∀ i,i<N->NT (cl i) (nt v.L i) (v.l i)
theorem upd_self {x:List (Int×Int)}(h:an i=x):upd an i x=an:=by funext k;by_cases e:k=i;subst e;rw[upd_same];exact h.symm;rw[upd_ne _ _ e]
theorem ans_upd {l:Nat->Ph}{l':Ph}:(λk=>(upd l i l' k).ans)=upd (λk=>(l k).ans) i l'.ans:=by funext k;by_cases e:k=i;subst e;rw[upd_same,upd_same];rw[upd_ne _ _ e,upd_ne _ _ e]
theorem NI.put {v1:Vw}(h:NI N cl v) {l':Ph}(e:Els i l' v v1) (hF:Fit9 N cl (upd (λk=>(v.l k).ans) i l'.ans) v1.L) (ho:NT (cl i) (nt v1.L i) l') (hk:∀ k,k≠i->nt v1.L k=nt v.L k):NI N cl v1:=by refine ⟨by rw[e.l,ans_upd];exact hF,λk hkN=>?_⟩;rw[e.l];by_cases hne:k=i;subst hne;rw[upd_same];exact ho;rw[upd_ne _ _ hne,hk k hne];exact h.thr k hkN
theorem note_mv (hop:OpOk mc) {v1:Vw}(h:NI N cl v) (m:Mv mc N v v1):NI N cl v1:=by
 cases m with
 |stuck hs hall hex e =>subst e;refine ⟨.other h.fit (by show ¬ (7:Int)=9;decide) (by show ¬ (7:Int)=10;decide),λi hi=>?_⟩;rw[nt_no (by show ¬ (7:Int)=9;decide) (by show ¬ (7:Int)=10;decide)];exact h.thr i hi
 |turn i op j q rest ii ans X l' hi hl ho e eK eS eC eL =>
  have hT:=h.thr i hi;rw[hl] at hT;obtain ⟨hlen,hn,hlt,hr,h4,h9,h10⟩:=hT;have hF0:Fit9 N cl (upd (λk=>(v.l k).ans) i ans) (v.L++[⟨i,j,op,(mc.turn q (v.K.getD j 0)).1.1,(mc.turn q (v.K.getD j 0)).1.2⟩]):=.other (by rw[upd_self (by rw[hl];rfl)];exact h.fit) h9 h10;have hF:=hF0.others _ (hop.ntsL i q (v.K.getD j 0));have hn1:∀ k,nt ((v.L++[⟨i,j,op,(mc.turn q (v.K.getD j 0)).1.1,(mc.turn q (v.K.getD j 0)).1.2⟩])++ntsL i (mc.nts q (v.K.getD j 0))) k=nt v.L k:=λk=>(nt_nos k _ (hop.ntsL i q (v.K.getD j 0))).trans (nt_no h9 h10 k);generalize hx:mc.set v.stk (mc.turn q (v.K.getD j 0)).2.2=nx at ho;cases ho with
  |@ans ee yy _ _ hf =>obtain ⟨k1,k2,k3⟩:=end_note (a:=(ee,yy)) hop hi hf hr hlt hlen hF (by rw[hn1];exact hn) h4;simp only[List.append_assoc,List.cons_append,List.nil_append] at k1 k2 k3 hn1;rw[<-eL] at k1 k2 k3;exact h.put e k1 k2 (λk hk=>by rw[k3 k hk,hn1])
  |turn =>rw[List.append_nil] at eL;simp only[List.append_assoc,List.cons_append,List.nil_append] at hF hn1;rw[<-eL] at hF hn1;exact h.put e hF ⟨hlen,by rw[hn1];exact hn,hlt,hr,h4,hop.turn _ _ _ _ _ _ hx⟩ (λk _=>hn1 k)
  |wait =>rw[List.append_nil] at eL;simp only[List.append_assoc,List.cons_append,List.nil_append] at hF hn1;rw[<-eL] at hF hn1;exact h.put e hF ⟨hlen,by rw[hn1];exact hn,hlt,hr,h4⟩ (λk _=>hn1 k)
 |wake i j q rest ii ans X l' hi hl hs hc ho e eK eS eC eL =>
  have hT:=h.thr i hi;rw[hl] at hT;obtain ⟨hlen,hn,hlt,hr,h4⟩:=hT;have h9:(⟨i,j,6,0,0⟩:Stp).op≠9:=by show ¬ (6:Int)=9;decide
  have h10:(⟨i,j,6,0,0⟩:Stp).op≠10:=by show ¬ (6:Int)=10;decide
  have hF:Fit9 N cl (upd (λk=>(v.l k).ans) i ans) (v.L++[⟨i,j,6,0,0⟩]):=.other (by rw[upd_self (by rw[hl];rfl)];exact h.fit) h9 h10;have hn1:∀ k,nt (v.L++[⟨i,j,6,0,0⟩]) k=nt v.L k:=nt_no h9 h10;generalize hx:mc.woke q=nx at ho;cases ho with
  |@ans ee yy _ _ hf =>obtain ⟨k1,k2,k3⟩:=end_note (a:=(ee,yy)) hop hi hf hr hlt hlen hF (by rw[hn1];exact hn) h4;rw[List.append_assoc,List.singleton_append,<-eL] at k1 k2 k3;exact h.put e k1 k2 (λk hk=>by rw[k3 k hk,hn1])
  |turn =>rw[<-eL] at hF hn1;exact h.put e hF ⟨hlen,by rw[hn1];exact hn,hlt,hr,h4,hop.woke _ _ _ _ hx⟩ (λk _=>hn1 k)
  |wait =>rw[<-eL] at hF hn1;exact h.put e hF ⟨hlen,by rw[hn1];exact hn,hlt,hr,h4⟩ (λk _=>hn1 k)
 |free i j q rest ii ans X l' hi hl hs hf e eK eS eC eL =>
  have hT:=h.thr i hi;rw[hl] at hT;obtain ⟨hlen,hn,hlt,hr,h4⟩:=hT;have hF:Fit9 N cl (upd (λk=>(v.l k).ans) i ans) v.L:=by rw[upd_self (by rw[hl];rfl)];exact h.fit
  generalize hx:mc.stuck q=nx at hf;cases hf with
  |@ans ee yy _ _ hf =>obtain ⟨k1,k2,k3⟩:=end_note (a:=(ee,yy)) hop hi hf hr hlt hlen hF hn h4;rw[<-eL] at k1 k2 k3;exact h.put e k1 k2 k3
  |turn =>rw[List.append_nil] at eL;rw[<-eL] at hF;exact h.put e hF ⟨hlen,by rw[eL];exact hn,hlt,hr,h4,hop.stuck _ _ _ _ hx⟩ (λk _=>by rw[eL])
  |wait =>rw[List.append_nil] at eL;rw[<-eL] at hF;exact h.put e hF ⟨hlen,by rw[eL];exact hn,hlt,hr,h4⟩ (λk _=>by rw[eL])
theorem hi_note (hop:OpOk mc) {cs:List (List Cl)}{v':Vw}(h:Hi mc k cs v v'):cs=(List.range' k cs.length).map cl->k+cs.length=N->Fit9 N cl (λi=>(v.l i).ans) v.L->(∀ i,i<k->NT (cl i) (nt v.L i) (v.l i))->(∀ i,k<=i->nt v.L i=0)->NI N cl v':=by
 induction h with
 |nil=>intro _ hN hF hT _;simp at hN;subst hN;exact ⟨hF,hT⟩
 |@cons k c cs v v1 v2 X l' hF e1 e2 e3 e4 e5 h ih =>
  intro hc hN hfit hT h0;rw[List.length_cons,List.range'_succ,List.map_cons] at hc;obtain ⟨hc1,hc2⟩:=List.cons.inj hc;subst hc1;simp only[List.length_cons] at hN;have hF0:Fit9 N cl (upd (λi=>(v.l i).ans) k (List.replicate (cl k).length (0,0))) v.L:=hfit.mono λj q hq=>by by_cases e:j=k;subst e;rw[h0 j (Qi _)] at hq;omega;rw[upd_ne _ _ e]
  obtain ⟨k1,k2,k3⟩:=fw_note (N:=N) (cl:=cl) hop (by omega) hF _ v.L (by simp) (Nat.zero_le _) (by simp) hF0 (λ_=>⟨h0 k (Qi _),λq a hq _=>absurd hq (by omega)⟩) (λh=>by cases h);rw[<-e4] at k1 k2 k3;refine ih hc2 (by omega) (by rw[e5.l,ans_upd];exact k1) (λi hi=>?_) (λi hi=>by rw[k3 i (by omega)];exact h0 i (by omega));rw[e5.l];by_cases hne:i=k;subst hne;rw[upd_same];exact k2;rw[upd_ne _ _ hne,k3 i hne];exact hT i (by omega)
theorem nt_le (L:List Stp) (s:Stp) (i:Nat):nt L i<=nt (L++[s]) i:=by rw[nt_one];omega
inductive Ac9 {σ:Type}(cl:Nat->List Cl) (an:Nat->List (Int×Int)) (st:σ->Cl->Int×Int->σ->Prop) (s0:σ):List Stp->σ->Prop
 |nil:Ac9 cl an st s0 [] s0
 |other {L:List Stp} {x:Stp} {s:σ}:Ac9 cl an st s0 L s->(x.op≠10∨x.ne=4)->Ac9 cl an st s0 (L++[x]) s
 |fin {L:List Stp} {i k:Nat} {c:Cl} {a:Int×Int} {s s':σ}:Ac9 cl an st s0 L s->nt L i=2*k+1->(cl i)[k]? = some c->(an i)[k]? = some a->a.1≠4->st s c a s'->Ac9 cl an st s0 (L++[⟨i,-1,10,k,a.1⟩]) s'
section
variable {σ:Type}{cl:Nat->List Cl}{an an':Nat->List (Int×Int)}{st:σ->Cl->Int×Int->σ->Prop}{s0 s:σ}{L:List Stp}
theorem Ac9.mono (h:Ac9 cl an st s0 L s):(∀ i k,k<nt L i / 2->(an' i)[k]? = (an i)[k]?)->Ac9 cl an' st s0 L s:=by
 induction h with
 |nil=>intro _;exact .nil
 |@other L x s h hx ih=>intro hk;exact .other (ih λi k hi=>hk i k (by have:=nt_le L x i;omega)) hx
 |@fin L i k c a s s' h hn hc ha h4 hs ih =>intro hk;refine .fin (ih λj q hq=>hk j q (by have:=nt_le L ⟨i,-1,10,k,a.1⟩ j;omega)) hn hc ?_ h4 hs;rw[hk i k (by rw[nt_own _ _ _ _ (.inr rfl)];omega)];exact ha
theorem Ac9.more:∀ (X:List Stp) {L:List Stp},Ac9 cl an st s0 L s->(∀ x∈X,x.op≠10)->Ac9 cl an st s0 (L++X) s
 | [],L,h,_=>by rw[List.append_nil];exact h
 |x :: X,L,h,hX=>by have:=Ac9.more X (h.other (x:=x) (.inl (hX x (List.mem_cons_self ..)))) (λy hy=>hX y (List.mem_cons_of_mem _ hy));rw[List.append_assoc,List.singleton_append] at this;exact this
end
end Go.Proofs.YtfjjoohflcchnaaDoor.Gen
namespace Go.Proofs.YtfjjoohflcchnaaDoor.Gen
open Go Go.Lift Go.Conc Go.RowKit
open Go.Proofs.YtfjjoohflcchnaaDoor.His
open Go.ConcN (upd upd_same upd_ne)
variable {cl:Nat->List Cl} {an:Nat->List (Int×Int)} {N i:Nat} {L:List Stp} {τ:Type} {e:His.Ev} {E:List His.Ev}
theorem snoc_inj {α:Type}{A B:List α}{x y:α}(h:A++[x]=B++[y]):A=B∧x=y:=by have:=List.append_inj' h rfl;exact ⟨this.1,by simpa using this.2⟩
section
variable {σ:Type}
inductive Run9 (N:Nat) (cl:Nat->List Cl) (an:Nat->List (Int×Int)) (st:σ->Cl->Int×Int->σ->Prop) (s0:σ):List Stp->σ->Prop
 |nil:Run9 N cl an st s0 [] s0
 |other {L:List Stp} {x:Stp} {s:σ}:Run9 N cl an st s0 L s->x.op≠9->x.op≠10->Run9 N cl an st s0 (L++[x]) s
 |beg {L:List Stp} {i k:Nat} {c:Cl} {s:σ}:Run9 N cl an st s0 L s->i<N->nt L i=2*k->(cl i)[k]? = some c->No4 (an i) k->Run9 N cl an st s0 (L++[⟨i,-1,9,k,0⟩]) s
 |stuck {L:List Stp} {i k:Nat} {a:Int×Int} {s:σ}:Run9 N cl an st s0 L s->i<N->nt L i=2*k+1->(an i)[k]? = some a->a.1=4->Run9 N cl an st s0 (L++[⟨i,-1,10,k,a.1⟩]) s
 |fin {L:List Stp} {i k:Nat} {c:Cl} {a:Int×Int} {s s':σ}:Run9 N cl an st s0 L s->i<N->nt L i=2*k+1->(cl i)[k]? = some c->(an i)[k]? = some a->a.1≠4->st s c a s'->Run9 N cl an st s0 (L++[⟨i,-1,10,k,a.1⟩]) s'
theorem ac_inv {st:σ->Cl->Int×Int->σ->Prop}{s0 s':σ}{M:List Stp}(h:Ac9 cl an st s0 M s'):∀ (L:List Stp) (x:Stp),M=L++[x] ->
 (Ac9 cl an st s0 L s'∧(x.op≠10∨x.ne=4))∨∃ (i k:Nat) (c:Cl) (a:Int×Int) (s:σ),Ac9 cl an st s0 L s∧nt L i=2*k+1∧(cl i)[k]? = some c∧(an i)[k]? = some a∧a.1≠4∧st s c a s'∧x=⟨i,-1,10,k,a.1⟩:=by
 cases h with
 |nil=>intro L x e;exact absurd e.symm (by simp)
 |other h hx =>intro L x e;obtain ⟨rfl,rfl⟩:=snoc_inj e;exact .inl ⟨h,hx⟩
 |fin h hn hc ha h4 hs =>intro L x e;obtain ⟨rfl,rfl⟩:=snoc_inj e;exact .inr ⟨_,_,_,_,_,h,hn,hc,ha,h4,hs,rfl⟩
theorem run9_of {st:σ->Cl->Int×Int->σ->Prop}{s0:σ}(h:Fit9 N cl an L):∀ s,Ac9 cl an st s0 L s->Run9 N cl an st s0 L s:=by
 have nl:∀ {s':σ} {M:List Stp},Ac9 cl an st s0 M s'->M=[]->s'=s0:=λ{s' M} h=>by
  cases h with
  |nil=>intro _;rfl
  |other h hx=>intro e;exact absurd e (by simp)
  |fin=>intro e;exact absurd e (by simp)
 induction h with
 |nil=>intro s hs;rw[nl hs rfl];exact .nil
 |other h h9 h10 ih =>
  intro s hs;rcases ac_inv hs _ _ rfl with ⟨ha,_⟩|⟨i,k,c,a,s1,_,_,_,_,_,_,rfl⟩
  exact .other (ih s ha) h9 h10;exact absurd rfl h10
 |@beg L i k h hi hn hl h4 ih =>
  intro s hs;rcases ac_inv hs _ _ rfl with ⟨ha,_⟩|⟨i,k,c,a,s1,_,_,_,_,_,_,e⟩
  exact .beg (ih s ha) hi hn (Qf hl) h4;exact absurd (congrArg Stp.op e) (by show ¬ (9:Int)=10;decide)
 |@fin L i k a h hi hn hl ha ih =>
  intro s hs;rcases ac_inv hs _ _ rfl with ⟨hac,h⟩|⟨i',k',c,a',s1,hac,hn',hc,ha',h4,hst,e⟩
  .rcases h with h|h
   exact absurd rfl h;exact .stuck (ih s hac) hi hn ha h
  .have e1:(i:Int)=i':=congrArg Stp.th e
   have e2:(k:Int)=k':=congrArg Stp.ol e;obtain rfl:i=i':=by omega
   obtain rfl:k=k':=by omega
   obtain rfl:a=a':=by rw[ha] at ha';exact Qd ha'
   exact .fin (ih s1 hac) hi hn hc ha h4 hst
end
inductive Ev9 (cl:Nat->List Cl) (an:Nat->List (Int×Int)):List Stp->List His.Ev->(Nat->Nat)->Prop
 |nil:Ev9 cl an [] [] (λ_=>0)
 |other {L:List Stp} {x:Stp} {E:List His.Ev} {id:Nat->Nat}:Ev9 cl an L E id->x.op≠9->x.op≠10->Ev9 cl an (L++[x]) E id
 |beg {L:List Stp} {E:List His.Ev} {id:Nat->Nat} {i k:Nat} {c:Cl}:Ev9 cl an L E id->nt L i=2*k->(cl i)[k]? = some c->Ev9 cl an (L++[⟨i,-1,9,k,0⟩]) (E++[⟨i,c.po,c.ca,c.cb,L.length,-1,4,0⟩]) (upd id i E.length)
 |stuck {L:List Stp} {E:List His.Ev} {id:Nat->Nat} {i k:Nat} {a:Int×Int}:Ev9 cl an L E id->nt L i=2*k+1->(an i)[k]? = some a->a.1=4->Ev9 cl an (L++[⟨i,-1,10,k,a.1⟩]) E id
 |fin {L:List Stp} {E:List His.Ev} {id:Nat->Nat} {i k:Nat} {a:Int×Int} {e:His.Ev}:Ev9 cl an L E id->nt L i=2*k+1->(an i)[k]? = some a->a.1≠4->E[id i]? = some e->Ev9 cl an (L++[⟨i,-1,10,k,a.1⟩]) (E.set (id i) ⟨e.thr,e.op,e.a,e.b,e.beg,L.length,a.1,a.2⟩) id
def AccTo {τ:Type}(ways:Ways τ):τ->List His.Ev->τ->Prop
 |s,[],t=>s=t
 |s,e :: r,t=>∃ o,o∈ways s e∧o.1=e.ans∧AccTo ways o.2 r t
theorem AccTo.acc {ways:Ways τ}:∀ {l:List His.Ev}{s t:τ},AccTo ways s l t->Acc ways s l
 | [],_,_,_=>trivial
 |e :: r,s,t,h=>by obtain ⟨o,h1,h2,h3⟩:=h;exact ⟨o,h1,λ_=>h2,AccTo.acc h3⟩
theorem AccTo.snoc {ways:Ways τ}{o:(Int×Int)×τ}:∀ {l:List His.Ev}{s t:τ},AccTo ways s l t->o∈ways t e->o.1=e.ans->AccTo ways s (l++[e]) o.2
 | [],s,t,h,h1,h2=>by have:s=t:=h;subst this;exact ⟨o,h1,h2,rfl⟩
 |x :: r,s,t,h,h1,h2=>by obtain ⟨p,k1,k2,k3⟩:=h;exact ⟨p,k1,k2,AccTo.snoc k3 h1 h2⟩
structure EvI (cl:Nat->List Cl) (an:Nat->List (Int×Int)) {τ:Type}(ways:Ways τ) (t0:τ) (L:List Stp) (E:List His.Ev) (id:Nat->Nat) (ord:List Nat) (t:τ):Prop where
 timed:∀ (m:Nat) (e:His.Ev),E[m]? = some e->0<=e.beg∧e.beg<L.length∧(e.fin=-1∨(e.beg<e.fin∧e.fin<L.length))
 act:∀ (i k:Nat),nt L i=2*k+1->∃ (e:His.Ev) (c:Cl),E[id i]? = some e∧e.thr=(i:Int)∧e.fin=-1∧(cl i)[k]? = some c∧e.op=c.po∧e.a=c.ca∧e.b=c.cb
 two:∀ (m m':Nat) (e e':His.Ev),m'<m->E[m]? = some e->E[m']? = some e'->e.thr=e'.thr->evAhead e' e=true
 open_:∀ (m:Nat) (e:His.Ev) (i:Nat),E[m]? = some e->e.thr=(i:Int)->e.fin=-1->(nt L i % 2=1∧m=id i)∨∃ (q:Nat) (a:Int×Int),q<nt L i / 2∧(an i)[q]? = some a∧a.1=4
 nodup:ord.Nodup
 over:∀ (m:Nat),m∈ord->∃ (e:His.Ev),E[m]? = some e∧e.over=true
 all:∀ (m:Nat) (e:His.Ev),E[m]? = some e->e.over=true->m∈ord
 ord_:ord.Pairwise λm m'=>(E.getD m ev0).fin<(E.getD m' ev0).fin
 acc:AccTo ways t0 (ord.map λm=>E.getD m ev0) t
theorem getD_ev {m:Nat}(h:E[m]? = some e):E.getD m ev0=e:=by rw[Ql,h];rfl
theorem over_fin :e.over=true↔e.fin≠-1:=over_iff
section
variable {cl:Nat->List Cl}{an:Nat->List (Int×Int)}{τ:Type}{ways:Ways τ}{t0 t:τ}{L:List Stp}{E:List His.Ev}{id:Nat->Nat}{ord:List Nat}
theorem EvI.skip (h:EvI cl an ways t0 L E id ord t) (x:Stp) (ha:∀ (i k:Nat),nt (L++[x]) i=2*k+1->nt L i=2*k+1) (ho:∀ (i m:Nat),nt L i % 2=1->m=id i->nt (L++[x]) i=nt L i∨∃ (q:Nat) (a:Int×Int),q<nt (L++[x]) i / 2∧(an i)[q]? = some a∧a.1=4):EvI cl an ways t0 (L++[x]) E id ord t:=by
 refine ⟨λm e he=>?_,λi k hn=>h.act i k (ha i k hn),h.two,λm e i he hi hf=>?_,h.nodup,h.over,h.all,h.ord_,h.acc⟩
 .have:=h.timed m e he
  rw[Qj,List.length_singleton];refine ⟨this.1,by omega,?_⟩;rcases this.2.2 with h|h;exact .inl h;exact .inr ⟨h.1,by omega⟩
 .rcases h.open_ m e i he hi hf with ⟨h1,h2⟩|⟨q,a,h1,h2,h3⟩
  .rcases ho i m h1 h2 with e|e
   exact .inl ⟨by rw[e];exact h1,h2⟩;exact .inr e
  exact .inr ⟨q,a,by have:=nt_le L x i;omega,h2,h3⟩
theorem EvI.begin (h:EvI cl an ways t0 L E id ord t) {k:Nat}{c:Cl}(hn:nt L i=2*k) (hc:(cl i)[k]? = some c) (h4:No4 (an i) k):EvI cl an ways t0 (L++[⟨i,-1,9,k,0⟩]) (E++[⟨i,c.po,c.ca,c.cb,L.length,-1,4,0⟩]) (upd id i E.length) ord t:=by
 have get:∀ (m:Nat) (e:His.Ev),(E++[(⟨i,c.po,c.ca,c.cb,L.length,-1,4,0⟩:His.Ev)])[m]? = some e->E[m]? = some e∨(m=E.length∧e=⟨i,c.po,c.ca,c.cb,L.length,-1,4,0⟩):=λm e he=>by
  rw[List.getElem?_append] at he;split at he;exact .inl he
  .right
   have:m - E.length=0:=by have:=(Qc he).1;simp at this;omega
   rw[this] at he;exact ⟨by omega,by simpa using he.symm⟩
 have lift:∀ (m:Nat) (e:His.Ev),E[m]? = some e->(E++[(⟨i,c.po,c.ca,c.cb,L.length,-1,4,0⟩:His.Ev)])[m]? = some e:=λm e he=>by rw[Qn (Qc he).1];exact he
 have own:nt (L++[⟨i,-1,9,k,0⟩]) i=2*k+1:=by rw[nt_own _ _ _ _ (.inl rfl),hn]
 have oth:∀ j,j≠i->nt (L++[⟨i,-1,9,k,0⟩]) j=nt L j:=λj hj=>nt_oth _ hj _ _ _;have mem:∀ (m:Nat),m∈ord->(E++[(⟨i,c.po,c.ca,c.cb,L.length,-1,4,0⟩:His.Ev)]).getD m ev0=E.getD m ev0:=λm hm=>by obtain ⟨e,he,_⟩:=h.over m hm;rw[getD_ev he,getD_ev (lift m e he)]
 refine ⟨λm e he=>?_,λj q hq=>?_,λm m' e e' hlt he he' ht=>?_,λm e j he hj hf=>?_,h.nodup,λm hm=>?_,λm e he ho=>?_,?_,?_⟩
 .rw[Qj,List.length_singleton]
  rcases get m e he with he|⟨_,rfl⟩
  .have:=h.timed m e he
   refine ⟨this.1,by omega,?_⟩;rcases this.2.2 with h|h;exact .inl h;exact .inr ⟨h.1,by omega⟩
  exact ⟨by show (0:Int)<=(L.length:Int);omega,by show (L.length:Int)<((L.length+1:Nat):Int);omega,.inl rfl⟩
 .by_cases e:j=i
  .subst e
   have:q=k:=by omega
   subst this;rw[upd_same];exact ⟨⟨j,c.po,c.ca,c.cb,L.length,-1,4,0⟩,c,by rw[List.getElem?_append_right (Qi _)];simp,rfl,rfl,hc,rfl,rfl,rfl⟩
  .rw[oth j e] at hq
   obtain ⟨e1,c1,k1,k2⟩:=h.act j q hq;rw[upd_ne _ _ e];exact ⟨e1,c1,lift _ _ k1,k2⟩
 .rcases get m e he with he|⟨rfl,rfl⟩
  .rcases get m' e' he' with he'|⟨rfl,_⟩
   exact h.two m m' e e' hlt he he' ht;have:=(Qc he).1;omega
  .rcases get m' e' he' with he'|⟨rfl,_⟩
   .have hfin:e'.fin≠-1:=λhf=>by
     rcases h.open_ m' e' i he' ht.symm hf with ⟨h1,_⟩|⟨q,a,h1,h2,h3⟩
     omega;exact h4 q a (by omega) h2 h3
    have:=(h.timed m' e' he').2.2;unfold evAhead;rw[over_fin.2 hfin,Bool.true_and];exact decide_eq_true (by show e'.fin<(L.length:Int);rcases this with h|h;exact absurd h hfin;exact h.2)
   omega
 .rcases get m e he with hE|⟨rfl,rfl⟩
  .by_cases ej:j=i
   .subst ej
    rcases h.open_ m e j hE hj hf with ⟨h1,_⟩|⟨q,a,h1,h2,h3⟩
    omega;exact .inr ⟨q,a,by omega,h2,h3⟩
   .rw[oth j ej,upd_ne _ _ ej]
    exact h.open_ m e j hE hj hf
  .have:(i:Int)=j:=hj
   obtain rfl:j=i:=by omega
   exact .inl ⟨by omega,by rw[upd_same]⟩
 .obtain ⟨e,he,ho⟩:=h.over m hm
  exact ⟨e,lift m e he,ho⟩
 .rcases get m e he with he|⟨rfl,rfl⟩
  exact h.all m e he ho;exact absurd rfl (over_fin.1 ho)
 exact h.ord_.imp_of_mem λha hb hlt=>by rw[mem _ ha,mem _ hb];exact hlt
 .have:ord.map (λm=>(E++[(⟨i,c.po,c.ca,c.cb,L.length,-1,4,0⟩:His.Ev)]).getD m ev0)=ord.map λm=>E.getD m ev0:=List.map_congr_left mem
  rw[this];exact h.acc
theorem EvI.finish (h:EvI cl an ways t0 L E id ord t) {k:Nat}{a:Int×Int}{e0:His.Ev}{o:(Int×Int)×τ}(hn:nt L i=2*k+1) (he0:E[id i]? = some e0) (hf0:e0.fin=-1) (ht0:e0.thr=(i:Int)) (ho:o∈ways t ⟨e0.thr,e0.op,e0.a,e0.b,e0.beg,L.length,a.1,a.2⟩) (hoa:o.1=a):
 EvI cl an ways t0 (L++[⟨i,-1,10,k,a.1⟩]) (E.set (id i) ⟨e0.thr,e0.op,e0.a,e0.b,e0.beg,L.length,a.1,a.2⟩) id (ord++[id i]) o.2:=by
 have hlt0:id i<E.length:=(Qc he0).1;have get:∀ (m:Nat) (e:His.Ev),(E.set (id i) (⟨e0.thr,e0.op,e0.a,e0.b,e0.beg,L.length,a.1,a.2⟩:His.Ev))[m]? = some e->(m≠id i∧E[m]? = some e)∨(m=id i∧e=⟨e0.thr,e0.op,e0.a,e0.b,e0.beg,L.length,a.1,a.2⟩):=λm e he=>by
  rw[Qq] at he;by_cases em:id i=m
  .rw[if_pos em,if_pos hlt0] at he
   exact .inr ⟨em.symm,(Qd he).symm⟩
  .rw[if_neg em] at he
   exact .inl ⟨λx=>em x.symm,he⟩
 have put:(E.set (id i) (⟨e0.thr,e0.op,e0.a,e0.b,e0.beg,L.length,a.1,a.2⟩:His.Ev))[id i]? = some ⟨e0.thr,e0.op,e0.a,e0.b,e0.beg,L.length,a.1,a.2⟩:=by rw[Qq,if_pos rfl,if_pos hlt0]
 have lift:∀ (m:Nat) (e:His.Ev),m≠id i->E[m]? = some e->(E.set (id i) (⟨e0.thr,e0.op,e0.a,e0.b,e0.beg,L.length,a.1,a.2⟩:His.Ev))[m]? = some e:=λm e hm he=>by rw[Qq,if_neg (λx=>hm x.symm)];exact he
 have nin:id i ∉ ord:=λhm=>by obtain ⟨e,he,hov⟩:=h.over _ hm;rw[he0] at he;cases he;exact over_fin.1 hov hf0
 have mem:∀ (m:Nat),m∈ord->(E.set (id i) (⟨e0.thr,e0.op,e0.a,e0.b,e0.beg,L.length,a.1,a.2⟩:His.Ev)).getD m ev0=E.getD m ev0:=λm hm=>by obtain ⟨e,he,_⟩:=h.over m hm;rw[getD_ev he,getD_ev (lift m e (λx=>nin (x▸hm)) he)]
 have own:nt (L++[⟨i,-1,10,k,a.1⟩]) i=2*(k+1):=by rw[nt_own _ _ _ _ (.inr rfl),hn];omega
 have oth:∀ j,j≠i->nt (L++[⟨i,-1,10,k,a.1⟩]) j=nt L j:=λj hj=>nt_oth _ hj _ _ _;have hb0:=h.timed _ _ he0;have hov:(⟨e0.thr,e0.op,e0.a,e0.b,e0.beg,L.length,a.1,a.2⟩:His.Ev).over=true:=over_fin.2 (by show (L.length:Int)≠-1;omega);refine ⟨λm e he=>?_,λj q hq=>?_,λm m' e e' hlt he he' ht=>?_,λm e j he hj hf=>?_,?_,λm hm=>?_,λm e he ho=>?_,?_,?_⟩
 .rw[Qj,List.length_singleton]
  rcases get m e he with ⟨_,he⟩|⟨_,rfl⟩
  .have:=h.timed m e he
   refine ⟨this.1,by omega,?_⟩;rcases this.2.2 with h|h;exact .inl h;exact .inr ⟨h.1,by omega⟩
  exact ⟨hb0.1,by have:=hb0.2.1;show e0.beg<((L.length+1:Nat):Int);omega,.inr ⟨hb0.2.1,by show (L.length:Int)<((L.length+1:Nat):Int);omega⟩⟩
 .by_cases e:j=i
  subst e;omega
  .rw[oth j e] at hq
   obtain ⟨e1,c1,k1,k2,k3⟩:=h.act j q hq;have:id j≠id i:=λx=>by rw[x,he0] at k1;cases k1;rw[ht0] at k2;exact e (by omega)
   exact ⟨e1,c1,lift _ _ this k1,k2,k3⟩
 .rcases get m e he with ⟨_,he⟩|⟨rfl,rfl⟩
  .rcases get m' e' he' with ⟨_,he'⟩|⟨rfl,rfl⟩
   exact h.two m m' e e' hlt he he' ht
   .have:=evAhead_over (h.two m _ e e0 hlt he he0 ht)
    exact absurd hf0 (over_fin.1 this)
  .rcases get m' e' he' with ⟨_,he'⟩|⟨rfl,_⟩
   exact h.two _ m' e0 e' hlt he0 he' ht;omega
 .rcases get m e he with ⟨hm,hE⟩|⟨rfl,rfl⟩
  .by_cases ej:j=i
   .subst ej
    rcases h.open_ m e j hE hj hf with ⟨_,h1⟩|⟨q,b,h1,h2,h3⟩
    exact absurd h1 hm;exact .inr ⟨q,b,by omega,h2,h3⟩
   .rw[oth j ej]
    exact h.open_ m e j hE hj hf
  exact absurd hf (over_fin.1 hov)
 exact List.nodup_append.2 ⟨h.nodup,by simp,λx hx y hy=>by rw[List.mem_singleton] at hy;subst hy;exact λe=>nin (e▸hx)⟩
 .rw[List.mem_append,List.mem_singleton] at hm
  rcases hm with hm|rfl
  .obtain ⟨e,he,ho⟩:=h.over m hm
   exact ⟨e,lift m e (λx=>nin (x▸hm)) he,ho⟩
  exact ⟨_,put,hov⟩
 .rw[List.mem_append,List.mem_singleton]
  rcases get m e he with ⟨_,he⟩|⟨rfl,_⟩
  exact .inl (h.all m e he ho);exact .inr rfl
 .rw[List.pairwise_append]
  refine ⟨h.ord_.imp_of_mem λha hb hlt=>by rw[mem _ ha,mem _ hb];exact hlt,List.pairwise_singleton _ _,λx hx y hy=>?_⟩;rw[List.mem_singleton] at hy;subst hy;obtain ⟨e,he,ho⟩:=h.over x hx;rw[mem _ hx,getD_ev he,getD_ev put];have:=(h.timed x e he).2.2;rcases this with h|h;exact absurd h (over_fin.1 ho);exact h.2
 .have e1:ord.map (λm=>(E.set (id i) (⟨e0.thr,e0.op,e0.a,e0.b,e0.beg,L.length,a.1,a.2⟩:His.Ev)).getD m ev0)=ord.map λm=>E.getD m ev0:=List.map_congr_left mem
  rw[List.map_append,e1,List.map_singleton,getD_ev put];exact h.acc.snoc ho (by rw[hoa];rfl)
end
theorem run_lin {σ:Type}{st:σ->Cl->Int×Int->σ->Prop}{s0 s:σ}{ways:Ways τ}(f:σ->τ) (hw:∀ (s:σ) (c:Cl) (a:Int×Int) (s':σ) (e:His.Ev),st s c a s'->e.op=c.po->e.a=c.ca->e.b=c.cb->e.ans=a->∃ o,o∈ways (f s) e∧o.1=a∧o.2=f s') (h:Run9 N cl an st s0 L s):
 ∃ E id ord,Ev9 cl an L E id∧EvI cl an ways (f s0) L E id ord (f s):=by
 induction h with
 |nil=>exact ⟨[],_,[],.nil,⟨λm e he=>by simp at he,λi k hn=>by simp[nt] at hn,λm m' e e' _ he=>by simp at he,λm e i he=>by simp at he,List.nodup_nil,λm hm=>(nomatch hm),λm e he=>by simp at he,.nil,rfl⟩⟩
 |@other L x s h h9 h10 ih =>obtain ⟨E,id,ord,h1,h2⟩:=ih;exact ⟨E,id,ord,.other h1 h9 h10,h2.skip x (λi k hn=>by rw[nt_no h9 h10] at hn;exact hn) (λi m _ _=>.inl (nt_no h9 h10 i))⟩
 |beg h hi hn hc h4 ih =>obtain ⟨E,id,ord,h1,h2⟩:=ih;exact ⟨_,_,ord,.beg h1 hn hc,h2.begin hn hc h4⟩
 |@stuck L i k a s h hi hn ha h4 ih =>
  obtain ⟨E,id,ord,h1,h2⟩:=ih;refine ⟨E,id,ord,.stuck h1 hn ha h4,h2.skip _ (λj q hq=>?_) (λj m _ _=>?_)⟩
  .by_cases e:j=i
   subst e;rw[nt_own _ _ _ _ (.inr rfl),hn] at hq;omega;rw[nt_oth _ e] at hq;exact hq
  .by_cases e:j=i
   subst e;exact .inr ⟨k,a,by rw[nt_own _ _ _ _ (.inr rfl),hn];omega,ha,h4⟩;exact .inl (nt_oth _ e _ _ _)
 |@fin L i k c a s s' h hi hn hc ha h4 hs ih =>
  obtain ⟨E,id,ord,h1,h2⟩:=ih;obtain ⟨e0,c0,k1,k2,k3,k4,k5,k6,k7⟩:=h2.act i k hn;obtain rfl:c=c0:=by rw[hc] at k4;exact Qd k4
  obtain ⟨o,w1,w2,w3⟩:=hw s c a s' ⟨e0.thr,e0.op,e0.a,e0.b,e0.beg,L.length,a.1,a.2⟩ hs k5 k6 k7 rfl;refine ⟨_,_,ord++[id i],.fin h1 hn ha h4 k1,?_⟩;rw[<-w3];exact h2.finish hn k1 k3 k2 w1 w2
theorem EvI.hist {ways:Ways τ}{t0 t:τ}{id:Nat->Nat}{ord:List Nat}(h:EvI cl an ways t0 L E id ord t):Hist E:=λi hi=>by
 have hg:∀ m,m<E.length->E[m]? = some (E.getD m ev0):=λm hm=>by rw[Ql,Qf hm];rfl
 refine ⟨?_,λk hk ht=>.inr (h.two i k _ _ hk (hg i hi) (hg k (by omega)) ht)⟩;have:=h.timed i _ (hg i hi);exact ⟨this.1,this.2.2.imp (λx=>x) (·.1)⟩
theorem EvI.lin {ways:Ways τ}{t0 t:τ}{id:Nat->Nat}{ord:List Nat}(h:EvI cl an ways t0 L E id ord t):Lin ways t0 E:=by
 have hg:∀ m,m<E.length->E[m]? = some (E.getD m ev0):=λm hm=>by rw[Ql,Qf hm];rfl
 refine ⟨ord,h.nodup,λm hm=>?_,λm hm ho=>h.all m _ (hg m hm) ho,h.ord_.imp_of_mem λha hb hlt=>?_,h.acc.acc⟩
 .obtain ⟨e,he,_⟩:=h.over m hm
  exact (Qc he).1
 .obtain ⟨e,he,ho⟩:=h.over _ ha
  rw[getD_ev he] at hlt ⊢;unfold evAhead;rw[Bool.and_eq_false_iff];right;refine decide_eq_false ?_;have:=(h.timed _ e he).2.2;rcases this with h|h;exact absurd h (over_fin.1 ho);omega
def toStep (s:Stp):R3.Step:=⟨s.th,s.ce,s.op,s.ol,s.ne⟩
def toCall (c:Cl):R3.Call:=⟨c.po,c.ca,c.cb,c.cc⟩
def scL (N:Nat) (cl:Nat->List Cl):List (List R3.Call):=(List.range N).map λi=>(cl i).map toCall
def anL (N:Nat) (an:Nat->List (Int×Int)):List (List (Int×Int)):=(List.range N).map an
def tabOf (L:List Stp) (id:Nat->Nat):Nat->Nat×Nat×Nat:=λt=>((nt L t+1) / 2,nt L t / 2,id t)
theorem scL_len (N:Nat) (cl:Nat->List Cl):(scL N cl).length=N:=by simp[scL]
theorem anL_len (N:Nat) (an:Nat->List (Int×Int)):(anL N an).length=N:=by simp[anL]
theorem scL_get (cl:Nat->List Cl) (h:i<N):(scL N cl).getD i []=(cl i).map toCall:=by simp[scL,Ql,h]
theorem anL_get (an:Nat->List (Int×Int)) (h:i<N):(anL N an).getD i []=an i:=by simp[anL,Ql,h]
theorem alike_of (hl:∀ i,i<N->(an i).length=(cl i).length):R3.Alike (scL N cl) (anL N an):=by refine ⟨by rw[scL_len,anL_len],λi hi=>?_⟩;rw[scL_len] at hi;rw[scL_get cl hi,anL_get an hi,List.length_map,hl i hi]
theorem fit_last {M:List Stp}(h:Fit9 N cl an M):∀ (L:List Stp) (x:Stp),M=L++[x]->Fit9 N cl an L∧((x.op=9∨x.op=10)->∃ i:Nat,x.th=(i:Int)∧i<N):=by
 cases h with
 |nil=>intro L x e;exact absurd e.symm (by simp)
 |other h h9 h10 =>intro L x e;obtain ⟨rfl,rfl⟩:=snoc_inj e;exact ⟨h,λhh=>by rcases hh with hh|hh;exact absurd hh h9;exact absurd hh h10⟩
 |beg h hi hn hk h4 =>intro L x e;obtain ⟨rfl,rfl⟩:=snoc_inj e;exact ⟨h,λ_=>⟨_,rfl,hi⟩⟩
 |fin h hi hn hk ha =>intro L x e;obtain ⟨rfl,rfl⟩:=snoc_inj e;exact ⟨h,λ_=>⟨_,rfl,hi⟩⟩
theorem ofs_ev (hl:∀ i,i<N->(an i).length=(cl i).length) {id:Nat->Nat}(h:Ev9 cl an L E id):
 Fit9 N cl an L->∀ l r,R3.Ofs (scL N cl) (anL N an) 0 (L.map toStep++l) R3.st0 r->R3.Ofs (scL N cl) (anL N an) L.length l ⟨E,tabOf L id⟩ r:=by
 induction h with
 |nil =>
  intro _ l r ho;have et:tabOf [] (λ_=>0)=λ_=>(0,0,0):=funext λt=>by simp[tabOf,nt]
  rw[et];exact ho
 |@other L x E id h h9 h10 ih =>
  intro hF l r ho;obtain ⟨hF,_⟩:=fit_last hF _ _ rfl;rw[List.map_append,List.append_assoc] at ho;have:=R3.ofs_skip (show (toStep x).op≠9 from h9) (show (toStep x).op≠10 from h10) (ih hF _ _ ho);have et:tabOf (L++[x]) id=tabOf L id:=funext λt=>by simp only[tabOf,nt_no h9 h10]
  rw[Qj,List.length_singleton,et];exact this
 |@beg L E id i k c h hn hc ih =>
  intro hF l r ho;obtain ⟨hF,hi⟩:=fit_last hF _ _ rfl;obtain ⟨j,hj,hi⟩:=hi (.inl rfl);have hj:(i:Int)=j:=hj;obtain rfl:i=j:=by omega
  rw[List.map_append,List.append_assoc] at ho;have hk:k<(cl i).length:=(Qc hc).1;have t1:(tabOf L id i).1=k:=by show (nt L i+1) / 2=k;omega
  have t2:(tabOf L id i).2.1=k:=by show nt L i / 2=k;omega
  have:=R3.ofs_begin (t:=i) (show (toStep ⟨i,-1,9,k,0⟩).op=9 from rfl) rfl (by rw[scL_len];exact hi) ⟨by rw[t1,t2],by rw[t1,anL_get an hi,hl i hi];exact hk,by rw[t1];rfl,rfl⟩ (ih hF _ _ ho);have es:R3.beginSt (scL N cl) ⟨E,tabOf L id⟩ i L.length=⟨E++[⟨i,c.po,c.ca,c.cb,L.length,-1,4,0⟩],tabOf (L++[⟨i,-1,9,k,0⟩]) (upd id i E.length)⟩:=by
   unfold R3.beginSt;simp only[t1,t2,scL_get cl hi];have e1:((cl i).map toCall).getD k R3.call0=toCall c:=by simp[Ql,hc]
   rw[e1]
   congr 1
   funext t;by_cases e:t=i
   .subst e
    simp only[R3.upd,if_pos,tabOf,upd_same,nt_own _ _ _ _ (.inl rfl),hn]
    congr 1
    omega
    .congr 1;omega
   simp only[R3.upd,if_neg e,tabOf,upd_ne _ _ e,nt_oth _ e]
  rw[Qj,List.length_singleton,<-es];exact this
 |@stuck L E id i k a h hn ha h4 ih =>
  intro hF l r ho;obtain ⟨hF,hi⟩:=fit_last hF _ _ rfl;obtain ⟨j,hj,hi⟩:=hi (.inr rfl);have hj:(i:Int)=j:=hj;obtain rfl:i=j:=by omega
  rw[List.map_append,List.append_assoc] at ho;have t1:(tabOf L id i).1=k+1:=by show (nt L i+1) / 2=k+1;omega
  have t2:(tabOf L id i).2.1=k:=by show nt L i / 2=k;omega
  have ea:(an i).getD k (0,0)=a:=by simp[Ql,ha]
  have:=R3.ofs_end (t:=i) (show (toStep ⟨i,-1,10,k,a.1⟩).op=10 from rfl) rfl (by rw[scL_len];exact hi) ⟨by rw[t1,t2];omega,by rw[t2];rfl,by rw[t2,anL_get an hi,ea];rfl⟩ (ih hF _ _ ho);have es:R3.endSt (anL N an) ⟨E,tabOf L id⟩ i L.length=⟨E,tabOf (L++[⟨i,-1,10,k,a.1⟩]) id⟩:=by
   unfold R3.endSt;simp only[t1,t2,anL_get an hi,ea,h4,if_pos]
   congr 1
   funext t;by_cases e:t=i
   .subst e
    simp only[R3.upd,if_pos,tabOf,nt_own _ _ _ _ (.inr rfl),hn]
    congr 1
    omega
    .congr 1;omega
   simp only[R3.upd,if_neg e,tabOf,nt_oth _ e]
  rw[Qj,List.length_singleton,<-es];exact this
 |@fin L E id i k a e h hn ha h4 he ih =>
  intro hF l r ho;obtain ⟨hF,hi⟩:=fit_last hF _ _ rfl;obtain ⟨j,hj,hi⟩:=hi (.inr rfl);have hj:(i:Int)=j:=hj;obtain rfl:i=j:=by omega
  rw[List.map_append,List.append_assoc] at ho;have t1:(tabOf L id i).1=k+1:=by show (nt L i+1) / 2=k+1;omega
  have t2:(tabOf L id i).2.1=k:=by show nt L i / 2=k;omega
  have t3:(tabOf L id i).2.2=id i:=rfl;have ea:(an i).getD k (0,0)=a:=by simp[Ql,ha]
  have:=R3.ofs_end (t:=i) (show (toStep ⟨i,-1,10,k,a.1⟩).op=10 from rfl) rfl (by rw[scL_len];exact hi) ⟨by rw[t1,t2];omega,by rw[t2];rfl,by rw[t2,anL_get an hi,ea];rfl⟩ (ih hF _ _ ho);have es:R3.endSt (anL N an) ⟨E,tabOf L id⟩ i L.length=⟨E.set (id i) ⟨e.thr,e.op,e.a,e.b,e.beg,L.length,a.1,a.2⟩,tabOf (L++[⟨i,-1,10,k,a.1⟩]) id⟩:=by
   unfold R3.endSt;simp only[t1,t2,t3,anL_get an hi,ea,h4,if_neg,not_false_eq_true];rw[getD_ev he];unfold R3.ended
   congr 1
   funext t;by_cases e:t=i
   .subst e
    simp only[R3.upd,if_pos,tabOf,nt_own _ _ _ _ (.inr rfl),hn]
    congr 1
    omega
    .congr 1;omega
   simp only[R3.upd,if_neg e,tabOf,nt_oth _ e]
  rw[Qj,List.length_singleton,<-es];exact this
theorem ofs_is (hl:∀ i,i<N->(an i).length=(cl i).length) {id:Nat->Nat}(h:Ev9 cl an L E id) (hF:Fit9 N cl an L) {r:Option R3.St}
 (ho:R3.Ofs (scL N cl) (anL N an) 0 (L.map toStep) R3.st0 r):r=some ⟨E,tabOf L id⟩ :=
 ofs_ev hl h hF [] r (by rw[List.append_nil];exact ho)
end Go.Proofs.YtfjjoohflcchnaaDoor.Gen
namespace Go.Proofs.YtfjjoohflcchnaaDoor.Gen
open Go Go.Lift Go.Conc Go.RowKit
variable {W:World} {p:Option Addr} {b o:Nat}
def InR (x:Int):Prop:=-9223372036854775808<=x∧x<9223372036854775808
def Cl.ok (c:Cl):Prop:=InR c.cb∧InR c.cc
structure InI (W:World) (p:Option Addr) (b o:Nat) (xs:List Int):Prop where
 at_:0<xs.length->p=some ⟨b,o,none⟩
 cell:∀ k x,xs[k]? = some x->W.cell? ⟨b,o+k,none⟩=some (I x)
 inr:∀ x∈xs,InR x
 len:xs.length<=17592186043904
theorem InI.grows {W':World}{xs:List Int}(h:InI W p b o xs) (g:Grows W W'):InI W' p b o xs :=
 ⟨h.at_,λk x hk=>g.cell (h.cell k x hk),h.inr,h.len⟩
structure InS (W:World) (p:Option Addr) (b o n:Nat) (pc:Nat->Option Addr) (ln cp rb:Nat->Nat) (cl:Nat->List Cl):Prop where
 at_:0<n->p=some ⟨b,o,none⟩
 row:∀ k,k<n->W.cell? ⟨b,o+k,none⟩=some (.slice (pc k) (ln k) (cp k))
 len:∀ j,j<n->(cl j).length=ln j
 pq:∀ j,j<n->0<ln j->pc j=some ⟨rb j,roOf (pc j),none⟩
 call:∀ j,j<n->∀ (k:Nat) (c:Cl),(cl j)[k]? = some c->W.cell? ⟨rb j,roOf (pc j)+k*4,none⟩=some (I c.po)∧W.cell? ⟨rb j,roOf (pc j)+k*4+1,none⟩=some (I c.ca)∧W.cell? ⟨rb j,roOf (pc j)+k*4+2,none⟩=some (I c.cb)∧W.cell? ⟨rb j,roOf (pc j)+k*4+3,none⟩=some (I c.cc)
 ok:∀ j,j<n->∀ c∈cl j,InR c.ca∧c.ok
 n:n<=17592186043904
theorem InS.grows {W':World}{n:Nat}{pc:Nat->Option Addr}{ln cp rb:Nat->Nat}{cl:Nat->List Cl}(h:InS W p b o n pc ln cp rb cl) (g:Grows W W'):InS W' p b o n pc ln cp rb cl :=
 ⟨h.at_,λk hk=>g.cell (h.row k hk),h.len,h.pq,λj hj k c hc=>by have:=h.call j hj k c hc;exact ⟨g.cell this.1,g.cell this.2.1,g.cell this.2.2.1,g.cell this.2.2.2⟩,h.ok,h.n⟩
theorem lens_scrs (mc:Mc) (fid:FuncId) (caps:Array Value) (pk:Nat->Option Obj) (N n:Nat) (K:List (Nat×Int)) (pc:Nat->Option Addr) (ln cp rb:Nat->Nat) (cl:Nat->List Cl) (hl:∀ j,j<n->(cl j).length<=64):lens (scrs mc fid caps pk N n K pc ln cp rb cl)<=64*n:=by
 unfold lens scrs;rw[List.map_map];have:∀ (m j:Nat),j+m<=n->((List.range' j m).map ((λs:Scr mc=>s.calls.length) ∘ scrOf mc fid caps pk N n (K.map (·.1)) pc ln cp rb cl)).sum<=64*m:=by
  intro m;induction m with
  |zero=>intro j _;simp
  |succ m ih =>intro j hj;rw[List.range'_succ,List.map_cons,List.sum_cons];have h1:=ih (j+1) (by omega);have h2:((λs:Scr mc=>s.calls.length) ∘ scrOf mc fid caps pk N n (K.map (·.1)) pc ln cp rb cl) j<=64:=hl j (by omega);omega
 exact this n 0 (by omega)
theorem scrs_len (mc:Mc) (fid:FuncId) (caps:Array Value) (pk:Nat->Option Obj) (N n:Nat) (K:List (Nat×Int)) (pc:Nat->Option Addr) (ln cp rb:Nat->Nat) (cl:Nat->List Cl):(scrs mc fid caps pk N n K pc ln cp rb cl).length=n:=by simp[scrs]
theorem asked_of {v:World}{n:Nat}{pc:Nat->Option Addr}{ln cp rb:Nat->Nat}{cl:Nat->List Cl}(h:InS W p b o n pc ln cp rb cl) {xs:List Int}{wb bk:Nat}{sc:Value}(hn:IsNew W xs wb bk sc v) (h64:∀ j,j<n->ln j<=64) (h0:0<n):Asked v (newS wb bk W.heap.size sc xs) n b o pc ln cp rb cl:=by
 have g:=h.grows hn.old;have far:∀ (a:Addr) (x:Value),W.cell? a=some x->¬ Own (newS wb bk W.heap.size sc xs) [] a.block:=λa x ha ho=>by have:=hn.new _ (.inl ho);have:=World.block_lt_of_cell? _ _ ha;omega
 refine ⟨λj hj=>⟨h.len j hj,h64 j hj⟩,g.row,far _ _ (h.row 0 h0),λj hj hl=>⟨h.pq j hj hl,?_⟩,g.call,λj hj c hc=>(h.ok j hj c hc).1⟩;obtain ⟨c,hc⟩:∃ c,(cl j)[0]? = some c:=⟨_,Qf (by rw[h.len j hj];exact hl)⟩
 exact far _ _ (h.call j hj 0 c hc).1
end Go.Proofs.YtfjjoohflcchnaaDoor.Gen
namespace Go.Proofs.YtfjjoohflcchnaaDoor.Gen
open Go Go.Lift Go.Conc Go.RowKit
open Go.Proofs.YtfjjoohflcchnaaDoor.His
open Go.ConcN (upd upd_same upd_ne)
variable {N n:Nat} {cl:Nat->List Cl} {an:Nat->List (Int×Int)} {L:List Stp} {W:World}
theorem flat_inj:∀ {L L':List Stp},flat L=flat L'->L=L'
 | [],[],_=>rfl
 | [],_ :: _,h=>by simp[flat] at h
 |_ :: _,[],h=>by simp[flat] at h
 |⟨a1,a2,a3,a4,a5⟩ :: l,⟨b1,b2,b3,b4,b5⟩ :: l',h=>by simp only[flat,List.flatMap_cons,List.cons_append,List.nil_append,List.cons.injEq,Value.int.injEq,true_and] at h;obtain ⟨rfl,rfl,rfl,rfl,rfl,h⟩:=h;rw[flat_inj (L:=l) (L':=l') h]
def sumG (f:Nat->Nat):Nat->Nat
 |0=>0
 |n+1=>sumG f n+f n
theorem sumG_same {f g:Nat->Nat}:∀ (n:Nat),(∀ i,i<n->f i=g i)->sumG f n=sumG g n
 |0,_=>rfl
 |n+1,h=>by rw[sumG,sumG,sumG_same n (λi hi=>h i (by omega)),h n (by omega)]
theorem sumG_one {f g:Nat->Nat}{j d:Nat}(hj:g j=f j+d) (ho:∀ i,i≠j->g i=f i):∀ (n:Nat),j<n->sumG g n=sumG f n+d
 |0,h=>absurd h (Nat.not_lt_zero _)
 |n+1,h=>by
  rw[sumG,sumG];by_cases e:j=n
  .subst e
   rw[sumG_same (f:=g) (g:=f) j (λi hi=>ho i (by omega)),hj];omega
  rw[sumG_one hj ho n (by omega),ho n (λx=>e x.symm)];omega
theorem sumG_le {f g:Nat->Nat}:∀ (n:Nat),(∀ i,i<n->f i<=g i)->sumG f n<=sumG g n
 |0,_=>Qi _
 |n+1,h=>by have:=sumG_le n (λi hi=>h i (by omega));have:=h n (by omega);show sumG f n+f n<=sumG g n+g n;omega
theorem ev_len {E:List His.Ev}{id:Nat->Nat}(h:Ev9 cl an L E id):Fit9 N cl an L->E.length=sumG (λi=>(nt L i+1) / 2) N:=by
 have one:∀ {L:List Stp} {i k:Nat} {a:Int},i<N->nt L i=2*k+1->sumG (λj=>(nt (L++[⟨i,-1,10,k,a⟩]) j+1) / 2) N=sumG (λj=>(nt L j+1) / 2) N:=λ{L i k a} hi hn=>sumG_same N λj _=>by by_cases e:j=i;subst e;rw[nt_own _ _ _ _ (.inr rfl)];omega;rw[nt_oth _ e]
 induction h with
 |nil =>
  intro _;rw[sumG_same (g:=λ_=>0) N (λi _=>by simp[nt])];have:∀ n,sumG (λ_=>0) n=0:=λn=>by induction n with|zero=>rfl|succ n ih=>rw[sumG,ih]
  rw[this];rfl
 |@other L x E id h h9 h10 ih =>intro hF;rw[ih (fit_last hF _ _ rfl).1];exact sumG_same N λi _=>by rw[nt_no h9 h10]
 |@beg L E id i k c h hn hc ih =>
  intro hF;obtain ⟨hF,hi⟩:=fit_last hF _ _ rfl;obtain ⟨j,hj,hi⟩:=hi (.inl rfl);have hj:(i:Int)=j:=hj;obtain rfl:i=j:=by omega
  rw[Qj,List.length_singleton,ih hF];exact (sumG_one (j:=i) (d:=1) (by rw[nt_own _ _ _ _ (.inl rfl),hn];omega) (λj hj=>by rw[nt_oth _ hj]) N hi).symm
 |@stuck L E id i k a h hn ha h4 ih =>
  intro hF;obtain ⟨hF,hi⟩:=fit_last hF _ _ rfl;obtain ⟨j,hj,hi⟩:=hi (.inr rfl);have hj:(i:Int)=j:=hj;obtain rfl:i=j:=by omega
  rw[ih hF,one hi hn]
 |@fin L E id i k a e h hn ha h4 he ih =>
  intro hF;obtain ⟨hF,hi⟩:=fit_last hF _ _ rfl;obtain ⟨j,hj,hi⟩:=hi (.inr rfl);have hj:(i:Int)=j:=hj;obtain rfl:i=j:=by omega
  rw[List.length_set,ih hF,one hi hn]
theorem fit_nt (h:Fit9 N cl an L):∀ i,nt L i<=2*(cl i).length:=by
 induction h with
 |nil=>intro i;simp[nt]
 |other h h9 h10 ih=>intro i;rw[nt_no h9 h10];exact ih i
 |@beg L i k h hi hn hk h4 ih =>intro j;by_cases e:j=i;subst e;rw[nt_own _ _ _ _ (.inl rfl)];omega;rw[nt_oth _ e];exact ih j
 |@fin L i k a h hi hn hk ha ih =>intro j;by_cases e:j=i;subst e;rw[nt_own _ _ _ _ (.inr rfl)];omega;rw[nt_oth _ e];exact ih j
theorem sumL_sc (N:Nat) (cl:Nat->List Cl):∀ k,k<=N->R3.sumL (scL N cl) k=sumG (λi=>(cl i).length) k
 |0,_=>rfl
 |k+1,h=>by rw[R3.sumL,sumG,sumL_sc N cl k (by omega),scL_get cl (by omega),List.length_map]
theorem ev_le {E:List His.Ev}{id:Nat->Nat}(h:Ev9 cl an L E id) (hF:Fit9 N cl an L):E.length<=R3.sumL (scL N cl) (scL N cl).length:=by rw[scL_len,sumL_sc N cl N (Qi _),ev_len h hF];exact sumG_le N λi _=>by have:=fit_nt hF i;omega
theorem SLw_grows {α:Type}{enc:α->List Value}{w w':World}{v:Value}{l:List α}(hg:Grows w w') (h:R3.SLw n enc w v l):R3.SLw n enc w' v l:=by obtain ⟨p,cap,rfl,h1,h2,h3⟩:=h;refine ⟨p,cap,rfl,h1,h2,λi a hi=>?_⟩;obtain ⟨blk,off,e,hlt,hr⟩:=h3 i a hi;exact ⟨blk,off,e,Qp hlt hg.size,λj u hj=>hg.cell (hr j u hj)⟩
theorem SSw_grows {α:Type}{enc:α->List Value}{w w':World}{v:Value}{ll:List (List α)}(hg:Grows w w') (h:R3.SSw n enc w v ll):R3.SSw n enc w' v ll:=by obtain ⟨p,cap,rfl,h1,h2,h3⟩:=h;refine ⟨p,cap,rfl,h1,h2,λi l hi=>?_⟩;obtain ⟨blk,off,vi,e,hc,hs⟩:=h3 i l hi;exact ⟨blk,off,vi,e,hg.cell hc,SLw_grows hg hs⟩
theorem ss_scripts {p:Option Addr}{b o cap:Nat}{pc:Nat->Option Addr}{ln cp rb:Nat->Nat}(h:InS W p b o n pc ln cp rb cl) (h64:∀ j,j<n->ln j<=64) (hn:n<=8):R3.SSw 4 R3.callL W (.slice p n cap) (scL n cl):=by
 refine ⟨p,cap,by rw[scL_len],by rw[scL_len];omega,Qi _,λi l hi=>?_⟩;have hin:i<n:=by have:=(Qc hi).1;rwa [scL_len] at this
 obtain rfl:l=(cl i).map toCall:=by simpa [scL,hin] using hi.symm
 refine ⟨b,o,_,h.at_ (by omega),h.row i hin,pc i,cp i,by rw[List.length_map,h.len i hin],by rw[List.length_map,h.len i hin];have:=h64 i hin;omega,Qi _,λk a hk=>?_⟩;rw[List.getElem?_map] at hk;cases hc:(cl i)[k]? with
 |none=>rw[hc] at hk;cases hk
 |some c =>
  rw[hc] at hk;obtain rfl:toCall c=a:=by simpa using hk
  have hl:0<ln i:=by have:=(Qc hc).1;rw[h.len i hin] at this;omega
  obtain ⟨c0,c1,c2,c3⟩:=h.call i hin k c hc;refine ⟨rb i,roOf (pc i),h.pq i hin hl,World.block_lt_of_cell? _ _ c0,λj u hj=>?_⟩
  match j,hj with
  |0,hj=>cases hj;exact c0
  |1,hj=>cases hj;exact c1
  |2,hj=>cases hj;exact c2
  |3,hj=>cases hj;exact c3
  |j+4,hj=>simp[R3.callL] at hj
theorem ss_answers {M:Nat}{A ln:Nat->Nat}{l:Nat->Ph}{t:TypeId}(h64:∀ j,j<n->ln j<=64) (hn:n<=8) (hrow:∀ j,j<n->W.cell? ⟨M,j,none⟩=some (.slice (some ⟨A j,0,none⟩) (ln j) (ln j))) (hans:∀ j,j<n->(l j).ans.length=ln j∧(0<ln j->W.heap[A j]? = some (.cells (arow (l j).ans).toArray t (0,0)))):
 R3.SSw 2 R3.ansL W (.slice (some ⟨M,0,none⟩) n n) (anL n λi=>(l i).ans):=by
 refine ⟨some ⟨M,0,none⟩,n,by rw[anL_len],by rw[anL_len];omega,Qi _,λi a hi=>?_⟩;have hin:i<n:=by have:=(Qc hi).1;rwa [anL_len] at this
 obtain rfl:a=(l i).ans:=by simpa [anL,hin] using hi.symm
 refine ⟨M,0,_,rfl,by rw[Nat.zero_add];exact hrow i hin,some ⟨A i,0,none⟩,ln i,by rw[(hans i hin).1],by rw[(hans i hin).1];have:=h64 i hin;omega,Qi _,λk q hk=>?_⟩;have hl:0<ln i:=by have:=(Qc hk).1;rw[(hans i hin).1] at this;omega
 have hb:=(hans i hin).2 hl;obtain ⟨a0,a1⟩:=arow_get _ _ _ hk;have c0:W.cell? ⟨A i,k*2,none⟩=some (I q.1):=cell_of hb (by rw[List.getElem?_toArray];exact a0);have c1:W.cell? ⟨A i,k*2+1,none⟩=some (I q.2):=cell_of hb (by rw[List.getElem?_toArray];exact a1);refine ⟨A i,0,rfl,World.block_lt_of_cell? _ _ c0,λj u hj=>?_⟩;rw[Nat.zero_add]
 match j,hj with
 |0,hj=>cases hj;exact c0
 |1,hj=>cases hj;exact c1
 |j+2,hj=>simp[R3.ansL] at hj
theorem sl_trace {p:Option Addr}{g cap m:Nat}(hm:m=L.length) (hs:m<=400000) (hp:0<m->p=some ⟨g,0,none⟩) (hc:∀ j u,(flat L)[j]? = some u->W.cell? ⟨g,j,none⟩=some u):R3.SLw 5 R3.stepL W (.slice p m cap) (L.map toStep):=by
 subst hm;refine ⟨p,cap,by rw[List.length_map],by rw[List.length_map];omega,Qi _,λi a hi=>?_⟩;rw[List.getElem?_map] at hi;cases hs:L[i]? with
 |none=>rw[hs] at hi;cases hi
 |some s =>
  rw[hs] at hi;obtain rfl:toStep s=a:=by simpa using hi
  have hl:=(Qc hs).1;obtain ⟨f0,f1,f2,f3,f4⟩:=flat_get L i s hs;refine ⟨g,0,hp (by omega),World.block_lt_of_cell? _ _ (hc _ _ f0),λj u hj=>?_⟩;rw[Nat.zero_add]
  match j,hj with
  |0,hj=>cases hj;exact hc _ _ f0
  |1,hj=>cases hj;exact hc _ _ f1
  |2,hj=>cases hj;exact hc _ _ f2
  |3,hj=>cases hj;exact hc _ _ f3
  |4,hj=>cases hj;exact hc _ _ f4
  |j+5,hj=>simp[R3.stepL] at hj
end Go.Proofs.YtfjjoohflcchnaaDoor.Gen
namespace Go.Proofs.YtfjjoohflcchnaaDoor.Gen
open Go Go.Lift Go.Conc Go.RowKit
variable {v w:World} {a:Act} {E n0:Int} {wb:Nat} {an sc:Value} {S:TS} {Ch:Nat->Prop} {Stop:Goroutine->World->Prop} {main:Bool}
def LB4:Code:=Tryd.f4.body.getD .skip
def l4a:Code:=seq1 (seq2 (seq2 LB4))
def l4b:Code:=seq1 (seq2 (seq2 (seq2 LB4)))
def l4c:Code:=seq1 (seq2 (seq2 (seq2 (seq2 LB4))))
def l4d:Code:=seq1 (seq2 (seq2 (seq2 (seq2 (seq2 LB4)))))
def l4e:Code:=(seq2 (seq2 (seq2 (seq2 (seq2 (seq2 LB4))))))
def P4:Code:=.seq l4a (.seq l4b (.seq l4c (.seq l4d l4e)))
theorem eLB4:LB4=.seq (seq1 LB4) (.seq (seq1 (seq2 LB4)) P4):=by kernel_rfl
theorem l4c_wp  (hA:Fl 36 [(1,I n0),(2,sc),(8,Pt wb 0),(9,an),(7,.bool true),(10,I 0)] a):l4c.wp Tryd.prog (λe a' w'=>e=.normal∧Fl 36 [(1,I n0),(2,sc),(8,Pt wb 0),(9,an)] a'∧w'.heap=v.heap∧w'.os=v.os∧w'.output=v.output) a v:=by
 obtain ⟨hsz,hd,hp⟩:=hA;obtain ⟨u,rfl,hg⟩:=litN hsz hd;simp only[List.forall_mem_cons,hg] at hp;obtain ⟨u1,u2,u8,u9,u7,u10,-⟩:=hp;clear hg hsz hd;unfold l4c LB4 Tryd.f4 seq2 seq1;simp only[Qa,lits,Nat.reduceAdd,u1,u2,u8,u9,u7,u10];clear u1 u2 u8 u9 u7 u10;go_wp2_with fail;first
  |exact ⟨rfl,rfl,by
    intro p hp;simp only[Sm,or_false] at hp;rcases hp with rfl|rfl|rfl|rfl<;>rfl⟩
  |exact ⟨⟨rfl,rfl,by
    intro p hp;simp only[Sm,or_false] at hp;rcases hp with rfl|rfl|rfl|rfl<;>rfl⟩,rfl⟩
  |exact ⟨⟨rfl,rfl,by
    intro p hp;simp only[Sm,or_false] at hp;rcases hp with rfl|rfl|rfl|rfl<;>rfl⟩,rfl,rfl⟩
  |exact ⟨⟨rfl,rfl,by
    intro p hp;simp only[Sm,or_false] at hp;rcases hp with rfl|rfl|rfl|rfl<;>rfl⟩,rfl,rfl,rfl⟩
  |exact ⟨⟨rfl,rfl,by
    intro p hp;simp only[Sm,or_false] at hp;rcases hp with rfl|rfl|rfl|rfl<;>rfl⟩,rfl,rfl,rfl,rfl⟩
  |exact ⟨⟨rfl,rfl,by
    intro p hp;simp only[Sm,or_false] at hp;rcases hp with rfl|rfl|rfl|rfl<;>rfl⟩,rfl,rfl,rfl,rfl,rfl⟩
theorem l4c_wpa (h1:E=1) (hA:Fl 36 [(1,I n0),(2,sc),(8,Pt wb 0),(9,an),(7,.bool true),(10,I E)] a):l4c.wp Tryd.prog (λe a' w'=>e=.ret∧Fl 36 [(6,.bool true)] a'∧w'.heap=v.heap∧w'.os=v.os∧w'.output=v.output) a v:=by
 obtain ⟨hsz,hd,hp⟩:=hA;obtain ⟨u,rfl,hg⟩:=litN hsz hd;simp only[List.forall_mem_cons,hg] at hp;obtain ⟨u1,u2,u8,u9,u7,u10,-⟩:=hp;clear hg hsz hd;subst h1;unfold l4c LB4 Tryd.f4 seq2 seq1;simp only[Qa,lits,Nat.reduceAdd,u1,u2,u8,u9,u7,u10];clear u1 u2 u8 u9 u7 u10;go_wp2_with fail;first
  |exact ⟨rfl,rfl,by
    intro p hp;simp only[Sm,or_false] at hp;rcases hp with rfl<;>rfl⟩
  |exact ⟨⟨rfl,rfl,by
    intro p hp;simp only[Sm,or_false] at hp;rcases hp with rfl<;>rfl⟩,rfl⟩
  |exact ⟨⟨rfl,rfl,by
    intro p hp;simp only[Sm,or_false] at hp;rcases hp with rfl<;>rfl⟩,rfl,rfl⟩
  |exact ⟨⟨rfl,rfl,by
    intro p hp;simp only[Sm,or_false] at hp;rcases hp with rfl<;>rfl⟩,rfl,rfl,rfl⟩
  |exact ⟨⟨rfl,rfl,by
    intro p hp;simp only[Sm,or_false] at hp;rcases hp with rfl<;>rfl⟩,rfl,rfl,rfl,rfl⟩
  |exact ⟨⟨rfl,rfl,by
    intro p hp;simp only[Sm,or_false] at hp;rcases hp with rfl<;>rfl⟩,rfl,rfl,rfl,rfl,rfl⟩
theorem l4c_wpb (h1:E=2) (hA:Fl 36 [(1,I n0),(2,sc),(8,Pt wb 0),(9,an),(7,.bool true),(10,I E)] a):l4c.wp Tryd.prog (λe a' w'=>e=.ret∧Fl 36 [(6,.bool true)] a'∧w'.heap=v.heap∧w'.os=v.os∧w'.output=v.output) a v:=by
 obtain ⟨hsz,hd,hp⟩:=hA;obtain ⟨u,rfl,hg⟩:=litN hsz hd;simp only[List.forall_mem_cons,hg] at hp;obtain ⟨u1,u2,u8,u9,u7,u10,-⟩:=hp;clear hg hsz hd;subst h1;unfold l4c LB4 Tryd.f4 seq2 seq1;simp only[Qa,lits,Nat.reduceAdd,u1,u2,u8,u9,u7,u10];clear u1 u2 u8 u9 u7 u10;go_wp2_with fail;first
  |exact ⟨rfl,rfl,by
    intro p hp;simp only[Sm,or_false] at hp;rcases hp with rfl<;>rfl⟩
  |exact ⟨⟨rfl,rfl,by
    intro p hp;simp only[Sm,or_false] at hp;rcases hp with rfl<;>rfl⟩,rfl⟩
  |exact ⟨⟨rfl,rfl,by
    intro p hp;simp only[Sm,or_false] at hp;rcases hp with rfl<;>rfl⟩,rfl,rfl⟩
  |exact ⟨⟨rfl,rfl,by
    intro p hp;simp only[Sm,or_false] at hp;rcases hp with rfl<;>rfl⟩,rfl,rfl,rfl⟩
  |exact ⟨⟨rfl,rfl,by
    intro p hp;simp only[Sm,or_false] at hp;rcases hp with rfl<;>rfl⟩,rfl,rfl,rfl,rfl⟩
  |exact ⟨⟨rfl,rfl,by
    intro p hp;simp only[Sm,or_false] at hp;rcases hp with rfl<;>rfl⟩,rfl,rfl,rfl,rfl,rfl⟩
theorem l4c_no (h1:E=1∨E=2) (hA:Fl 36 [(1,I n0),(2,sc),(8,Pt wb 0),(9,an),(7,.bool true),(10,I E)] a):l4c.wp Tryd.prog (λe a' w'=>e=.ret∧Fl 36 [(6,.bool true)] a'∧w'.heap=v.heap∧w'.os=v.os∧w'.output=v.output) a v:=h1.elim (λh=>l4c_wpa h hA) (λh=>l4c_wpb h hA)
theorem l4a_wp {s1 s2:Value}(p:Option Addr) (cap vb vo:Nat) (xs:List Int) (hp:0<xs.length->p=some ⟨vb,vo,none⟩) (hx1:xs.length<=17592186043904) (hv:∀ k x,xs[k]? = some x->v.cell? ⟨vb,vo+k,none⟩=some (I x)) (hA:Fl 36 [(0,.slice p xs.length cap),(1,s1),(2,s2),(7,.bool true)] a):
 l4a.wp Tryd.prog (λe a w'=>e=.normal∧∃ wb bk sc,Fl 36 [(1,s1),(2,s2),(7,.bool true),(8,Pt wb 0)] a∧IsNew v xs wb bk sc w') a v:=by
 have H7:Hid (Calls Tryd.prog 17 #[.slice p xs.length cap] v _):=⟨(body7A p vb vo cap xs hp hx1 hv).calls Tryd.func17 rfl⟩
 clear hp hx1 hv;obtain ⟨hsz,hd,hp⟩:=hA;obtain ⟨u,rfl,hg⟩:=litN hsz hd;have u0:=(hg 0).symm.trans (hp (0,.slice p xs.length cap) (by simp));have u1:=(hg 1).symm.trans (hp (1,s1) (by simp));have u2:=(hg 2).symm.trans (hp (2,s2) (by simp));have u7:=(hg 7).symm.trans (hp (7,.bool true) (by simp));clear hg hp hsz hd;unfold l4a LB4 Tryd.f4 seq2 seq1;simp only[Qa,lits,Nat.reduceAdd,u0,u1,u2,u7];clear u0 u1 u2 u7
 go_wp2_with (first
  |(go_at_call 17;refine H7.out.mono ?_;rintro e w1 ⟨_,rfl,wb,bk,sc,rfl,hnew⟩))
 first
  |exact ⟨wb,bk,sc,⟨rfl,rfl,by
    intro p hp;simp only[Sm,or_false] at hp;rcases hp with rfl|rfl|rfl|rfl<;>rfl⟩,hnew⟩
  |exact ⟨wb,⟨rfl,rfl,by
    intro p hp;simp only[Sm,or_false] at hp;rcases hp with rfl|rfl|rfl|rfl<;>rfl⟩,bk,sc,hnew⟩
theorem l4d_wp {z:Nat->Option Nat}(hR:Rep z S v) (hn:S.n*40<=140737488355328) (h1:∀ u∈S.tr,u.oneCell'=true) (hA:Fl 36 [(1,I n0),(2,sc),(8,Pt S.wb 0),(9,an)] a):
 l4d.wp Tryd.prog (λe a w'=>e=.normal∧∃ p g cap,Fl 36 [(1,I n0),(2,sc),(8,Pt S.wb 0),(9,an),(11,.slice p S.n cap)] a∧(0<S.n->p=some ⟨g,0,none⟩∧v.heap.size<=g)∧(∀ j u,S.tr[j]? = some u->w'.cell? ⟨g,j,none⟩=some u)∧Grows v w') a v:=by
 have H9:Hid (Calls Tryd.prog 23 #[Pt S.wb 0] v _):=⟨(body9A hR hn h1).calls Tryd.func23 rfl⟩
 clear hR hn h1;obtain ⟨hsz,hd,hp⟩:=hA;obtain ⟨u,rfl,hg⟩:=litN hsz hd;have u1:=(hg 1).symm.trans (hp (1,I n0) (by simp));have u2:=(hg 2).symm.trans (hp (2,sc) (by simp));have u8:=(hg 8).symm.trans (hp (8,Pt S.wb 0) (by simp));have u9:=(hg 9).symm.trans (hp (9,an) (by simp));clear hg hp hsz hd;unfold l4d LB4 Tryd.f4 seq2 seq1;simp only[Qa,lits,Nat.reduceAdd,u1,u2,u8,u9];clear u1 u2 u8 u9
 go_wp2_with (first
  |(go_at_call 23;refine H9.out.mono ?_;rintro e w1 ⟨_,rfl,p,g,cap,rfl,k1,k2,k3⟩))
 first
  |exact ⟨p,g,cap,⟨rfl,rfl,by
    intro p hp;simp only[Sm,or_false] at hp;rcases hp with rfl|rfl|rfl|rfl|rfl<;>rfl⟩,k1,k2,k3⟩
  |exact ⟨p,⟨cap,⟨rfl,rfl,by
    intro p hp;simp only[Sm,or_false] at hp;rcases hp with rfl|rfl|rfl|rfl|rfl<;>rfl⟩⟩,g,k1,k2⟩
  |exact ⟨p,⟨cap,⟨rfl,rfl,by
    intro p hp;simp only[Sm,or_false] at hp;rcases hp with rfl|rfl|rfl|rfl|rfl<;>rfl⟩⟩,g,k1,k2,k3⟩
theorem l4e_wp {tv:Value}(H:Calls Tryd.prog 24 #[I 5,I n0,I 4,sc,an,tv] v λe w'=>e=.returned (.bool true)∧Below v.heap.size v w') (hA:Fl 36 [(1,I n0),(2,sc),(9,an),(11,tv)] a):
 l4e.wp Tryd.prog (λe a w'=>e=.ret∧Fl 36 [(6,.bool true)] a∧Below v.heap.size v w') a v:=by
 have H9:Hid (Calls Tryd.prog 24 #[I 5,I n0,I 4,sc,an,tv] v _):=⟨H⟩
 clear H;obtain ⟨hsz,hd,hp⟩:=hA;obtain ⟨u,rfl,hg⟩:=litN hsz hd;have u1:=(hg 1).symm.trans (hp (1,I n0) (by simp));have u2:=(hg 2).symm.trans (hp (2,sc) (by simp));have u9:=(hg 9).symm.trans (hp (9,an) (by simp));have u11:=(hg 11).symm.trans (hp (11,tv) (by simp));clear hg hp hsz hd;unfold l4e LB4 Tryd.f4 seq2;simp only[Qa,lits,Nat.reduceAdd,u1,u2,u9,u11];clear u1 u2 u9 u11
 go_wp2_with (first
  |(go_at_call 24;refine H9.out.mono ?_;rintro e w1 ⟨rfl,k3⟩))
 exact ⟨rfl,rfl,by
  intro p hp;simp only[Sm,or_false] at hp;rcases hp with rfl<;>rfl⟩
theorem fine_l4c:fineCode Tryd.prog true LV l4c:=fineCode_askS callV extT (by kernel_rfl)
theorem fine_l4a:fineCode Tryd.prog true LV l4a:=fineCode_askS callV extT (by kernel_rfl)
theorem fine_l4d:fineCode Tryd.prog true LV l4d:=fineCode_askS callV extT (by kernel_rfl)
theorem fine_l4e:fineCode Tryd.prog true LX3 l4e:=fineCode_askS callX3 extT (by kernel_rfl)
theorem gx_same {v':World}(e:v'.heap=v.heap) (e1:v'.os=v.os) (e2:v'.output=v.output):Grows v v':=⟨by rw[e];exact Qi _,λb _=>by rw[e],e1,e2⟩
theorem gx_trans {v' v2:World}(a:Grows v v') (b:Grows v' v2):Grows v v2:=⟨Qk a.size b.size,λq hq=>by rw[b.old q (Qp hq a.size),a.old q hq],b.os.trans a.os,b.output.trans a.output⟩
def P4s:Code:=.seq l4d l4e
theorem eP4:P4=.seq l4a (.seq l4b (.seq l4c P4s)):=rfl
theorem law4_in (x0:Value) (x1:Value) (x2:Value)
 (hk:∀ (w':World) (bd:Frame) (ad:Act) (od:Array Oper) (qd:Nat) (rd:List Nat) (oe:Oper) (kd:List Item),(∃ d,w'=w.at d)->od[qd]? = some oe ->
   (∀ (Ch:Nat->Prop) (Stop:Goroutine->World->Prop) (w1:World),(∀ a,Fl 36 [(0,x0),(1,x1),(2,x2),(7,.bool true)] a->GoesI Tryd.prog main (DT (ScZ zn) Ch) Stop (G ((base 4).at a [.code P4]) []) w1)->GoesI Tryd.prog main (DT (ScZ zn) Ch) Stop (G (bd.at (ad.put oe.dst (.bool true)) (.inRegion od rd :: kd)) []) w1) ->
   GoesI Tryd.prog main (DT (ScZ zn) Ch) Stop (G ((base 16).at { tmps:=Array.replicate 26 undef,defers:=[] } [.code B7]) [bd.at ad (.inRegion od (qd :: rd):: kd)]) w'):
 GoesI Tryd.prog main (DT (ScZ zn) Ch) Stop (G ((base 4).at { tmps:=#[x0,x1,x2]++Array.replicate 33 undef,defers:=[] } [.code LB4]) []) w:=by
 rw[eLB4];simp only[Sy];refine goesI_seq (dt_idle _ _) ?_;generalize hR:P4=R9 at hk ⊢;unfold LB4 Tryd.f4 seq1 seq2;simp only[Qa];refine goesI_region (dt_idle _ _) ?_;simp only[Sz,Sr,Nat.reduceAdd];iterate 1
  (refine goesI_oper rfl rfl (by decide) (λd K hK=>?_)
   go_simp;refine hK _ _ ⟨dt_reads (λe he=>?_),GoesI.at ?_ d⟩
   .have hm:=mem_listed he
    simp[go_sem, *] at hm
    try exact ⟨_,_,hm⟩
   clear hK K)
 refine goesI_regionEnd (dt_idle _ _) ?_;refine goesI_seq (dt_idle _ _) ?_;refine goesI_region (dt_idle _ _) ?_;simp only[Sz,Sr,Nat.reduceAdd];refine goesI_into (f:=16) (fn:=Tryd.f16) (args:=#[]) (dt_idle _ _) rfl rfl (by decide) rfl (by simp[Act.eval]) Tryd.func16 (by decide) rfl ?_;refine hk w _ _ _ _ _ _ _ ⟨w.drawn,rfl⟩ rfl (λCh Stop w1 hg=>?_);clear hk;iterate 1
  (refine goesI_oper rfl rfl (by decide) (λd K hK=>?_)
   go_simp;refine hK _ _ ⟨dt_reads (λe he=>?_),GoesI.at ?_ d⟩
   .have hm:=mem_listed he
    simp[go_sem, *] at hm
    try exact ⟨_,_,hm⟩
   clear hK K)
 refine goesI_regionEnd (dt_idle _ _) ?_;exact hg _ ⟨rfl,rfl,by
  intro p hp;simp only[Sm,or_false] at hp;rcases hp with rfl|rfl|rfl|rfl<;>rfl⟩
theorem end4 {todo:List Item}(hd:a.defers=[]) (h4:a.tmps.getD 6 undef=.bool true):stepG Tryd.prog true (G { (base 4).at a todo with mode:=.returning } []) w=.ended (.done (.bool true)) w #[]:=by
 have hr:(results Tryd.f4 a.tmps).run Tryd.prog w=.ok (.bool true) w:=by rw[results_tmp (t:=6) rfl,h4]
 have he:(results Tryd.f4 a.tmps).events Tryd.prog w #[]=#[]:=by simp[results,go_sem,Tryd.f4]
 simp[G,stepG,unwind,Frame.at,hd,Tryd.func4,base,hr,he,doReturn,GStep.after,seen]
theorem law4_b (p:Option Addr) (cap vb vo:Nat) (xs:List Int) (hp:0<xs.length->p=some ⟨vb,vo,none⟩) (hx1:xs.length<=17592186043904) (hv:∀ k x,xs[k]? = some x->v.cell? ⟨vb,vo+k,none⟩=some (I x)) (s1 s2:Value) (hvw:Rel zn v w) (hn:NoRow Ch v)
 (hk:∀ (v' w':World) (wb bk:Nat) (sc:Value) (bd:Frame) (ad:Act) (od:Array Oper) (qd:Nat) (rd:List Nat) (oe:Oper) (kd:List Item),Rel zn v' w'->NoRow Ch v'->IsNew v xs wb bk sc v'->od[qd]? = some oe ->
   (∀ (Ch:Nat->Prop) (Stop:Goroutine->World->Prop) (w2:World) (A:Value) (E:Int),(∀ a,Fl 36 [(1,s1),(2,s2),(7,.bool true),(8,Pt wb 0),(9,A),(10,I E)] a->GoesI Tryd.prog main (DT (ScZ zn) Ch) Stop (G ((base 4).at a [.code (.seq l4c P4s)]) []) w2) ->
     GoesI Tryd.prog main (DT (ScZ zn) Ch) Stop (G (bd.at (ad.put oe.dst (.tuple #[A,I E])) (.inRegion od rd :: kd)) []) w2) ->
   GoesI Tryd.prog main (DT (ScZ zn) Ch) Stop (G ((base 18).at { tmps:=#[Pt wb 0,s1,s2]++Array.replicate 37 undef,defers:=[] } [.code yB]) [bd.at ad (.inRegion od (qd :: rd):: kd)]) w'):
 ∀ a,Fl 36 [(0,.slice p xs.length cap),(1,s1),(2,s2),(7,.bool true)] a->GoesI Tryd.prog main (DT (ScZ zn) Ch) Stop (G ((base 4).at a [.code P4]) []) w:=by
 intro a0 hA0;rw[eP4];refine goesI_seq (dt_idle _ _) ?_;refine goesI_plain (z:=zn) (wr:=true) (L:=LV) (I:=NoRow Ch) hE fineV noRow_keeps (λv v' w w' es hi hr ho he=>dt_of_z v v' w w' es hi hr ho he) hvw fine_l4a hA0.2.1 (by simp[base]) hn
  (Q:=λa w'=>∃ wb bk sc,Fl 36 [(1,s1),(2,s2),(7,.bool true),(8,Pt wb 0)] a∧IsNew v xs wb bk sc w') (λτ=>wp_mono (l4a_wp (v:=onTape v τ 0) p cap vb vo xs hp hx1 hv hA0) (λe a w' hq=>⟨hq.1,by
    obtain ⟨_,wb,bk,sc,h1,h2⟩:=hq;exact ⟨wb,bk,sc,h1,h2.mem,h2.opn,h2.new,⟨h2.old.size,h2.old.old,h2.old.os,h2.old.output⟩⟩⟩)) ?_
 rintro a1 v1 w1 ⟨wb,bk,sc,hB,hnew⟩ hr1 hn1 -;obtain ⟨hsz,hd,hpp⟩:=hB;obtain ⟨u,rfl,hg⟩:=litN hsz hd;have u1:=(hg 1).symm.trans (hpp (1,s1) (by simp));have u2:=(hg 2).symm.trans (hpp (2,s2) (by simp));have u7:=(hg 7).symm.trans (hpp (7,.bool true) (by simp));have u8:=(hg 8).symm.trans (hpp (8,Pt wb 0) (by simp));clear hg hpp hsz hd hA0;refine goesI_seq (dt_idle _ _) ?_;clear hvw hn hp hx1 hv;generalize hT:Code.seq l4c P4s=T at hk ⊢;unfold l4b LB4 Tryd.f4 seq1 seq2;simp only[Qa,lits,Nat.reduceAdd,u1,u2,u7,u8];clear u1 u2 u7 u8;refine goesI_region (dt_idle _ _) ?_;simp only[Sz,Sr,Nat.reduceAdd];iterate 3
  (refine goesI_oper rfl rfl (by decide) (λd K hK=>?_)
   go_simp;refine hK _ _ ⟨dt_reads (λe he=>?_),GoesI.at ?_ d⟩
   .have hm:=mem_listed he
    simp[go_sem, *] at hm
    try exact ⟨_,_,hm⟩
   clear hK K)
 refine goesI_into (f:=18) (fn:=Tryd.f18) (args:=#[Pt wb 0,s1,s2]) (dt_idle _ _) rfl rfl (by decide) rfl (by simp[Act.eval]) Tryd.func18 (by decide) rfl ?_;refine hk v1 w1 wb bk sc _ _ _ _ _ _ _ hr1 hn1 hnew rfl (λCh Stop w2 A E hwp=>?_);clear hk hnew hr1 hn1;iterate 5
  (refine goesI_oper rfl rfl (by decide) (λd K hK=>?_)
   go_simp;refine hK _ _ ⟨dt_reads (λe he=>?_),GoesI.at ?_ d⟩
   .have hm:=mem_listed he
    simp[go_sem, *] at hm
    try exact ⟨_,_,hm⟩
   clear hK K)
 refine goesI_regionEnd (dt_idle _ _) ?_;subst hT;exact hwp _ ⟨rfl,rfl,by
  intro p hp;simp only[Sm,or_false] at hp;rcases hp with rfl|rfl|rfl|rfl|rfl|rfl<;>rfl⟩
theorem law4_no (hE1:E=1∨E=2) (hvw:Rel zn v w) (hn:NoRow Ch v) (hA:Fl 36 [(1,I n0),(2,sc),(8,Pt wb 0),(9,an),(7,.bool true),(10,I E)] a)
 (hend:∀ a' v' w' todo,Rel zn v' w'->Grows v v'->a'.defers=[]->a'.tmps.getD 6 undef=.bool true->GoesI Tryd.prog main (DT (ScZ zn) Ch) Stop (G { (base 4).at a' todo with mode:=.returning } []) w'):
 GoesI Tryd.prog main (DT (ScZ zn) Ch) Stop (G ((base 4).at a [.code (.seq l4c P4s)]) []) w:=by
 refine goesI_seq (dt_idle _ _) ?_;refine goesI_retZ (Q:=λa w'=>Fl 36 [(6,.bool true)] a∧w'.heap=v.heap∧w'.os=v.os∧w'.output=v.output) hvw hn fine_l4c hA.2.1 (λτ=>l4c_no (v:=onTape v τ 0) hE1 hA) (λa' v' w' todo hQ hd hr hn'=>hend a' v' w' todo hr (gx_same hQ.2.1 hQ.2.2.1 hQ.2.2.2) hd (hQ.1.at 6 (.bool true) (by simp)))
theorem law4_yes {L:List Stp}{sv av:Value}
 (hS:Rep zn S v) (htr:S.tr=flat L) (hSn:S.n=L.length) (hs4:S.n<=400000)
 (hX:∀ (u:World) (tv:Value),Grows v u->R3.SLw 5 R3.stepL u tv (L.map toStep)->Calls Tryd.prog 24 #[I 5,I n0,I 4,sv,av,tv] u λe w'=>e=.returned (.bool true)∧Below u.heap.size u w')
 (hvw:Rel zn v w) (hn:NoRow Ch v) (hA:Fl 36 [(1,I n0),(2,sv),(8,Pt S.wb 0),(9,av),(7,.bool true),(10,I 0)] a)
 (hend:∀ a' v' w' todo,Rel zn v' w'->Grows v v'->a'.defers=[]->a'.tmps.getD 6 undef=.bool true->GoesI Tryd.prog main (DT (ScZ zn) Ch) Stop (G { (base 4).at a' todo with mode:=.returning } []) w'):
 GoesI Tryd.prog main (DT (ScZ zn) Ch) Stop (G ((base 4).at a [.code (.seq l4c P4s)]) []) w:=by
 refine goesI_seq (dt_idle _ _) ?_;refine goesI_plain (z:=zn) (wr:=true) (L:=LV) (I:=NoRow Ch) hE fineV noRow_keeps (λv v' w w' es hi hr ho he=>dt_of_z v v' w w' es hi hr ho he) hvw fine_l4c hA.2.1 (by simp[base]) hn (Q:=λa w'=>Fl 36 [(1,I n0),(2,sv),(8,Pt S.wb 0),(9,av)] a∧w'.heap=v.heap∧w'.os=v.os∧w'.output=v.output) (λτ=>l4c_wp (v:=onTape v τ 0) hA) ?_;rintro a1 v1 w1 ⟨hA1,q1,o1,u1⟩ hr1 hn1 -;unfold P4s;refine goesI_seq (dt_idle _ _) ?_;refine goesI_plain (z:=zn) (wr:=true) (L:=LV) (I:=NoRow Ch) hE fineV noRow_keeps (λv v' w w' es hi hr ho he=>dt_of_z v v' w w' es hi hr ho he) hr1 fine_l4d hA1.2.1 (by simp[base]) hn1 (Q:=λa w'=>∃ p g ct,Fl 36 [(1,I n0),(2,sv),(8,Pt S.wb 0),(9,av),(11,.slice p S.n ct)] a∧(0<S.n->p=some ⟨g,0,none⟩∧v1.heap.size<=g)∧(∀ j u,S.tr[j]? = some u->w'.cell? ⟨g,j,none⟩=some u)∧Grows v1 w') (λτ=>wp_mono (l4d_wp (v:=onTape v1 τ 0) (S:=S) (hS.same (v':=onTape v1 τ 0) q1) (by omega) (by rw[htr];exact flat_one L) hA1) (λe a w' hq=>⟨hq.1,by
  obtain ⟨_,p,g,ct,k1,k2,k3,k4⟩:=hq;exact ⟨p,g,ct,k1,k2,k3,⟨k4.size,k4.old,k4.os,k4.output⟩⟩⟩)) ?_
 rintro a2 v2 w2 ⟨p,g,ct,hA2,hp,htc,g2⟩ hr2 hn2 -;have gv:Grows v v2:=gx_trans (gx_same q1 o1 u1) g2;have hT2:R3.SLw 5 R3.stepL v2 (.slice p S.n ct) (L.map toStep):=sl_trace hSn hs4 (λh=>(hp h).1) (λj u hj=>htc j u (by rw[htr];exact hj));refine goesI_retX (Q:=λa w'=>Fl 36 [(6,.bool true)] a∧Grows v2 w') hr2 hn2 fine_l4e hA2.2.1 (λτ=>wp_mono (l4e_wp (v:=onTape v2 τ 0) (hX (onTape v2 τ 0) (.slice p S.n ct) ⟨gv.size,gv.old,gv.os,gv.output⟩ (SLw_grows ⟨Qi _,λ_ _=>rfl,rfl,rfl⟩ hT2)) (hA2.sub (by simp))) (λe a w' hq=>⟨hq.1,hq.2.1,⟨hq.2.2.size,λb hb=>hq.2.2.block b hb,hq.2.2.os,hq.2.2.output⟩⟩)) (λa' v' w' todo hQ hd hr hn'=>hend a' v' w' todo hr (gx_trans gv hQ.2) hd (hQ.1.at 6 (.bool true) (by simp)))
theorem going_wb (S:TS) (i:Nat) (t:Thr):(going S i t).wb=S.wb:=by
 unfold going;first
  |rfl
  |(unfold picked;split<;>rfl)
  |(split<;>rfl)
theorem pturn_wb {mc:Mc}{p p':PSt}(h:pturn mc p=some p'):p'.S.wb=p.S.wb:=by
 unfold pturn at h;split at h
 .split at h
  cases h;rfl;cases h
 .cases h
  exact (resume_sta _ _ _ _ _).wb.trans (going_wb _ _ _)
theorem turns_wb {mc:Mc}{m:Nat}{p p':PSt}(h:Turns mc m p p'):p'.S.wb=p.S.wb:=by
 induction h with
 |stop _=>rfl
 |step h1 _ ih=>exact ih.trans (pturn_wb h1)
theorem hires_wb {mc:Mc}{k:Nat}{ss:List (Scr mc)}{S':TS}{l l':Nat->Ph}(h:Hires mc k ss S l S' l'):S'.wb=S.wb:=by
 induction h with
 |nil=>rfl
 |cons tv tb gc _ ih=>exact ih.trans (flow_sta _ _ _ _ _ _ _).wb
section
variable (mc:Mc) (fid:FuncId) (caps:Array Value) (pk:Nat->Option Obj) (N n:Nat) (K:List (Nat×Int)) (pc:Nat->Option Addr) (ln cp rb:Nat->Nat) (cl:Nat->List Cl)
theorem scrs_calls:(scrs mc fid caps pk N n K pc ln cp rb cl).map (·.calls)=(List.range' 0 n).map cl:=by unfold scrs;rw[List.map_map];rfl
theorem scrs_ans (hlen:∀ j,j<n->(cl j).length=ln j):∀ x∈scrs mc fid caps pk N n K pc ln cp rb cl,x.ans=List.replicate x.calls.length (0,0):=λs hs=>by simp only[scrs,List.mem_map,List.mem_range'] at hs;obtain ⟨j,⟨i,hi,rfl⟩,rfl⟩:=hs;show List.replicate (ln (0+1*i)) (0,0)=List.replicate (cl (0+1*i)).length (0,0);rw[hlen _ (by omega)]
end
theorem alone_ends {gs:Array Goroutine}{T:Trace}{q:Nat->Nat}(A:Alone gs w T q) {a:Goroutine}(hg:gs[0]? = some a) (sl:Option (Nat×Nat)) {Post:Value->World->Prop}(hE:∀ B,∀ d,AtEnd Tryd.prog (λ_=>False) B Post a (w.at d)):
 ∃ N last o w' t',runNT Tryd.prog (N+1) (crowd gs w sl) T=(.ended o w',t')∧runN Tryd.prog N (crowd gs w sl)=.next last∧step Tryd.prog last=.ended o w'∧Go.Conc.Good Tryd.prog Post last o w' t':=by
 obtain ⟨B,hB,hP⟩:=A.past;refine beside_ends (D:=λ_ _ es=>es=#[]) (Shun:=λ_=>False) (B:=B) (n:=0) (λ_ _ es h e he=>by subst h;simp at he) hg A.left hP ?_;rintro w1 ⟨d,rfl⟩;exact hE B d
section
variable (n o:Nat) (k b:Int) (d i:Nat) (r:List Int)
theorem oA_l:oA (n,lO o k b d i++r)=o:=by simp[oA,lO]
theorem dA_l:dA (n,lO o k b d i++r)=d:=by simp[dA,lO]
theorem iA_l:iA (n,lO o k b d i++r)=i:=by simp[iA,lO]
theorem eA_l (e:Int):eA (n,lO o k b d i++e :: r)=e:=by simp[eA,lO]
end
def lvO (pc d:Nat):Nat:=if d=0 then (if pc=1∨pc=3∨pc=4 then 5 else if pc=5 then 2 else if pc=6∨pc=2 then 1 else 0) else if d=1∧pc=1 then 4 else 0
def levO (q:Q):Nat:=lvO q.1 (dA q)
def clO (q:Q):Nat:=if q.1=2∨q.1=5 then 2*oA q+1 else 2*oA q
def wsO (q:Q) (x:Int):Nat:=if q.1=1 then 1 else if q.1=3 then (if x=eA q then 0 else 2) else 0
def wqO (q:Q):Prop:=q.1=4∧dA q=0
def gqO (i:Nat) (q:Q) (x:Int):Prop:=q.1=1->1<=dA q->R1.stI x=1∧R1.whoI x=(iA q:Int)
section
variable {o:Nat}{k b:Int}{d i:Nat}
theorem Bd (n:Nat) (r:List Int):levO (n,lO o k b d i++r)=lvO n d:=by unfold levO;rw[dA_l]
theorem Be (n:Nat):levO (n,lO o k b d i)=lvO n d:=by have:=Bd (o:=o) (k:=k) (b:=b) (d:=d) (i:=i) n [];rwa [List.append_nil] at this
theorem cl_l (n:Nat) (r:List Int):clO (n,lO o k b d i++r)=if n=2∨n=5 then 2*o+1 else 2*o:=by unfold clO;rw[oA_l]
theorem cl_0 (n:Nat):clO (n,lO o k b d i)=if n=2∨n=5 then 2*o+1 else 2*o:=by have:=cl_l (o:=o) (k:=k) (b:=b) (d:=d) (i:=i) n [];rwa [List.append_nil] at this
theorem seat_nx (a:Int×Int) (hd:d<=1):seatOk 5 levO clO wqO (nxO o k b d i a)∧nlev levO (nxO o k b d i a)<=2*d:=by
 match d,hd with
 |0,_=>exact ⟨trivial,Qi _⟩
 |1,_ =>
  have h:levO (5,lO o k b 0 i++[70,a.1])=2:=Bd 5 [70,a.1];refine ⟨⟨?_,?_,?_⟩,?_⟩;rw[h];decide;rw[h];decide;rw[cl_l];rfl
  .show levO (5,lO o k b 0 i++[70,a.1])<=2*1
   rw[h];decide
end
theorem lv_cases {pc d:Nat}(h:1<=lvO pc d):(d=0∧(pc=1∨pc=3∨pc=4∨pc=5∨pc=6∨pc=2))∨(d=1∧pc=1):=by
 unfold lvO at h;split at h
 .left
  refine ⟨by assumption,?_⟩;split at h;omega
  .split at h
   omega
   .split at h
    omega;omega
 .split at h
  right;assumption;omega
def metO (m:Nat):Met (mcO m) where
 L:=5
 hL:=by omega
 lev:=levO
 ws:=wsO
 cl:=clO
 wq:=wqO
 gq:=gqO
 ws_le q x:=by
  unfold wsO;split;omega
  .split
   .split<;>omega
   omega
 start i c:=by
  unfold mcO;simp only;split
  .refine ⟨?_,?_,?_⟩
   rw[Be];decide;rw[Be];decide;rw[cl_0];rfl
  trivial
 stuck q h1 h2 hw:=by have hd:dA q=0:=hw.2;have hs:(mcO m).stuck q=nxO (oA q) (kA q) (bA q) (dA q) (iA q) (4,0):=rfl;rw[hs,hd];exact ⟨trivial,by show 0<levO q;omega⟩
 woke q h1 h2 hw:=by
  have hd:dA q=0:=hw.2;have hs:(mcO m).woke q=.turn 1 (2*oA q) (1,lO (oA q) (kA q) (bA q) (dA q) (iA q)):=rfl;have hl:levO q=5:=by unfold levO;rw[hw.1,hd];rfl
  rw[hs,hd,hl];refine ⟨⟨?_,?_,?_⟩,.inr ⟨?_,?_⟩⟩;rw[Be];decide;rw[Be];decide;rw[cl_0];rfl
  .show levO (1,_)=5
   rw[Be];rfl
  .intro y
   unfold wsO;simp
 turn i q x hg h1 h2:=by
  rcases lv_cases h1 with ⟨hd,hp⟩|⟨hd,hp⟩
  .rcases hp with hp|hp|hp|hp|hp|hp
   . -- it looks at the word
    have ht:(mcO m).turn q x=((x,x),x,Av (oA q) (kA q) (bA q) (dA q) (iA q) x):=by show (if q.1=1 then _ else _:(Int×Int)×Int×Nx)=_;rw[if_pos hp]
    have hl:levO q=5:=by unfold levO;rw[hp,hd];rfl
    rw[ht,hd,hl];unfold Av;split
    .refine ⟨⟨?_,?_,?_⟩,.inl ?_⟩
     rw[Bd];decide;rw[Bd];decide;rw[cl_l];rfl
     .show levO (2,_)<5
      rw[Bd];decide
    .split
     .refine ⟨⟨?_,?_,?_⟩,.inr ⟨rfl,rfl,?_,?_,?_⟩⟩
      rw[Bd];decide;rw[Bd];decide;rw[cl_l];rfl
      .show levO (3,_)=5
       rw[Bd];rfl
      .rw[cl_l]
       unfold clO;rw[hp];rfl
      .unfold wsO
       simp[eA_l,hp]
     .split
      exact ⟨(seat_nx (o:=oA q) (k:=kA q) (b:=bA q) (i:=iA q) (d:=0) (72,0) (by decide)).1,.inl (by have:=(seat_nx (o:=oA q) (k:=kA q) (b:=bA q) (i:=iA q) (d:=0) (72,0) (by decide)).2;show nlev levO (nxO (oA q) (kA q) (bA q) 0 (iA q) (72,0))<5;omega)⟩
      .refine ⟨⟨?_,?_,?_⟩,.inr ⟨rfl,rfl,?_,?_⟩⟩
       rw[Be];decide;rw[Be];decide;exact ⟨rfl,by have:=dA_l 4 (oA q) (kA q) (bA q) 0 (iA q) [];rwa [List.append_nil] at this⟩
       .show levO (4,_)=5
        rw[Be];rfl
       .unfold wsO
        simp[hp]
   . -- it tries to be the one
    have ht:(mcO m).turn q x=(if x=eA q then ((eA q,R1.Ae 1 (iA q) 0),R1.Ae 1 (iA q) 0,Au (oA q) (kA q) (bA q) (dA q) (iA q)) else ((x,x),x,.turn 1 (2*oA q) (1,lO (oA q) (kA q) (bA q) (dA q) (iA q)))):=by show (if q.1=1 then _ else if q.1=2 then _ else if q.1=3 then _ else _:(Int×Int)×Int×Nx)=_;rw[if_neg (by omega),if_neg (by omega),if_pos hp]
    have hl:levO q=5:=by unfold levO;rw[hp,hd];rfl
    rw[ht,hd,hl];by_cases hx:x=eA q
    .rw[if_pos hx]
     show seatOk 5 levO clO wqO (Au (oA q) (kA q) (bA q) 0 (iA q))∧_;unfold Au;split
     .refine ⟨⟨?_,?_,?_⟩,.inl ?_⟩
      rw[Be];decide;rw[Be];decide;rw[cl_0];rfl
      .show levO (1,_)<5
       rw[Be];decide
     .refine ⟨⟨?_,?_,?_⟩,.inl ?_⟩
      rw[Bd];decide;rw[Bd];decide;rw[cl_l];rfl
      .show levO (5,_)<5
       rw[Bd];decide
    .rw[if_neg hx]
     refine ⟨⟨?_,?_,?_⟩,.inr ⟨rfl,rfl,?_,?_,?_⟩⟩;rw[Be];decide;rw[Be];decide;rw[cl_0];rfl
     .show levO (1,_)=5
      rw[Be];rfl
     .rw[cl_0]
      unfold clO;rw[hp];rfl
     .unfold wsO
      simp[hp,hx]
   . -- nobody sits so at a turn
    have ht:(mcO m).turn q x=((x,R1.Ae 2 0 (eA q)),R1.Ae 2 0 (eA q),nxO (oA q) (kA q) (bA q) (dA q) (iA q) (eA q,xA q)):=by show (if q.1=1 then _ else if q.1=2 then _ else if q.1=3 then _ else if q.1=5 then _ else _:(Int×Int)×Int×Nx)=_;rw[if_neg (by omega),if_neg (by omega),if_neg (by omega),if_neg (by omega)]
    rw[ht,hd];exact ⟨trivial,.inl (by show 0<levO q;omega)⟩
   .have ht:(mcO m).turn q x=((x,xA q),xA q,.turn 2 (2*oA q) (6,lO (oA q) (kA q) (bA q) (dA q) (iA q)++[eA q,xA q])):=by show (if q.1=1 then _ else if q.1=2 then _ else if q.1=3 then _ else if q.1=5 then _ else _:(Int×Int)×Int×Nx)=_;rw[if_neg (by omega),if_neg (by omega),if_neg (by omega),if_pos hp]
    have hl:levO q=2:=by unfold levO;rw[hp,hd];rfl
    rw[ht,hd,hl];refine ⟨⟨?_,?_,?_⟩,.inl ?_⟩;rw[Bd];decide;rw[Bd];decide;rw[cl_l];rfl
    .show levO (6,_)<2
     rw[Bd];decide
   .have ht:(mcO m).turn q x=((x,R1.Ae 2 0 (eA q)),R1.Ae 2 0 (eA q),nxO (oA q) (kA q) (bA q) (dA q) (iA q) (eA q,xA q)):=by show (if q.1=1 then _ else if q.1=2 then _ else if q.1=3 then _ else if q.1=5 then _ else _:(Int×Int)×Int×Nx)=_;rw[if_neg (by omega),if_neg (by omega),if_neg (by omega),if_neg (by omega)]
    rw[ht,hd];exact ⟨trivial,.inl (by show 0<levO q;omega)⟩
   .have ht:(mcO m).turn q x=((x,x),x,nxO (oA q) (kA q) (bA q) (dA q) (iA q) (eA q,x)):=by show (if q.1=1 then _ else if q.1=2 then _ else _:(Int×Int)×Int×Nx)=_;rw[if_neg (by omega),if_pos hp]
    rw[ht,hd];exact ⟨trivial,.inl (by show 0<levO q;omega)⟩
  .obtain ⟨g1,g2⟩:=hg hp (by omega)
   have ht:(mcO m).turn q x=((x,x),x,Av (oA q) (kA q) (bA q) (dA q) (iA q) x):=by show (if q.1=1 then _ else _:(Int×Int)×Int×Nx)=_;rw[if_pos hp]
   have hl:levO q=4:=by unfold levO;rw[hp,hd];rfl
   have e:Av (oA q) (kA q) (bA q) (dA q) (iA q) x=nxO (oA q) (kA q) (bA q) 1 (iA q) (72,0):=by unfold Av;rw[if_neg (by omega),if_neg (by omega),if_pos g2,hd]
   rw[ht,e,hl];have:=seat_nx (o:=oA q) (k:=kA q) (b:=bA q) (i:=iA q) (d:=1) (72,0) (by decide);exact ⟨this.1,.inl (by have h2:=this.2;show nlev levO (nxO (oA q) (kA q) (bA q) 1 (iA q) (72,0))<4;omega)⟩
end Go.Proofs.YtfjjoohflcchnaaDoor.Gen
