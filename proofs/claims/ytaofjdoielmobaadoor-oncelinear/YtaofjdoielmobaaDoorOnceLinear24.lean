/- Of the proof of OnceLinear. Part 24 of 30. (Joined, by program, and written short, of: GNote, GAc, GEvs, GEvs2, R3a.) -/
import Derived.Test.YtaofjdoielmobaaDoorOnceLinear15
import Derived.Test.YtaofjdoielmobaaDoorOnceLinear23
import Derived.Test.YtaofjdoielmobaaDoorRows
import Derived.WalkKit
import Derived.WalkSpells
import Derived.WalkLawsBesides
import Derived.Deep.QuietTactic
import Derived.BigQuiet
import Derived.Deep.MidRow
import Derived.Deep.OwnRows
import Derived.Laws.MakeOwn
import Derived.Maps.OwnSet
import Derived.DeepKeys4
import Derived.Deep.LoopGhost
import Derived.Deep.RegionHeld3
import Derived.Deep.AppendLies
set_option linter.unusedSimpArgs false
set_option linter.unusedVariables false
set_option maxHeartbeats 4000000
set_option maxRecDepth 100000
namespace Go.Proofs.YtaofjdoielmobaaDoor.Gen
open Go Go.Lift Go.Conc Go.RowKit
open Go.ConcN (upd upd_same upd_ne)
def nt (L:List Stp) (i:Nat):Nat:=L.countP fun s=>(s.op==9||s.op==10)&&s.th==(i:Int)
theorem nt_one (L:List Stp) (s:Stp) (i:Nat):nt (L++[s]) i=nt L i+if ((s.op==9||s.op==10)&&s.th==(i:Int))=true then 1 else 0:=by
 unfold nt;rw[List.countP_append,List.countP_singleton]
theorem nt_no {L:List Stp}{s:Stp}(h9:s.op≠9) (h10:s.op≠10) (i:Nat):nt (L++[s]) i=nt L i:=by
 rw[nt_one,if_neg (by simp[h9,h10])];rfl
theorem Dg (L:List Stp) (i k:Nat) (x:Int) {op:Int}(h:op=9∨op=10):nt (L++[⟨i,-1,op,k,x⟩]) i=nt L i+1:=by
 rw[nt_one,if_pos (by rcases h with rfl|rfl<;>simp)]
theorem D2 (L:List Stp) {i j:Nat}(hne:j≠i) (k:Nat) (x op:Int):nt (L++[⟨i,-1,op,k,x⟩]) j=nt L j:=by
 rw[nt_one,if_neg (by simp;intro _;omega)];rfl
def No4 (ans:List (Int×Int)) (k:Nat):Prop:=∀ q a,q<k->ans[q]? = some a->a.1≠4
theorem No4.set {ans:List (Int×Int)}{k:Nat}(h:No4 ans k) (a:Int×Int):No4 (ans.set k a) k:=fun q b hq hb=>by
 rw[List.getElem?_set,if_neg (by omega)] at hb;exact h q b hq hb
theorem No4.next {ans:List (Int×Int)}{k:Nat}(h:No4 ans k) {a:Int×Int}(ha:a.1≠4):No4 (ans.set k a) (k+1):=fun q b hq hb=>by
 by_cases e:q=k
 ·subst e
  rw[List.getElem?_set,if_pos rfl] at hb
  split at hb
  ·cases hb;exact ha
  ·cases hb
 ·exact h.set a q b (by omega) hb
inductive Fit9 (N:Nat) (cl:Nat->List Cl) (an:Nat->List (Int×Int)):List Stp->Prop
 |nil:Fit9 N cl an []
 |other {L:List Stp} {s:Stp}:Fit9 N cl an L->s.op≠9->s.op≠10->Fit9 N cl an (L++[s])
 |beg {L:List Stp} {i k:Nat}:Fit9 N cl an L->i<N->nt L i=2*k->k<(cl i).length->No4 (an i) k->Fit9 N cl an (L++[⟨i,-1,9,k,0⟩])
 |fin {L:List Stp} {i k:Nat} {a:Int×Int}:Fit9 N cl an L->i<N->nt L i=2*k+1->k<(cl i).length->(an i)[k]? = some a->Fit9 N cl an (L++[⟨i,-1,10,k,a.1⟩])
theorem Fit9.mono {N:Nat}{cl:Nat->List Cl}{an an':Nat->List (Int×Int)}{L:List Stp}(h:Fit9 N cl an L):(∀ i k,k<nt L i / 2->(an' i)[k]? = (an i)[k]?)->Fit9 N cl an' L:=by
 induction h with
 |nil=>intro _;exact .nil
 |other h h9 h10 ih=>intro hk;exact .other (ih fun i k hi=>hk i k (by rw[nt_no h9 h10];exact hi)) h9 h10
 |@beg L i k h hi hn hl h4 ih =>
  intro hk
  refine .beg (ih fun j q hq=>hk j q ?_) hi hn hl (fun q a hq ha=>h4 q a hq (by rw[←hk i q (by rw[Dg _ _ _ _ (.inl rfl)];omega)];exact ha))
  by_cases e:j=i
  ·subst e;rw[Dg _ _ _ _ (.inl rfl)];omega
  ·rw[D2 _ e];exact hq
 |@fin L i k a h hi hn hl ha ih =>
  intro hk
  refine .fin (ih fun j q hq=>hk j q ?_) hi hn hl ?_
  ·by_cases e:j=i
   ·subst e;rw[Dg _ _ _ _ (.inr rfl)];omega
   ·rw[D2 _ e];exact hq
  ·rw[hk i k (by rw[Dg _ _ _ _ (.inr rfl)];omega)];exact ha
def NT (calls:List Cl) (n:Nat) (l:Ph):Prop:=l.ans.length=calls.length∧match l with
 |.turn op _ _ rest ii _=>n=2*ii+1∧ii<calls.length∧rest=calls.drop (ii+1)∧No4 l.ans ii∧op≠9∧op≠10
 |.wait _ _ rest ii _=>n=2*ii+1∧ii<calls.length∧rest=calls.drop (ii+1)∧No4 l.ans ii
 |.done _=>n % 2=0∧n / 2≤calls.length
structure OpOk (mc:Mc):Prop where
 start:∀ s i c op j q,mc.set s (mc.start i c)=.turn op j q->op≠9∧op≠10
 turn:∀ s q x op j q',mc.set s (mc.turn q x).2.2=.turn op j q'->op≠9∧op≠10
 woke:∀ q op j q',mc.woke q=.turn op j q'->op≠9∧op≠10
 stuck:∀ q op j q',mc.stuck q=.turn op j q'->op≠9∧op≠10
 nts:∀ q x n,n∈mc.nts q x->n.1≠9∧n.1≠10
theorem nt_nos (i:Nat):∀ (X:List Stp) {L:List Stp},(∀ x∈X,x.op≠9∧x.op≠10)->nt (L++X) i=nt L i
 | [],L,_=>by rw[List.append_nil]
 |x :: X,L,h=>by
  have h1:=h x (List.mem_cons_self ..)
  have:=nt_nos i X (L:=L++[x]) (fun y hy=>h y (List.mem_cons_of_mem _ hy))
  rw[List.append_assoc,List.singleton_append] at this
  rw[this,nt_no h1.1 h1.2]
theorem Fit9.others {N:Nat}{cl:Nat->List Cl}{an:Nat->List (Int×Int)}:∀ (X:List Stp) {L:List Stp},Fit9 N cl an L->(∀ x∈X,x.op≠9∧x.op≠10)->Fit9 N cl an (L++X)
 | [],L,h,_=>by rw[List.append_nil];exact h
 |x :: X,L,h,hX=>by
  have h1:=hX x (List.mem_cons_self ..)
  have:=Fit9.others X (h.other h1.1 h1.2) (fun y hy=>hX y (List.mem_cons_of_mem _ hy))
  rw[List.append_assoc,List.singleton_append] at this
  exact this
theorem OpOk.ntsL {mc:Mc}(h:OpOk mc) (i:Nat) (q:Q) (x:Int):∀ s∈ntsL i (mc.nts q x),s.op≠9∧s.op≠10:=fun s hs=>by
 unfold Gen.ntsL at hs
 rw[List.mem_map] at hs
 obtain ⟨n,hn,rfl⟩:=hs
 exact h.nts q x n hn
section
variable {mc:Mc}{N:Nat}{cl:Nat->List Cl}{i:Nat}
theorem fw_note (hop:OpOk mc) (hi:i<N) {stk:Bool}{rest:List Cl}{ii:Nat}{sk:Bool}{ans:List (Int×Int)}{X:List Stp}{l:Ph}(h:Fw mc i stk rest ii sk ans X l):∀ (an0:Nat->List (Int×Int)) (L:List Stp),rest=(cl i).drop ii->ii≤(cl i).length->ans.length=(cl i).length->Fit9 N cl (upd an0 i ans) L->(sk=false->nt L i=2*ii∧No4 ans ii)->(sk=true->nt L i % 2=0∧nt L i / 2≤ii) ->
 Fit9 N cl (upd an0 i l.ans) (L++X)∧NT (cl i) (nt (L++X) i) l∧∀ k,k≠i->nt (L++X) k=nt L k:=by
 have dr:∀ {c:Cl} {rest:List Cl} {ii:Nat},c :: rest=(cl i).drop ii->ii<(cl i).length∧rest=(cl i).drop (ii+1):=fun {c rest ii} hr=>by
  constructor
  ·have:=congrArg List.length hr;simp at this;omega
  ·have:=congrArg List.tail hr;simpa [List.tail_drop] using this
 have put:∀ {an0:Nat->List (Int×Int)} {ans:List (Int×Int)} {L:List Stp} {ii:Nat} (a:Int×Int),Fit9 N cl (upd an0 i ans) L->nt L i / 2≤ii->Fit9 N cl (upd an0 i (ans.set ii a)) L:=fun {an0 ans L ii} a hF hn=>hF.mono fun j k hk=>by
  by_cases e:j=i
  ·subst e
   rw[upd_same,upd_same,List.getElem?_set,if_neg (by omega)]
  ·rw[upd_ne _ _ e,upd_ne _ _ e]
 have one:∀ {an0:Nat->List (Int×Int)} {ans:List (Int×Int)} {L:List Stp} {ii:Nat} (a:Int×Int),ii<(cl i).length->ans.length=(cl i).length->Fit9 N cl (upd an0 i ans) L->nt L i=2*ii->No4 ans ii->Fit9 N cl (upd an0 i (ans.set ii a)) ((L++[⟨i,-1,9,ii,0⟩])++[⟨i,-1,10,ii,a.1⟩])∧nt ((L++[⟨i,-1,9,ii,0⟩])++[⟨i,-1,10,ii,a.1⟩]) i=2*(ii+1)∧∀ k,k≠i->nt ((L++[⟨i,-1,9,ii,0⟩])++[⟨i,-1,10,ii,a.1⟩]) k=nt L k:=fun {an0 ans L ii} a hlt hlen hF hn h4=>by
  have h1:nt (L++[⟨i,-1,9,ii,0⟩]) i=2*ii+1:=by rw[Dg _ _ _ _ (.inl rfl),hn]
  refine ⟨.fin (.beg (put a hF (by omega)) hi hn hlt (by rw[upd_same];exact h4.set a)) hi h1 hlt ?_,by rw[Dg _ _ _ _ (.inr rfl),h1];omega,fun k hk=>by rw[D2 _ hk,D2 _ hk]⟩
  rw[upd_same,List.getElem?_set,if_pos rfl,if_pos (by omega)]
 induction h with
 |@nil ii sk ans =>
  intro an0 L hr hii hlen hF h0 h1
  have hl:ii=(cl i).length:=by have:=congrArg List.length hr;simp at this;omega
  rw[List.append_nil]
  refine ⟨hF,⟨hlen,?_⟩,fun _ _=>rfl⟩
  cases sk with
  |false=>have:=(h0 rfl).1;exact ⟨by omega,by omega⟩
  |true=>have:=h1 rfl;exact ⟨this.1,by omega⟩
 |@skip c rest ii ans X l h ih =>
  intro an0 L hr hii hlen hF h0 h1
  obtain ⟨hlt,hr'⟩:=dr hr
  obtain ⟨e1,e2⟩:=h1 rfl
  exact ih an0 L hr' (by omega) (by rw[List.length_set];exact hlen) (put _ hF e2) (fun h=>by cases h) (fun _=>⟨e1,by omega⟩)
 |@ans c rest ii ans X l e x hst h ih =>
  intro an0 L hr hii hlen hF h0 h1
  obtain ⟨hlt,hr'⟩:=dr hr
  obtain ⟨g1,g2,g3⟩:=one (e,x) hlt hlen hF (h0 rfl).1 (h0 rfl).2
  obtain ⟨k1,k2,k3⟩:=ih an0 _ hr' (by omega) (by rw[List.length_set];exact hlen) g1 (fun hh=>⟨g2,(h0 rfl).2.next (by simpa using hh)⟩) (fun _=>⟨by omega,by omega⟩)
  simp only[List.append_assoc,List.singleton_append] at k1 k2 k3 g3
  exact ⟨k1,k2,fun k hk=>(k3 k hk).trans (g3 k hk)⟩
 |@turn c rest ii ans op j q hst =>
  intro an0 L hr hii hlen hF h0 h1
  obtain ⟨hlt,hr'⟩:=dr hr
  refine ⟨.beg hF hi (h0 rfl).1 hlt (by rw[upd_same];exact (h0 rfl).2),⟨hlen,?_⟩,fun k hk=>D2 _ hk _ _ _⟩
  exact ⟨by rw[Dg _ _ _ _ (.inl rfl),(h0 rfl).1],hlt,hr',(h0 rfl).2,hop.start _ _ _ _ _ _ hst⟩
 |@wait c rest ii ans j q hst =>
  intro an0 L hr hii hlen hF h0 h1
  obtain ⟨hlt,hr'⟩:=dr hr
  refine ⟨.beg hF hi (h0 rfl).1 hlt (by rw[upd_same];exact (h0 rfl).2),⟨hlen,?_⟩,fun k hk=>D2 _ hk _ _ _⟩
  exact ⟨by rw[Dg _ _ _ _ (.inl rfl),(h0 rfl).1],hlt,hr',(h0 rfl).2⟩
theorem end_note (hop:OpOk mc) (hi:i<N) {stk:Bool}{rest:List Cl}{ii:Nat}{ans:List (Int×Int)}{a:Int×Int}{X:List Stp}{l:Ph}(h:Fw mc i stk rest (ii+1) (a.1==4) (ans.set ii a) X l) {an0:Nat->List (Int×Int)}{L:List Stp}(hr:rest=(cl i).drop (ii+1)) (hlt:ii<(cl i).length) (hlen:ans.length=(cl i).length) (hF:Fit9 N cl (upd an0 i ans) L) (hn:nt L i=2*ii+1) (h4:No4 ans ii) :
 Fit9 N cl (upd an0 i l.ans) (L++⟨i,-1,10,ii,a.1⟩ :: X)∧NT (cl i) (nt (L++⟨i,-1,10,ii,a.1⟩ :: X) i) l∧∀ k,k≠i->nt (L++⟨i,-1,10,ii,a.1⟩ :: X) k=nt L k:=by
 have hF1:Fit9 N cl (upd an0 i (ans.set ii a)) (L++[⟨i,-1,10,ii,a.1⟩]):=by
  refine .fin (hF.mono fun j k hk=>?_) hi hn hlt (by rw[upd_same,List.getElem?_set,if_pos rfl,if_pos (by omega)])
  by_cases e:j=i
  ·subst e
   rw[upd_same,upd_same,List.getElem?_set,if_neg (by omega)]
  ·rw[upd_ne _ _ e,upd_ne _ _ e]
 have hn1:nt (L++[⟨i,-1,10,ii,a.1⟩]) i=2*(ii+1):=by rw[Dg _ _ _ _ (.inr rfl),hn];omega
 obtain ⟨k1,k2,k3⟩:=fw_note hop hi h an0 _ hr (by omega) (by rw[List.length_set];exact hlen) hF1 (fun hh=>⟨hn1,h4.next (by simpa using hh)⟩) (fun _=>⟨by omega,by omega⟩)
 rw[List.append_assoc,List.singleton_append] at k1 k2 k3
 exact ⟨k1,k2,fun k hk=>by rw[k3 k hk,D2 _ hk]⟩
end
structure NI (N:Nat) (cl:Nat->List Cl) (v:Vw):Prop where
 fit:Fit9 N cl (fun i=>(v.l i).ans) v.L
 thr:∀ i,i<N->NT (cl i) (nt v.L i) (v.l i)
theorem upd_self {an:Nat->List (Int×Int)}{i:Nat}{x:List (Int×Int)}(h:an i=x):upd an i x=an:=by
 funext k
 by_cases e:k=i
 ·subst e;rw[upd_same];exact h.symm
 ·rw[upd_ne _ _ e]
theorem ans_upd {l:Nat->Ph}{i:Nat}{l':Ph}:(fun k=>(upd l i l' k).ans)=upd (fun k=>(l k).ans) i l'.ans:=by
 funext k
 by_cases e:k=i
 ·subst e;rw[upd_same,upd_same]
 ·rw[upd_ne _ _ e,upd_ne _ _ e]
theorem NI.put {N:Nat}{cl:Nat->List Cl}{v v1:Vw}(h:NI N cl v) {i:Nat}{l':Ph}(e:Els i l' v v1) (hF:Fit9 N cl (upd (fun k=>(v.l k).ans) i l'.ans) v1.L) (ho:NT (cl i) (nt v1.L i) l') (hk:∀ k,k≠i->nt v1.L k=nt v.L k):NI N cl v1:=by
 refine ⟨by rw[e.l,ans_upd];exact hF,fun k hkN=>?_⟩
 rw[e.l]
 by_cases hne:k=i
 ·subst hne;rw[upd_same];exact ho
 ·rw[upd_ne _ _ hne,hk k hne];exact h.thr k hkN
theorem note_mv {mc:Mc}(hop:OpOk mc) {N:Nat}{cl:Nat->List Cl}{v v1:Vw}(h:NI N cl v) (m:Mv mc N v v1):NI N cl v1:=by
 cases m with
 |stuck hs hall hex e =>
  subst e
  refine ⟨.other h.fit (by show ¬ (7:Int)=9;decide) (by show ¬ (7:Int)=10;decide),fun i hi=>?_⟩
  rw[nt_no (by show ¬ (7:Int)=9;decide) (by show ¬ (7:Int)=10;decide)]
  exact h.thr i hi
 |turn i op j q rest ii ans X l' hi hl ho e eK eS eC eL =>
  have hT:=h.thr i hi
  rw[hl] at hT
  obtain ⟨hlen,hn,hlt,hr,h4,h9,h10⟩:=hT
  have hF0:Fit9 N cl (upd (fun k=>(v.l k).ans) i ans) (v.L++[⟨i,j,op,(mc.turn q (v.K.getD j 0)).1.1,(mc.turn q (v.K.getD j 0)).1.2⟩]):=.other (by rw[upd_self (by rw[hl];rfl)];exact h.fit) h9 h10
  have hF:=hF0.others _ (hop.ntsL i q (v.K.getD j 0))
  have hn1:∀ k,nt ((v.L++[⟨i,j,op,(mc.turn q (v.K.getD j 0)).1.1,(mc.turn q (v.K.getD j 0)).1.2⟩])++ntsL i (mc.nts q (v.K.getD j 0))) k=nt v.L k:=fun k=>(nt_nos k _ (hop.ntsL i q (v.K.getD j 0))).trans (nt_no h9 h10 k)
  generalize hx:mc.set v.stk (mc.turn q (v.K.getD j 0)).2.2=nx at ho
  cases ho with
  |@ans ee yy _ _ hf =>
   obtain ⟨k1,k2,k3⟩:=end_note (a:=(ee,yy)) hop hi hf hr hlt hlen hF (by rw[hn1];exact hn) h4
   simp only[List.append_assoc,List.cons_append,List.nil_append] at k1 k2 k3 hn1
   rw[←eL] at k1 k2 k3
   exact h.put e k1 k2 (fun k hk=>by rw[k3 k hk,hn1])
  |turn =>
   rw[List.append_nil] at eL
   simp only[List.append_assoc,List.cons_append,List.nil_append] at hF hn1
   rw[←eL] at hF hn1
   exact h.put e hF ⟨hlen,by rw[hn1];exact hn,hlt,hr,h4,hop.turn _ _ _ _ _ _ hx⟩ (fun k _=>hn1 k)
  |wait =>
   rw[List.append_nil] at eL
   simp only[List.append_assoc,List.cons_append,List.nil_append] at hF hn1
   rw[←eL] at hF hn1
   exact h.put e hF ⟨hlen,by rw[hn1];exact hn,hlt,hr,h4⟩ (fun k _=>hn1 k)
 |wake i j q rest ii ans X l' hi hl hs hc ho e eK eS eC eL =>
  have hT:=h.thr i hi
  rw[hl] at hT
  obtain ⟨hlen,hn,hlt,hr,h4⟩:=hT
  have h9:(⟨i,j,6,0,0⟩:Stp).op≠9:=by show ¬ (6:Int)=9;decide
  have h10:(⟨i,j,6,0,0⟩:Stp).op≠10:=by show ¬ (6:Int)=10;decide
  have hF:Fit9 N cl (upd (fun k=>(v.l k).ans) i ans) (v.L++[⟨i,j,6,0,0⟩]):=.other (by rw[upd_self (by rw[hl];rfl)];exact h.fit) h9 h10
  have hn1:∀ k,nt (v.L++[⟨i,j,6,0,0⟩]) k=nt v.L k:=nt_no h9 h10
  generalize hx:mc.woke q=nx at ho
  cases ho with
  |@ans ee yy _ _ hf =>
   obtain ⟨k1,k2,k3⟩:=end_note (a:=(ee,yy)) hop hi hf hr hlt hlen hF (by rw[hn1];exact hn) h4
   rw[List.append_assoc,List.singleton_append,←eL] at k1 k2 k3
   exact h.put e k1 k2 (fun k hk=>by rw[k3 k hk,hn1])
  |turn =>
   rw[←eL] at hF hn1
   exact h.put e hF ⟨hlen,by rw[hn1];exact hn,hlt,hr,h4,hop.woke _ _ _ _ hx⟩ (fun k _=>hn1 k)
  |wait =>
   rw[←eL] at hF hn1
   exact h.put e hF ⟨hlen,by rw[hn1];exact hn,hlt,hr,h4⟩ (fun k _=>hn1 k)
 |free i j q rest ii ans X l' hi hl hs hf e eK eS eC eL =>
  have hT:=h.thr i hi
  rw[hl] at hT
  obtain ⟨hlen,hn,hlt,hr,h4⟩:=hT
  have hF:Fit9 N cl (upd (fun k=>(v.l k).ans) i ans) v.L:=by rw[upd_self (by rw[hl];rfl)];exact h.fit
  generalize hx:mc.stuck q=nx at hf
  cases hf with
  |@ans ee yy _ _ hf =>
   obtain ⟨k1,k2,k3⟩:=end_note (a:=(ee,yy)) hop hi hf hr hlt hlen hF hn h4
   rw[←eL] at k1 k2 k3
   exact h.put e k1 k2 k3
  |turn =>
   rw[List.append_nil] at eL
   rw[←eL] at hF
   exact h.put e hF ⟨hlen,by rw[eL];exact hn,hlt,hr,h4,hop.stuck _ _ _ _ hx⟩ (fun k _=>by rw[eL])
  |wait =>
   rw[List.append_nil] at eL
   rw[←eL] at hF
   exact h.put e hF ⟨hlen,by rw[eL];exact hn,hlt,hr,h4⟩ (fun k _=>by rw[eL])
theorem hi_note {mc:Mc}(hop:OpOk mc) {N:Nat}{cl:Nat->List Cl}{k:Nat}{cs:List (List Cl)}{v v':Vw}(h:Hi mc k cs v v'):cs=(List.range' k cs.length).map cl->k+cs.length=N->Fit9 N cl (fun i=>(v.l i).ans) v.L->(∀ i,i<k->NT (cl i) (nt v.L i) (v.l i))->(∀ i,k≤i->nt v.L i=0)->NI N cl v':=by
 induction h with
 |nil=>intro _ hN hF hT _;simp at hN;subst hN;exact ⟨hF,hT⟩
 |@cons k c cs v v1 v2 X l' hF e1 e2 e3 e4 e5 h ih =>
  intro hc hN hfit hT h0
  rw[List.length_cons,List.range'_succ,List.map_cons] at hc
  obtain ⟨hc1,hc2⟩:=List.cons.inj hc
  subst hc1
  simp only[List.length_cons] at hN
  have hF0:Fit9 N cl (upd (fun i=>(v.l i).ans) k (List.replicate (cl k).length (0,0))) v.L:=hfit.mono fun j q hq=>by
   by_cases e:j=k
   ·subst e;rw[h0 j (Nat.le_refl _)] at hq;omega
   ·rw[upd_ne _ _ e]
  obtain ⟨k1,k2,k3⟩:=fw_note (N:=N) (cl:=cl) hop (by omega) hF _ v.L (by simp) (Nat.zero_le _) (by simp) hF0 (fun _=>⟨h0 k (Nat.le_refl _),fun q a hq _=>absurd hq (by omega)⟩) (fun h=>by cases h)
  rw[←e4] at k1 k2 k3
  refine ih hc2 (by omega) (by rw[e5.l,ans_upd];exact k1) (fun i hi=>?_) (fun i hi=>by rw[k3 i (by omega)];exact h0 i (by omega))
  rw[e5.l]
  by_cases hne:i=k
  ·subst hne;rw[upd_same];exact k2
  ·rw[upd_ne _ _ hne,k3 i hne];exact hT i (by omega)
theorem nt_le (L:List Stp) (s:Stp) (i:Nat):nt L i≤nt (L++[s]) i:=by rw[nt_one];omega
inductive Ac9 {σ:Type}(cl:Nat->List Cl) (an:Nat->List (Int×Int)) (st:σ->Cl->Int×Int->σ->Prop) (s0:σ):List Stp->σ->Prop
 |nil:Ac9 cl an st s0 [] s0
 |other {L:List Stp} {x:Stp} {s:σ}:Ac9 cl an st s0 L s->(x.op≠10∨x.ne=4)->Ac9 cl an st s0 (L++[x]) s
 |fin {L:List Stp} {i k:Nat} {c:Cl} {a:Int×Int} {s s':σ}:Ac9 cl an st s0 L s->nt L i=2*k+1->(cl i)[k]? = some c->(an i)[k]? = some a->a.1≠4->st s c a s'->Ac9 cl an st s0 (L++[⟨i,-1,10,k,a.1⟩]) s'
section
variable {σ:Type}{cl:Nat->List Cl}{an an':Nat->List (Int×Int)}{st:σ->Cl->Int×Int->σ->Prop}{s0 s:σ}{L:List Stp}
theorem Ac9.mono (h:Ac9 cl an st s0 L s):(∀ i k,k<nt L i / 2->(an' i)[k]? = (an i)[k]?)->Ac9 cl an' st s0 L s:=by
 induction h with
 |nil=>intro _;exact .nil
 |@other L x s h hx ih=>intro hk;exact .other (ih fun i k hi=>hk i k (by have:=nt_le L x i;omega)) hx
 |@fin L i k c a s s' h hn hc ha h4 hs ih =>
  intro hk
  refine .fin (ih fun j q hq=>hk j q (by have:=nt_le L ⟨i,-1,10,k,a.1⟩ j;omega)) hn hc ?_ h4 hs
  rw[hk i k (by rw[Dg _ _ _ _ (.inr rfl)];omega)];exact ha
theorem Ac9.more:∀ (X:List Stp) {L:List Stp},Ac9 cl an st s0 L s->(∀ x∈X,x.op≠10)->Ac9 cl an st s0 (L++X) s
 | [],L,h,_=>by rw[List.append_nil];exact h
 |x :: X,L,h,hX=>by
  have:=Ac9.more X (h.other (x:=x) (.inl (hX x (List.mem_cons_self ..)))) (fun y hy=>hX y (List.mem_cons_of_mem _ hy))
  rw[List.append_assoc,List.singleton_append] at this
  exact this
end
end Go.Proofs.YtaofjdoielmobaaDoor.Gen
namespace Go.Proofs.YtaofjdoielmobaaDoor.Gen
open Go Go.Lift Go.Conc Go.RowKit
open Go.Proofs.YtaofjdoielmobaaDoor.His
open Go.ConcN (upd upd_same upd_ne)
theorem snoc_inj {α:Type}{A B:List α}{x y:α}(h:A++[x]=B++[y]):A=B∧x=y:=by
 have:=List.append_inj' h rfl
 exact ⟨this.1,by simpa using this.2⟩
section
variable {σ:Type}
inductive Run9 (N:Nat) (cl:Nat->List Cl) (an:Nat->List (Int×Int)) (st:σ->Cl->Int×Int->σ->Prop) (s0:σ):List Stp->σ->Prop
 |nil:Run9 N cl an st s0 [] s0
 |other {L:List Stp} {x:Stp} {s:σ}:Run9 N cl an st s0 L s->x.op≠9->x.op≠10->Run9 N cl an st s0 (L++[x]) s
 |beg {L:List Stp} {i k:Nat} {c:Cl} {s:σ}:Run9 N cl an st s0 L s->i<N->nt L i=2*k->(cl i)[k]? = some c->No4 (an i) k->Run9 N cl an st s0 (L++[⟨i,-1,9,k,0⟩]) s
 |stuck {L:List Stp} {i k:Nat} {a:Int×Int} {s:σ}:Run9 N cl an st s0 L s->i<N->nt L i=2*k+1->(an i)[k]? = some a->a.1=4->Run9 N cl an st s0 (L++[⟨i,-1,10,k,a.1⟩]) s
 |fin {L:List Stp} {i k:Nat} {c:Cl} {a:Int×Int} {s s':σ}:Run9 N cl an st s0 L s->i<N->nt L i=2*k+1->(cl i)[k]? = some c->(an i)[k]? = some a->a.1≠4->st s c a s'->Run9 N cl an st s0 (L++[⟨i,-1,10,k,a.1⟩]) s'
theorem ac_inv {cl:Nat->List Cl}{an:Nat->List (Int×Int)}{st:σ->Cl->Int×Int->σ->Prop}{s0 s':σ}{M:List Stp}(h:Ac9 cl an st s0 M s'):∀ (L:List Stp) (x:Stp),M=L++[x] ->
 (Ac9 cl an st s0 L s'∧(x.op≠10∨x.ne=4))∨∃ (i k:Nat) (c:Cl) (a:Int×Int) (s:σ),Ac9 cl an st s0 L s∧nt L i=2*k+1∧(cl i)[k]? = some c∧(an i)[k]? = some a∧a.1≠4∧st s c a s'∧x=⟨i,-1,10,k,a.1⟩:=by
 cases h with
 |nil=>intro L x e;exact absurd e.symm (by simp)
 |other h hx =>
  intro L x e
  obtain ⟨rfl,rfl⟩:=snoc_inj e
  exact .inl ⟨h,hx⟩
 |fin h hn hc ha h4 hs =>
  intro L x e
  obtain ⟨rfl,rfl⟩:=snoc_inj e
  exact .inr ⟨_,_,_,_,_,h,hn,hc,ha,h4,hs,rfl⟩
theorem run9_of {N:Nat}{cl:Nat->List Cl}{an:Nat->List (Int×Int)}{st:σ->Cl->Int×Int->σ->Prop}{s0:σ}{L:List Stp}(h:Fit9 N cl an L):∀ s,Ac9 cl an st s0 L s->Run9 N cl an st s0 L s:=by
 have nl:∀ {s':σ} {M:List Stp},Ac9 cl an st s0 M s'->M=[]->s'=s0:=fun {s' M} h=>by
  cases h with
  |nil=>intro _;rfl
  |other h hx=>intro e;exact absurd e (by simp)
  |fin=>intro e;exact absurd e (by simp)
 induction h with
 |nil=>intro s hs;rw[nl hs rfl];exact .nil
 |other h h9 h10 ih =>
  intro s hs
  rcases ac_inv hs _ _ rfl with ⟨ha,_⟩|⟨i,k,c,a,s1,_,_,_,_,_,_,rfl⟩
  ·exact .other (ih s ha) h9 h10
  ·exact absurd rfl h10
 |@beg L i k h hi hn hl h4 ih =>
  intro s hs
  rcases ac_inv hs _ _ rfl with ⟨ha,_⟩|⟨i,k,c,a,s1,_,_,_,_,_,_,e⟩
  ·exact .beg (ih s ha) hi hn (List.getElem?_eq_getElem hl) h4
  ·exact absurd (congrArg Stp.op e) (by show ¬ (9:Int)=10;decide)
 |@fin L i k a h hi hn hl ha ih =>
  intro s hs
  rcases ac_inv hs _ _ rfl with ⟨hac,h⟩|⟨i',k',c,a',s1,hac,hn',hc,ha',h4,hst,e⟩
  ·rcases h with h|h
   ·exact absurd rfl h
   ·exact .stuck (ih s hac) hi hn ha h
  ·have e1:(i:Int)=i':=congrArg Stp.th e
   have e2:(k:Int)=k':=congrArg Stp.ol e
   obtain rfl:i=i':=by omega
   obtain rfl:k=k':=by omega
   obtain rfl:a=a':=by rw[ha] at ha';exact Option.some.inj ha'
   exact .fin (ih s1 hac) hi hn hc ha h4 hst
end
inductive Ev9 (cl:Nat->List Cl) (an:Nat->List (Int×Int)):List Stp->List His.Ev->(Nat->Nat)->Prop
 |nil:Ev9 cl an [] [] (fun _=>0)
 |other {L:List Stp} {x:Stp} {E:List His.Ev} {id:Nat->Nat}:Ev9 cl an L E id->x.op≠9->x.op≠10->Ev9 cl an (L++[x]) E id
 |beg {L:List Stp} {E:List His.Ev} {id:Nat->Nat} {i k:Nat} {c:Cl}:Ev9 cl an L E id->nt L i=2*k->(cl i)[k]? = some c->Ev9 cl an (L++[⟨i,-1,9,k,0⟩]) (E++[⟨i,c.po,c.ca,c.cb,L.length,-1,4,0⟩]) (upd id i E.length)
 |stuck {L:List Stp} {E:List His.Ev} {id:Nat->Nat} {i k:Nat} {a:Int×Int}:Ev9 cl an L E id->nt L i=2*k+1->(an i)[k]? = some a->a.1=4->Ev9 cl an (L++[⟨i,-1,10,k,a.1⟩]) E id
 |fin {L:List Stp} {E:List His.Ev} {id:Nat->Nat} {i k:Nat} {a:Int×Int} {e:His.Ev}:Ev9 cl an L E id->nt L i=2*k+1->(an i)[k]? = some a->a.1≠4->E[id i]? = some e->Ev9 cl an (L++[⟨i,-1,10,k,a.1⟩]) (E.set (id i) ⟨e.thr,e.op,e.a,e.b,e.beg,L.length,a.1,a.2⟩) id
def AccTo {τ:Type}(ways:Ways τ):τ->List His.Ev->τ->Prop
 |s,[],t=>s=t
 |s,e :: r,t=>∃ o,o∈ways s e∧o.1=e.ans∧AccTo ways o.2 r t
theorem AccTo.acc {τ:Type}{ways:Ways τ}:∀ {l:List His.Ev}{s t:τ},AccTo ways s l t->Acc ways s l
 | [],_,_,_=>trivial
 |e :: r,s,t,h=>by obtain ⟨o,h1,h2,h3⟩:=h;exact ⟨o,h1,fun _=>h2,AccTo.acc h3⟩
theorem AccTo.snoc {τ:Type}{ways:Ways τ}{e:His.Ev}{o:(Int×Int)×τ}:∀ {l:List His.Ev}{s t:τ},AccTo ways s l t->o∈ways t e->o.1=e.ans->AccTo ways s (l++[e]) o.2
 | [],s,t,h,h1,h2=>by have:s=t:=h;subst this;exact ⟨o,h1,h2,rfl⟩
 |x :: r,s,t,h,h1,h2=>by obtain ⟨p,k1,k2,k3⟩:=h;exact ⟨p,k1,k2,AccTo.snoc k3 h1 h2⟩
structure EvI (cl:Nat->List Cl) (an:Nat->List (Int×Int)) {τ:Type}(ways:Ways τ) (t0:τ) (L:List Stp) (E:List His.Ev) (id:Nat->Nat) (ord:List Nat) (t:τ):Prop where
 timed:∀ (m:Nat) (e:His.Ev),E[m]? = some e->0≤e.beg∧e.beg<L.length∧(e.fin=-1∨(e.beg<e.fin∧e.fin<L.length))
 act:∀ (i k:Nat),nt L i=2*k+1->∃ (e:His.Ev) (c:Cl),E[id i]? = some e∧e.thr=(i:Int)∧e.fin=-1∧(cl i)[k]? = some c∧e.op=c.po∧e.a=c.ca∧e.b=c.cb
 two:∀ (m m':Nat) (e e':His.Ev),m'<m->E[m]? = some e->E[m']? = some e'->e.thr=e'.thr->Bg e' e=true
 open_:∀ (m:Nat) (e:His.Ev) (i:Nat),E[m]? = some e->e.thr=(i:Int)->e.fin=-1->(nt L i % 2=1∧m=id i)∨∃ (q:Nat) (a:Int×Int),q<nt L i / 2∧(an i)[q]? = some a∧a.1=4
 nodup:ord.Nodup
 over:∀ (m:Nat),m∈ord->∃ (e:His.Ev),E[m]? = some e∧e.over=true
 all:∀ (m:Nat) (e:His.Ev),E[m]? = some e->e.over=true->m∈ord
 ord_:ord.Pairwise fun m m'=>(E.getD m ev0).fin<(E.getD m' ev0).fin
 acc:AccTo ways t0 (ord.map fun m=>E.getD m ev0) t
theorem G2 {E:List His.Ev}{m:Nat}{e:His.Ev}(h:E[m]? = some e):E.getD m ev0=e:=by rw[List.getD_eq_getElem?_getD,h];rfl
theorem Gc {e:His.Ev}:e.over=true↔e.fin≠-1:=over_iff
section
variable {cl:Nat->List Cl}{an:Nat->List (Int×Int)}{τ:Type}{ways:Ways τ}{t0 t:τ}{L:List Stp}{E:List His.Ev}{id:Nat->Nat}{ord:List Nat}
theorem EvI.skip (h:EvI cl an ways t0 L E id ord t) (x:Stp) (ha:∀ (i k:Nat),nt (L++[x]) i=2*k+1->nt L i=2*k+1) (ho:∀ (i m:Nat),nt L i % 2=1->m=id i->nt (L++[x]) i=nt L i∨∃ (q:Nat) (a:Int×Int),q<nt (L++[x]) i / 2∧(an i)[q]? = some a∧a.1=4):EvI cl an ways t0 (L++[x]) E id ord t:=by
 refine ⟨fun m e he=>?_,fun i k hn=>h.act i k (ha i k hn),h.two,fun m e i he hi hf=>?_,h.nodup,h.over,h.all,h.ord_,h.acc⟩
 ·have:=h.timed m e he
  rw[List.length_append,List.length_singleton]
  refine ⟨this.1,by omega,?_⟩
  rcases this.2.2 with h|h
  ·exact .inl h
  ·exact .inr ⟨h.1,by omega⟩
 ·rcases h.open_ m e i he hi hf with ⟨h1,h2⟩|⟨q,a,h1,h2,h3⟩
  ·rcases ho i m h1 h2 with e|e
   ·exact .inl ⟨by rw[e];exact h1,h2⟩
   ·exact .inr e
  ·exact .inr ⟨q,a,by have:=nt_le L x i;omega,h2,h3⟩
theorem EvI.begin (h:EvI cl an ways t0 L E id ord t) {i k:Nat}{c:Cl}(hn:nt L i=2*k) (hc:(cl i)[k]? = some c) (h4:No4 (an i) k):EvI cl an ways t0 (L++[⟨i,-1,9,k,0⟩]) (E++[⟨i,c.po,c.ca,c.cb,L.length,-1,4,0⟩]) (upd id i E.length) ord t:=by
 have get:∀ (m:Nat) (e:His.Ev),(E++[(⟨i,c.po,c.ca,c.cb,L.length,-1,4,0⟩:His.Ev)])[m]? = some e->E[m]? = some e∨(m=E.length∧e=⟨i,c.po,c.ca,c.cb,L.length,-1,4,0⟩):=fun m e he=>by
  rw[List.getElem?_append] at he
  split at he
  ·exact .inl he
  ·right
   have:m - E.length=0:=by have:=(List.getElem?_eq_some_iff.1 he).1;simp at this;omega
   rw[this] at he
   exact ⟨by omega,by simpa using he.symm⟩
 have lift:∀ (m:Nat) (e:His.Ev),E[m]? = some e->(E++[(⟨i,c.po,c.ca,c.cb,L.length,-1,4,0⟩:His.Ev)])[m]? = some e:=fun m e he=>by rw[List.getElem?_append_left (List.getElem?_eq_some_iff.1 he).1];exact he
 have own:nt (L++[⟨i,-1,9,k,0⟩]) i=2*k+1:=by rw[Dg _ _ _ _ (.inl rfl),hn]
 have oth:∀ j,j≠i->nt (L++[⟨i,-1,9,k,0⟩]) j=nt L j:=fun j hj=>D2 _ hj _ _ _
 have mem:∀ (m:Nat),m∈ord->(E++[(⟨i,c.po,c.ca,c.cb,L.length,-1,4,0⟩:His.Ev)]).getD m ev0=E.getD m ev0:=fun m hm=>by
  obtain ⟨e,he,_⟩:=h.over m hm
  rw[G2 he,G2 (lift m e he)]
 refine ⟨fun m e he=>?_,fun j q hq=>?_,fun m m' e e' hlt he he' ht=>?_,fun m e j he hj hf=>?_,h.nodup,fun m hm=>?_,fun m e he ho=>?_,?_,?_⟩
 ·rw[List.length_append,List.length_singleton]
  rcases get m e he with he|⟨_,rfl⟩
  ·have:=h.timed m e he
   refine ⟨this.1,by omega,?_⟩
   rcases this.2.2 with h|h
   ·exact .inl h
   ·exact .inr ⟨h.1,by omega⟩
  ·exact ⟨by show (0:Int)≤(L.length:Int);omega,by show (L.length:Int)<((L.length+1:Nat):Int);omega,.inl rfl⟩
 ·by_cases e:j=i
  ·subst e
   have:q=k:=by omega
   subst this
   rw[upd_same]
   exact ⟨⟨j,c.po,c.ca,c.cb,L.length,-1,4,0⟩,c,by rw[List.getElem?_append_right (Nat.le_refl _)];simp,rfl,rfl,hc,rfl,rfl,rfl⟩
  ·rw[oth j e] at hq
   obtain ⟨e1,c1,k1,k2⟩:=h.act j q hq
   rw[upd_ne _ _ e]
   exact ⟨e1,c1,lift _ _ k1,k2⟩
 ·rcases get m e he with he|⟨rfl,rfl⟩
  ·rcases get m' e' he' with he'|⟨rfl,_⟩
   ·exact h.two m m' e e' hlt he he' ht
   ·have:=(List.getElem?_eq_some_iff.1 he).1;omega
  ·rcases get m' e' he' with he'|⟨rfl,_⟩
   ·have hfin:e'.fin≠-1:=fun hf=>by
     rcases h.open_ m' e' i he' ht.symm hf with ⟨h1,_⟩|⟨q,a,h1,h2,h3⟩
     ·omega
     ·exact h4 q a (by omega) h2 h3
    have:=(h.timed m' e' he').2.2
    unfold Bg
    rw[Gc.2 hfin,Bool.true_and]
    exact decide_eq_true (by show e'.fin<(L.length:Int);rcases this with h|h;exact absurd h hfin;exact h.2)
   ·omega
 ·rcases get m e he with hE|⟨rfl,rfl⟩
  ·by_cases ej:j=i
   ·subst ej
    rcases h.open_ m e j hE hj hf with ⟨h1,_⟩|⟨q,a,h1,h2,h3⟩
    ·omega
    ·exact .inr ⟨q,a,by omega,h2,h3⟩
   ·rw[oth j ej,upd_ne _ _ ej]
    exact h.open_ m e j hE hj hf
  ·have:(i:Int)=j:=hj
   obtain rfl:j=i:=by omega
   exact .inl ⟨by omega,by rw[upd_same]⟩
 ·obtain ⟨e,he,ho⟩:=h.over m hm
  exact ⟨e,lift m e he,ho⟩
 ·rcases get m e he with he|⟨rfl,rfl⟩
  ·exact h.all m e he ho
  ·exact absurd rfl (Gc.1 ho)
 ·exact h.ord_.imp_of_mem fun ha hb hlt=>by rw[mem _ ha,mem _ hb];exact hlt
 ·have:ord.map (fun m=>(E++[(⟨i,c.po,c.ca,c.cb,L.length,-1,4,0⟩:His.Ev)]).getD m ev0)=ord.map fun m=>E.getD m ev0:=List.map_congr_left mem
  rw[this];exact h.acc
theorem EvI.finish (h:EvI cl an ways t0 L E id ord t) {i k:Nat}{a:Int×Int}{e0:His.Ev}{o:(Int×Int)×τ}(hn:nt L i=2*k+1) (he0:E[id i]? = some e0) (hf0:e0.fin=-1) (ht0:e0.thr=(i:Int)) (ho:o∈ways t ⟨e0.thr,e0.op,e0.a,e0.b,e0.beg,L.length,a.1,a.2⟩) (hoa:o.1=a) :
 EvI cl an ways t0 (L++[⟨i,-1,10,k,a.1⟩]) (E.set (id i) ⟨e0.thr,e0.op,e0.a,e0.b,e0.beg,L.length,a.1,a.2⟩) id (ord++[id i]) o.2:=by
 have hlt0:id i<E.length:=(List.getElem?_eq_some_iff.1 he0).1
 have get:∀ (m:Nat) (e:His.Ev),(E.set (id i) (⟨e0.thr,e0.op,e0.a,e0.b,e0.beg,L.length,a.1,a.2⟩:His.Ev))[m]? = some e->(m≠id i∧E[m]? = some e)∨(m=id i∧e=⟨e0.thr,e0.op,e0.a,e0.b,e0.beg,L.length,a.1,a.2⟩):=fun m e he=>by
  rw[List.getElem?_set] at he
  by_cases em:id i=m
  ·rw[if_pos em,if_pos hlt0] at he
   exact .inr ⟨em.symm,(Option.some.inj he).symm⟩
  ·rw[if_neg em] at he
   exact .inl ⟨fun x=>em x.symm,he⟩
 have put:(E.set (id i) (⟨e0.thr,e0.op,e0.a,e0.b,e0.beg,L.length,a.1,a.2⟩:His.Ev))[id i]? = some ⟨e0.thr,e0.op,e0.a,e0.b,e0.beg,L.length,a.1,a.2⟩:=by rw[List.getElem?_set,if_pos rfl,if_pos hlt0]
 have lift:∀ (m:Nat) (e:His.Ev),m≠id i->E[m]? = some e->(E.set (id i) (⟨e0.thr,e0.op,e0.a,e0.b,e0.beg,L.length,a.1,a.2⟩:His.Ev))[m]? = some e:=fun m e hm he=>by rw[List.getElem?_set,if_neg (fun x=>hm x.symm)];exact he
 have nin:id i ∉ ord:=fun hm=>by
  obtain ⟨e,he,hov⟩:=h.over _ hm
  rw[he0] at he
  cases he
  exact Gc.1 hov hf0
 have mem:∀ (m:Nat),m∈ord->(E.set (id i) (⟨e0.thr,e0.op,e0.a,e0.b,e0.beg,L.length,a.1,a.2⟩:His.Ev)).getD m ev0=E.getD m ev0:=fun m hm=>by
  obtain ⟨e,he,_⟩:=h.over m hm
  rw[G2 he,G2 (lift m e (fun x=>nin (x▸hm)) he)]
 have own:nt (L++[⟨i,-1,10,k,a.1⟩]) i=2*(k+1):=by rw[Dg _ _ _ _ (.inr rfl),hn];omega
 have oth:∀ j,j≠i->nt (L++[⟨i,-1,10,k,a.1⟩]) j=nt L j:=fun j hj=>D2 _ hj _ _ _
 have hb0:=h.timed _ _ he0
 have hov:(⟨e0.thr,e0.op,e0.a,e0.b,e0.beg,L.length,a.1,a.2⟩:His.Ev).over=true:=Gc.2 (by show (L.length:Int)≠-1;omega)
 refine ⟨fun m e he=>?_,fun j q hq=>?_,fun m m' e e' hlt he he' ht=>?_,fun m e j he hj hf=>?_,?_,fun m hm=>?_,fun m e he ho=>?_,?_,?_⟩
 ·rw[List.length_append,List.length_singleton]
  rcases get m e he with ⟨_,he⟩|⟨_,rfl⟩
  ·have:=h.timed m e he
   refine ⟨this.1,by omega,?_⟩
   rcases this.2.2 with h|h
   ·exact .inl h
   ·exact .inr ⟨h.1,by omega⟩
  ·exact ⟨hb0.1,by have:=hb0.2.1;show e0.beg<((L.length+1:Nat):Int);omega,.inr ⟨hb0.2.1,by show (L.length:Int)<((L.length+1:Nat):Int);omega⟩⟩
 ·by_cases e:j=i
  ·subst e;omega
  ·rw[oth j e] at hq
   obtain ⟨e1,c1,k1,k2,k3⟩:=h.act j q hq
   have:id j≠id i:=fun x=>by
    rw[x,he0] at k1
    cases k1
    rw[ht0] at k2
    exact e (by omega)
   exact ⟨e1,c1,lift _ _ this k1,k2,k3⟩
 ·rcases get m e he with ⟨_,he⟩|⟨rfl,rfl⟩
  ·rcases get m' e' he' with ⟨_,he'⟩|⟨rfl,rfl⟩
   ·exact h.two m m' e e' hlt he he' ht
   ·have:=evAhead_over (h.two m _ e e0 hlt he he0 ht)
    exact absurd hf0 (Gc.1 this)
  ·rcases get m' e' he' with ⟨_,he'⟩|⟨rfl,_⟩
   ·exact h.two _ m' e0 e' hlt he0 he' ht
   ·omega
 ·rcases get m e he with ⟨hm,hE⟩|⟨rfl,rfl⟩
  ·by_cases ej:j=i
   ·subst ej
    rcases h.open_ m e j hE hj hf with ⟨_,h1⟩|⟨q,b,h1,h2,h3⟩
    ·exact absurd h1 hm
    ·exact .inr ⟨q,b,by omega,h2,h3⟩
   ·rw[oth j ej]
    exact h.open_ m e j hE hj hf
  ·exact absurd hf (Gc.1 hov)
 ·exact List.nodup_append.2 ⟨h.nodup,by simp,fun x hx y hy=>by rw[List.mem_singleton] at hy;subst hy;exact fun e=>nin (e▸hx)⟩
 ·rw[List.mem_append,List.mem_singleton] at hm
  rcases hm with hm|rfl
  ·obtain ⟨e,he,ho⟩:=h.over m hm
   exact ⟨e,lift m e (fun x=>nin (x▸hm)) he,ho⟩
  ·exact ⟨_,put,hov⟩
 ·rw[List.mem_append,List.mem_singleton]
  rcases get m e he with ⟨_,he⟩|⟨rfl,_⟩
  ·exact .inl (h.all m e he ho)
  ·exact .inr rfl
 ·rw[List.pairwise_append]
  refine ⟨h.ord_.imp_of_mem fun ha hb hlt=>by rw[mem _ ha,mem _ hb];exact hlt,List.pairwise_singleton _ _,fun x hx y hy=>?_⟩
  rw[List.mem_singleton] at hy
  subst hy
  obtain ⟨e,he,ho⟩:=h.over x hx
  rw[mem _ hx,G2 he,G2 put]
  have:=(h.timed x e he).2.2
  rcases this with h|h
  ·exact absurd h (Gc.1 ho)
  ·exact h.2
 ·have e1:ord.map (fun m=>(E.set (id i) (⟨e0.thr,e0.op,e0.a,e0.b,e0.beg,L.length,a.1,a.2⟩:His.Ev)).getD m ev0)=ord.map fun m=>E.getD m ev0:=List.map_congr_left mem
  rw[List.map_append,e1,List.map_singleton,G2 put]
  exact h.acc.snoc ho (by rw[hoa];rfl)
end
theorem run_lin {σ τ:Type}{N:Nat}{cl:Nat->List Cl}{an:Nat->List (Int×Int)}{st:σ->Cl->Int×Int->σ->Prop}{s0 s:σ}{ways:Ways τ}(f:σ->τ) (hw:∀ (s:σ) (c:Cl) (a:Int×Int) (s':σ) (e:His.Ev),st s c a s'->e.op=c.po->e.a=c.ca->e.b=c.cb->e.ans=a->∃ o,o∈ways (f s) e∧o.1=a∧o.2=f s') {L:List Stp}(h:Run9 N cl an st s0 L s) :
 ∃ E id ord,Ev9 cl an L E id∧EvI cl an ways (f s0) L E id ord (f s):=by
 induction h with
 |nil=>exact ⟨[],_,[],.nil,⟨fun m e he=>by simp at he,fun i k hn=>by simp[nt] at hn,fun m m' e e' _ he=>by simp at he,fun m e i he=>by simp at he,List.nodup_nil,fun m hm=>(nomatch hm),fun m e he=>by simp at he,.nil,rfl⟩⟩
 |@other L x s h h9 h10 ih =>
  obtain ⟨E,id,ord,h1,h2⟩:=ih
  exact ⟨E,id,ord,.other h1 h9 h10,h2.skip x (fun i k hn=>by rw[nt_no h9 h10] at hn;exact hn) (fun i m _ _=>.inl (nt_no h9 h10 i))⟩
 |beg h hi hn hc h4 ih =>
  obtain ⟨E,id,ord,h1,h2⟩:=ih
  exact ⟨_,_,ord,.beg h1 hn hc,h2.begin hn hc h4⟩
 |@stuck L i k a s h hi hn ha h4 ih =>
  obtain ⟨E,id,ord,h1,h2⟩:=ih
  refine ⟨E,id,ord,.stuck h1 hn ha h4,h2.skip _ (fun j q hq=>?_) (fun j m _ _=>?_)⟩
  ·by_cases e:j=i
   ·subst e;rw[Dg _ _ _ _ (.inr rfl),hn] at hq;omega
   ·rw[D2 _ e] at hq;exact hq
  ·by_cases e:j=i
   ·subst e;exact .inr ⟨k,a,by rw[Dg _ _ _ _ (.inr rfl),hn];omega,ha,h4⟩
   ·exact .inl (D2 _ e _ _ _)
 |@fin L i k c a s s' h hi hn hc ha h4 hs ih =>
  obtain ⟨E,id,ord,h1,h2⟩:=ih
  obtain ⟨e0,c0,k1,k2,k3,k4,k5,k6,k7⟩:=h2.act i k hn
  obtain rfl:c=c0:=by rw[hc] at k4;exact Option.some.inj k4
  obtain ⟨o,w1,w2,w3⟩:=hw s c a s' ⟨e0.thr,e0.op,e0.a,e0.b,e0.beg,L.length,a.1,a.2⟩ hs k5 k6 k7 rfl
  refine ⟨_,_,ord++[id i],.fin h1 hn ha h4 k1,?_⟩
  rw[←w3]
  exact h2.finish hn k1 k3 k2 w1 w2
theorem EvI.hist {cl:Nat->List Cl}{an:Nat->List (Int×Int)}{τ:Type}{ways:Ways τ}{t0 t:τ}{L:List Stp}{E:List His.Ev}{id:Nat->Nat}{ord:List Nat}(h:EvI cl an ways t0 L E id ord t):Hist E:=fun i hi=>by
 have hg:∀ m,m<E.length->E[m]? = some (E.getD m ev0):=fun m hm=>by rw[List.getD_eq_getElem?_getD,List.getElem?_eq_getElem hm];rfl
 refine ⟨?_,fun k hk ht=>.inr (h.two i k _ _ hk (hg i hi) (hg k (by omega)) ht)⟩
 have:=h.timed i _ (hg i hi)
 exact ⟨this.1,this.2.2.imp (fun x=>x) (·.1)⟩
theorem EvI.lin {cl:Nat->List Cl}{an:Nat->List (Int×Int)}{τ:Type}{ways:Ways τ}{t0 t:τ}{L:List Stp}{E:List His.Ev}{id:Nat->Nat}{ord:List Nat}(h:EvI cl an ways t0 L E id ord t):Lin ways t0 E:=by
 have hg:∀ m,m<E.length->E[m]? = some (E.getD m ev0):=fun m hm=>by rw[List.getD_eq_getElem?_getD,List.getElem?_eq_getElem hm];rfl
 refine ⟨ord,h.nodup,fun m hm=>?_,fun m hm ho=>h.all m _ (hg m hm) ho,h.ord_.imp_of_mem fun ha hb hlt=>?_,h.acc.acc⟩
 ·obtain ⟨e,he,_⟩:=h.over m hm
  exact (List.getElem?_eq_some_iff.1 he).1
 ·obtain ⟨e,he,ho⟩:=h.over _ ha
  rw[G2 he] at hlt ⊢
  unfold Bg
  rw[Bool.and_eq_false_iff]
  right
  refine decide_eq_false ?_
  have:=(h.timed _ e he).2.2
  rcases this with h|h
  ·exact absurd h (Gc.1 ho)
  ·omega
end Go.Proofs.YtaofjdoielmobaaDoor.Gen
namespace Go.Proofs.YtaofjdoielmobaaDoor.R3
open Go.RowKit Go.Proofs.YtaofjdoielmobaaDoor.His
abbrev I (n:Int):Value:=.int .i64 n
abbrev evC (e:Ev):Array Value:=#[I e.thr,I e.op,I e.a,I e.b,I e.beg,I e.fin,I e.code,I e.val]
abbrev evV (e:Ev):Value:=.agg (evC e)
theorem E9 (w:World) (cs:Array Value) (t:TypeId) (o:Nat) (l:List Value) (h:(cs.toList.drop o).take l.length=l) {b:Nat}(hb:b=w.heap.size):(w.alloc (.cells cs t)).rangeAt b o l:=by
 subst hb
 intro j v hj
 simp only[World.cell?,heap_alloc_new]
 have hl:j<l.length:=(List.getElem?_eq_some_iff.1 hj).1
 rw[←h,List.getElem?_take,if_pos hl,List.getElem?_drop] at hj
 simpa using hj
def encI (s:Int):List Value:=[I s]
end Go.Proofs.YtaofjdoielmobaaDoor.R3
namespace Go.Proofs.YtaofjdoielmobaaDoor.R3
open Go.RowKit Go.Proofs.YtaofjdoielmobaaDoor.His
def Evs (w:World) (v:Value) (l:List Ev):Prop :=
 ∃ p cap,v=.slice p l.length cap∧l.length≤cap∧cap≤maxLen∧∀ i,i<l.length->∃ blk off,p=some ⟨blk,off,none⟩∧w.rangeAt blk (off+i*8) (evC (l.getD i ev0)).toList
theorem Bd {w w':World}{n b o:Nat}{cs:List Value}(hb:Below n w w') (h:w.rangeAt b o cs) (hn:b<n):w'.rangeAt b o cs:=fun j v hj=>by
 rw[hb.cell (p:=⟨b,o+j,none⟩) hn];exact h j v hj
theorem range_lt {w:World}{b o:Nat}{c:Value}{cs:List Value}(h:w.rangeAt b o (c :: cs)):b<w.heap.size :=
 World.block_lt_of_cell? _ _ (h 0 c rfl)
theorem Evs.later {w w':World}{v:Value}{l:List Ev}(hb:Below w.heap.size w w') (h:Evs w v l):Evs w' v l:=by
 obtain ⟨p,cap,rfl,h1,h2,h3⟩:=h
 refine ⟨p,cap,rfl,h1,h2,fun i hi=>?_⟩
 obtain ⟨blk,off,e,hr⟩:=h3 i hi
 exact ⟨blk,off,e,Bd hb hr (range_lt hr)⟩
theorem size33:(Tryd.prog.info? 93).map (·.size)=some 8:=by kernel_rfl
theorem wp_load33 {ops:Array Oper}{rest:List Oper}{op:Oper}{a:Act}{w:World}{Q:Exit->Act->World->Prop}(x:Operand) (ho:op.op=.load 93 x) (hgd:op.guard=none)
 (b o:Nat) (hx:a.eval x=.pointer (some ⟨b,o,none⟩)) (e:Ev) (hc:w.rangeAt b o (evC e).toList)
 (h:wpList Tryd.prog ops Q rest (a.put op.dst (evV e)) w):wpList Tryd.prog ops Q (op :: rest) a w :=
 wpList_load_mid (P:=Tryd.prog) hgd 93 x ho b o hx _ _ hc Tryd.underlying93 rfl size33 h
theorem box8 {w:World}{b:Nat}{x:Ev}(h:w.rangeAt b 0 (evC x).toList):w.cell? ⟨b,0,none⟩=some (I x.thr)∧w.cell? ⟨b,1,none⟩=some (I x.op)∧w.cell? ⟨b,2,none⟩=some (I x.a)∧w.cell? ⟨b,3,none⟩=some (I x.b) ∧
 w.cell? ⟨b,4,none⟩=some (I x.beg)∧w.cell? ⟨b,5,none⟩=some (I x.fin)∧w.cell? ⟨b,6,none⟩=some (I x.code)∧w.cell? ⟨b,7,none⟩=some (I x.val):=by
 refine ⟨?_,?_,?_,?_,?_,?_,?_,?_⟩
 ·simpa using h 0 _ rfl
 ·simpa using h 1 _ rfl
 ·simpa using h 2 _ rfl
 ·simpa using h 3 _ rfl
 ·simpa using h 4 _ rfl
 ·simpa using h 5 _ rfl
 ·simpa using h 6 _ rfl
 ·simpa using h 7 _ rfl
def RetB (e:Ending) (p:Prop):Prop:=∃ b,e=.returned (.bool b)∧(b=true↔p)
theorem retB_yes {e:Ending}{p:Prop}(he:e=.returned (.bool true)) (h:p):RetB e p:=⟨true,he,by simp[h]⟩
theorem Dk {e:Ending}{p:Prop}(he:e=.returned (.bool false)) (h:¬ p):RetB e p:=⟨false,he,by simp[h]⟩
def Ee (ob st:Int):Prop:=ob=1∨ob=3∨(ob=2∧st=0)∨(ob=4∧0≤st)∨(ob=5∧1≤st∧st≤1000)
theorem A0 {a b c:World}(h:Below a.heap.size a b) (k:Below b.heap.size b c):Below a.heap.size a c:=h.trans (k.mono h.size)
theorem Ad {a b:World}(h:Below a.heap.size a b) (o:Obj):Below a.heap.size a (b.alloc o):=h.alloc h.size o
theorem hist_not {l:List Ev}{k:Nat}(hk:k<l.length) {x:Ev}(hx:l.getD k ev0=x) (h:¬ Timed x):¬ Hist l:=fun hh=>h (hx▸(hh k hk).1)
theorem hist_not2 {l:List Ev}{k j:Nat}(hk:k<l.length) (hj:j<k) {x y:Ev}(hx:l.getD k ev0=x) (hy:l.getD j ev0=y) (ht:x.thr=y.thr) (h1:Bg x y=false) (h2:Bg y x=false):¬ Hist l:=fun hh=>by
 have:=(hh k hk).2 j hj
 rw[hx,hy] at this
 rcases this ht with h|h
 ·rw[h1] at h;cases h
 ·rw[h2] at h;cases h
theorem C8 {p:Nat->Prop}{k:Nat}(h:∀ i,i<k->p i) (hk:p k):∀ i,i<k+1->p i:=fun i hi=>by
 by_cases e:i=k
 ·subst e;exact hk
 ·exact h i (by omega)
theorem bcell {W w1:World}(hb:Below W.heap.size W w1):(∀ b o,b<W.heap.size->w1.cell? ⟨b,o,none⟩=W.cell? ⟨b,o,none⟩)∧(∀ b o,b<W.heap.size->w1.frozen? ⟨b,o,none⟩=W.frozen? ⟨b,o,none⟩) :=
 ⟨fun b o h=>hb.cell (p:=⟨b,o,none⟩) h,fun b o h=>hb.frozen (p:=⟨b,o,none⟩) h⟩
end Go.Proofs.YtaofjdoielmobaaDoor.R3
namespace Go.Proofs.YtaofjdoielmobaaDoor.R3
open Go.RowKit Go.Proofs.YtaofjdoielmobaaDoor.His Go.Deep
theorem of_nat64 {n:Nat}(h:n<2 ^ 64):(BitVec.ofInt 64 (n:Int)).toNat=n:=by
 rw[BitVec.ofInt_natCast,BitVec.toNat_ofNat,Nat.mod_eq_of_lt h]
theorem Fx {w w':World}{n b:Nat}{t:TypeId}{m:Nat}{f:Nat->Value}(hb:Below n w w') (h:w.rowIs b t m f) (hn:b<n):w'.rowIs b t m f:=h.of_block (hb.block b hn)
end Go.Proofs.YtaofjdoielmobaaDoor.R3
namespace Go.Proofs.YtaofjdoielmobaaDoor.R3
open Go.RowKit Go.Proofs.YtaofjdoielmobaaDoor.His Go.Deep Go.Maps
def Frm (bm:Nat) (w w':World):Prop:=w.grownBy w' (some bm)∧∃ es c,w.heap[bm]? = some (.map es c)
theorem Frm.ne {bm:Nat}{w w':World}(h:Frm bm w w') {a:Addr}{v:Value}(hc:w.cell? a=some v):a.block≠bm:=fun e=>by
 obtain ⟨_,es,c,hm⟩:=h
 unfold World.cell? at hc
 rw[e,hm] at hc
 simp at hc
theorem Frm.cell {bm:Nat}{w w':World}(h:Frm bm w w') {a:Addr}{v:Value}(hc:w.cell? a=some v):w'.cell? a=some v:=by
 have hlt:=World.block_lt_of_cell? _ _ hc
 rw[World.cell?_of_block (w:=w) (h.1.block a.block hlt (fun e=>h.ne hc (Option.some.inj e)))]
 exact hc
theorem Frm.range {bm:Nat}{w w':World}(h:Frm bm w w') {b o:Nat}{cs:List Value}(hc:w.rangeAt b o cs):w'.rangeAt b o cs:=fun j v hj=>h.cell (hc j v hj)
theorem Frm.row {bm:Nat}{w w':World}(h:Frm bm w w') {b:Nat}{t:TypeId}{n:Nat}{f:Nat->Value}(hr:w.rowIs b t n f):w'.rowIs b t n f:=by
 refine hr.of_block (h.1.block b hr.lt fun e=>?_)
 obtain ⟨c,hc,_⟩:=hr
 obtain ⟨_,es,k,hm⟩:=h
 have:=Option.some.inj e
 subst this
 rw[hc] at hm;cases hm
theorem Frm.evs {bm:Nat}{w w':World}(h:Frm bm w w') {v:Value}{l:List Ev}(hE:Evs w v l):Evs w' v l:=by
 obtain ⟨p,cap,rfl,h1,h2,h3⟩:=hE
 refine ⟨p,cap,rfl,h1,h2,fun i hi=>?_⟩
 obtain ⟨blk,off,e,hr⟩:=h3 i hi
 exact ⟨blk,off,e,h.range hr⟩
theorem Frm.lt {bm:Nat}{w w':World}(h:Frm bm w w'):bm<w.heap.size:=by
 obtain ⟨_,es,c,hm⟩:=h
 exact (Array.getElem?_eq_some_iff.1 hm).1
theorem Frm.trans {bm:Nat}{a b c:World}(h:Frm bm a b) (k:Frm bm b c):Frm bm a c :=
 ⟨⟨k.1.os.trans h.1.os,k.1.tape.trans h.1.tape,k.1.output.trans h.1.output,Nat.le_trans h.1.size k.1.size,fun i hi hn=>(k.1.block i (Nat.lt_of_lt_of_le hi h.1.size) hn).trans (h.1.block i hi hn)⟩,h.2⟩
theorem Frm.below {bm:Nat}{a b c:World}(h:Frm bm a b) (k:Below b.heap.size b c):Frm bm a c :=
 ⟨⟨k.os.trans h.1.os,k.tape.trans h.1.tape,k.output.trans h.1.output,Nat.le_trans h.1.size k.size,fun i hi hn=>(k.block i (Nat.lt_of_lt_of_le hi h.1.size)).trans (h.1.block i hi hn)⟩,h.2⟩
theorem Frm.alloc {bm:Nat}{a b:World}(h:Frm bm a b) (o:Obj):Frm bm a (b.alloc o):=h.below (Ad (Below.refl _ _) o)
theorem Frm.drew {bm:Nat}{a b:World}(h:Frm bm a b):Frm bm a b.drew:=⟨⟨h.1.os,h.1.tape,h.1.output,h.1.size,h.1.block⟩,h.2⟩
theorem below_drewN {B:Nat}{a w:World}(h:Below B a w) (n:Nat):Below B a (w.drewN n):=h.trans ⟨rfl,rfl,rfl,Nat.le_refl _,fun _ _=>rfl⟩
theorem Frm.drewN {bm:Nat}{a b:World}(h:Frm bm a b) (n:Nat):Frm bm a (b.drewN n):=h.below (below_drewN (Below.refl _ _) n)
theorem Frm.refl {bm:Nat}{w:World}{es:Array MapEntry}{c:Nat}(h:w.heap[bm]? = some (.map es c)):Frm bm w w :=
 ⟨⟨rfl,rfl,rfl,Nat.le_refl _,fun _ _ _=>rfl⟩,es,c,h⟩
def Vain (K:TypeId) (Q:Value->Prop) (w:World) (bm n:Nat):Prop :=
 ∃ D:DataW Unit,w.ownsMap Tryd.prog K unitElem bm n D∧∀ key kl,keyOf Tryd.prog K key=some kl->Maps.has D kl=true->Q key
theorem Vain.frm {K:TypeId}{Q:Value->Prop}{w:World}{bm n:Nat}(h:Vain K Q w bm n):Frm bm w w:=by
 obtain ⟨D,⟨es,c,hb,_⟩,_⟩:=h
 exact Frm.refl hb
theorem Vain.below {K:TypeId}{Q:Value->Prop}{w w':World}{bm n:Nat}(h:Vain K Q w bm n) (k:Below w.heap.size w w'):Vain K Q w' bm n:=by
 have hf:=h.frm
 obtain ⟨D,⟨es,c,hb,r⟩,hQ⟩:=h
 exact ⟨D,⟨es,c,(k.block bm hf.lt).trans hb,r⟩,hQ⟩
theorem Vain.alloc {K:TypeId}{Q:Value->Prop}{w:World}{bm n:Nat}(h:Vain K Q w bm n) (o:Obj):Vain K Q (w.alloc o) bm n:=h.below (Ad (Below.refl _ _) o)
theorem Vain.drew {K:TypeId}{Q:Value->Prop}{w:World}{bm n:Nat}(h:Vain K Q w bm n):Vain K Q w.drew bm n:=h
theorem Vain.drewN {K:TypeId}{Q:Value->Prop}{w:World}{bm n:Nat}(h:Vain K Q w bm n) (q:Nat):Vain K Q (w.drewN q) bm n:=h.below (below_drewN (Below.refl _ _) q)
theorem Vain.mono {K:TypeId}{Q:Value->Prop}{w:World}{bm n m:Nat}(h:Vain K Q w bm n) (hm:n≤m):Vain K Q w bm m:=by
 obtain ⟨D,hD,hQ⟩:=h
 exact ⟨D,hD.mono hm,hQ⟩
end Go.Proofs.YtaofjdoielmobaaDoor.R3
namespace Go.Proofs.YtaofjdoielmobaaDoor.R3
open Go.RowKit Go.Proofs.YtaofjdoielmobaaDoor.His Go.Deep Go.Maps
end Go.Proofs.YtaofjdoielmobaaDoor.R3
namespace Go.Proofs.YtaofjdoielmobaaDoor.R3
open Go.RowKit Go.Proofs.YtaofjdoielmobaaDoor.His Go.Deep Go.Maps
end Go.Proofs.YtaofjdoielmobaaDoor.R3
namespace Go.Proofs.YtaofjdoielmobaaDoor.R3
open Go.RowKit Go.Proofs.YtaofjdoielmobaaDoor.His Go.Deep Go.Maps
def SL {α:Type}(n:Nat) (enc:α->List Value) (w:World) (v:Value) (l:List α):Prop :=
 ∃ p cap,v=.slice p l.length cap∧l.length≤cap∧cap≤maxLen∧∀ i a,l[i]? = some a->∃ blk off,p=some ⟨blk,off,none⟩∧blk<w.heap.size∧w.rangeAt blk (off+i*n) (enc a)
def SS {α:Type}(n:Nat) (enc:α->List Value) (w:World) (v:Value) (ll:List (List α)):Prop :=
 ∃ p cap,v=.slice p ll.length cap∧ll.length≤cap∧cap≤maxLen∧∀ i l,ll[i]? = some l->∃ blk off vi,p=some ⟨blk,off,none⟩∧w.cell? ⟨blk,off+i,none⟩=some vi∧SL n enc w vi l
theorem SL.later {α:Type}{n:Nat}{enc:α->List Value}{w w':World}{v:Value}{l:List α}(hb:Below w.heap.size w w') (h:SL n enc w v l):SL n enc w' v l:=by
 obtain ⟨p,cap,rfl,h1,h2,h3⟩:=h
 refine ⟨p,cap,rfl,h1,h2,fun i a hi=>?_⟩
 obtain ⟨blk,off,e,hlt,hr⟩:=h3 i a hi
 exact ⟨blk,off,e,Nat.lt_of_lt_of_le hlt hb.size,Bd hb hr hlt⟩
theorem SS.later {α:Type}{n:Nat}{enc:α->List Value}{w w':World}{v:Value}{ll:List (List α)}(hb:Below w.heap.size w w') (h:SS n enc w v ll):SS n enc w' v ll:=by
 obtain ⟨p,cap,rfl,h1,h2,h3⟩:=h
 refine ⟨p,cap,rfl,h1,h2,fun i l hi=>?_⟩
 obtain ⟨blk,off,vi,e,hc,hs⟩:=h3 i l hi
 exact ⟨blk,off,vi,e,by rw[hb.cell (p:=⟨blk,off+i,none⟩) (World.block_lt_of_cell? _ _ hc)];exact hc,hs.later hb⟩
structure Call where
 op:Int
 a:Int
 b:Int
 c:Int
structure Step where
 thr:Int
 cel:Int
 op:Int
 old:Int
 new:Int
def callL (c:Call):List Value:=[I c.op,I c.a,I c.b,I c.c]
def ansL (a:Int×Int):List Value:=[I a.1,I a.2]
def Gu (s:Step):List Value:=[I s.thr,I s.cel,I s.op,I s.old,I s.new]
abbrev stepV (s:Step):Value:=.agg #[I s.thr,I s.cel,I s.op,I s.old,I s.new]
def Alike (sc:List (List Call)) (an:List (List (Int×Int))):Prop:=sc.length=an.length∧∀ i,i<sc.length->(sc.getD i []).length=(an.getD i []).length
theorem getD_some {α:Type}{l:List α}{i:Nat}(h:i<l.length) (d:α):l[i]? = some (l.getD i d):=by
 rw[List.getD_eq_getElem?_getD,List.getElem?_eq_getElem h];rfl
def begunEv (t k:Int) (c:Call):Ev:=⟨t,c.op,c.a,c.b,k,-1,4,0⟩
end Go.Proofs.YtaofjdoielmobaaDoor.R3
namespace Go.Proofs.YtaofjdoielmobaaDoor.R3
open Go.RowKit Go.Proofs.YtaofjdoielmobaaDoor.His Go.Deep Go.Maps
structure St where
 evs:List Ev
 tab:Nat->Nat×Nat×Nat
def upd {α:Type}(tab:Nat->α) (t:Nat) (x:α):Nat->α:=fun i=>if i=t then x else tab i
def Fg:Call:=⟨0,0,0,0⟩
def st0:St:=⟨[],fun _=>(0,0,0)⟩
def beginOk (an:List (List (Int×Int))) (st:St) (t:Nat) (s:Step):Prop :=
 (st.tab t).1=(st.tab t).2.1∧(st.tab t).1<(an.getD t []).length∧s.old=(st.tab t).1∧s.new=0
def endOk (an:List (List (Int×Int))) (st:St) (t:Nat) (s:Step):Prop :=
 (st.tab t).2.1<(st.tab t).1∧s.old=(st.tab t).2.1∧s.new=((an.getD t []).getD (st.tab t).2.1 (0,0)).1
def Cs (sc:List (List Call)) (st:St) (t k:Nat):St :=
 ⟨st.evs++[begunEv t k ((sc.getD t []).getD (st.tab t).1 Fg)],upd st.tab t ((st.tab t).1+1,(st.tab t).2.1,st.evs.length)⟩
def ended (k:Nat) (a:Int×Int) (x:Ev):Ev:=⟨x.thr,x.op,x.a,x.b,x.beg,k,a.1,a.2⟩
def endSt (an:List (List (Int×Int))) (st:St) (t k:Nat):St :=
 ⟨if ((an.getD t []).getD (st.tab t).2.1 (0,0)).1=4 then st.evs else st.evs.set (st.tab t).2.2 (ended k ((an.getD t []).getD (st.tab t).2.1 (0,0)) (st.evs.getD (st.tab t).2.2 ev0)),
  upd st.tab t ((st.tab t).1,(st.tab t).2.1+1,(st.tab t).2.2)⟩
def Ofs (sc:List (List Call)) (an:List (List (Int×Int))):Nat->List Step->St->Option St->Prop
 |_,[],st,r=>r=some st
 |k,s :: l,st,r =>
  (s.op≠9∧s.op≠10∧Ofs sc an (k+1) l st r) ∨
  ((s.op=9∨s.op=10)∧(s.thr<0∨(sc.length:Int)≤s.thr)∧r=none) ∨
  (∃ t:Nat,s.thr=t∧t<sc.length∧s.op=9∧beginOk an st t s∧Ofs sc an (k+1) l (Cs sc st t k) r) ∨
  (∃ t:Nat,s.thr=t∧t<sc.length∧s.op=10∧endOk an st t s∧Ofs sc an (k+1) l (endSt an st t k) r) ∨
  (∃ t:Nat,s.thr=t∧t<sc.length∧s.op=9∧¬ beginOk an st t s∧r=none) ∨
  (∃ t:Nat,s.thr=t∧t<sc.length∧s.op=10∧¬ endOk an st t s∧r=none)
def D4 (tab:Nat->Nat×Nat×Nat) (j:Nat):Value :=
 if j % 3=0 then I (tab (j / 3)).1 else if j % 3=1 then I (tab (j / 3)).2.1 else I (tab (j / 3)).2.2
def evL (e:Ev):List Value:=(evC e).toList
structure OfInv (w0:World) (bt n:Nat) (an:List (List (Int×Int))) (lv:Value) (st:St) (u:World):Prop where
 own:u.ownsRow (bt+1) 93 8 lv st.evs.length (st.evs.flatMap evL)
 row:u.rowIs bt 22 (n*3) (D4 st.tab)
 below:Below w0.heap.size w0 u
 ok:∀ t,t<n->(st.tab t).2.1≤(st.tab t).1∧(st.tab t).1≤(an.getD t []).length∧((st.tab t).2.1<(st.tab t).1->(st.tab t).2.2<st.evs.length)
theorem Dm {w w':World}{base:Nat}{e:TypeId}{size:Nat}{v:Value}{n:Nat}{xs:List Value}(hb:Below w.heap.size w w') (h:w.ownsRow base e size v n xs):w'.ownsRow base e size v n xs:=by
 refine ⟨h.1,?_⟩
 rcases h.2 with h|⟨g,cap,cur,hv,hg,hh,r⟩
 ·exact .inl h
 ·exact .inr ⟨g,cap,cur,hv,hg,(hb.block g (Array.getElem?_eq_some_iff.1 hh).1).trans hh,r⟩
theorem OfInv.later {w0:World}{bt n:Nat}{an:List (List (Int×Int))}{lv:Value}{st:St}{u u':World}(h:OfInv w0 bt n an lv st u) (hb:Below u.heap.size u u'):OfInv w0 bt n an lv st u' :=
 ⟨Dm hb h.own,Fx hb h.row h.row.lt,h.below.trans (hb.mono h.below.size),h.ok⟩
theorem tabCell1 (tab:Nat->Nat×Nat×Nat) (t:Nat):D4 tab (t*3+1)=I (tab t).2.1:=by
 have h1:(t*3+1) % 3=1:=by omega
 have h2:(t*3+1) / 3=t:=by omega
 simp[D4,h1,h2]
theorem size45:(Tryd.prog.info? 58).map (·.size)=some 5:=by kernel_rfl
theorem Fv {ops:Array Oper}{rest:List Oper}{op:Oper}{a:Act}{w:World}{Q:Exit->Act->World->Prop}(x:Operand) (ho:op.op=.load 58 x) (hgd:op.guard=none)
 (b o:Nat) (hx:a.eval x=.pointer (some ⟨b,o,none⟩)) (s:Step) (hc:w.rangeAt b o (Gu s))
 (h:wpList Tryd.prog ops Q rest (a.put op.dst (stepV s)) w):wpList Tryd.prog ops Q (op :: rest) a w :=
 wpList_load_mid (P:=Tryd.prog) hgd 58 x ho b o hx _ _ hc Tryd.underlying58 rfl size45 h
def RetOf (e:Ending) (base:Nat) (w':World) (r:Option St):Prop :=
 (r=none∧e=.returned (.tuple #[.slice none 0 0,I 30]))∨∃ st v,r=some st∧e=.returned (.tuple #[v,I 0])∧w'.ownsRow base 93 8 v st.evs.length (st.evs.flatMap evL)
theorem Bb {u u':World}(hb:Below u.heap.size u u') {a:Addr}{v:Value}(h:u.cell? a=some v):u'.cell? a=some v:=by
 rw[hb.cell (World.block_lt_of_cell? _ _ h)];exact h
theorem keep7 {u u':World}{a1 a2 a3 a4 a5 a6 a7:Addr}{v1 v2 v3 v4 v5 v6 v7:Value}
 (h:u.cell? a1=some v1∧u.cell? a2=some v2∧u.cell? a3=some v3∧u.cell? a4=some v4∧u.cell? a5=some v5∧u.cell? a6=some v6∧u.cell? a7=some v7) (hb:Below u.heap.size u u') :
 u'.cell? a1=some v1∧u'.cell? a2=some v2∧u'.cell? a3=some v3∧u'.cell? a4=some v4∧u'.cell? a5=some v5∧u'.cell? a6=some v6∧u'.cell? a7=some v7:=by
 obtain ⟨h1,h2,h3,h4,h5,h6,h7⟩:=h
 exact ⟨Bb hb h1,Bb hb h2,Bb hb h3,Bb hb h4,Bb hb h5,Bb hb h6,Bb hb h7⟩
theorem tab_set {w:World}{bt n:Nat}{tab:Nat->Nat×Nat×Nat}(h:w.rowIs bt 22 (n*3) (D4 tab)) (j:Nat) (x:Nat) (tab':Nat->Nat×Nat×Nat)
 (h0:D4 tab' j=I x) (h1:∀ i,i≠j->D4 tab' i=D4 tab i):(w.setCell ⟨bt,j,none⟩ (I x)).rowIs bt 22 (n*3) (D4 tab') :=
 (h.set j (I x)).congr fun i _=>by
   by_cases e:i=j
   ·rw[if_pos e,e,h0]
   ·rw[if_neg e,h1 i e]
theorem tabCell_upd {tab:Nat->Nat×Nat×Nat}{t i:Nat}{x:Nat×Nat×Nat}(h:i / 3≠t):D4 (upd tab t x) i=D4 tab i:=by
 simp[D4,upd,h]
theorem own_block {w:World}{base:Nat}{e:TypeId}{size:Nat}{v:Value}{n:Nat}{xs:List Value}(h:w.ownsRow base e size v n xs):∀ g,v.ownBlock=some g->base≤g∧g<w.heap.size:=by
 intro g hg
 rcases h.2 with ⟨rfl,_⟩|⟨g',cap,cur,rfl,hb,hh,_⟩
 ·cases hg
 ·have:g'=g:=Option.some.inj hg
  subst this
  exact ⟨hb,(Array.getElem?_eq_some_iff.1 hh).1⟩
theorem own_set {w:World}{base:Nat}{e:TypeId}{size n cap g:Nat}{xs:List Value}(h:w.ownsRow base e size (.slice (some ⟨g,0,none⟩) n cap) n xs) (j:Nat) (hj:j<n*size) (x:Value) :
 (w.setCell ⟨g,j,none⟩ x).ownsRow base e size (.slice (some ⟨g,0,none⟩) n cap) n (xs.set j x):=by
 refine ⟨by rw[List.length_set];exact h.1,.inr ?_⟩
 rcases h.2 with ⟨h0,_⟩|⟨g',cap',cur,hv,hb,hh,h1,h2,h3,h4⟩
 ·cases h0
 ·cases hv
  have hlt:n*size≤cap*size:=Nat.mul_le_mul_right _ h1
  refine ⟨g,cap,cur.setIfInBounds j x,rfl,hb,?_,h1,h2,by simpa using h3,?_⟩
  ·simp[World.setCell,Array.getElem?_modify,hh]
  ·rw[←h4]
   apply List.ext_getElem?
   intro i
   rw[List.getElem?_set]
   by_cases hi:i<n*size
   ·rw[List.getElem?_take_of_lt hi]
    simp only[Array.toList_setIfInBounds,List.getElem?_set,List.length_take,Array.length_toList]
    by_cases e:j=i
    ·subst e
     have h5:j<cur.size:=by omega
     have h6:j<min (n*size) cur.size:=by omega
     simp[h5,h6]
    ·simp[e,List.getElem?_take_of_lt hi]
   ·have hne:j≠i:=by omega
    have hn1:(List.take (n*size) (cur.setIfInBounds j x).toList).length≤i:=by simp;omega
    have hn2:(List.take (n*size) cur.toList).length≤i:=by simp;omega
    rw[List.getElem?_eq_none hn1,if_neg hne,List.getElem?_eq_none hn2]
def MidE (w wo:World) (n:Nat) (lv:Value) (st:St) (t:Nat) (sold:Int) (W:World):Prop :=
 W.ownsRow (w.heap.size+1) 93 8 lv st.evs.length (st.evs.flatMap evL)∧W.rowIs w.heap.size 22 (n*3) (D4 (upd st.tab t ((st.tab t).1,(st.tab t).2.1+1,(st.tab t).2.2)))∧Below w.heap.size w W ∧
 W.cell? ⟨wo.heap.size,0,none⟩=some (I t)∧W.cell? ⟨wo.heap.size,3,none⟩=some (I sold)∧wo.heap.size<W.heap.size
theorem mid_end {w wo:World}{n:Nat}{an:List (List (Int×Int))}{lv:Value}{st:St}(h:OfInv w w.heap.size n an lv st wo) (t:Nat) (x sold:Int) (c e:Value) (B:Obj) (hx:x=((st.tab t).2.1:Int)+1) (q:Nat) :
 MidE w wo n lv st t sold ((((wo.setCell ⟨w.heap.size,t*3+1,none⟩ (I x)).alloc (.cells #[I t,c,I 10,I sold,e] 58)).alloc B).drewN q):=by
 subst hx
 have r2:(wo.setCell ⟨w.heap.size,t*3+1,none⟩ (I (((st.tab t).2.1:Int)+1))).rowIs w.heap.size 22 (n*3) (D4 (upd st.tab t ((st.tab t).1,(st.tab t).2.1+1,(st.tab t).2.2))):=by
  refine tab_set h.row (t*3+1) ((st.tab t).2.1+1) _ (by rw[tabCell1];simp[upd]) fun i hi=>?_
  by_cases e:i / 3=t
  ·have:i % 3<3:=Nat.mod_lt _ (by omega)
   have:i % 3=0∨i % 3=2:=by omega
   rcases this with h|h<;>simp[D4,h,e,upd]
  ·exact tabCell_upd e
 have hs:(wo.setCell ⟨w.heap.size,t*3+1,none⟩ (I (((st.tab t).2.1:Int)+1))).heap.size=wo.heap.size:=by simp[World.setCell]
 have o2:(wo.setCell ⟨w.heap.size,t*3+1,none⟩ (I (((st.tab t).2.1:Int)+1))).ownsRow (w.heap.size+1) 93 8 lv st.evs.length (st.evs.flatMap evL):=ownsRow_setCell_below h.own (by simp) _
 have b2:Below w.heap.size w (wo.setCell ⟨w.heap.size,t*3+1,none⟩ (I (((st.tab t).2.1:Int)+1))):=h.below.setCell (Nat.le_refl _) _
 generalize wo.setCell ⟨w.heap.size,t*3+1,none⟩ (I (((st.tab t).2.1:Int)+1))=u at hs o2 r2 b2
 have hb:Below u.heap.size u (((u.alloc (.cells #[I t,c,I 10,I sold,e] 58)).alloc B).drewN q):=below_drewN (Ad (Ad (Below.refl _ _) _) _) _
 have rg:(((u.alloc (.cells #[I t,c,I 10,I sold,e] 58)).alloc B).drewN q).rangeAt wo.heap.size 0 [I t,c,I 10,I sold,e]:=by
  refine Bd (below_drewN (Ad (Below.refl _ _) _) _) (E9 _ _ _ _ _ rfl hs.symm) ?_
  simp;omega
 refine ⟨Dm hb o2,Fx hb r2 r2.lt,b2.trans (hb.mono b2.size),?_,?_,?_⟩
 ·simpa using rg 0 _ rfl
 ·simpa using rg 3 _ rfl
 ·have:(((u.alloc (.cells #[I t,c,I 10,I sold,e] 58)).alloc B).drewN q).heap.size=u.heap.size+1+1:=by show ((u.alloc _).alloc _).heap.size=_;simp
  omega
theorem info33:(Tryd.prog.info? 93).map (fun i=>(i.zero,i.size,i.bytes))=some (some (evV ev0),8,64):=by kernel_rfl
theorem news8 (w:World) (e:Ev) (t:TypeId):∀ j u,(evL e)[j]? = some u->(w.alloc (.cells (evC e) t)).cell? ((⟨w.heap.size,0,none⟩:Addr).add j)=some u:=by
 intro j u hj
 rw[Addr.add_mid]
 exact E9 w (evC e) t 0 (evL e) rfl rfl j u hj
theorem one8 (e:Ev):∀ u∈evL e,u.oneCell'=true:=by
 intro u hu
 simp[evL] at hu
 rcases hu with rfl|rfl|rfl|rfl|rfl|rfl|rfl|rfl<;>rfl
end Go.Proofs.YtaofjdoielmobaaDoor.R3
namespace Go.Proofs.YtaofjdoielmobaaDoor.R3
open Go.RowKit Go.Proofs.YtaofjdoielmobaaDoor.His Go.Deep Go.Maps
section
variable {sc:List (List Call)}{an:List (List (Int×Int))}{k:Nat}{s:Step}{l:List Step}{st:St}{r:Option St}
theorem ofs_skip (n9:s.op≠9) (n10:s.op≠10) (h:Ofs sc an k (s :: l) st r):Ofs sc an (k+1) l st r:=by
 rcases h with ⟨_,_,h⟩|⟨h,_⟩|⟨_,_,_,h,_⟩|⟨_,_,_,h,_⟩|⟨_,_,_,h,_⟩|⟨_,_,_,h,_⟩
 ·exact h
 all_goals omega
theorem ofs_out (h9:s.op=9∨s.op=10) (ht:s.thr<0∨(sc.length:Int)≤s.thr) (h:Ofs sc an k (s :: l) st r):r=none:=by
 rcases h with ⟨h1,h2,_⟩|⟨_,_,h⟩|⟨t,h1,h2,_⟩|⟨t,h1,h2,_⟩|⟨t,h1,h2,_⟩|⟨t,h1,h2,_⟩
 ·omega
 ·exact h
 all_goals omega
theorem ofs_begin {t:Nat}(h9:s.op=9) (ht:s.thr=t) (hl:t<sc.length) (ho:beginOk an st t s) (h:Ofs sc an k (s :: l) st r):Ofs sc an (k+1) l (Cs sc st t k) r:=by
 rcases h with ⟨h1,h2,_⟩|⟨_,h,_⟩|⟨t',h1,h2,_,_,h⟩|⟨t',h1,h2,h3,_⟩|⟨t',h1,h2,_,h,_⟩|⟨t',h1,h2,h3,_⟩
 ·omega
 ·omega
 ·have:t'=t:=by omega
  subst this
  exact h
 ·omega
 ·have:t'=t:=by omega
  subst this
  exact absurd ho h
 ·omega
theorem ofs_end {t:Nat}(h9:s.op=10) (ht:s.thr=t) (hl:t<sc.length) (ho:endOk an st t s) (h:Ofs sc an k (s :: l) st r):Ofs sc an (k+1) l (endSt an st t k) r:=by
 rcases h with ⟨h1,h2,_⟩|⟨_,h,_⟩|⟨t',h1,h2,h3,_⟩|⟨t',h1,h2,_,_,h⟩|⟨t',h1,h2,h3,_⟩|⟨t',h1,h2,_,h,_⟩
 ·omega
 ·omega
 ·omega
 ·have:t'=t:=by omega
  subst this
  exact h
 ·omega
 ·have:t'=t:=by omega
  subst this
  exact absurd ho h
theorem Hv {t:Nat}(h9:s.op=9) (ht:s.thr=t) (hl:t<sc.length) (ho:¬ beginOk an st t s) (h:Ofs sc an k (s :: l) st r):r=none:=by
 rcases h with ⟨h1,h2,_⟩|⟨_,h,_⟩|⟨t',h1,h2,_,h,_⟩|⟨t',h1,h2,h3,_⟩|⟨t',h1,h2,_,_,h⟩|⟨t',h1,h2,h3,_⟩
 ·omega
 ·omega
 ·have:t'=t:=by omega
  subst this
  exact absurd h ho
 ·omega
 ·exact h
 ·omega
theorem ofs_noend {t:Nat}(h9:s.op=10) (ht:s.thr=t) (hl:t<sc.length) (ho:¬ endOk an st t s) (h:Ofs sc an k (s :: l) st r):r=none:=by
 rcases h with ⟨h1,h2,_⟩|⟨_,h,_⟩|⟨t',h1,h2,h3,_⟩|⟨t',h1,h2,_,h,_⟩|⟨t',h1,h2,h3,_⟩|⟨t',h1,h2,_,_,h⟩
 ·omega
 ·omega
 ·omega
 ·have:t'=t:=by omega
  subst this
  exact absurd h ho
 ·omega
 ·exact h
end
end Go.Proofs.YtaofjdoielmobaaDoor.R3
