/- Of the proof of LatchLinear. Part 19 of 27. (Joined, by program, and written short, of: GNote, GMetT, LatInv, LatLin, GEvs.) -/
import Derived.Test.YtfjjoohflcchnaaLatchLinear15
import Derived.Test.YtfjjoohflcchnaaLatchLinear17
import Derived.Test.YtfjjoohflcchnaaLatchLinear18
set_option linter.unusedSimpArgs false
set_option linter.unusedVariables false
set_option maxHeartbeats 4000000
set_option maxRecDepth 100000
namespace Go.Proofs.Ytfjjoohflcchnaa.Gen
open Go Go.Lift Go.Conc Go.RowKit
open Go.ConcN (upd upd_same upd_ne)
def nt (L:List Stp) (i:Nat):Nat:=L.countP fun s=>(s.op==9||s.op==10)&&s.th==(i:Int)
theorem nt_one (L:List Stp) (s:Stp) (i:Nat):nt (L++[s]) i=nt L i+if ((s.op==9||s.op==10)&&s.th==(i:Int))=true then 1 else 0:=by
 unfold nt;rw [List.countP_append,List.countP_singleton]
theorem nt_no {L:List Stp} {s:Stp} (h9:s.op≠9) (h10:s.op≠10) (i:Nat):nt (L++[s]) i=nt L i:=by
 rw [nt_one,if_neg (by simp [h9,h10])];rfl
theorem nt_own (L:List Stp) (i k:Nat) (x:Int) {op:Int} (h:op=9∨op=10):nt (L++[⟨i,-1,op,k,x⟩]) i=nt L i+1:=by
 rw [nt_one,if_pos (by rcases h with rfl|rfl<;>simp)]
theorem nt_oth (L:List Stp) {i j:Nat} (hne:j≠i) (k:Nat) (x op:Int):nt (L++[⟨i,-1,op,k,x⟩]) j=nt L j:=by
 rw [nt_one,if_neg (by simp;intro _;omega)];rfl
def No4 (ans:List (Int×Int)) (k:Nat):Prop:=∀ q a,q<k→ans[q]? = some a→a.1≠4
theorem No4.set {ans:List (Int×Int)} {k:Nat} (h:No4 ans k) (a:Int×Int):No4 (ans.set k a) k:=fun q b hq hb=>by
 rw [List.getElem?_set,if_neg (by omega)] at hb;exact h q b hq hb
theorem No4.next {ans:List (Int×Int)} {k:Nat} (h:No4 ans k) {a:Int×Int} (ha:a.1≠4):No4 (ans.set k a) (k+1):=fun q b hq hb=>by
 by_cases e:q=k
 ·subst e
  rw [List.getElem?_set,if_pos rfl] at hb
  split at hb
  ·cases hb;exact ha
  ·cases hb
 ·exact h.set a q b (by omega) hb
inductive Fit9 (N:Nat) (cl:Nat→List Cl) (an:Nat→List (Int×Int)):List Stp→Prop
 |nil:Fit9 N cl an []
 |other {L:List Stp} {s:Stp}:Fit9 N cl an L→s.op≠9→s.op≠10→Fit9 N cl an (L++[s])
 |beg {L:List Stp} {i k:Nat}:Fit9 N cl an L→i<N→nt L i=2*k→k<(cl i).length→No4 (an i) k→Fit9 N cl an (L++[⟨i,-1,9,k,0⟩])
 |fin {L:List Stp} {i k:Nat} {a:Int×Int}:Fit9 N cl an L→i<N→nt L i=2*k+1→k<(cl i).length→(an i)[k]? = some a→Fit9 N cl an (L++[⟨i,-1,10,k,a.1⟩])
theorem Fit9.mono {N:Nat} {cl:Nat→List Cl} {an an':Nat→List (Int×Int)} {L:List Stp} (h:Fit9 N cl an L):(∀ i k,k<nt L i / 2→(an' i)[k]? = (an i)[k]?)→Fit9 N cl an' L:=by
 induction h with
 |nil=>intro _;exact .nil
 |other h h9 h10 ih=>intro hk;exact .other (ih fun i k hi=>hk i k (by rw [nt_no h9 h10];exact hi)) h9 h10
 |@beg L i k h hi hn hl h4 ih =>
  intro hk
  refine .beg (ih fun j q hq=>hk j q ?_) hi hn hl (fun q a hq ha=>h4 q a hq (by rw [←hk i q (by rw [nt_own _ _ _ _ (.inl rfl)];omega)];exact ha))
  by_cases e:j=i
  ·subst e;rw [nt_own _ _ _ _ (.inl rfl)];omega
  ·rw [nt_oth _ e];exact hq
 |@fin L i k a h hi hn hl ha ih =>
  intro hk
  refine .fin (ih fun j q hq=>hk j q ?_) hi hn hl ?_
  ·by_cases e:j=i
   ·subst e;rw [nt_own _ _ _ _ (.inr rfl)];omega
   ·rw [nt_oth _ e];exact hq
  ·rw [hk i k (by rw [nt_own _ _ _ _ (.inr rfl)];omega)];exact ha
def NT (calls:List Cl) (n:Nat) (l:Ph):Prop:=l.ans.length=calls.length∧match l with
 |.turn op _ _ rest ii _=>n=2*ii+1∧ii<calls.length∧rest=calls.drop (ii+1)∧No4 l.ans ii∧op≠9∧op≠10
 |.wait _ _ rest ii _=>n=2*ii+1∧ii<calls.length∧rest=calls.drop (ii+1)∧No4 l.ans ii
 |.done _=>n % 2=0∧n / 2≤calls.length
structure OpOk (mc:Mc):Prop where
 start:∀ c op j q,mc.start c=.turn op j q→op≠9∧op≠10
 turn:∀ q x op j q',(mc.turn q x).2.2=.turn op j q'→op≠9∧op≠10
 woke:∀ q op j q',mc.woke q=.turn op j q'→op≠9∧op≠10
section
variable {mc:Mc} {N:Nat} {cl:Nat→List Cl} {i:Nat}
theorem fw_note (hop:OpOk mc) (hi:i<N) {stk:Bool} {rest:List Cl} {ii:Nat} {sk:Bool} {ans:List (Int×Int)} {X:List Stp} {l:Ph} (h:Fw mc i stk rest ii sk ans X l):∀ (an0:Nat→List (Int×Int)) (L:List Stp),rest=(cl i).drop ii→ii≤(cl i).length→ans.length=(cl i).length→Fit9 N cl (upd an0 i ans) L→(sk=false→nt L i=2*ii∧No4 ans ii)→(sk=true→nt L i % 2=0∧nt L i / 2≤ii) →
 Fit9 N cl (upd an0 i l.ans) (L++X)∧NT (cl i) (nt (L++X) i) l∧∀ k,k≠i→nt (L++X) k=nt L k:=by
 have dr:∀ {c:Cl} {rest:List Cl} {ii:Nat},c :: rest=(cl i).drop ii→ii<(cl i).length∧rest=(cl i).drop (ii+1):=fun {c rest ii} hr=>by
  constructor
  ·have:=congrArg List.length hr;simp at this;omega
  ·have:=congrArg List.tail hr;simpa [List.tail_drop] using this
 have put:∀ {an0:Nat→List (Int×Int)} {ans:List (Int×Int)} {L:List Stp} {ii:Nat} (a:Int×Int),Fit9 N cl (upd an0 i ans) L→nt L i / 2≤ii→Fit9 N cl (upd an0 i (ans.set ii a)) L:=fun {an0 ans L ii} a hF hn=>hF.mono fun j k hk=>by
  by_cases e:j=i
  ·subst e
   rw [upd_same,upd_same,List.getElem?_set,if_neg (by omega)]
  ·rw [upd_ne _ _ e,upd_ne _ _ e]
 have one:∀ {an0:Nat→List (Int×Int)} {ans:List (Int×Int)} {L:List Stp} {ii:Nat} (a:Int×Int),ii<(cl i).length→ans.length=(cl i).length→Fit9 N cl (upd an0 i ans) L→nt L i=2*ii→No4 ans ii→Fit9 N cl (upd an0 i (ans.set ii a)) ((L++[⟨i,-1,9,ii,0⟩])++[⟨i,-1,10,ii,a.1⟩])∧nt ((L++[⟨i,-1,9,ii,0⟩])++[⟨i,-1,10,ii,a.1⟩]) i=2*(ii+1)∧∀ k,k≠i→nt ((L++[⟨i,-1,9,ii,0⟩])++[⟨i,-1,10,ii,a.1⟩]) k=nt L k:=fun {an0 ans L ii} a hlt hlen hF hn h4=>by
  have h1:nt (L++[⟨i,-1,9,ii,0⟩]) i=2*ii+1:=by rw [nt_own _ _ _ _ (.inl rfl),hn]
  refine ⟨.fin (.beg (put a hF (by omega)) hi hn hlt (by rw [upd_same];exact h4.set a)) hi h1 hlt ?_,by rw [nt_own _ _ _ _ (.inr rfl),h1];omega,fun k hk=>by rw [nt_oth _ hk,nt_oth _ hk]⟩
  rw [upd_same,List.getElem?_set,if_pos rfl,if_pos (by omega)]
 induction h with
 |@nil ii sk ans =>
  intro an0 L hr hii hlen hF h0 h1
  have hl:ii=(cl i).length:=by have:=congrArg List.length hr;simp at this;omega
  rw [List.append_nil]
  refine ⟨hF,⟨hlen,?_⟩,fun _ _=>rfl⟩
  cases sk with
  |false=>have:=(h0 rfl).1;exact ⟨by omega,by omega⟩
  |true=>have:=h1 rfl;exact ⟨this.1,by omega⟩
 |@skip c rest ii ans X l h ih =>
  intro an0 L hr hii hlen hF h0 h1
  obtain ⟨hlt,hr'⟩:=dr hr
  obtain ⟨e1,e2⟩:=h1 rfl
  exact ih an0 L hr' (by omega) (by rw [List.length_set];exact hlen) (put _ hF e2) (fun h=>by cases h) (fun _=>⟨e1,by omega⟩)
 |@ans c rest ii ans X l e x hst h ih =>
  intro an0 L hr hii hlen hF h0 h1
  obtain ⟨hlt,hr'⟩:=dr hr
  obtain ⟨g1,g2,g3⟩:=one (e,x) hlt hlen hF (h0 rfl).1 (h0 rfl).2
  obtain ⟨k1,k2,k3⟩:=ih an0 _ hr' (by omega) (by rw [List.length_set];exact hlen) g1 (fun hh=>⟨g2,(h0 rfl).2.next (by simpa using hh)⟩) (fun _=>⟨by omega,by omega⟩)
  simp only [List.append_assoc,List.singleton_append] at k1 k2 k3 g3
  exact ⟨k1,k2,fun k hk=>(k3 k hk).trans (g3 k hk)⟩
 |@turn c rest ii ans op j q hst =>
  intro an0 L hr hii hlen hF h0 h1
  obtain ⟨hlt,hr'⟩:=dr hr
  refine ⟨.beg hF hi (h0 rfl).1 hlt (by rw [upd_same];exact (h0 rfl).2),⟨hlen,?_⟩,fun k hk=>nt_oth _ hk _ _ _⟩
  exact ⟨by rw [nt_own _ _ _ _ (.inl rfl),(h0 rfl).1],hlt,hr',(h0 rfl).2,hop.start _ _ _ _ hst⟩
 |@wait c rest ii ans j q hst hs =>
  intro an0 L hr hii hlen hF h0 h1
  obtain ⟨hlt,hr'⟩:=dr hr
  refine ⟨.beg hF hi (h0 rfl).1 hlt (by rw [upd_same];exact (h0 rfl).2),⟨hlen,?_⟩,fun k hk=>nt_oth _ hk _ _ _⟩
  exact ⟨by rw [nt_own _ _ _ _ (.inl rfl),(h0 rfl).1],hlt,hr',(h0 rfl).2⟩
 |@waits c rest ii ans X l j q hst hs h ih =>
  intro an0 L hr hii hlen hF h0 h1
  obtain ⟨hlt,hr'⟩:=dr hr
  obtain ⟨g1,g2,g3⟩:=one (mc.stuck q) hlt hlen hF (h0 rfl).1 (h0 rfl).2
  obtain ⟨k1,k2,k3⟩:=ih an0 _ hr' (by omega) (by rw [List.length_set];exact hlen) g1 (fun hh=>⟨g2,(h0 rfl).2.next (by simpa using hh)⟩) (fun _=>⟨by omega,by omega⟩)
  simp only [List.append_assoc,List.singleton_append] at k1 k2 k3 g3
  exact ⟨k1,k2,fun k hk=>(k3 k hk).trans (g3 k hk)⟩
theorem end_note (hop:OpOk mc) (hi:i<N) {stk:Bool} {rest:List Cl} {ii:Nat} {ans:List (Int×Int)} {a:Int×Int} {X:List Stp} {l:Ph} (h:Fw mc i stk rest (ii+1) (a.1==4) (ans.set ii a) X l) {an0:Nat→List (Int×Int)} {L:List Stp} (hr:rest=(cl i).drop (ii+1)) (hlt:ii<(cl i).length) (hlen:ans.length=(cl i).length) (hF:Fit9 N cl (upd an0 i ans) L) (hn:nt L i=2*ii+1) (h4:No4 ans ii) :
 Fit9 N cl (upd an0 i l.ans) (L++⟨i,-1,10,ii,a.1⟩ :: X)∧NT (cl i) (nt (L++⟨i,-1,10,ii,a.1⟩ :: X) i) l∧∀ k,k≠i→nt (L++⟨i,-1,10,ii,a.1⟩ :: X) k=nt L k:=by
 have hF1:Fit9 N cl (upd an0 i (ans.set ii a)) (L++[⟨i,-1,10,ii,a.1⟩]):=by
  refine .fin (hF.mono fun j k hk=>?_) hi hn hlt (by rw [upd_same,List.getElem?_set,if_pos rfl,if_pos (by omega)])
  by_cases e:j=i
  ·subst e
   rw [upd_same,upd_same,List.getElem?_set,if_neg (by omega)]
  ·rw [upd_ne _ _ e,upd_ne _ _ e]
 have hn1:nt (L++[⟨i,-1,10,ii,a.1⟩]) i=2*(ii+1):=by rw [nt_own _ _ _ _ (.inr rfl),hn];omega
 obtain ⟨k1,k2,k3⟩:=fw_note hop hi h an0 _ hr (by omega) (by rw [List.length_set];exact hlen) hF1 (fun hh=>⟨hn1,h4.next (by simpa using hh)⟩) (fun _=>⟨by omega,by omega⟩)
 rw [List.append_assoc,List.singleton_append] at k1 k2 k3
 exact ⟨k1,k2,fun k hk=>by rw [k3 k hk,nt_oth _ hk]⟩
end
structure NI (N:Nat) (cl:Nat→List Cl) (v:Vw):Prop where
 fit:Fit9 N cl (fun i=>(v.l i).ans) v.L
 thr:∀ i,i<N→NT (cl i) (nt v.L i) (v.l i)
theorem upd_self {an:Nat→List (Int×Int)} {i:Nat} {x:List (Int×Int)} (h:an i=x):upd an i x=an:=by
 funext k
 by_cases e:k=i
 ·subst e;rw [upd_same];exact h.symm
 ·rw [upd_ne _ _ e]
theorem ans_upd {l:Nat→Ph} {i:Nat} {l':Ph}:(fun k=>(upd l i l' k).ans)=upd (fun k=>(l k).ans) i l'.ans:=by
 funext k
 by_cases e:k=i
 ·subst e;rw [upd_same,upd_same]
 ·rw [upd_ne _ _ e,upd_ne _ _ e]
theorem NI.put {N:Nat} {cl:Nat→List Cl} {v v1:Vw} (h:NI N cl v) {i:Nat} {l':Ph} (e:Els i l' v v1) (hF:Fit9 N cl (upd (fun k=>(v.l k).ans) i l'.ans) v1.L) (ho:NT (cl i) (nt v1.L i) l') (hk:∀ k,k≠i→nt v1.L k=nt v.L k):NI N cl v1:=by
 refine ⟨by rw [e.l,ans_upd];exact hF,fun k hkN=>?_⟩
 rw [e.l]
 by_cases hne:k=i
 ·subst hne;rw [upd_same];exact ho
 ·rw [upd_ne _ _ hne,hk k hne];exact h.thr k hkN
theorem note_mv {mc:Mc} (hop:OpOk mc) {N:Nat} {cl:Nat→List Cl} {v v1:Vw} (h:NI N cl v) (m:Mv mc N v v1):NI N cl v1:=by
 cases m with
 |stuck hs hall hex e =>
  subst e
  refine ⟨.other h.fit (by show ¬ (7:Int)=9;decide) (by show ¬ (7:Int)=10;decide),fun i hi=>?_⟩
  rw [nt_no (by show ¬ (7:Int)=9;decide) (by show ¬ (7:Int)=10;decide)]
  exact h.thr i hi
 |turn i op j q rest ii ans X l' hi hl ho e eK eS eC eL =>
  have hT:=h.thr i hi
  rw [hl] at hT
  obtain ⟨hlen,hn,hlt,hr,h4,h9,h10⟩:=hT
  have hF:Fit9 N cl (upd (fun k=>(v.l k).ans) i ans) (v.L++[⟨i,j,op,(mc.turn q (v.K.getD j 0)).1.1,(mc.turn q (v.K.getD j 0)).1.2⟩]):=.other (by rw [upd_self (by rw [hl];rfl)];exact h.fit) h9 h10
  have hn1:∀ k,nt (v.L++[⟨i,j,op,(mc.turn q (v.K.getD j 0)).1.1,(mc.turn q (v.K.getD j 0)).1.2⟩]) k=nt v.L k:=nt_no h9 h10
  generalize hx:(mc.turn q (v.K.getD j 0)).2.2=nx at ho
  cases ho with
  |@ans ee yy _ _ hf =>
   obtain ⟨k1,k2,k3⟩:=end_note (a:=(ee,yy)) hop hi hf hr hlt hlen hF (by rw [hn1];exact hn) h4
   rw [List.append_assoc,List.singleton_append,←eL] at k1 k2 k3
   exact h.put e k1 k2 (fun k hk=>by rw [k3 k hk,hn1])
  |turn =>
   rw [←eL] at hF hn1
   exact h.put e hF ⟨hlen,by rw [hn1];exact hn,hlt,hr,h4,hop.turn _ _ _ _ _ hx⟩ (fun k _=>hn1 k)
  |wait hs =>
   rw [←eL] at hF hn1
   exact h.put e hF ⟨hlen,by rw [hn1];exact hn,hlt,hr,h4⟩ (fun k _=>hn1 k)
  |waits hs hf =>
   obtain ⟨k1,k2,k3⟩:=end_note hop hi hf hr hlt hlen hF (by rw [hn1];exact hn) h4
   rw [List.append_assoc,List.singleton_append,←eL] at k1 k2 k3
   exact h.put e k1 k2 (fun k hk=>by rw [k3 k hk,hn1])
 |wake i j q rest ii ans X l' hi hl hs hc ho e eK eS eC eL =>
  have hT:=h.thr i hi
  rw [hl] at hT
  obtain ⟨hlen,hn,hlt,hr,h4⟩:=hT
  have h9:(⟨i,j,6,0,0⟩:Stp).op≠9:=by show ¬ (6:Int)=9;decide
  have h10:(⟨i,j,6,0,0⟩:Stp).op≠10:=by show ¬ (6:Int)=10;decide
  have hF:Fit9 N cl (upd (fun k=>(v.l k).ans) i ans) (v.L++[⟨i,j,6,0,0⟩]):=.other (by rw [upd_self (by rw [hl];rfl)];exact h.fit) h9 h10
  have hn1:∀ k,nt (v.L++[⟨i,j,6,0,0⟩]) k=nt v.L k:=nt_no h9 h10
  generalize hx:mc.woke q=nx at ho
  cases ho with
  |@ans ee yy _ _ hf =>
   obtain ⟨k1,k2,k3⟩:=end_note (a:=(ee,yy)) hop hi hf hr hlt hlen hF (by rw [hn1];exact hn) h4
   rw [List.append_assoc,List.singleton_append,←eL] at k1 k2 k3
   exact h.put e k1 k2 (fun k hk=>by rw [k3 k hk,hn1])
  |turn =>
   rw [←eL] at hF hn1
   exact h.put e hF ⟨hlen,by rw [hn1];exact hn,hlt,hr,h4,hop.woke _ _ _ _ hx⟩ (fun k _=>hn1 k)
  |wait hs =>
   rw [←eL] at hF hn1
   exact h.put e hF ⟨hlen,by rw [hn1];exact hn,hlt,hr,h4⟩ (fun k _=>hn1 k)
  |waits hs hf=>cases hs
 |free i j q rest ii ans X l' hi hl hs hf e eK eS eC eL =>
  have hT:=h.thr i hi
  rw [hl] at hT
  obtain ⟨hlen,hn,hlt,hr,h4⟩:=hT
  obtain ⟨k1,k2,k3⟩:=end_note hop hi hf (an0:=fun k=>(v.l k).ans) (L:=v.L) hr hlt hlen (by rw [upd_self (by rw [hl];rfl)];exact h.fit) hn h4
  rw [←eL] at k1 k2 k3
  exact h.put e k1 k2 k3
theorem hi_note {mc:Mc} (hop:OpOk mc) {N:Nat} {cl:Nat→List Cl} {k:Nat} {cs:List (List Cl)} {v v':Vw} (h:Hi mc k cs v v'):cs=(List.range' k cs.length).map cl→k+cs.length=N→Fit9 N cl (fun i=>(v.l i).ans) v.L→(∀ i,i<k→NT (cl i) (nt v.L i) (v.l i))→(∀ i,k≤i→nt v.L i=0)→NI N cl v':=by
 induction h with
 |nil=>intro _ hN hF hT _;simp at hN;subst hN;exact ⟨hF,hT⟩
 |@cons k c cs v v1 v2 X l' hF e1 e2 e3 e4 e5 h ih =>
  intro hc hN hfit hT h0
  rw [List.length_cons,List.range'_succ,List.map_cons] at hc
  obtain ⟨hc1,hc2⟩:=List.cons.inj hc
  subst hc1
  simp only [List.length_cons] at hN
  have hF0:Fit9 N cl (upd (fun i=>(v.l i).ans) k (List.replicate (cl k).length (0,0))) v.L:=hfit.mono fun j q hq=>by
   by_cases e:j=k
   ·subst e;rw [h0 j (Nat.le_refl _)] at hq;omega
   ·rw [upd_ne _ _ e]
  obtain ⟨k1,k2,k3⟩:=fw_note (N:=N) (cl:=cl) hop (by omega) hF _ v.L (by simp) (Nat.zero_le _) (by simp) hF0 (fun _=>⟨h0 k (Nat.le_refl _),fun q a hq _=>absurd hq (by omega)⟩) (fun h=>by cases h)
  rw [←e4] at k1 k2 k3
  refine ih hc2 (by omega) (by rw [e5.l,ans_upd];exact k1) (fun i hi=>?_) (fun i hi=>by rw [k3 i (by omega)];exact h0 i (by omega))
  rw [e5.l]
  by_cases hne:i=k
  ·subst hne;rw [upd_same];exact k2
  ·rw [upd_ne _ _ hne,k3 i hne];exact hT i (by omega)
end Go.Proofs.Ytfjjoohflcchnaa.Gen
namespace Go.Proofs.Ytfjjoohflcchnaa.Gen
open Go Go.Lift Go.Conc Go.RowKit
def metLatch:Met mcLatch where
 L:=1
 hL:=Nat.le_refl _
 lev _:=1
 ws q x:=if q.1=0 then 2 else if q.1=1 then (if x=q.2.headD 0 then 1 else 3) else 1
 cl _:=0
 wq _:=True
 ws_le q x:=by split<;>(try split)<;>(try split)<;>omega
 start c:=by
  unfold mcLatch
  simp only
  split
  ·exact ⟨Nat.le_refl _,Nat.le_refl _,rfl⟩
  ·split
   ·exact ⟨Nat.le_refl _,Nat.le_refl _,rfl⟩
   ·trivial
 turn q x _ _:=by
  unfold mcLatch
  simp only
  by_cases h0:q.1=0
  ·rw [if_pos h0]
   simp only [h0,if_true]
   by_cases hx:x=0
   ·rw [if_pos hx]
    exact ⟨trivial,.inl Nat.one_pos⟩
   ·rw [if_neg hx]
    exact ⟨⟨Nat.le_refl _,Nat.le_refl _,rfl⟩,.inr (by simp [nlev])⟩
  ·rw [if_neg h0]
   by_cases h1:q.1=1
   ·rw [if_pos h1]
    simp only [h0,h1,if_true,if_false,effCas]
    by_cases hx:x=q.2.headD 0
    ·simp only [hx,if_true]
     exact ⟨trivial,.inl Nat.one_pos⟩
    ·simp only [hx,if_false]
     exact ⟨⟨Nat.le_refl _,Nat.le_refl _,rfl⟩,.inr (by simp [nlev])⟩
   ·rw [if_neg h1]
    simp only [h0,h1,if_false]
    by_cases hx:x=0
    ·rw [if_pos hx]
     exact ⟨trivial,.inl Nat.one_pos⟩
    ·rw [if_neg hx]
     exact ⟨⟨Nat.le_refl _,Nat.le_refl _,trivial⟩,.inr (by simp [nlev])⟩
 woke q _ _ _:=by
  unfold mcLatch
  exact ⟨⟨Nat.le_refl _,Nat.le_refl _,rfl⟩,.inr ⟨rfl,fun y=>Nat.le_refl _⟩⟩
end Go.Proofs.Ytfjjoohflcchnaa.Gen
namespace Go.Proofs.Ytfjjoohflcchnaa.Gen
open Go Go.Lift Go.Conc Go.RowKit
open Go.ConcN (upd upd_same upd_ne)
def isD (s:Stp):Bool:=s.op==4&&s.ne==wrap64 (s.ol - 1)
def dn (L:List Stp):Nat:=L.countP isD
theorem dn_app (a b:List Stp):dn (a++b)=dn a+dn b:=List.countP_append ..
def okD:Option Cl→Option (Int×Int)→Bool
 |some c,some a=>c.po==1&&a.1==0
 |_,_=>false
def cnt (calls:List Cl) (ans:List (Int×Int)) (u:Nat):Nat:=(List.range u).countP fun k=>okD calls[k]? ans[k]?
theorem cnt_succ (calls:List Cl) (ans:List (Int×Int)) (u:Nat):cnt calls ans (u+1)=cnt calls ans u+if okD calls[u]? ans[u]? then 1 else 0:=by
 unfold cnt
 rw [List.range_succ,List.countP_append,List.countP_singleton]
theorem cnt_set (calls:List Cl) (ans:List (Int×Int)) (u:Nat) (a:Int×Int):cnt calls (ans.set u a) u=cnt calls ans u:=by
 unfold cnt
 apply List.countP_congr
 intro k hk
 have:k<u:=List.mem_range.1 hk
 rw [List.getElem?_set,if_neg (by omega)]
def upTo (calls:List Cl):Ph→Nat
 |.turn _ _ _ _ ii _=>ii
 |.wait _ _ _ ii _=>ii
 |.done _=>calls.length
def Ac (n0:Int) (d:Nat) (stk:Bool) (c:Cl) (e:Int):Prop:=(c.po=2→e=0→n0≤d)∧(e=4→stk=true)
theorem Ac.mono {n0:Int} {d d':Nat} {stk stk':Bool} {c:Cl} {e:Int} (h:Ac n0 d stk c e) (hd:d≤d') (hs:stk=true→stk'=true):Ac n0 d' stk' c e:=⟨fun h1 h2=>by have:=h.1 h1 h2;omega,fun h1=>hs (h.2 h1)⟩
def AnsTo (calls:List Cl) (ans:List (Int×Int)) (u:Nat) (P:Cl→Int→Prop):Prop:=∀ k c a,k<u→calls[k]? = some c→ans[k]? = some a→P c a.1
theorem AnsTo.set {calls:List Cl} {ans:List (Int×Int)} {u:Nat} {P:Cl→Int→Prop} (h:AnsTo calls ans u P) (a:Int×Int) (hP:∀ c,calls[u]? = some c→P c a.1):AnsTo calls (ans.set u a) (u+1) P:=fun k c b hk hc hb=>by
 by_cases e:k=u
 ·subst e
  rw [List.getElem?_set,if_pos rfl] at hb
  split at hb
  ·cases hb;exact hP c hc
  ·cases hb
 ·rw [List.getElem?_set,if_neg (fun x=>e x.symm)] at hb
  exact h k c b (by omega) hc hb
def Seat (n0:Int) (se:Int) (calls:List Cl):Ph→Prop
 |.turn op j q rest ii ans=>j=0∧rest=calls.drop (ii+1)∧∃ c,calls[ii]? = some c∧((q=(0,[])∧op=1∧c.po=1)∨(∃ a,q=(1,[a])∧op=4∧c.po=1∧0<a∧a≤n0)∨(q=(2,[])∧op=1∧c.po=2))
 |.wait j q rest ii ans=>j=0∧q=(3,[])∧rest=calls.drop (ii+1)∧(∃ c,calls[ii]? = some c∧c.po=2)∧se<n0
 |.done _=>True
structure TI (n0:Int) (d:Nat) (stk:Bool) (se:Int) (calls:List Cl) (l:Ph):Prop where
 len:l.ans.length=calls.length
 seat:Seat n0 se calls l
 ok:AnsTo calls l.ans (upTo calls l) (Ac n0 d stk)
theorem TI.mono {n0:Int} {d d':Nat} {stk stk':Bool} {se:Int} {calls:List Cl} {l:Ph} (h:TI n0 d stk se calls l) (hd:d≤d') (hs:stk=true→stk'=true):TI n0 d' stk' se calls l :=
 ⟨h.len,h.seat,fun k c a hk hc ha=>(h.ok k c a hk hc ha).mono hd hs⟩
def EndOk (N:Nat) (n0:Int) (cl:Nat→List Cl) (d:Nat) (s:Stp):Prop:=s.op=10→∃ (i ii:Nat) (c:Cl),s.th=i∧i<N∧s.ol=ii∧(cl i)[ii]? = some c∧(s.ne=50→n0≤d)∧(c.po=2→s.ne=0→n0≤d)
def Ends (N:Nat) (n0:Int) (cl:Nat→List Cl) (L:List Stp):Prop:=∀ A s B,L=A++s :: B→EndOk N n0 cl (dn A) s
theorem Ends.one {N:Nat} {n0:Int} {cl:Nat→List Cl} {L:List Stp} (h:Ends N n0 cl L) {s:Stp} (hs:EndOk N n0 cl (dn L) s):Ends N n0 cl (L++[s]):=fun A x B e=>by
 rcases List.append_eq_append_iff.1 e with ⟨A',e1,e2⟩|⟨A',e1,e2⟩
 ·cases A' with
  |nil =>
   simp at e1 e2
   obtain ⟨rfl,_⟩:=e2
   rw [e1]
   exact hs
  |cons y ys =>
   simp at e2
 ·cases A' with
  |nil =>
   simp at e1 e2
   obtain ⟨rfl,_⟩:=e2
   rw [←e1]
   exact hs
  |cons y ys =>
   simp at e2
   obtain ⟨rfl,_⟩:=e2
   exact h A x ys e1
theorem Ends.more {N:Nat} {n0:Int} {cl:Nat→List Cl} {d:Nat}:∀ (X:List Stp) {L:List Stp},Ends N n0 cl L→dn L=d→(∀ s∈X,isD s=false∧EndOk N n0 cl d s)→Ends N n0 cl (L++X)∧dn (L++X)=d
 | [],L,h,hd,_=>by rw [List.append_nil];exact ⟨h,hd⟩
 |s :: X,L,h,hd,hX=>by
  have h1:=hX s (List.mem_cons_self ..)
  have h2:Ends N n0 cl (L++[s]):=h.one (by rw [hd];exact h1.2)
  have h3:dn (L++[s])=d:=by rw [dn_app,hd];unfold dn;rw [List.countP_singleton,h1.1];simp
  have:=Ends.more X h2 h3 (fun x hx=>hX x (List.mem_cons_of_mem _ hx))
  rw [List.append_assoc,List.singleton_append] at this
  exact this
theorem fw_latch {N:Nat} {n0:Int} {cl:Nat→List Cl} {i:Nat} (hi:i<N) {stk:Bool} {d:Nat} {rest:List Cl} {ii:Nat} {sk:Bool} {ans:List (Int×Int)} {X:List Stp} {l:Ph} (h:Fw mcLatch i stk rest ii sk ans X l) :
 rest=(cl i).drop ii→ii≤(cl i).length→ans.length=(cl i).length→(sk=true→stk=true)→AnsTo (cl i) ans ii (Ac n0 d stk) →
 (∀ se,TI n0 d stk se (cl i) l)∧cnt (cl i) l.ans (upTo (cl i) l)=cnt (cl i) ans ii∧(∀ s∈X,isD s=false∧EndOk N n0 cl d s)∧(∀ j q r k a,l≠.wait j q r k a)∧(sk=true→∃ a,l=.done a):=by
 induction h with
 |@nil ii sk ans =>
  intro hr hl ha hs hA
  have:ii=(cl i).length:=by
   have:=congrArg List.length hr
   simp at this
   omega
  subst this
  exact ⟨fun se=>⟨ha,trivial,hA⟩,rfl,fun s hs=>(nomatch hs),fun j q r k a h=>(by cases h),fun _=>⟨_,rfl⟩⟩
 |@skip c rest ii ans X l h ih =>
  intro hr hl ha hs hA
  have hlt:ii<(cl i).length:=by
   have:=congrArg List.length hr
   simp at this
   omega
  have hc:(cl i)[ii]? = some c:=by
   have:((cl i).drop ii)[0]? = some c:=by rw [←hr];rfl
   simpa using this
  have hr':rest=(cl i).drop (ii+1):=by
   have:=congrArg List.tail hr
   simpa [List.tail_drop] using this
  obtain ⟨h1,h2,h3,h4,h5⟩:=ih hr' (by omega) (by simpa using ha) (fun _=>hs rfl) (hA.set _ (fun c hc=>⟨fun _ h=>absurd h (by decide),fun _=>hs rfl⟩))
  refine ⟨h1,?_,h3,h4,fun _=>h5 rfl⟩
  rw [h2,cnt_succ,cnt_set]
  have:okD (cl i)[ii]? (ans.set ii (4,0))[ii]? = false:=by
   rw [hc,List.getElem?_set,if_pos rfl,if_pos (by omega)]
   simp [okD]
  rw [this]
  simp
 |@ans c rest ii ans X l e x hst h ih =>
  intro hr hl ha hs hA
  have hlt:ii<(cl i).length:=by
   have:=congrArg List.length hr
   simp at this
   omega
  have hc:(cl i)[ii]? = some c:=by
   have:((cl i).drop ii)[0]? = some c:=by rw [←hr];rfl
   simpa using this
  have hr':rest=(cl i).drop (ii+1):=by
   have:=congrArg List.tail hr
   simpa [List.tail_drop] using this
  have hst':e=1∧x=0∧c.po≠1∧c.po≠2:=by
   unfold mcLatch at hst
   simp only at hst
   split at hst
   ·cases hst
   ·split at hst
    ·cases hst
    ·cases hst
     exact ⟨rfl,rfl,by assumption,by assumption⟩
  obtain ⟨rfl,rfl,p1,p2⟩:=hst'
  obtain ⟨h1,h2,h3,h4,h5⟩:=ih hr' (by omega) (by simpa using ha) (fun h=>by cases h) (hA.set _ (fun c' hc'=>⟨fun _ h=>absurd h (by decide),fun h=>absurd h (by decide)⟩))
  refine ⟨h1,?_,?_,h4,fun h=>by cases h⟩
  ·rw [h2,cnt_succ,cnt_set]
   have:okD (cl i)[ii]? (ans.set ii (1,0))[ii]? = false:=by
    rw [hc,List.getElem?_set,if_pos rfl,if_pos (by omega)]
    simp [okD]
   rw [this]
   simp
  ·intro s hs
   simp only [List.mem_cons] at hs
   rcases hs with rfl|rfl|hs
   ·exact ⟨rfl,fun h=>absurd (show (9:Int)=10 from h) (by decide)⟩
   ·exact ⟨rfl,fun _=>⟨i,ii,c,rfl,hi,rfl,hc,fun h=>absurd (show (1:Int)=50 from h) (by decide),fun h=>absurd h p2⟩⟩
   ·exact h3 s hs
 |@turn c rest ii ans op j q hst =>
  intro hr hl ha hs hA
  have hlt:ii<(cl i).length:=by
   have:=congrArg List.length hr
   simp at this
   omega
  have hc:(cl i)[ii]? = some c:=by
   have:((cl i).drop ii)[0]? = some c:=by rw [←hr];rfl
   simpa using this
  have hr':rest=(cl i).drop (ii+1):=by
   have:=congrArg List.tail hr
   simpa [List.tail_drop] using this
  have hst':j=0∧((q=(0,[])∧op=1∧c.po=1)∨(q=(2,[])∧op=1∧c.po=2)):=by
   unfold mcLatch at hst
   simp only at hst
   split at hst
   ·cases hst;exact ⟨rfl,.inl ⟨rfl,rfl,by assumption⟩⟩
   ·split at hst
    ·cases hst;exact ⟨rfl,.inr ⟨rfl,rfl,by assumption⟩⟩
    ·cases hst
  refine ⟨fun se=>⟨ha,⟨hst'.1,hr',c,hc,hst'.2.imp id .inr⟩,hA⟩,rfl,fun s hs=>?_,fun j q r k a h=>(by cases h),fun h=>by cases h⟩
  simp only [List.mem_singleton] at hs
  subst hs
  exact ⟨rfl,fun h=>absurd (show (9:Int)=10 from h) (by decide)⟩
 |@wait c rest ii ans j q hst _ =>
  exfalso
  unfold mcLatch at hst
  simp only at hst
  split at hst
  ·cases hst
  ·split at hst<;>cases hst
 |@waits c rest ii ans X l j q hst _ _ _ =>
  exfalso
  unfold mcLatch at hst
  simp only at hst
  split at hst
  ·cases hst
  ·split at hst<;>cases hst
def sumF (N:Nat) (cl:Nat→List Cl) (l:Nat→Ph):Nat:=((List.range N).map fun i=>cnt (cl i) (l i).ans (upTo (cl i) (l i))).sum
theorem sumF_upd {N:Nat} {cl:Nat→List Cl} {l:Nat→Ph} {i:Nat} (hi:i<N) (l':Ph) {e:Nat} (h:cnt (cl i) l'.ans (upTo (cl i) l')=cnt (cl i) (l i).ans (upTo (cl i) (l i))+e):sumF N cl (upd l i l')=sumF N cl l+e:=by
 unfold sumF
 have:∀ N,i<N→((List.range N).map fun k=>cnt (cl k) (upd l i l' k).ans (upTo (cl k) (upd l i l' k))).sum=((List.range N).map fun k=>cnt (cl k) (l k).ans (upTo (cl k) (l k))).sum+e:=by
  intro N
  induction N with
  |zero=>intro h;omega
  |succ N ih =>
   intro hN
   rw [List.range_succ,List.map_append,List.map_append,List.sum_append,List.sum_append]
   simp only [List.map_cons,List.map_nil,List.sum_cons,List.sum_nil,Nat.add_zero]
   by_cases hk:i=N
   ·subst hk
    rw [upd_same,h]
    have e1:(List.range i).map (fun k=>cnt (cl k) (upd l i l' k).ans (upTo (cl k) (upd l i l' k)))=(List.range i).map (fun k=>cnt (cl k) (l k).ans (upTo (cl k) (l k))):=List.map_congr_left fun k hk=>by
     have:k<i:=List.mem_range.1 hk
     rw [upd_ne _ _ (by omega)]
    rw [e1]
    omega
   ·rw [ih (by omega),upd_ne _ _ (fun x=>hk x.symm)]
    omega
 exact this N hi
structure LI (N:Nat) (n0:Int) (cl:Nat→List Cl) (v:Vw):Prop where
 num:∃ c:Int,v.K=[c]∧0≤c∧c+dn v.L=n0
 chg:v.chg=[(dn v.L:Int)]
 ends:Ends N n0 cl v.L
 thr:∀ i,i<N→TI n0 (dn v.L) v.stk (v.se i) (cl i) (v.l i)
 sum:sumF N cl v.l=dn v.L
 stk:v.stk=true→(dn v.L:Int)<n0∧∀ i,i<N→∀ op j q r k a,v.l i≠.turn op j q r k a
theorem TI.se {n0:Int} {d:Nat} {stk:Bool} {se se':Int} {calls:List Cl} {l:Ph} (h:TI n0 d stk se calls l) (e:se'=se):TI n0 d stk se' calls l:=by rw [e];exact h
theorem LI.els {N:Nat} {n0:Int} {cl:Nat→List Cl} {v v1:Vw} (h:LI N n0 cl v) {i:Nat} {l':Ph} (e:Els i l' v v1) {d:Nat} (hd:dn v.L≤d) (hs:v.stk=true→v1.stk=true) (hi:TI n0 d v1.stk (v1.se i) (cl i) l'):∀ k,k<N→TI n0 d v1.stk (v1.se k) (cl k) (v1.l k):=fun k hk=>by
 rw [e.l]
 by_cases hne:k=i
 ·subst hne
  rw [upd_same]
  exact hi
 ·rw [upd_ne _ _ hne]
  exact ((h.thr k hk).mono hd hs).se (e.oth k hne)
theorem latch_mv {N:Nat} {n0:Int} (hn0:n0≤9223372036854775807) {cl:Nat→List Cl} {v v1:Vw} (h:LI N n0 cl v) (m:Mv mcLatch N v v1):LI N n0 cl v1:=by
 obtain ⟨c,hK,hc0,hcn⟩:=h.num
 cases m with
 |stuck hs hall hex e =>
  subst e
  have hdn:dn (v.L++[⟨-1,-1,7,0,0⟩])=dn v.L:=by rw [dn_app];rfl
  have hlt:(dn v.L:Int)<n0:=by
   obtain ⟨i,hi,j,q,r,k,a,hl⟩:=hex
   have hT:=(h.thr i hi).seat
   rcases hall i hi with ⟨a',h'⟩|⟨j',q',r',k',a',h',hce⟩
   ·rw [hl] at h';cases h'
   ·rw [hl] at h' hT
    cases h'
    obtain ⟨rfl,_,_,_,hse⟩:=hT
    rw [h.chg] at hce
    have:(dn v.L:Int)=v.se i:=hce
    omega
  refine ⟨⟨c,hK,hc0,by rw [hdn];exact hcn⟩,by rw [hdn];exact h.chg,h.ends.one (fun h=>absurd h (by decide)),fun i hi=>?_,by rw [hdn];exact h.sum,fun _=>⟨by rw [hdn];exact hlt,fun i hi op j q r k a hl=>?_⟩⟩
  ·rw [hdn]
   exact (h.thr i hi).mono (Nat.le_refl _) (fun _=>rfl)
  ·rcases hall i hi with ⟨a',h'⟩|⟨j',q',r',k',a',h',_⟩
   ·have hl:v.l i=_:=hl
    rw [hl] at h';cases h'
   ·have hl:v.l i=_:=hl
    rw [hl] at h';cases h'
 |wake i j q rest ii ans X l' hi hl hs hce ho e eK eS eC eL =>
  have hT:=h.thr i hi
  rw [hl] at hT
  obtain ⟨rfl,rfl,hr,⟨c',hc',hp⟩,hse⟩:=hT.seat
  have hw:mcLatch.woke (3,[])=.turn 1 0 (2,[]):=rfl
  rw [hw] at ho
  cases ho
  have hdn:dn v1.L=dn v.L:=by rw [eL,dn_app];rfl
  refine ⟨⟨c,by rw [eK];exact hK,hc0,by rw [hdn];exact hcn⟩,by rw [hdn,eC];exact h.chg,by rw [eL];exact h.ends.one (fun h=>absurd (show (6:Int)=10 from h) (by decide)),fun k hk=>?_,?_,fun h=>by rw [eS] at h;cases h⟩
  ·rw [hdn]
   refine h.els e (Nat.le_refl _) (fun x=>by rw [hs] at x;cases x) ⟨hT.len,⟨rfl,hr,c',hc',.inr (.inr ⟨rfl,rfl,hp⟩)⟩,fun k c a hk hc ha=>(hT.ok k c a hk hc ha).mono (Nat.le_refl _) (fun x=>by rw [hs] at x;cases x)⟩ k hk
  ·have hS:sumF N cl (upd v.l i (.turn 1 0 (2,[]) rest ii ans))=sumF N cl v.l+0:=sumF_upd hi _ (by rw [hl];rfl)
   rw [hdn,e.l,hS,h.sum,Nat.add_zero]
 |free i j q rest ii ans X l' hi hl hs ho e eK eS eC eL =>
  have hT:=h.thr i hi
  rw [hl] at hT
  obtain ⟨rfl,rfl,hr,⟨c',hc',hp⟩,hse⟩:=hT.seat
  have hlt:ii<(cl i).length:=(List.getElem?_eq_some_iff.1 hc').1
  have hA:AnsTo (cl i) (ans.set ii (4,0)) (ii+1) (Ac n0 (dn v.L) true):=AnsTo.set (fun k c a hk hc ha=>(hT.ok k c a hk hc ha).mono (Nat.le_refl _) (fun _=>rfl)) _ (fun c hc=>⟨fun _ x=>absurd x (by decide),fun _=>rfl⟩)
  obtain ⟨f1,f2,f3,f4,f5⟩:=fw_latch (N:=N) (n0:=n0) (cl:=cl) hi (d:=dn v.L) ho hr (by omega) (by rw [List.length_set];exact hT.len) (fun _=>rfl) hA
  have hX:∀ s∈(⟨i,-1,10,ii,(mcLatch.stuck (3,[])).1⟩:Stp) :: X,isD s=false∧EndOk N n0 cl (dn v.L) s:=fun s hs=>by
   simp only [List.mem_cons] at hs
   rcases hs with rfl|hs
   ·exact ⟨rfl,fun _=>⟨i,ii,c',rfl,hi,rfl,hc',fun x=>absurd (show (4:Int)=50 from x) (by decide),fun _ x=>absurd (show (4:Int)=0 from x) (by decide)⟩⟩
   ·exact f3 s hs
  obtain ⟨g1,g2⟩:=Ends.more _ h.ends rfl hX
  rw [←eL] at g1 g2
  have hcnt:cnt (cl i) (ans.set ii (4,0)) (ii+1)=cnt (cl i) ans ii:=by
   rw [cnt_succ,cnt_set]
   have hlen:ans.length=(cl i).length:=hT.len
   have:okD (cl i)[ii]? (ans.set ii (4,0))[ii]? = false:=by
    rw [hc',List.getElem?_set,if_pos rfl,if_pos (by omega)]
    simp [okD]
   rw [this]
   simp
  refine ⟨⟨c,by rw [eK];exact hK,hc0,by rw [g2];exact hcn⟩,by rw [g2,eC];exact h.chg,g1,fun k hk=>?_,?_,fun _=>⟨by rw [g2];exact (h.stk hs).1,fun k hk op j q r kk a hlk=>?_⟩⟩
  ·rw [g2]
   exact h.els e (Nat.le_refl _) (fun _=>eS) (by rw [eS];exact f1 _) k hk
  ·have hS:sumF N cl (upd v.l i l')=sumF N cl v.l+0:=sumF_upd hi _ (by
    rw [hl,f2]
    exact hcnt)
   rw [g2,e.l,hS,h.sum,Nat.add_zero]
  ·rw [e.l] at hlk
   by_cases hne:k=i
   ·subst hne
    rw [upd_same] at hlk
    obtain ⟨a',ha'⟩:=f5 rfl
    rw [ha'] at hlk
    cases hlk
   ·rw [upd_ne _ _ hne] at hlk
    exact (h.stk hs).2 k hk _ _ _ _ _ _ hlk
 |turn i op j q rest ii ans X l' hi hl ho e eK eS eC eL =>
  have hT:=h.thr i hi
  rw [hl] at hT
  have hns:v.stk=false:=by
   cases hs:v.stk with
   |false=>rfl
   |true=>exact absurd hl ((h.stk hs).2 i hi _ _ _ _ _ _)
  obtain ⟨rfl,hr,c',hc',hq⟩:=hT.seat
  have hlt:ii<(cl i).length:=(List.getElem?_eq_some_iff.1 hc').1
  have hlen:ans.length=(cl i).length:=hT.len
  have hx:v.K.getD 0 0=c:=by rw [hK];rfl
  rw [hx] at ho eK eC eL
  rw [hns] at ho
  have hAk:∀ d,dn v.L≤d→AnsTo (cl i) ans ii (Ac n0 d false):=fun d hd k c a hk hc ha=>(hT.ok k c a hk hc ha).mono hd (fun x=>by rw [hns] at x;exact x)
  have stay:∀ (s:Stp) (l2:Ph),isD s=false→s.op≠10→v1.L=v.L++[s]→v1.K=[c]→v1.chg=v.chg→l'=l2→(∀ se',(∀ j q r k a,l2=.wait j q r k a→se'=chgOf v.chg j)→TI n0 (dn v.L) false se' (cl i) l2)→cnt (cl i) l2.ans (upTo (cl i) l2)=cnt (cl i) ans ii→LI N n0 cl v1:=fun s l2 h1 h2 h3 h4 h5 h6 h7 h8=>by
   have hdn:dn v1.L=dn v.L:=by rw [h3,dn_app];unfold dn;rw [List.countP_singleton,h1];simp
   refine ⟨⟨c,h4,hc0,by rw [hdn];exact hcn⟩,by rw [hdn,h5];exact h.chg,by rw [h3];exact h.ends.one (fun h=>absurd h h2),fun k hk=>?_,?_,fun hh=>by rw [eS,hns] at hh;cases hh⟩
   ·rw [hdn]
    refine h.els e (Nat.le_refl _) (fun x=>by rw [eS];exact x) ?_ k hk
    rw [eS,hns,h6]
    refine h7 _ (fun j q r k a hh=>?_)
    have:=e.own j q r k a (by rw [h6];exact hh)
    rw [h5] at this
    exact this
   ·have hS:sumF N cl (upd v.l i l')=sumF N cl v.l+0:=sumF_upd hi _ (by
     rw [hl,h6,h8]
     rfl)
    rw [hdn,e.l,hS,h.sum,Nat.add_zero]
  have done:∀ (s:Stp) (ee yy:Int) (d:Nat) (b:Nat) (X':List Stp) (c2:Int),X=⟨i,-1,10,ii,ee⟩ :: X'→s.op≠10→dn (v.L++[s])=d→d=dn v.L+b→v1.K=[c2]→0≤c2→c2+d=n0→v1.chg=[(d:Int)]→v1.L=v.L++s :: X→ee≠4→(ee=50→n0≤d)→(c'.po=2→ee=0→n0≤d)→(if c'.po=1∧ee=0 then 1 else 0)=b→Fw mcLatch i false rest (ii+1) (ee==4) (ans.set ii (ee,yy)) X' l'→LI N n0 cl v1:=fun s ee yy d b X' c2 h1 h2 h3 h4 h5 h6 h7 h8 h9 h10 h11 h12 h13 h14=>by
   have hA:AnsTo (cl i) (ans.set ii (ee,yy)) (ii+1) (Ac n0 d false):=AnsTo.set (hAk d (by omega)) _ (fun c hc=>⟨fun hp he=>by rw [hc'] at hc;cases hc;exact h12 hp he,fun he=>absurd he h10⟩)
   have hsk:(ee==4)=false:=by simpa using h10
   rw [hsk] at h14
   obtain ⟨f1,f2,f3,f4,f5⟩:=fw_latch (N:=N) (n0:=n0) (cl:=cl) hi (d:=d) h14 hr (by omega) (by simpa using hlen) (fun x=>by cases x) hA
   have hE1:Ends N n0 cl (v.L++[s]):=h.ends.one (fun h=>absurd h h2)
   have hX:∀ x∈X,isD x=false∧EndOk N n0 cl d x:=fun x hx=>by
    rw [h1] at hx
    simp only [List.mem_cons] at hx
    rcases hx with rfl|hx
    ·exact ⟨rfl,fun _=>⟨i,ii,c',rfl,hi,rfl,hc',h11,h12⟩⟩
    ·exact f3 x hx
   obtain ⟨g1,g2⟩:=Ends.more X hE1 h3 hX
   rw [List.append_assoc,List.singleton_append,←h9] at g1 g2
   have hcnt:cnt (cl i) (ans.set ii (ee,yy)) (ii+1)=cnt (cl i) ans ii+b:=by
    have e1:(ans.set ii (ee,yy))[ii]? = some (ee,yy):=by rw [List.getElem?_set,if_pos rfl,if_pos (by omega)]
    rw [cnt_succ,cnt_set,←h13,hc',e1]
    by_cases hh:c'.po=1∧ee=0
    ·rw [if_pos hh,if_pos (by simp [okD,hh.1,hh.2])]
    ·rw [if_neg hh]
     have:okD (some c') (some (ee,yy))=false:=by
      simp only [okD,Bool.and_eq_false_iff,beq_eq_false_iff_ne]
      by_cases h1:c'.po=1
      ·exact .inr (fun h2=>hh ⟨h1,h2⟩)
      ·exact .inl h1
     rw [this]
     rfl
   refine ⟨⟨c2,h5,h6,by rw [g2];exact h7⟩,by rw [g2];exact h8,g1,fun k hk=>?_,?_,fun hh=>by rw [eS,hns] at hh;cases hh⟩
   ·rw [g2]
    refine h.els e (by omega) (fun x=>by rw [eS];exact x) ?_ k hk
    rw [eS,hns]
    exact f1 _
   ·have hS:sumF N cl (upd v.l i l')=sumF N cl v.l+b:=sumF_upd hi _ (by
     rw [hl,f2]
     exact hcnt)
    rw [g2,e.l,hS,h.sum,h4]
  have hdn0:∀ s:Stp,isD s=false→dn (v.L++[s])=dn v.L:=fun s hs=>by rw [dn_app];unfold dn;rw [List.countP_singleton,hs];simp
  rcases hq with ⟨rfl,rfl,hp⟩|⟨a,rfl,rfl,hp,ha0,han⟩|⟨rfl,rfl,hp⟩
  · -- Down looks
   have et:mcLatch.turn (0,[]) c=((c,c),c,if c=0 then .ans 50 0 else .turn 4 0 (1,[c])):=rfl
   rw [et] at ho eK eC eL
   simp only at ho eK eC eL
   have eK':v1.K=[c]:=by rw [eK,hK];rfl
   have eC':v1.chg=v.chg:=by rw [eC];unfold bump;rw [if_neg (fun h=>h.1 rfl)]
   by_cases hz:c=0
   ·rw [if_pos hz] at ho
    cases ho with
    |ans hF=>exact done _ 50 0 (dn v.L) 0 _ c rfl (by show ¬ (1:Int)=10;decide) (hdn0 _ rfl) rfl eK' hc0 hcn (by rw [eC'];exact h.chg) eL (by decide) (fun _=>by omega) (fun hp'=>by omega) (by simp) hF
   ·rw [if_neg hz] at ho
    cases ho
    refine stay ⟨i,((0:Nat):Int),1,c,c⟩ (.turn 4 0 (1,[c]) rest ii ans) rfl (by show ¬ (1:Int)=10;decide) (by rw [eL]) eK' eC' rfl (fun se' _=>⟨hlen,⟨rfl,hr,c',hc',.inr (.inl ⟨c,rfl,rfl,hp,by omega,by omega⟩)⟩,hAk _ (Nat.le_refl _)⟩) rfl
  · -- Down tries
   have et:mcLatch.turn (1,[a]) c=((effCas a (wrap64 (a - 1)) c).1,(effCas a (wrap64 (a - 1)) c).2.1,if c=a then .ans 0 0 else .turn 1 0 (0,[])):=rfl
   have hw:wrap64 (a - 1)=a - 1:=by unfold wrap64;omega
   rw [et,hw] at ho eK eC eL
   simp only at ho eK eC eL
   unfold effCas at eK eC eL
   by_cases hz:c=a
   ·rw [if_pos hz] at ho eK eC eL
    simp only at ho eK eC eL
    have hD:dn (v.L++[(⟨i,((0:Nat):Int),4,a,a - 1⟩:Stp)])=dn v.L+1:=by
     rw [dn_app]
     unfold dn
     rw [List.countP_singleton]
     simp [isD,hw]
    have eC':v1.chg=[((dn v.L+1:Nat):Int)]:=by
     rw [eC,h.chg]
     unfold bump
     rw [if_pos ⟨by omega,by simp⟩]
     show [wrap64 ((dn v.L:Int)+1)]=_
     have:wrap64 ((dn v.L:Int)+1)=(dn v.L:Int)+1:=by unfold wrap64;omega
     rw [this]
     rfl
    cases ho with
    |ans hF=>exact done _ 0 0 (dn v.L+1) 1 _ (a - 1) rfl (by show ¬ (4:Int)=10;decide) hD rfl (by rw [eK,hK];rfl) (by omega) (by omega) eC' eL (by decide) (fun x=>absurd x (by decide)) (fun x=>by omega) (by simp [hp]) hF
   ·rw [if_neg hz] at ho eK eC eL
    simp only at eK eC eL
    cases ho
    have eK':v1.K=[c]:=by rw [eK,hK];rfl
    have eC':v1.chg=v.chg:=by rw [eC];unfold bump;rw [if_neg (fun h=>h.1 rfl)]
    refine stay ⟨i,((0:Nat):Int),4,c,c⟩ (.turn 1 0 (0,[]) rest ii ans) ?_ (by show ¬ (4:Int)=10;decide) (by rw [eL]) eK' eC' rfl (fun se' _=>⟨hlen,⟨rfl,hr,c',hc',.inl ⟨rfl,rfl,hp⟩⟩,hAk _ (Nat.le_refl _)⟩) rfl
    have:¬ c=wrap64 (c - 1):=by unfold wrap64;omega
    simp [isD,this]
  · -- Wait looks
   have et:mcLatch.turn (2,[]) c=((c,c),c,if c=0 then .ans 0 0 else .wait 0 (3,[])):=rfl
   rw [et] at ho eK eC eL
   simp only at ho eK eC eL
   have eK':v1.K=[c]:=by rw [eK,hK];rfl
   have eC':v1.chg=v.chg:=by rw [eC];unfold bump;rw [if_neg (fun h=>h.1 rfl)]
   by_cases hz:c=0
   ·rw [if_pos hz] at ho
    cases ho with
    |ans hF=>exact done _ 0 0 (dn v.L) 0 _ c rfl (by show ¬ (1:Int)=10;decide) (hdn0 _ rfl) rfl eK' hc0 hcn (by rw [eC'];exact h.chg) eL (by decide) (fun x=>absurd x (by decide)) (fun _ _=>by omega) (by rw [if_neg (fun hh=>by omega)]) hF
   ·rw [if_neg hz] at ho
    cases ho with
    |wait _ =>
     refine stay ⟨i,((0:Nat):Int),1,c,c⟩ (.wait 0 (3,[]) rest ii ans) rfl (by show ¬ (1:Int)=10;decide) (by rw [eL]) eK' eC' rfl (fun se' hse=>⟨hlen,⟨rfl,rfl,hr,⟨c',hc',hp⟩,?_⟩,hAk _ (Nat.le_refl _)⟩) rfl
     rw [hse 0 (3,[]) rest ii ans rfl,h.chg]
     show (dn v.L:Int)<n0
     omega
    |waits hs _=>cases hs
theorem nt_le (L:List Stp) (s:Stp) (i:Nat):nt L i≤nt (L++[s]) i:=by rw [nt_one];omega
inductive Ac9 {σ:Type} (cl:Nat→List Cl) (an:Nat→List (Int×Int)) (st:σ→Cl→Int×Int→σ→Prop) (s0:σ):List Stp→σ→Prop
 |nil:Ac9 cl an st s0 [] s0
 |other {L:List Stp} {x:Stp} {s:σ}:Ac9 cl an st s0 L s→(x.op≠10∨x.ne=4)→Ac9 cl an st s0 (L++[x]) s
 |fin {L:List Stp} {i k:Nat} {c:Cl} {a:Int×Int} {s s':σ}:Ac9 cl an st s0 L s→nt L i=2*k+1→(cl i)[k]? = some c→(an i)[k]? = some a→a.1≠4→st s c a s'→Ac9 cl an st s0 (L++[⟨i,-1,10,k,a.1⟩]) s'
section
variable {σ:Type} {cl:Nat→List Cl} {an an':Nat→List (Int×Int)} {st:σ→Cl→Int×Int→σ→Prop} {s0 s:σ} {L:List Stp}
theorem Ac9.mono (h:Ac9 cl an st s0 L s):(∀ i k,k<nt L i / 2→(an' i)[k]? = (an i)[k]?)→Ac9 cl an' st s0 L s:=by
 induction h with
 |nil=>intro _;exact .nil
 |@other L x s h hx ih=>intro hk;exact .other (ih fun i k hi=>hk i k (by have:=nt_le L x i;omega)) hx
 |@fin L i k c a s s' h hn hc ha h4 hs ih =>
  intro hk
  refine .fin (ih fun j q hq=>hk j q (by have:=nt_le L ⟨i,-1,10,k,a.1⟩ j;omega)) hn hc ?_ h4 hs
  rw [hk i k (by rw [nt_own _ _ _ _ (.inr rfl)];omega)];exact ha
theorem Ac9.more:∀ (X:List Stp) {L:List Stp},Ac9 cl an st s0 L s→(∀ x∈X,x.op≠10)→Ac9 cl an st s0 (L++X) s
 | [],L,h,_=>by rw [List.append_nil];exact h
 |x :: X,L,h,hX=>by
  have:=Ac9.more X (h.other (x:=x) (.inl (hX x (List.mem_cons_self ..)))) (fun y hy=>hX y (List.mem_cons_of_mem _ hy))
  rw [List.append_assoc,List.singleton_append] at this
  exact this
end
def lst (s:Int) (c:Cl) (a:Int×Int) (s':Int):Prop:=(c.po=1∧a=(0,0)∧0<s∧s'=s - 1)∨(c.po=1∧a=(50,0)∧s=0∧s'=s)∨(c.po=2∧a=(0,0)∧s=0∧s'=s)
theorem fw_lat {i:Nat} {stk:Bool} {rest:List Cl} {ii:Nat} {sk:Bool} {ans:List (Int×Int)} {X:List Stp} {l:Ph} (h:Fw mcLatch i stk rest ii sk ans X l):(∀ c∈rest,c.po=1∨c.po=2)→(∀ x∈X,x.op≠10)∧∀ k,k<ii→l.ans[k]? = ans[k]?:=by
 have no9:∀ (i ii:Nat),∀ x∈[(⟨i,-1,9,ii,0⟩:Stp)],x.op≠10:=fun i ii x hx=>by
  rw [List.mem_singleton] at hx;subst hx;show ¬ (9:Int)=10;decide
 induction h with
 |nil=>intro _;exact ⟨fun x hx=>(nomatch hx),fun _ _=>rfl⟩
 |@skip c rest ii ans X l h ih =>
  intro ho
  obtain ⟨h1,h2⟩:=ih fun c hc=>ho c (List.mem_cons_of_mem _ hc)
  refine ⟨h1,fun k hk=>?_⟩
  rw [h2 k (by omega),List.getElem?_set,if_neg (by omega)]
 |@ans c rest ii ans X l e x hst h ih =>
  intro ho
  exfalso
  unfold mcLatch at hst
  simp only at hst
  rcases ho c (List.mem_cons_self ..) with h|h<;>rw [h] at hst<;>simp at hst
 |turn hst=>intro _;exact ⟨no9 _ _,fun _ _=>rfl⟩
 |wait hst hs=>intro _;exact ⟨no9 _ _,fun _ _=>rfl⟩
 |@waits c rest ii ans X l j q hst _ _ _ =>
  intro ho
  exfalso
  unfold mcLatch at hst
  simp only at hst
  rcases ho c (List.mem_cons_self ..) with h|h<;>rw [h] at hst<;>simp at hst
def AI (cl:Nat→List Cl) (n0:Int) (v:Vw):Prop:=∃ c,v.K=[c]∧Ac9 cl (fun i=>(v.l i).ans) lst n0 v.L c
theorem lat_ac {N:Nat} {n0:Int} (hn0:n0≤9223372036854775807) {cl:Nat→List Cl} (hops:∀ i,i<N→∀ c∈cl i,c.po=1∨c.po=2) {v v1:Vw} (h:LI N n0 cl v) (hN:NI N cl v) (hA:AI cl n0 v) (m:Mv mcLatch N v v1):AI cl n0 v1:=by
 obtain ⟨c,hK,hc0,hcn⟩:=h.num
 obtain ⟨c1,hK1,hac⟩:=hA
 obtain rfl:c1=c:=by rw [hK] at hK1;simpa using hK1.symm
 have dro:∀ i,i<N→∀ k,∀ x∈(cl i).drop k,x.po=1∨x.po=2:=fun i hi k x hx=>hops i hi x (List.mem_of_mem_drop hx)
 cases m with
 |stuck hs hall hex e=>subst e;exact ⟨c1,hK,hac.other (.inl (by show ¬ (7:Int)=10;decide))⟩
 |wake i j q rest ii ans X l' hi hl hs hce ho e eK eS eC eL =>
  have hT:=(h.thr i hi).seat
  rw [hl] at hT
  obtain ⟨rfl,rfl,hr,_⟩:=hT
  have hw:mcLatch.woke (3,[])=.turn 1 0 (2,[]):=rfl
  rw [hw] at ho
  cases ho
  refine ⟨c1,by rw [eK];exact hK,?_⟩
  rw [eL,e.l,ans_upd,upd_self (by rw [hl];rfl)]
  exact hac.other (.inl (by show ¬ (6:Int)=10;decide))
 |free i j q rest ii ans X l' hi hl hs hf e eK eS eC eL =>
  have hT:=(h.thr i hi).seat
  rw [hl] at hT
  obtain ⟨rfl,rfl,hr,_⟩:=hT
  have hn:=hN.thr i hi
  rw [hl] at hn
  obtain ⟨_,hn,_⟩:=hn
  subst hr
  obtain ⟨f1,f2⟩:=fw_lat hf (dro i hi _)
  refine ⟨c1,by rw [eK];exact hK,?_⟩
  rw [eL,e.l,ans_upd]
  have h1:Ac9 cl (upd (fun k=>(v.l k).ans) i l'.ans) lst n0 (v.L++[⟨i,-1,10,ii,4⟩]) c1:=.other (hac.mono fun j k hk=>by
   by_cases ej:j=i
   ·subst ej
    rw [upd_same,f2 k (by omega),List.getElem?_set,if_neg (by omega),hl]
    rfl
   ·rw [upd_ne _ _ ej]) (.inr rfl)
  have:=h1.more X f1
  rw [List.append_assoc,List.singleton_append] at this
  exact this
 |turn i op j q rest ii ans X l' hi hl ho e eK eS eC eL =>
  have hT:=h.thr i hi
  rw [hl] at hT
  have hns:v.stk=false:=by
   cases hs:v.stk with
   |false=>rfl
   |true=>exact absurd hl ((h.stk hs).2 i hi _ _ _ _ _ _)
  obtain ⟨rfl,hr,c',hc',hq⟩:=hT.seat
  have hn:=hN.thr i hi
  rw [hl] at hn
  obtain ⟨hlen,hn,hlt,_,_,h9,h10⟩:=hn
  have hx:v.K.getD 0 0=c1:=by rw [hK];rfl
  rw [hx] at ho eK eL
  rw [hns] at ho
  subst hr
  have hlen':ans.length=(cl i).length:=hlen
  have stay:∀ (s:Stp) (c2:Int),s.op≠10→v1.L=v.L++[s]→v1.K=[c2]→c2=c1→l'.ans=ans→AI cl n0 v1:=fun s c2 k1 k2 k3 k4 k5=>by
   refine ⟨c1,by rw [k3,k4],?_⟩
   rw [k2,e.l,ans_upd,k5,upd_self (by rw [hl];rfl)]
   exact hac.other (.inl k1)
  have done:∀ (s:Stp) (ee yy c2:Int) (X':List Stp),s.op≠9→s.op≠10→Fw mcLatch i false ((cl i).drop (ii+1)) (ii+1) (ee==4) (ans.set ii (ee,yy)) X' l'→ee≠4→lst c1 c' (ee,yy) c2→v1.L=v.L++s :: ⟨i,-1,10,ii,ee⟩ :: X'→v1.K=[c2]→AI cl n0 v1:=fun s ee yy c2 X' k9 k10 kf k4 kl kL kK=>by
   obtain ⟨f1,f2⟩:=fw_lat kf (dro i hi _)
   refine ⟨c2,kK,?_⟩
   rw [kL,e.l,ans_upd]
   have h1:Ac9 cl (upd (fun k=>(v.l k).ans) i l'.ans) lst n0 (v.L++[s]) c1:=.other (hac.mono fun j k hk=>by
    by_cases ej:j=i
    ·subst ej
     rw [upd_same,f2 k (by omega),List.getElem?_set,if_neg (by omega),hl]
     rfl
    ·rw [upd_ne _ _ ej]) (.inl k10)
   have h2:Ac9 cl (upd (fun k=>(v.l k).ans) i l'.ans) lst n0 ((v.L++[s])++[⟨i,-1,10,ii,ee⟩]) c2:=.fin (a:=(ee,yy)) h1 (by rw [nt_no k9 k10];exact hn) hc' (by rw [upd_same,f2 ii (by omega),List.getElem?_set,if_pos rfl,if_pos (by omega)]) k4 kl
   have:=h2.more X' f1
   simp only [List.append_assoc,List.singleton_append,List.cons_append,List.nil_append] at this
   exact this
  rcases hq with ⟨rfl,rfl,hp⟩|⟨a,rfl,rfl,hp,ha0,han⟩|⟨rfl,rfl,hp⟩
  · -- Down looks
   have et:mcLatch.turn (0,[]) c1=((c1,c1),c1,if c1=0 then .ans 50 0 else .turn 4 0 (1,[c1])):=rfl
   rw [et] at ho eK eL
   simp only at ho eK eL
   have eK':v1.K=[c1]:=by rw [eK,hK];rfl
   by_cases hz:c1=0
   ·rw [if_pos hz] at ho
    cases ho with
    |ans hF=>exact done _ 50 0 c1 _ h9 h10 hF (by decide) (.inr (.inl ⟨hp,rfl,hz,rfl⟩)) eL eK'
   ·rw [if_neg hz] at ho
    cases ho
    exact stay _ c1 h10 eL eK' rfl rfl
  · -- Down tries
   have et:mcLatch.turn (1,[a]) c1=((effCas a (wrap64 (a - 1)) c1).1,(effCas a (wrap64 (a - 1)) c1).2.1,if c1=a then .ans 0 0 else .turn 1 0 (0,[])):=rfl
   have hw:wrap64 (a - 1)=a - 1:=by unfold wrap64;omega
   rw [et,hw] at ho eK eL
   simp only at ho eK eL
   unfold effCas at eK eL
   by_cases hz:c1=a
   ·rw [if_pos hz] at ho eK eL
    simp only at ho eK eL
    cases ho with
    |ans hF=>exact done _ 0 0 (a - 1) _ h9 h10 hF (by decide) (.inl ⟨hp,rfl,by omega,by omega⟩) eL (by rw [eK,hK];rfl)
   ·rw [if_neg hz] at ho eK eL
    simp only at eK eL
    cases ho
    exact stay _ c1 h10 eL (by rw [eK,hK];rfl) rfl rfl
  · -- Wait looks
   have et:mcLatch.turn (2,[]) c1=((c1,c1),c1,if c1=0 then .ans 0 0 else .wait 0 (3,[])):=rfl
   rw [et] at ho eK eL
   simp only at ho eK eL
   have eK':v1.K=[c1]:=by rw [eK,hK];rfl
   by_cases hz:c1=0
   ·rw [if_pos hz] at ho
    cases ho with
    |ans hF=>exact done _ 0 0 c1 _ h9 h10 hF (by decide) (.inr (.inr ⟨hp,rfl,hz,rfl⟩)) eL eK'
   ·rw [if_neg hz] at ho
    cases ho with
    |wait _=>exact stay _ c1 h10 eL eK' rfl rfl
    |waits hs _=>cases hs
end Go.Proofs.Ytfjjoohflcchnaa.Gen
namespace Go.Proofs.Ytfjjoohflcchnaa.Gen
open Go Go.Lift Go.Conc Go.RowKit
open Go.Proofs.Ytfjjoohflcchnaa.His
open Go.ConcN (upd upd_same upd_ne)
theorem snoc_inj {α:Type} {A B:List α} {x y:α} (h:A++[x]=B++[y]):A=B∧x=y:=by
 have:=List.append_inj' h rfl
 exact ⟨this.1,by simpa using this.2⟩
section
variable {σ:Type}
inductive Run9 (N:Nat) (cl:Nat→List Cl) (an:Nat→List (Int×Int)) (st:σ→Cl→Int×Int→σ→Prop) (s0:σ):List Stp→σ→Prop
 |nil:Run9 N cl an st s0 [] s0
 |other {L:List Stp} {x:Stp} {s:σ}:Run9 N cl an st s0 L s→x.op≠9→x.op≠10→Run9 N cl an st s0 (L++[x]) s
 |beg {L:List Stp} {i k:Nat} {c:Cl} {s:σ}:Run9 N cl an st s0 L s→i<N→nt L i=2*k→(cl i)[k]? = some c→No4 (an i) k→Run9 N cl an st s0 (L++[⟨i,-1,9,k,0⟩]) s
 |stuck {L:List Stp} {i k:Nat} {a:Int×Int} {s:σ}:Run9 N cl an st s0 L s→i<N→nt L i=2*k+1→(an i)[k]? = some a→a.1=4→Run9 N cl an st s0 (L++[⟨i,-1,10,k,a.1⟩]) s
 |fin {L:List Stp} {i k:Nat} {c:Cl} {a:Int×Int} {s s':σ}:Run9 N cl an st s0 L s→i<N→nt L i=2*k+1→(cl i)[k]? = some c→(an i)[k]? = some a→a.1≠4→st s c a s'→Run9 N cl an st s0 (L++[⟨i,-1,10,k,a.1⟩]) s'
theorem ac_inv {cl:Nat→List Cl} {an:Nat→List (Int×Int)} {st:σ→Cl→Int×Int→σ→Prop} {s0 s':σ} {M:List Stp} (h:Ac9 cl an st s0 M s'):∀ (L:List Stp) (x:Stp),M=L++[x] →
 (Ac9 cl an st s0 L s'∧(x.op≠10∨x.ne=4))∨∃ (i k:Nat) (c:Cl) (a:Int×Int) (s:σ),Ac9 cl an st s0 L s∧nt L i=2*k+1∧(cl i)[k]? = some c∧(an i)[k]? = some a∧a.1≠4∧st s c a s'∧x=⟨i,-1,10,k,a.1⟩:=by
 cases h with
 |nil=>intro L x e;exact absurd e.symm (by simp)
 |other h hx =>
  intro L x e
  obtain ⟨rfl,rfl⟩:=snoc_inj e
  exact .inl ⟨h,hx⟩
 |fin h hn hc ha h4 hs =>
  intro L x e
  obtain ⟨rfl,rfl⟩:=snoc_inj e
  exact .inr ⟨_,_,_,_,_,h,hn,hc,ha,h4,hs,rfl⟩
theorem run9_of {N:Nat} {cl:Nat→List Cl} {an:Nat→List (Int×Int)} {st:σ→Cl→Int×Int→σ→Prop} {s0:σ} {L:List Stp} (h:Fit9 N cl an L):∀ s,Ac9 cl an st s0 L s→Run9 N cl an st s0 L s:=by
 have nl:∀ {s':σ} {M:List Stp},Ac9 cl an st s0 M s'→M=[]→s'=s0:=fun {s' M} h=>by
  cases h with
  |nil=>intro _;rfl
  |other h hx=>intro e;exact absurd e (by simp)
  |fin=>intro e;exact absurd e (by simp)
 induction h with
 |nil=>intro s hs;rw [nl hs rfl];exact .nil
 |other h h9 h10 ih =>
  intro s hs
  rcases ac_inv hs _ _ rfl with ⟨ha,_⟩|⟨i,k,c,a,s1,_,_,_,_,_,_,rfl⟩
  ·exact .other (ih s ha) h9 h10
  ·exact absurd rfl h10
 |@beg L i k h hi hn hl h4 ih =>
  intro s hs
  rcases ac_inv hs _ _ rfl with ⟨ha,_⟩|⟨i,k,c,a,s1,_,_,_,_,_,_,e⟩
  ·exact .beg (ih s ha) hi hn (List.getElem?_eq_getElem hl) h4
  ·exact absurd (congrArg Stp.op e) (by show ¬ (9:Int)=10;decide)
 |@fin L i k a h hi hn hl ha ih =>
  intro s hs
  rcases ac_inv hs _ _ rfl with ⟨hac,h⟩|⟨i',k',c,a',s1,hac,hn',hc,ha',h4,hst,e⟩
  ·rcases h with h|h
   ·exact absurd rfl h
   ·exact .stuck (ih s hac) hi hn ha h
  ·have e1:(i:Int)=i':=congrArg Stp.th e
   have e2:(k:Int)=k':=congrArg Stp.ol e
   obtain rfl:i=i':=by omega
   obtain rfl:k=k':=by omega
   obtain rfl:a=a':=by rw [ha] at ha';exact Option.some.inj ha'
   exact .fin (ih s1 hac) hi hn hc ha h4 hst
end
end Go.Proofs.Ytfjjoohflcchnaa.Gen
