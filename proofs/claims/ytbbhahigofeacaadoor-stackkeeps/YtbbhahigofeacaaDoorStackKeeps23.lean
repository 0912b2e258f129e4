/- Of the proof of StackKeeps. Part 23 of 33. (Joined, by program, and written short, of: StK, StK2, StK3, StKc, StKd, StKe.) -/
import Derived.Test.YtbbhahigofeacaaDoorStackKeeps22
set_option linter.unusedSimpArgs false
set_option linter.unusedVariables false
set_option maxHeartbeats 4000000
set_option maxRecDepth 100000
namespace Go.Proofs.YtbbhahigofeacaaDoor.Gen
open Go Go.Lift Go.Conc Go.RowKit
open R1 (fstI verI hdI)
open Go.ConcN (upd upd_same upd_ne)
def Lnk (nx:Nat->Int):Int->List Nat->Prop
 |x,[]=>x=0
 |x,a :: F=>x=(a:Int)+1∧Lnk nx (nx a) F
theorem Lnk.same {nx nx':Nat->Int}:∀ {F:List Nat}{x:Int},Lnk nx x F->(∀ a∈F,nx' a=nx a)->Lnk nx' x F
 | [],_,h,_=>h
 |a :: F,_,h,e=>⟨h.1,by rw[e a (by simp)];exact h.2.same (fun b hb=>e b (by simp[hb]))⟩
def ownQ (q:Q):Option Nat :=
 match q.1 with
 |4=>some (q.2.getD 1 0).toNat
 |5=>some (q.2.getD 1 0).toNat
 |6=>some (q.2.getD 0 0).toNat
 |7=>some (q.2.getD 0 0).toNat
 |8=>some (q.2.getD 0 0).toNat
 |14=>some (q.2.getD 0 0).toNat
 |15=>some (q.2.getD 0 0).toNat
 |16=>some (q.2.getD 0 0).toNat
 |17=>some (q.2.getD 0 0).toNat
 |18=>some (q.2.getD 0 0).toNat
 |_=>none
structure Sk (n:Nat) (C:Nat->Int) (q:Q):Prop where
 ha:q.1=2∨q.1=3->sh (q.2.getD 1 0)≤sh (C 0)
 ha2:q.1=17∨q.1=18->sh (q.2.getD 2 0)≤sh (C 0)
 hb:q.1=7∨q.1=8->sh (q.2.getD 1 0)≤sh (C (hdJ n))
 hb2:q.1=12∨q.1=13->sh (q.2.getD 0 0)≤sh (C (hdJ n))
 n3:q.1=3->C 0=q.2.getD 1 0->C (nxJ (slI (q.2.getD 1 0)))=q.2.getD 2 0
 n13:q.1=13->C (hdJ n)=q.2.getD 0 0->C (lkJ n (slI (q.2.getD 0 0)))=q.2.getD 1 0
 n8:q.1=8->C (lkJ n (q.2.getD 0 0).toNat)=fstI (q.2.getD 1 0)
 n18:q.1=18->C (nxJ (q.2.getD 0 0).toNat)=fstI (q.2.getD 2 0)
structure HdI (x:Int) (B:Nat):Prop where
 lo:0≤x
 hi:x<4611686018427387904
 ver:sh x≤B
structure KI (N n B:Nat) (C:Nat->Int) (s:Nat->Option Q) (F S:List Nat):Prop where
 fr:Lnk (fun i=>C (nxJ i)) (fstI (C 0)) F
 st:Lnk (fun i=>C (lkJ n i)) (fstI (C (hdJ n))) S
 nd:(F++S).Nodup
 lt:∀ a∈F++S,a<n
 va:HdI (C 0) B
 vb:HdI (C (hdJ n)) B
 sit:∀ i,i<N->∀ q,s i=some q->Sk n C q∧∀ a,ownQ q=some a->a ∉ F++S∧∀ k,k<N->k≠i->∀ q',s k=some q'->ownQ q'≠some a
section
variable {N n B:Nat}{C:Nat->Int}{s:Nat->Option Q}{F S:List Nat}
theorem KI.to (h:KI N n B C s F S) {i:Nat}(hi:i<N) {C':Nat->Int}{F' S':List Nat}{o':Option Q}{B':Nat}(fr:Lnk (fun i=>C' (nxJ i)) (fstI (C' 0)) F') (st:Lnk (fun i=>C' (lkJ n i)) (fstI (C' (hdJ n))) S') (nd:(F'++S').Nodup) (lt:∀ a∈F'++S',a<n) (va:HdI (C' 0) B') (vb:HdI (C' (hdJ n)) B')
 (hoth:∀ k,k<N->k≠i->∀ q,s k=some q->Sk n C' q)
 (hoo:∀ k,k<N->k≠i->∀ q a,s k=some q->ownQ q=some a->a ∉ F'++S')
 (hown:∀ q',o'=some q'->Sk n C' q'∧∀ a,ownQ q'=some a->a ∉ F'++S'∧∀ k,k<N->k≠i->∀ q,s k=some q->ownQ q≠some a):KI N n B' C' (upd s i o') F' S':=by
 refine ⟨fr,st,nd,lt,va,vb,fun k hk q hq=>?_⟩
 by_cases e:k=i
 ·subst e
  rw[upd_same] at hq
  refine ⟨(hown q hq).1,fun a ha=>⟨((hown q hq).2 a ha).1,fun k' hk' hne q' hq'=>?_⟩⟩
  rw[upd_ne _ _ hne] at hq'
  exact ((hown q hq).2 a ha).2 k' hk' hne q' hq'
 ·rw[upd_ne _ _ e] at hq
  refine ⟨hoth k hk e q hq,fun a ha=>⟨hoo k hk e q a hq ha,fun k' hk' hne q' hq'=>?_⟩⟩
  by_cases e':k'=i
  ·subst e'
   rw[upd_same] at hq'
   intro ha'
   exact ((hown q' hq').2 a ha').2 k hk e q hq ha
  ·rw[upd_ne _ _ e'] at hq'
   exact ((h.sit k hk q hq).2 a ha).2 k' hk' hne q' hq'
theorem Sk.same {q:Q}(h:Sk n C q) {C':Nat->Int}(e0:C' 0=C 0) (e1:C' (hdJ n)=C (hdJ n)) (e2:∀ i,i<n->C' (nxJ i)=C (nxJ i)) (e3:∀ i,i<n->C' (lkJ n i)=C (lkJ n i)) (hat:∃ j,atT n q j):Sk n C' q:=by
 obtain ⟨j,hat⟩:=hat
 refine ⟨fun e=>by rw[e0];exact h.ha e,fun e=>by rw[e0];exact h.ha2 e,fun e=>by rw[e1];exact h.hb e,fun e=>by rw[e1];exact h.hb2 e,fun e=>?_,fun e=>?_,fun e=>?_,fun e=>?_⟩
 ·rw[e0,e2]
  ·exact h.n3 e
  ·unfold atT at hat;simp only[e] at hat;unfold slI;omega
 ·rw[e1,e3]
  ·exact h.n13 e
  ·unfold atT at hat;simp only[e] at hat;unfold slI;omega
 ·rw[e3]
  ·exact h.n8 e
  ·unfold atT D8 at hat;simp only[e] at hat;omega
 ·rw[e2]
  ·exact h.n18 e
  ·unfold atT D8 at hat;simp only[e] at hat;omega
theorem lt_sl {q:Q}(hat:∃ j,atT n q j):(q.1=3->slI (q.2.getD 1 0)<n∧0<fstI (q.2.getD 1 0))∧(q.1=13->slI (q.2.getD 0 0)<n∧0<fstI (q.2.getD 0 0))∧(q.1=8->(q.2.getD 0 0).toNat<n)∧(q.1=18->(q.2.getD 0 0).toNat<n):=by
 obtain ⟨j,hat⟩:=hat
 refine ⟨fun e=>?_,fun e=>?_,fun e=>?_,fun e=>?_⟩<;>(unfold atT D8 at hat;simp only[e] at hat;(try unfold slI);omega)
theorem Sk.hd0 {q:Q}(h:Sk n C q) {y:Int}(hy:sh y=sh (C 0)+1) (hat:∃ j,atT n q j):Sk n (upd C 0 y) q:=by
 have e1:upd C 0 y (hdJ n)=C (hdJ n):=upd_ne _ _ (by unfold hdJ;omega)
 have e2:∀ i,upd C 0 y (nxJ i)=C (nxJ i):=fun i=>upd_ne _ _ (by unfold nxJ;omega)
 have e3:∀ i,upd C 0 y (lkJ n i)=C (lkJ n i):=fun i=>upd_ne _ _ (by unfold lkJ;omega)
 refine ⟨fun e=>?_,fun e=>?_,fun e=>by rw[e1];exact h.hb e,fun e=>by rw[e1];exact h.hb2 e,fun e e'=>?_,fun e=>by rw[e1,e3];exact h.n13 e,fun e=>by rw[e3];exact h.n8 e,fun e=>by rw[e2];exact h.n18 e⟩
 ·rw[upd_same,hy];have:=h.ha e;omega
 ·rw[upd_same,hy];have:=h.ha2 e;omega
 ·rw[upd_same] at e'
  have:=h.ha (.inr e)
  rw[←e',hy] at this
  omega
theorem Sk.hd1 {q:Q}(h:Sk n C q) {y:Int}(hy:sh y=sh (C (hdJ n))+1) (hat:∃ j,atT n q j):Sk n (upd C (hdJ n) y) q:=by
 have hl:=lt_sl hat
 have e1:upd C (hdJ n) y 0=C 0:=upd_ne _ _ (by unfold hdJ;omega)
 have e2:∀ i,i<n->upd C (hdJ n) y (nxJ i)=C (nxJ i):=fun i hi=>upd_ne _ _ (by unfold nxJ hdJ;omega)
 have e3:∀ i,upd C (hdJ n) y (lkJ n i)=C (lkJ n i):=fun i=>upd_ne _ _ (by unfold lkJ hdJ;omega)
 refine ⟨fun e=>by rw[e1];exact h.ha e,fun e=>by rw[e1];exact h.ha2 e,fun e=>?_,fun e=>?_,fun e=>by rw[e1,e2 _ (hl.1 e).1];exact h.n3 e,fun e e'=>?_,fun e=>by rw[e3];exact h.n8 e,fun e=>by rw[e2 _ (hl.2.2.2 e)];exact h.n18 e⟩
 ·rw[upd_same,hy];have:=h.hb e;omega
 ·rw[upd_same,hy];have:=h.hb2 e;omega
 ·rw[upd_same] at e'
  have:=h.hb2 (.inr e)
  rw[←e',hy] at this
  omega
theorem Lnk.first {nx:Nat->Int}{x:Int}{F:List Nat}(h:Lnk nx x F) (hx:0<x):∃ F1,F=(x - 1).toNat :: F1∧Lnk nx (nx (x - 1).toNat) F1:=by
 cases F with
 |nil=>have h:x=0:=h;omega
 |cons a F =>
  have e:(x - 1).toNat=a:=by have:=h.1;omega
  rw[e]
  exact ⟨F,rfl,h.2⟩
theorem Sk.nx {q:Q}(h:Sk n C q) (hfr:Lnk (fun i=>C (nxJ i)) (fstI (C 0)) F) {a:Nat}(han:a<n) (haF:a ∉ F) (hq:ownQ q≠some a) {y:Int}(hat:∃ j,atT n q j):Sk n (upd C (nxJ a) y) q:=by
 have hl:=lt_sl hat
 have e0:upd C (nxJ a) y 0=C 0:=upd_ne _ _ (by unfold nxJ;omega)
 have e1:upd C (nxJ a) y (hdJ n)=C (hdJ n):=upd_ne _ _ (by unfold nxJ hdJ;omega)
 have e2:∀ i,i≠a->upd C (nxJ a) y (nxJ i)=C (nxJ i):=fun i hi=>upd_ne _ _ (by unfold nxJ;omega)
 have e3:∀ i,upd C (nxJ a) y (lkJ n i)=C (lkJ n i):=fun i=>upd_ne _ _ (by unfold lkJ nxJ;omega)
 refine ⟨fun e=>by rw[e0];exact h.ha e,fun e=>by rw[e0];exact h.ha2 e,fun e=>by rw[e1];exact h.hb e,fun e=>by rw[e1];exact h.hb2 e,fun e e'=>?_,fun e=>by rw[e1,e3];exact h.n13 e,fun e=>by rw[e3];exact h.n8 e,fun e=>?_⟩
 ·rw[e0] at e'
  rw[e2 _ (fun e2=>?_)]
  ·exact h.n3 e e'
  ·obtain ⟨F1,hF,_⟩:=hfr.first (by rw[e'];exact (hl.1 e).2)
   apply haF
   rw[hF,e',←e2]
   simp[slI]
 ·rw[e2 _ (fun e2=>hq ?_)]
  ·exact h.n18 e
  ·unfold ownQ
   simp only[e]
   rw[e2]
theorem Sk.lk {q:Q}(h:Sk n C q) (hst:Lnk (fun i=>C (lkJ n i)) (fstI (C (hdJ n))) S) {a:Nat}(haS:a ∉ S) (hq:ownQ q≠some a) {y:Int}(hat:∃ j,atT n q j):Sk n (upd C (lkJ n a) y) q:=by
 have hl:=lt_sl hat
 have e0:upd C (lkJ n a) y 0=C 0:=upd_ne _ _ (by unfold lkJ;omega)
 have e1:upd C (lkJ n a) y (hdJ n)=C (hdJ n):=upd_ne _ _ (by unfold lkJ hdJ;omega)
 have e2:∀ i,i<n->upd C (lkJ n a) y (nxJ i)=C (nxJ i):=fun i hi=>upd_ne _ _ (by unfold nxJ lkJ;omega)
 have e3:∀ i,i≠a->upd C (lkJ n a) y (lkJ n i)=C (lkJ n i):=fun i hi=>upd_ne _ _ (by unfold lkJ;omega)
 refine ⟨fun e=>by rw[e0];exact h.ha e,fun e=>by rw[e0];exact h.ha2 e,fun e=>by rw[e1];exact h.hb e,fun e=>by rw[e1];exact h.hb2 e,fun e=>by rw[e0,e2 _ (hl.1 e).1];exact h.n3 e,fun e e'=>?_,fun e=>?_,fun e=>by rw[e2 _ (hl.2.2.2 e)];exact h.n18 e⟩
 ·rw[e1] at e'
  rw[e3 _ (fun e2=>?_)]
  ·exact h.n13 e e'
  ·obtain ⟨F1,hF,_⟩:=hst.first (by rw[e'];exact (hl.2.1 e).2)
   apply haS
   rw[hF,e',←e2]
   simp[slI]
 ·rw[e3 _ (fun e2=>hq ?_)]
  ·exact h.n8 e
  ·unfold ownQ
   simp only[e]
   rw[e2]
end
def Nxt (nx:Nx) (o':Option Q):Prop :=
 match nx with
 |.turn _ _ q'=>o'=some q'
 |.ans _ _=>o'=none∨∃ q',o'=some q'∧(q'.1=1∨q'.1=11)
 |.wait _ _=>False
def SSt (q:Q) (x:Int) (S S':List Nat):Prop :=
 (q.1=8∧x=q.2.getD 1 0∧S'=(q.2.getD 0 0).toNat :: S)∨(q.1=13∧x=q.2.getD 0 0∧S=slI x :: S')∨(¬ (q.1=8∧x=q.2.getD 1 0)∧¬ (q.1=13∧x=q.2.getD 0 0)∧S'=S)
theorem Fh (C:Nat->Int) (j k:Nat):upd C j (C j) k=C k:=by
 by_cases e:k=j
 ·subst e;exact upd_same _ _ _
 ·exact upd_ne _ _ e
theorem sk_start {n:Nat}{C:Nat->Int}{q:Q}(h:q.1=1∨q.1=11):Sk n C q∧ownQ q=none:=by
 refine ⟨⟨fun e=>by omega,fun e=>by omega,fun e=>by omega,fun e=>by omega,fun e=>by omega,fun e=>by omega,fun e=>by omega,fun e=>by omega⟩,?_⟩
 unfold ownQ
 rcases h with h|h<;>simp only[h]
theorem bump_hd {x f:Int}{B:Nat}(h:HdI x B) (hB:B≤400000) (f0:0≤f) (f1:f<4294967296):fstI (hdI f (verI x+1))=f∧sh (hdI f (verI x+1))=sh x+1∧HdI (hdI f (verI x+1)) (B+1):=by
 have hv:verI x=sh x:=by
  have h1:=h.lo
  have h2:=h.hi
  unfold verI Pl.getI sh
  show x / 4294967296 % 1073741824=_
  omega
 have h0:0≤sh x:=by have:=h.lo;unfold sh;omega
 have h3:=h.ver
 have hs:sh (hdI f (verI x+1))=sh x+1:=by rw[hv,sh_hd f0 f1 (by omega) (by omega)]
 have hl:=hd_low f0 f1 (v:=verI x+1) (by omega)
 exact ⟨R1.fst_hd f0 f1 (by omega),hs,hl.1,hl.2,by rw[hs];omega⟩
section
variable {N n B:Nat}{C:Nat->Int}{s:Nat->Option Q}{F S:List Nat}
theorem HdI.up {x:Int}{B:Nat}(h:HdI x B):HdI x (B+1):=⟨h.lo,h.hi,by have:=h.ver;omega⟩
theorem KI.still (h:KI N n B C s F S) {i:Nat}(hi:i<N) {q:Q}(hq:s i=some q) (hat:∀ k,k<N->∀ q,s k=some q->∃ j,atT n q j) {C':Nat->Int}(e0:C' 0=C 0) (e1:C' (hdJ n)=C (hdJ n)) (e2:∀ i,i<n->C' (nxJ i)=C (nxJ i)) (e3:∀ i,i<n->C' (lkJ n i)=C (lkJ n i)) {o':Option Q}
 (hown:∀ q',o'=some q'->Sk n C' q'∧(ownQ q'=none∨ownQ q'=ownQ q)):KI N n (B+1) C' (upd s i o') F S:=by
 refine h.to hi ?_ ?_ h.nd h.lt (by rw[e0];exact h.va.up) (by rw[e1];exact h.vb.up) (fun k hk hne q hq=>(h.sit k hk q hq).1.same e0 e1 e2 e3 (hat k hk q hq)) (fun k hk hne q a hq ha=>((h.sit k hk q hq).2 a ha).1) (fun q' ho=>⟨(hown q' ho).1,fun a ha=>?_⟩)
 ·rw[e0]
  exact h.fr.same (fun a ha=>e2 a (h.lt a (List.mem_append_left _ ha)))
 ·rw[e1]
  exact h.st.same (fun a ha=>e3 a (h.lt a (List.mem_append_right _ ha)))
 ·rcases (hown q' ho).2 with e|e
  ·rw[e] at ha;cases ha
  ·rw[e] at ha
   exact (h.sit i hi q hq).2 a ha
theorem KI.read (h:KI N n B C s F S) {i j:Nat}(hi:i<N) {q:Q}(hq:s i=some q) (hat:∀ k,k<N->∀ q,s k=some q->∃ j,atT n q j) {o':Option Q}
 (hown:∀ q',o'=some q'->Sk n (upd C j (C j)) q'∧(ownQ q'=none∨ownQ q'=ownQ q)):KI N n (B+1) (upd C j (C j)) (upd s i o') F S :=
 h.still hi hq hat (Fh _ _ _) (Fh _ _ _) (fun _ _=>Fh _ _ _) (fun _ _=>Fh _ _ _) hown
theorem own_start {C:Nat->Int}{q:Q}{o':Option Q}(h:o'=none∨∃ q',o'=some q'∧(q'.1=1∨q'.1=11)):∀ q',o'=some q'->Sk n C q'∧(ownQ q'=none∨ownQ q'=ownQ q):=by
 rintro q' rfl
 rcases h with h|⟨q1,h,h1⟩
 ·cases h
 ·cases h
  exact ⟨(sk_start h1).1,.inl (sk_start (n:=n) (C:=C) h1).2⟩
theorem nodup_mid {a:Nat}{F S:List Nat}(h:(F++S).Nodup) (ha:a ∉ F++S):(F++a :: S).Nodup:=by
 rw[List.nodup_append] at h ⊢
 simp only[List.mem_append,not_or] at ha
 refine ⟨h.1,List.nodup_cons.2 ⟨ha.2,h.2.1⟩,fun x hx y hy=>?_⟩
 rcases List.mem_cons.1 hy with rfl|hy
 ·rintro rfl;exact ha.1 hx
 ·exact h.2.2 x hx y hy
theorem nodup_out {a:Nat}{F S:List Nat}(h:(F++a :: S).Nodup):(F++S).Nodup∧a ∉ F++S:=by
 rw[List.nodup_append] at h
 have h2:=List.nodup_cons.1 h.2.1
 refine ⟨?_,fun ha=>?_⟩
 ·rw[List.nodup_append]
  exact ⟨h.1,h2.2,fun x hx y hy=>h.2.2 x hx y (List.mem_cons_of_mem _ hy)⟩
 ·rcases List.mem_append.1 ha with ha|ha
  ·exact h.2.2 a ha a (by simp) rfl
  ·exact h2.1 ha
theorem KI.take (h:KI N n B C s F S) (hB:B≤400000) {i:Nat}(hi:i<N) (hat:∀ k,k<N->∀ q,s k=some q->∃ j,atT n q j) {c:Int}(c0:0≤c) (c1:c≤n) (hn:n≤1000) (hp:0<fstI (C 0)) (hc:C (nxJ (slI (C 0)))=c) {q':Q}(hk:q'.1=4) (ho:(q'.2.getD 1 0).toNat=slI (C 0)) :
 ∃ F',KI N n (B+1) (upd C 0 (hdI c (verI (C 0)+1))) (upd s i (some q')) F' S:=by
 obtain ⟨F1,hF,hL⟩:=h.fr.first hp
 obtain ⟨y1,y2,y3⟩:=bump_hd h.va hB c0 (by omega:c<4294967296)
 have hsl:(fstI (C 0) - 1).toNat=slI (C 0):=rfl
 rw[hsl] at hF hL
 subst hF
 have hnd:=h.nd
 rw[List.cons_append,List.nodup_cons] at hnd
 have e2:∀ y i,upd C 0 y (nxJ i)=C (nxJ i):=fun y i=>upd_ne _ _ (by unfold nxJ;omega)
 have e3:∀ y i,upd C 0 y (lkJ n i)=C (lkJ n i):=fun y i=>upd_ne _ _ (by unfold lkJ;omega)
 have e1:∀ y,upd C 0 y (hdJ n)=C (hdJ n):=fun y=>upd_ne _ _ (by unfold hdJ;omega)
 refine ⟨F1,h.to hi ?_ ?_ hnd.2 (fun a ha=>h.lt a (by simp only[List.cons_append,List.mem_cons];exact .inr ha)) (by rw[upd_same];exact y3) (by rw[e1];exact h.vb.up) (fun k hk hne q hq=>(h.sit k hk q hq).1.hd0 y2 (hat k hk q hq)) (fun k hk hne q a hq ha hm=>((h.sit k hk q hq).2 a ha).1 (by simp only[List.cons_append,List.mem_cons];exact .inr hm)) (fun q1 e=>?_)⟩
 ·rw[upd_same,y1,←hc]
  exact hL.same (fun a _=>e2 _ a)
 ·rw[e1]
  exact h.st.same (fun a _=>e3 _ a)
 ·cases e
  refine ⟨⟨fun e=>by omega,fun e=>by omega,fun e=>by omega,fun e=>by omega,fun e=>by omega,fun e=>by omega,fun e=>by omega,fun e=>by omega⟩,fun a ha=>?_⟩
  have ea:ownQ q'=some (q'.2.getD 1 0).toNat:=by unfold ownQ;simp only[hk]
  rw[ea,ho] at ha
  cases ha
  exact ⟨hnd.1,fun k hk hne q hq e=>((h.sit k hk q hq).2 _ e).1 (by simp)⟩
theorem KI.pop (h:KI N n B C s F S) (hB:B≤400000) {i:Nat}(hi:i<N) (hat:∀ k,k<N->∀ q,s k=some q->∃ j,atT n q j) {c:Int}(c0:0≤c) (c1:c≤n) (hn:n≤1000) (hp:0<fstI (C (hdJ n))) (hc:C (lkJ n (slI (C (hdJ n))))=c) {q':Q}(hk:q'.1=14) (ho:(q'.2.getD 0 0).toNat=slI (C (hdJ n))) :
 ∃ S',S=slI (C (hdJ n)) :: S'∧KI N n (B+1) (upd C (hdJ n) (hdI c (verI (C (hdJ n))+1))) (upd s i (some q')) F S':=by
 obtain ⟨S1,hF,hL⟩:=h.st.first hp
 obtain ⟨y1,y2,y3⟩:=bump_hd h.vb hB c0 (by omega:c<4294967296)
 have hsl:(fstI (C (hdJ n)) - 1).toNat=slI (C (hdJ n)):=rfl
 rw[hsl] at hF hL
 subst hF
 have hnd:=nodup_out h.nd
 have e2:∀ y i,i<n->upd C (hdJ n) y (nxJ i)=C (nxJ i):=fun y i hi=>upd_ne _ _ (by unfold nxJ hdJ;omega)
 have e3:∀ y i,upd C (hdJ n) y (lkJ n i)=C (lkJ n i):=fun y i=>upd_ne _ _ (by unfold lkJ hdJ;omega)
 have e1:∀ y,upd C (hdJ n) y 0=C 0:=fun y=>upd_ne _ _ (by unfold hdJ;omega)
 have up:∀ a,a∈F++S1->a∈F++slI (C (hdJ n)) :: S1:=fun a ha=>by
  simp only[List.mem_append,List.mem_cons] at ha ⊢
  rcases ha with ha|ha
  ·exact .inl ha
  ·exact .inr (.inr ha)
 refine ⟨S1,rfl,h.to hi ?_ ?_ hnd.1 (fun a ha=>h.lt a (up a ha)) (by rw[e1];exact h.va.up) (by rw[upd_same];exact y3) (fun k hk hne q hq=>(h.sit k hk q hq).1.hd1 y2 (hat k hk q hq)) (fun k hk hne q a hq ha hm=>((h.sit k hk q hq).2 a ha).1 (up a hm)) (fun q1 e=>?_)⟩
 ·rw[e1]
  exact h.fr.same (fun a ha=>e2 _ a (h.lt a (List.mem_append_left _ ha)))
 ·rw[upd_same,y1,←hc]
  exact hL.same (fun a _=>e3 _ a)
 ·cases e
  refine ⟨⟨fun e=>by omega,fun e=>by omega,fun e=>by omega,fun e=>by omega,fun e=>by omega,fun e=>by omega,fun e=>by omega,fun e=>by omega⟩,fun a ha=>?_⟩
  have ea:ownQ q'=some (q'.2.getD 0 0).toNat:=by unfold ownQ;simp only[hk]
  rw[ea,ho] at ha
  cases ha
  exact ⟨hnd.2,fun k hk hne q hq e=>((h.sit k hk q hq).2 _ e).1 (by simp)⟩
theorem KI.push (h:KI N n B C s F S) (hB:B≤400000) {i:Nat}(hi:i<N) (hat:∀ k,k<N->∀ q,s k=some q->∃ j,atT n q j) (hn:n≤1000) {q:Q}(hq:s i=some q) {a:Nat}(ha:ownQ q=some a) (han:a<n) (hl:C (lkJ n a)=fstI (C (hdJ n))) {o':Option Q}(ho:o'=none∨∃ q',o'=some q'∧(q'.1=1∨q'.1=11)) :
 KI N n (B+1) (upd C (hdJ n) (hdI ((a:Int)+1) (verI (C (hdJ n))+1))) (upd s i o') F (a :: S):=by
 obtain ⟨y1,y2,y3⟩:=bump_hd h.vb hB (by omega:0≤(a:Int)+1) (by omega)
 obtain ⟨w1,w2⟩:=(h.sit i hi q hq).2 a ha
 have e2:∀ y i,i<n->upd C (hdJ n) y (nxJ i)=C (nxJ i):=fun y i hi=>upd_ne _ _ (by unfold nxJ hdJ;omega)
 have e3:∀ y i,upd C (hdJ n) y (lkJ n i)=C (lkJ n i):=fun y i=>upd_ne _ _ (by unfold lkJ hdJ;omega)
 have e1:∀ y,upd C (hdJ n) y 0=C 0:=fun y=>upd_ne _ _ (by unfold hdJ;omega)
 refine h.to hi ?_ ?_ (nodup_mid h.nd w1) (fun b hb=>?_) (by rw[e1];exact h.va.up) (by rw[upd_same];exact y3) (fun k hk hne q hq=>(h.sit k hk q hq).1.hd1 y2 (hat k hk q hq)) (fun k hk hne q1 b hq1 hb hm=>?_) (fun q1 e=>?_)
 ·rw[e1]
  exact h.fr.same (fun a ha=>e2 _ a (h.lt a (List.mem_append_left _ ha)))
 ·rw[upd_same,y1]
  refine ⟨rfl,?_⟩
  show Lnk _ (upd C (hdJ n) _ (lkJ n a)) S
  rw[e3,hl]
  exact h.st.same (fun a _=>e3 _ a)
 ·simp only[List.mem_append,List.mem_cons] at hb
  rcases hb with hb|rfl|hb
  ·exact h.lt b (List.mem_append_left _ hb)
  ·exact han
  ·exact h.lt b (List.mem_append_right _ hb)
 ·simp only[List.mem_append,List.mem_cons] at hm
  obtain ⟨z1,z2⟩:=(h.sit k hk q1 hq1).2 b hb
  rcases hm with hm|rfl|hm
  ·exact z1 (List.mem_append_left _ hm)
  ·exact w2 k hk hne q1 hq1 hb
  ·exact z1 (List.mem_append_right _ hm)
 ·obtain ⟨x1,x2⟩:=own_start (n:=n) (C:=upd C (hdJ n) (hdI ((a:Int)+1) (verI (C (hdJ n))+1))) (q:=(1,[])) ho q1 e
  refine ⟨x1,fun b hb=>?_⟩
  rcases x2 with x2|x2
  ·rw[x2] at hb;cases hb
  ·rw[x2] at hb;cases hb
theorem KI.give (h:KI N n B C s F S) (hB:B≤400000) {i:Nat}(hi:i<N) (hat:∀ k,k<N->∀ q,s k=some q->∃ j,atT n q j) (hn:n≤1000) {q:Q}(hq:s i=some q) {a:Nat}(ha:ownQ q=some a) (han:a<n) (hl:C (nxJ a)=fstI (C 0)) {o':Option Q}(ho:o'=none∨∃ q',o'=some q'∧(q'.1=1∨q'.1=11)) :
 KI N n (B+1) (upd C 0 (hdI ((a:Int)+1) (verI (C 0)+1))) (upd s i o') (a :: F) S:=by
 obtain ⟨y1,y2,y3⟩:=bump_hd h.va hB (by omega:0≤(a:Int)+1) (by omega)
 obtain ⟨w1,w2⟩:=(h.sit i hi q hq).2 a ha
 have e2:∀ y i,upd C 0 y (nxJ i)=C (nxJ i):=fun y i=>upd_ne _ _ (by unfold nxJ;omega)
 have e3:∀ y i,upd C 0 y (lkJ n i)=C (lkJ n i):=fun y i=>upd_ne _ _ (by unfold lkJ;omega)
 have e1:∀ y,upd C 0 y (hdJ n)=C (hdJ n):=fun y=>upd_ne _ _ (by unfold hdJ;omega)
 refine h.to hi ?_ ?_ (List.nodup_cons.2 ⟨w1,h.nd⟩) (fun b hb=>?_) (by rw[upd_same];exact y3) (by rw[e1];exact h.vb.up) (fun k hk hne q hq=>(h.sit k hk q hq).1.hd0 y2 (hat k hk q hq)) (fun k hk hne q1 b hq1 hb hm=>?_) (fun q1 e=>?_)
 ·rw[upd_same,y1]
  refine ⟨rfl,?_⟩
  show Lnk _ (upd C 0 _ (nxJ a)) F
  rw[e2,hl]
  exact h.fr.same (fun a _=>e2 _ a)
 ·rw[e1]
  exact h.st.same (fun a ha=>e3 _ a)
 ·rw[List.cons_append] at hb
  rcases List.mem_cons.1 hb with rfl|hb
  ·exact han
  ·exact h.lt b hb
 ·rw[List.cons_append] at hm
  obtain ⟨z1,z2⟩:=(h.sit k hk q1 hq1).2 b hb
  rcases List.mem_cons.1 hm with rfl|hm
  ·exact w2 k hk hne q1 hq1 hb
  ·exact z1 hm
 ·obtain ⟨x1,x2⟩:=own_start (n:=n) (C:=upd C 0 (hdI ((a:Int)+1) (verI (C 0)+1))) (q:=(1,[])) ho q1 e
  refine ⟨x1,fun b hb=>?_⟩
  rcases x2 with x2|x2
  ·rw[x2] at hb;cases hb
  ·rw[x2] at hb;cases hb
end
section
variable {N n B:Nat}{C:Nat->Int}{s:Nat->Option Q}{F S:List Nat}
theorem KI.wnx (h:KI N n B C s F S) {i:Nat}(hi:i<N) {q:Q}(hq:s i=some q) (hat:∀ k,k<N->∀ q,s k=some q->∃ j,atT n q j) {a:Nat}(ha:ownQ q=some a) (han:a<n) {y:Int}{q':Q}(hs:Sk n (upd C (nxJ a) y) q') (ho:ownQ q'=ownQ q):KI N n (B+1) (upd C (nxJ a) y) (upd s i (some q')) F S:=by
 obtain ⟨w1,w2⟩:=(h.sit i hi q hq).2 a ha
 have haF:a ∉ F:=fun e=>w1 (List.mem_append_left _ e)
 have e0:upd C (nxJ a) y 0=C 0:=upd_ne _ _ (by unfold nxJ;omega)
 have e1:upd C (nxJ a) y (hdJ n)=C (hdJ n):=upd_ne _ _ (by unfold nxJ hdJ;omega)
 have e2:∀ i,i≠a->upd C (nxJ a) y (nxJ i)=C (nxJ i):=fun i hi=>upd_ne _ _ (by unfold nxJ;omega)
 have e3:∀ i,upd C (nxJ a) y (lkJ n i)=C (lkJ n i):=fun i=>upd_ne _ _ (by unfold lkJ nxJ;omega)
 refine h.to hi ?_ ?_ h.nd h.lt (by rw[e0];exact h.va.up) (by rw[e1];exact h.vb.up) (fun k hk hne q1 hq1=>(h.sit k hk q1 hq1).1.nx h.fr han haF (w2 k hk hne q1 hq1) (hat k hk q1 hq1)) (fun k hk hne q a hq ha=>((h.sit k hk q hq).2 a ha).1) (fun q1 e=>?_)
 ·rw[e0]
  exact h.fr.same (fun b hb=>e2 b (fun e=>haF (e▸hb)))
 ·rw[e1]
  exact h.st.same (fun b hb=>e3 b)
 ·cases e
  refine ⟨hs,fun b hb=>?_⟩
  rw[ho,ha] at hb
  cases hb
  exact ⟨w1,w2⟩
theorem KI.wlk (h:KI N n B C s F S) {i:Nat}(hi:i<N) {q:Q}(hq:s i=some q) (hat:∀ k,k<N->∀ q,s k=some q->∃ j,atT n q j) {a:Nat}(ha:ownQ q=some a) {y:Int}{q':Q}(hs:Sk n (upd C (lkJ n a) y) q') (ho:ownQ q'=ownQ q):KI N n (B+1) (upd C (lkJ n a) y) (upd s i (some q')) F S:=by
 obtain ⟨w1,w2⟩:=(h.sit i hi q hq).2 a ha
 have haS:a ∉ S:=fun e=>w1 (List.mem_append_right _ e)
 have e0:upd C (lkJ n a) y 0=C 0:=upd_ne _ _ (by unfold lkJ;omega)
 have e1:upd C (lkJ n a) y (hdJ n)=C (hdJ n):=upd_ne _ _ (by unfold lkJ hdJ;omega)
 have e2:∀ i,i<n->upd C (lkJ n a) y (nxJ i)=C (nxJ i):=fun i hi=>upd_ne _ _ (by unfold nxJ lkJ;omega)
 have e3:∀ i,i≠a->upd C (lkJ n a) y (lkJ n i)=C (lkJ n i):=fun i hi=>upd_ne _ _ (by unfold lkJ;omega)
 refine h.to hi ?_ ?_ h.nd h.lt (by rw[e0];exact h.va.up) (by rw[e1];exact h.vb.up) (fun k hk hne q1 hq1=>(h.sit k hk q1 hq1).1.lk h.st haS (w2 k hk hne q1 hq1) (hat k hk q1 hq1)) (fun k hk hne q a hq ha=>((h.sit k hk q hq).2 a ha).1) (fun q1 e=>?_)
 ·rw[e0]
  exact h.fr.same (fun b hb=>e2 b (h.lt b (List.mem_append_left _ hb)))
 ·rw[e1]
  exact h.st.same (fun b hb=>e3 b (fun e=>haS (e▸hb)))
 ·cases e
  refine ⟨hs,fun b hb=>?_⟩
  rw[ho,ha] at hb
  cases hb
  exact ⟨w1,w2⟩
theorem sk_free {C:Nat->Int}{q:Q}(h:q.1≠2∧q.1≠3∧q.1≠17∧q.1≠18∧q.1≠7∧q.1≠8∧q.1≠12∧q.1≠13):Sk n C q:=⟨fun e=>by omega,fun e=>by omega,fun e=>by omega,fun e=>by omega,fun e=>by omega,fun e=>by omega,fun e=>by omega,fun e=>by omega⟩
theorem ki_turn (hn:n≤1000) (h:KI N n B C s F S) (hB:B≤400000) (hat:∀ k,k<N->∀ q,s k=some q->∃ j,atT n q j) {i:Nat}(hi:i<N) {q:Q}{j:Nat}(hq:s i=some q) (ha:atT n q j) (hx:okT n j (C j)) {o':Option Q}(ho:Nxt (Ai n q (C j)).2.2 o') :
 ∃ F' S',KI N n (B+1) (upd C j (Ai n q (C j)).2.1) (upd s i o') F' S'∧SSt q (C j) S S':=by
 obtain ⟨hsk,hso⟩:=h.sit i hi q hq
 obtain ⟨k,l⟩:=q
 unfold atT at ha
 simp only at ha
 generalize e0:l.getD 0 0=a at *
 generalize e1:l.getD 1 0=b at *
 generalize e2:l.getD 2 0=c at *
 have far:∀ {k:Nat} {x:Int},k≠8->k≠13->SSt (k,l) x S S:=fun h1 h2=>.inr (.inr ⟨fun e=>h1 e.1,fun e=>h2 e.1,rfl⟩)
 split at ha
 · -- 1
  by_cases hz:fstI (C j)=0
  ·have et:Ai n (1,l) (C j)=same (C j) (.ans 80 0):=by simp only[Ai];rw[if_pos hz]
   rw[et] at ho ⊢
   exact ⟨F,S,h.read hi hq hat (own_start ho),far (by decide) (by decide)⟩
  ·have et:Ai n (1,l) (C j)=same (C j) (.turn 1 (nxJ (slI (C j))) (2,[a,C j])):=by simp only[Ai,e0];rw[if_neg hz]
   rw[et] at ho ⊢
   have ho:o'=some (2,[a,C j]):=ho
   subst ha
   refine ⟨F,S,h.read hi hq hat (fun q' e=>?_),far (by decide) (by decide)⟩
   rw[ho] at e
   cases e
   refine ⟨⟨fun _=>?_,(by simp),(by simp),(by simp),(by simp),(by simp),(by simp),(by simp)⟩,.inl rfl⟩
   rw[Fh]
   exact Int.le_refl _
 · -- 2
  obtain ⟨a1,a2,rfl⟩:=ha
  have et:Ai n (2,l) (C (nxJ (slI b)))=same (C (nxJ (slI b))) (.turn 4 0 (3,[a,b,C (nxJ (slI b))])):=by simp only[Ai,e0,e1]
  rw[et] at ho ⊢
  have ho:o'=some (3,[a,b,C (nxJ (slI b))]):=ho
  refine ⟨F,S,h.read hi hq hat (fun q' e=>?_),far (by decide) (by decide)⟩
  rw[ho] at e
  cases e
  have h1:=hsk.ha (.inl rfl)
  simp only[e1] at h1
  refine ⟨⟨fun _=>?_,(by simp),(by simp),(by simp),fun _ _=>?_,(by simp),(by simp),(by simp)⟩,.inl rfl⟩
  ·rw[Fh]
   exact h1
  ·rw[Fh]
   rfl
 · -- 3
  obtain ⟨a1,a2,a3,a4,rfl⟩:=ha
  by_cases hxx:C 0=b
  ·have et:Ai n (3,l) (C 0)=put_ (C 0) (hdI c (verI b+1)) (.turn 2 (usJ (slI b)) (4,[a,((slI b:Nat):Int)])):=by simp only[Ai,e0,e1,e2];rw[if_pos hxx]
   rw[et] at ho ⊢
   have ho:o'=some (4,[a,((slI b:Nat):Int)]):=ho
   have h3:=hsk.n3 rfl (by simp only[e1];exact hxx)
   simp only[e1,e2] at h3
   subst hxx
   rw[ho]
   obtain ⟨F',hF'⟩:=h.take hB hi hat a3 a4 hn a1 h3 (q':=(4,[a,((slI (C 0):Nat):Int)])) rfl (by simp)
   exact ⟨F',S,hF',far (by decide) (by decide)⟩
  ·have et:Ai n (3,l) (C 0)=same (C 0) (.turn 1 0 (1,[a])):=by simp only[Ai,e0,e1,e2];rw[if_neg hxx]
   rw[et] at ho ⊢
   exact ⟨F,S,h.read hi hq hat (own_start (.inr ⟨_,ho,.inl rfl⟩)),far (by decide) (by decide)⟩
 · -- 4
  obtain ⟨a1,rfl⟩:=ha
  have et:Ai n (4,l) (C (usJ b.toNat))=put_ (C (usJ b.toNat)) 1 (.turn 2 (vlJ n b.toNat) (5,[a,b])):=by simp only[Ai,e0,e1]
  rw[et] at ho ⊢
  have ho:o'=some (5,[a,b]):=ho
  refine ⟨F,S,h.still hi hq hat (upd_ne _ _ (by unfold usJ;omega)) (upd_ne _ _ (by unfold usJ hdJ;omega)) (fun _ _=>upd_ne _ _ (by unfold usJ nxJ;omega)) (fun _ _=>upd_ne _ _ (by unfold usJ lkJ;omega)) (fun q' e=>?_),far (by decide) (by decide)⟩
  rw[ho] at e
  cases e
  exact ⟨sk_free (by simp),.inr (by simp[ownQ,←e1])⟩
 · -- 5
  obtain ⟨a1,rfl⟩:=ha
  have et:Ai n (5,l) (C (vlJ n b.toNat))=put_ (C (vlJ n b.toNat)) a (.turn 1 (hdJ n) (6,[b])):=by simp only[Ai,e0,e1]
  rw[et] at ho ⊢
  have ho:o'=some (6,[b]):=ho
  refine ⟨F,S,h.still hi hq hat (upd_ne _ _ (by unfold vlJ;omega)) (upd_ne _ _ (by unfold vlJ hdJ;omega)) (fun _ _=>upd_ne _ _ (by unfold vlJ nxJ;omega)) (fun _ _=>upd_ne _ _ (by unfold vlJ lkJ;omega)) (fun q' e=>?_),far (by decide) (by decide)⟩
  rw[ho] at e
  cases e
  exact ⟨sk_free (by simp),.inr (by simp[ownQ,←e1])⟩
 · -- 6
  obtain ⟨a1,rfl⟩:=ha
  have et:Ai n (6,l) (C (hdJ n))=same (C (hdJ n)) (.turn 2 (lkJ n a.toNat) (7,[a,C (hdJ n)])):=by simp only[Ai,e0]
  rw[et] at ho ⊢
  have ho:o'=some (7,[a,C (hdJ n)]):=ho
  refine ⟨F,S,h.read hi hq hat (fun q' e=>?_),far (by decide) (by decide)⟩
  rw[ho] at e
  cases e
  refine ⟨⟨(by simp),(by simp),fun _=>?_,(by simp),(by simp),(by simp),(by simp),(by simp)⟩,.inr (by simp[ownQ,←e0])⟩
  rw[Fh]
  exact Int.le_refl _
 · -- 7
  obtain ⟨a1,a2,rfl⟩:=ha
  have et:Ai n (7,l) (C (lkJ n a.toNat))=put_ (C (lkJ n a.toNat)) (fstI b) (.turn 4 (hdJ n) (8,[a,b])):=by simp only[Ai,e0,e1]
  rw[et] at ho ⊢
  have ho:o'=some (8,[a,b]):=ho
  have h1:=hsk.hb (.inl rfl)
  simp only[e1] at h1
  rw[ho]
  refine ⟨F,S,h.wlk hi hq hat (a:=a.toNat) (by simp[ownQ,←e0]) ⟨(by simp),(by simp),fun _=>?_,(by simp),(by simp),(by simp),fun _=>?_,(by simp)⟩ (by simp[ownQ,←e0]),far (by decide) (by decide)⟩
  ·rw[upd_ne _ _ (by unfold lkJ hdJ;omega)]
   exact h1
  ·exact upd_same _ _ _
 · -- 8
  obtain ⟨a1,rfl⟩:=ha
  by_cases hxx:C (hdJ n)=b
  ·have et:Ai n (8,l) (C (hdJ n))=put_ (C (hdJ n)) (hdI (a+1) (verI b+1)) (.ans 0 0):=by simp only[Ai,e0,e1];rw[if_pos hxx]
   rw[et] at ho ⊢
   have h3:=hsk.n8 rfl
   simp only[e0,e1] at h3
   subst hxx
   have ea:((a.toNat:Nat):Int)=a:=by unfold D8 at a1;omega
   have:=h.push hB hi hat hn hq (a:=a.toNat) (by simp[ownQ,←e0]) (by unfold D8 at a1;omega) h3 ho
   rw[ea] at this
   exact ⟨F,_,this,.inl ⟨rfl,e1.symm,by simp only[e0]⟩⟩
  ·have et:Ai n (8,l) (C (hdJ n))=same (C (hdJ n)) (.turn 1 (hdJ n) (6,[a])):=by simp only[Ai,e0,e1];rw[if_neg hxx]
   rw[et] at ho ⊢
   have ho:o'=some (6,[a]):=ho
   refine ⟨F,S,h.read hi hq hat (fun q' e=>?_),.inr (.inr ⟨fun e=>hxx (by have:=e.2;simp only[e1] at this;exact this),fun e=>(by cases e.1),rfl⟩)⟩
   rw[ho] at e
   cases e
   exact ⟨sk_free (by simp),.inr (by simp[ownQ,←e0])⟩
 · -- 11
  subst ha
  by_cases hz:fstI (C (hdJ n))=0
  ·have et:Ai n (11,l) (C (hdJ n))=same (C (hdJ n)) (.ans 90 0):=by simp only[Ai];rw[if_pos hz]
   rw[et] at ho ⊢
   exact ⟨F,S,h.read hi hq hat (own_start ho),far (by decide) (by decide)⟩
  ·have et:Ai n (11,l) (C (hdJ n))=same (C (hdJ n)) (.turn 1 (lkJ n (slI (C (hdJ n)))) (12,[C (hdJ n)])):=by simp only[Ai,e0];rw[if_neg hz]
   rw[et] at ho ⊢
   have ho:o'=some (12,[C (hdJ n)]):=ho
   refine ⟨F,S,h.read hi hq hat (fun q' e=>?_),far (by decide) (by decide)⟩
   rw[ho] at e
   cases e
   refine ⟨⟨(by simp),(by simp),(by simp),fun _=>?_,(by simp),(by simp),(by simp),(by simp)⟩,.inl rfl⟩
   rw[Fh]
   exact Int.le_refl _
 · -- 12
  obtain ⟨a1,a2,rfl⟩:=ha
  have et:Ai n (12,l) (C (lkJ n (slI a)))=same (C (lkJ n (slI a))) (.turn 4 (hdJ n) (13,[a,C (lkJ n (slI a))])):=by simp only[Ai,e0,e1]
  rw[et] at ho ⊢
  have ho:o'=some (13,[a,C (lkJ n (slI a))]):=ho
  refine ⟨F,S,h.read hi hq hat (fun q' e=>?_),far (by decide) (by decide)⟩
  rw[ho] at e
  cases e
  have h1:=hsk.hb2 (.inl rfl)
  simp only[e0] at h1
  refine ⟨⟨(by simp),(by simp),(by simp),fun _=>?_,(by simp),fun _ _=>?_,(by simp),(by simp)⟩,.inl rfl⟩
  ·rw[Fh]
   exact h1
  ·rw[Fh]
   rfl
 · -- 13
  obtain ⟨a1,a2,a3,a4,rfl⟩:=ha
  by_cases hxx:C (hdJ n)=a
  ·have et:Ai n (13,l) (C (hdJ n))=put_ (C (hdJ n)) (hdI b (verI a+1)) (.turn 1 (vlJ n (slI a)) (14,[((slI a:Nat):Int)])):=by simp only[Ai,e0,e1,e2];rw[if_pos hxx]
   rw[et] at ho ⊢
   have ho:o'=some (14,[((slI a:Nat):Int)]):=ho
   have h3:=hsk.n13 rfl (by simp only[e0];exact hxx)
   simp only[e0,e1] at h3
   subst hxx
   rw[ho]
   obtain ⟨S',hS',hF'⟩:=h.pop hB hi hat a3 a4 hn a1 h3 (q':=(14,[((slI (C (hdJ n)):Nat):Int)])) rfl (by simp)
   exact ⟨F,S',hF',.inr (.inl ⟨rfl,e0.symm,hS'⟩)⟩
  ·have et:Ai n (13,l) (C (hdJ n))=same (C (hdJ n)) (.turn 1 (hdJ n) (11,[])):=by simp only[Ai,e0,e1,e2];rw[if_neg hxx]
   rw[et] at ho ⊢
   exact ⟨F,S,h.read hi hq hat (own_start (.inr ⟨_,ho,.inr rfl⟩)),.inr (.inr ⟨fun e=>(by cases e.1),fun e=>hxx (by have:=e.2;simp only[e0] at this;exact this),rfl⟩)⟩
 · -- 14
  obtain ⟨a1,rfl⟩:=ha
  have et:Ai n (14,l) (C (vlJ n a.toNat))=same (C (vlJ n a.toNat)) (.turn 4 (usJ a.toNat) (15,[a,C (vlJ n a.toNat)])):=by simp only[Ai,e0,e1]
  rw[et] at ho ⊢
  have ho:o'=some (15,[a,C (vlJ n a.toNat)]):=ho
  refine ⟨F,S,h.read hi hq hat (fun q' e=>?_),far (by decide) (by decide)⟩
  rw[ho] at e
  cases e
  exact ⟨sk_free (by simp),.inr (by simp[ownQ,←e0])⟩
 · -- 15
  obtain ⟨a1,rfl⟩:=ha
  by_cases hxx:C (usJ a.toNat)=1
  ·have et:Ai n (15,l) (C (usJ a.toNat))=put_ (C (usJ a.toNat)) 0 (.turn 1 0 (16,[a,b])):=by simp only[Ai,e0,e1];rw[if_pos hxx]
   rw[et] at ho ⊢
   have ho:o'=some (16,[a,b]):=ho
   refine ⟨F,S,h.still hi hq hat (upd_ne _ _ (by unfold usJ;omega)) (upd_ne _ _ (by unfold usJ hdJ;omega)) (fun _ _=>upd_ne _ _ (by unfold usJ nxJ;omega)) (fun _ _=>upd_ne _ _ (by unfold usJ lkJ;omega)) (fun q' e=>?_),far (by decide) (by decide)⟩
   rw[ho] at e
   cases e
   exact ⟨sk_free (by simp),.inr (by simp[ownQ,←e0])⟩
  ·have et:Ai n (15,l) (C (usJ a.toNat))=same (C (usJ a.toNat)) (.ans 0 b):=by simp only[Ai,e0,e1];rw[if_neg hxx]
   rw[et] at ho ⊢
   exact ⟨F,S,h.read hi hq hat (own_start ho),far (by decide) (by decide)⟩
 · -- 16
  obtain ⟨a1,rfl⟩:=ha
  have et:Ai n (16,l) (C 0)=same (C 0) (.turn 2 (nxJ a.toNat) (17,[a,b,C 0])):=by simp only[Ai,e0,e1]
  rw[et] at ho ⊢
  have ho:o'=some (17,[a,b,C 0]):=ho
  refine ⟨F,S,h.read hi hq hat (fun q' e=>?_),far (by decide) (by decide)⟩
  rw[ho] at e
  cases e
  refine ⟨⟨(by simp),fun _=>?_,(by simp),(by simp),(by simp),(by simp),(by simp),(by simp)⟩,.inr (by simp[ownQ,←e0])⟩
  rw[Fh]
  exact Int.le_refl _
 · -- 17
  obtain ⟨a1,a2,rfl⟩:=ha
  have et:Ai n (17,l) (C (nxJ a.toNat))=put_ (C (nxJ a.toNat)) (fstI c) (.turn 4 0 (18,[a,b,c])):=by simp only[Ai,e0,e1,e2]
  rw[et] at ho ⊢
  have ho:o'=some (18,[a,b,c]):=ho
  have h1:=hsk.ha2 (.inl rfl)
  simp only[e2] at h1
  rw[ho]
  refine ⟨F,S,h.wnx hi hq hat (a:=a.toNat) (by simp[ownQ,←e0]) (by unfold D8 at a1;omega) ⟨(by simp),fun _=>?_,(by simp),(by simp),(by simp),(by simp),(by simp),fun _=>?_⟩ (by simp[ownQ,←e0]),far (by decide) (by decide)⟩
  ·rw[upd_ne _ _ (by unfold nxJ;omega)]
   exact h1
  ·exact upd_same _ _ _
 · -- 18
  obtain ⟨a1,rfl⟩:=ha
  by_cases hxx:C 0=c
  ·have et:Ai n (18,l) (C 0)=put_ (C 0) (hdI (a+1) (verI c+1)) (.ans 0 b):=by simp only[Ai,e0,e1,e2];rw[if_pos hxx]
   rw[et] at ho ⊢
   have h3:=hsk.n18 rfl
   simp only[e0,e2] at h3
   subst hxx
   have ea:((a.toNat:Nat):Int)=a:=by unfold D8 at a1;omega
   have:=h.give hB hi hat hn hq (a:=a.toNat) (by simp[ownQ,←e0]) (by unfold D8 at a1;omega) h3 ho
   rw[ea] at this
   exact ⟨_,S,this,far (by decide) (by decide)⟩
  ·have et:Ai n (18,l) (C 0)=same (C 0) (.turn 1 0 (16,[a,b])):=by simp only[Ai,e0,e1,e2];rw[if_neg hxx]
   rw[et] at ho ⊢
   have ho:o'=some (16,[a,b]):=ho
   refine ⟨F,S,h.read hi hq hat (fun q' e=>?_),far (by decide) (by decide)⟩
   rw[ho] at e
   cases e
   exact ⟨sk_free (by simp),.inr (by simp[ownQ,←e0])⟩
 ·exact ha.elim
end
def cAt (sc:List Cl) (m:Nat):Cl:=(sc[m]?).getD ⟨0,0,0,0⟩
def aAt (ans:List (Int×Int)) (m:Nat):Int×Int:=(ans[m]?).getD (1,0)
def putW (c:Cl) (a:Int×Int):List Int:=if c.po=1∧a.1=0 then [c.ca] else []
def tolW (c:Cl) (a:Int×Int):List Int:=if c.po=2∧a.1=0 then [a.2] else []
def putL (sc:List Cl) (ans:List (Int×Int)):Nat->List Int
 |0=>[]
 |m+1=>putL sc ans m++putW (cAt sc m) (aAt ans m)
def tolL (sc:List Cl) (ans:List (Int×Int)):Nat->List Int
 |0=>[]
 |m+1=>tolL sc ans m++tolW (cAt sc m) (aAt ans m)
theorem aAt_set_far {ans:List (Int×Int)}{ii m:Nat}{y:Int×Int}(h:m≠ii):aAt (ans.set ii y) m=aAt ans m:=by
 unfold aAt;rw[List.getElem?_set,if_neg (fun e=>h e.symm)]
theorem aAt_set_self {ans:List (Int×Int)}{ii:Nat}{y:Int×Int}(h:ii<ans.length):aAt (ans.set ii y) ii=y:=by
 unfold aAt;rw[List.getElem?_set,if_pos rfl,if_pos h];rfl
theorem putL_set {sc:List Cl}{ans:List (Int×Int)}{ii:Nat}{y:Int×Int}:∀ m,m≤ii->putL sc (ans.set ii y) m=putL sc ans m∧tolL sc (ans.set ii y) m=tolL sc ans m
 |0,_=>⟨rfl,rfl⟩
 |m+1,h=>by
  have:=putL_set (sc:=sc) (ans:=ans) (ii:=ii) (y:=y) m (by omega)
  unfold putL tolL
  rw[this.1,this.2,aAt_set_far (by omega)]
  exact ⟨rfl,rfl⟩
theorem putL_next {sc:List Cl}{ans:List (Int×Int)}{ii:Nat}{y:Int×Int}(h:ii<ans.length):putL sc (ans.set ii y) (ii+1)=putL sc ans ii++putW (cAt sc ii) y∧tolL sc (ans.set ii y) (ii+1)=tolL sc ans ii++tolW (cAt sc ii) y:=by
 have:=putL_set (sc:=sc) (ans:=ans) (y:=y) ii (Nat.le_refl _)
 show putL sc (ans.set ii y) ii++putW (cAt sc ii) (aAt (ans.set ii y) ii)=_∧tolL sc (ans.set ii y) ii++tolW (cAt sc ii) (aAt (ans.set ii y) ii)=_
 rw[this.1,this.2,aAt_set_self h]
 exact ⟨rfl,rfl⟩
def H8:Ph->Option Q
 |.turn _ _ q _ _ _=>some q
 |_=>none
def putP (sc:List Cl):Ph->List Int
 |.turn _ _ _ _ ii ans=>putL sc ans ii
 |.wait _ _ _ ii ans=>putL sc ans ii
 |.done ans=>putL sc ans sc.length
def tolP (sc:List Cl):Ph->List Int
 |.turn _ _ _ _ ii ans=>tolL sc ans ii
 |.wait _ _ _ ii ans=>tolL sc ans ii
 |.done ans=>tolL sc ans sc.length
def flQ (n:Nat) (C:Nat->Int) (q:Q):List Int :=
 if q.1=14 then [C (vlJ n (q.2.getD 0 0).toNat)] else if 15≤q.1∧q.1≤18 then [q.2.getD 1 0] else []
def flP (n:Nat) (C:Nat->Int):Ph->List Int
 |.turn _ _ q _ _ _=>flQ n C q
 |_=>[]
structure CallQ (n:Nat) (C:Nat->Int) (c:Cl) (q:Q):Prop where
 p1:q.1≤8->c.po=1
 p2:11≤q.1->c.po=2
 v1:q.1≤5->q.2.getD 0 0=c.ca
 v2:6≤q.1->q.1≤8->C (vlJ n (q.2.getD 0 0).toNat)=c.ca
def SeatC (n:Nat) (C:Nat->Int) (sc:List Cl):Ph->Prop
 |.turn _ _ q rest ii ans=>ii<sc.length∧sc.drop (ii+1)=rest∧ans.length=sc.length∧CallQ n C (cAt sc ii) q
 |.wait _ _ _ _ _=>False
 |.done ans=>ans.length=sc.length
theorem fw_c {n i:Nat}{stk:Bool}{rest:List Cl}{ii:Nat}{sk:Bool}{ans:List (Int×Int)}{X:List Stp}{l:Ph}(h:Fw (mcT n) i stk rest ii sk ans X l) (sc:List Cl) (C:Nat->Int):sk=false->ii≤sc.length->sc.drop ii=rest->ans.length=sc.length ->
 SeatC n C sc l∧putP sc l=putL sc ans ii∧tolP sc l=tolL sc ans ii∧flP n C l=[]∧(H8 l=none∨∃ q',H8 l=some q'∧(q'.1=1∨q'.1=11)):=by
 induction h with
 |@nil ii sk ans =>
  intro _ h1 h2 h3
  have:ii=sc.length:=by have:=congrArg List.length h2;simp at this;omega
  subst this
  exact ⟨h3,rfl,rfl,rfl,.inl rfl⟩
 |skip _ _=>intro h;cases h
 |@ans c rest ii ans X l e x hs hf ih =>
  intro _ h1 h2 h3
  have hlt:ii<sc.length:=by
   rcases Nat.lt_or_ge ii sc.length with h|h
   ·exact h
   ·rw[List.drop_eq_nil_of_le h] at h2;cases h2
  have hc:cAt sc ii=c:=by
   have:=congrArg List.head? h2
   rw[List.head?_drop] at this
   unfold cAt;rw[this];rfl
  have e0:(mcT n).start i c=if c.po=1 then .turn 1 0 (1,[c.ca]) else if c.po=2 then .turn 1 (hdJ n) (11,[]) else .ans 1 0:=rfl
  rw[e0] at hs
  by_cases q1:c.po=1
  ·rw[if_pos q1] at hs;cases hs
  ·by_cases q2:c.po=2
   ·rw[if_neg q1,if_pos q2] at hs;cases hs
   ·rw[if_neg q1,if_neg q2] at hs
    cases hs
    have hd:sc.drop (ii+1)=rest:=by rw[←List.drop_drop,h2];rfl
    obtain ⟨i1,i2,i3,i4,i5⟩:=ih (by decide) (by omega) hd (by rw[List.length_set];exact h3)
    have hp:=putL_next (sc:=sc) (ans:=ans) (ii:=ii) (y:=(1,0)) (by omega)
    refine ⟨i1,?_,?_,i4,i5⟩
    ·rw[i2,hp.1];simp[putW]
    ·rw[i3,hp.2];simp[tolW]
 |@turn c rest ii ans op j q hs =>
  intro _ h1 h2 h3
  have hlt:ii<sc.length:=by
   rcases Nat.lt_or_ge ii sc.length with h|h
   ·exact h
   ·rw[List.drop_eq_nil_of_le h] at h2;cases h2
  have hc:cAt sc ii=c:=by
   have:=congrArg List.head? h2
   rw[List.head?_drop] at this
   unfold cAt;rw[this];rfl
  have hd:sc.drop (ii+1)=rest:=by rw[←List.drop_drop,h2];rfl
  have e0:(mcT n).start i c=if c.po=1 then .turn 1 0 (1,[c.ca]) else if c.po=2 then .turn 1 (hdJ n) (11,[]) else .ans 1 0:=rfl
  rw[e0] at hs
  by_cases q1:c.po=1
  ·rw[if_pos q1] at hs
   cases hs
   exact ⟨⟨hlt,hd,h3,⟨fun _=>by rw[hc];exact q1,fun h=>absurd h (by show ¬ 11≤1;decide),fun _=>by rw[hc];rfl,fun h=>absurd h (by show ¬ 6≤1;decide)⟩⟩,rfl,rfl,rfl,.inr ⟨_,rfl,.inl rfl⟩⟩
  ·by_cases q2:c.po=2
   ·rw[if_neg q1,if_pos q2] at hs
    cases hs
    exact ⟨⟨hlt,hd,h3,⟨fun h=>absurd h (by show ¬ 11≤8;decide),fun _=>by rw[hc];exact q2,fun h=>absurd h (by show ¬ 11≤5;decide),fun _ h=>absurd h (by show ¬ 11≤8;decide)⟩⟩,rfl,rfl,rfl,.inr ⟨_,rfl,.inr rfl⟩⟩
   ·rw[if_neg q1,if_neg q2] at hs
    cases hs
 |@wait c rest ii ans j q hs =>
  intro _ h1 h2 h3
  exfalso
  have e0:(mcT n).start i c=if c.po=1 then .turn 1 0 (1,[c.ca]) else if c.po=2 then .turn 1 (hdJ n) (11,[]) else .ans 1 0:=rfl
  rw[e0] at hs
  by_cases q1:c.po=1
  ·rw[if_pos q1] at hs;cases hs
  ·by_cases q2:c.po=2
   ·rw[if_neg q1,if_pos q2] at hs;cases hs
   ·rw[if_neg q1,if_neg q2] at hs
    cases hs
theorem on_c {n i:Nat}{stk:Bool}{rest:List Cl}{ii:Nat}{ans:List (Int×Int)}{nx:Nx}{X:List Stp}{l':Ph}(h:On (mcT n) i stk rest ii ans nx X l') (sc:List Cl) (C:Nat->Int) (hii:ii<sc.length) (hd:sc.drop (ii+1)=rest) (ha:ans.length=sc.length) (h4:∀ e x,nx=.ans e x->e≠4) (hw:∀ j q,nx≠.wait j q) (hq:∀ op j q,nx=.turn op j q->CallQ n C (cAt sc ii) q) :
 SeatC n C sc l'∧Nxt nx (H8 l')∧(∀ e x,nx=.ans e x->putP sc l'=putL sc ans ii++putW (cAt sc ii) (e,x)∧tolP sc l'=tolL sc ans ii++tolW (cAt sc ii) (e,x)∧flP n C l'=[])∧(∀ op j q,nx=.turn op j q->putP sc l'=putL sc ans ii∧tolP sc l'=tolL sc ans ii∧flP n C l'=flQ n C q):=by
 cases h with
 |@ans e x X l hf =>
  have:=h4 e x rfl
  obtain ⟨i1,i2,i3,i4,i5⟩:=fw_c hf sc C (by simpa using this) (by omega) hd (by rw[List.length_set];exact ha)
  have hp:=putL_next (sc:=sc) (ans:=ans) (ii:=ii) (y:=(e,x)) (by omega)
  refine ⟨i1,i5,fun e' x' he=>?_,fun op j q he=>by cases he⟩
  cases he
  exact ⟨by rw[i2,hp.1],by rw[i3,hp.2],i4⟩
 |@turn op j q=>exact ⟨⟨hii,hd,ha,hq op j q rfl⟩,rfl,(fun e x he=>by cases he),fun op' j' q' he=>by cases he;exact ⟨rfl,rfl,rfl⟩⟩
 |wait=>exact absurd rfl (hw _ _)
def totN (f:Nat->Nat):Nat->Nat
 |0=>0
 |k+1=>totN f k+f k
theorem Ii {f g:Nat->Nat}:∀ N,(∀ k,k<N->g k=f k)->totN g N=totN f N
 |0,_=>rfl
 |N+1,h=>by unfold totN;rw[Ii N (fun k hk=>h k (by omega)),h N (by omega)]
theorem totN_one {f g:Nat->Nat}{i:Nat}:∀ N,i<N->(∀ k,k<N->k≠i->g k=f k)->totN g N+f i=totN f N+g i
 |0,h,_=>by omega
 |N+1,h,ho=>by
  unfold totN
  by_cases e:i=N
  ·subst e
   rw[Ii i (fun k hk=>ho k (by omega) (by omega))]
   omega
  ·have:=totN_one N (by omega) (fun k hk hne=>ho k (by omega) hne)
   rw[ho N (by omega) (fun e'=>e e'.symm)]
   omega
theorem turnT_e {n:Nat}{q:Q}{x e y:Int}(h:(Ai n q x).2.2=.ans e y):e≠4:=by
 unfold Ai at h
 simp only[same,put_] at h
 repeat (split at h<;>try (cases h<;>try decide))
section
variable {n:Nat}{C:Nat->Int}
theorem call_next {c:Cl}{q:Q}{j:Nat}(ha:atT n q j) (hc:CallQ n C c q) {op:Int}{j':Nat}{q':Q}(h:(Ai n q (C j)).2.2=.turn op j' q'):CallQ n (upd C j (Ai n q (C j)).2.1) c q':=by
 obtain ⟨p1,p2,v1,v2⟩:=hc
 obtain ⟨k,l⟩:=q
 unfold atT at ha
 simp only at ha p1 p2 v1 v2
 generalize e0:l.getD 0 0=a at *
 generalize e1:l.getD 1 0=b at *
 generalize e2:l.getD 2 0=c2 at *
 split at ha
 ·simp only[Ai,same,e0,e1,e2] at h ⊢
  split at h<;>cases h
  exact ⟨fun _=>p1 (by decide),fun h=>absurd h (by simp),fun _=>v1 (by decide),fun h=>absurd h (by simp)⟩
 ·simp only[Ai,same,e0,e1,e2] at h ⊢
  cases h
  exact ⟨fun _=>p1 (by decide),fun h=>absurd h (by simp),fun _=>v1 (by decide),fun h=>absurd h (by simp)⟩
 ·simp only[Ai,e0,e1,e2] at h ⊢
  split at h<;>(simp only[same,put_] at h;cases h)
  ·exact ⟨fun _=>p1 (by decide),fun h=>absurd h (by simp),fun _=>v1 (by decide),fun h=>absurd h (by simp)⟩
  ·exact ⟨fun _=>p1 (by decide),fun h=>absurd h (by simp),fun _=>v1 (by decide),fun h=>absurd h (by simp)⟩
 ·simp only[Ai,put_,e0,e1,e2] at h ⊢
  cases h
  exact ⟨fun _=>p1 (by decide),fun h=>absurd h (by simp),fun _=>v1 (by decide),fun h=>absurd h (by simp)⟩
 ·obtain ⟨a1,rfl⟩:=ha
  simp only[Ai,put_,e0,e1,e2] at h ⊢
  cases h
  refine ⟨fun _=>p1 (by decide),fun h=>absurd h (by simp),fun h=>absurd h (by simp),fun _ _=>?_⟩
  show upd C (vlJ n b.toNat) a (vlJ n b.toNat)=c.ca
  rw[upd_same]
  exact v1 (by decide)
 ·simp only[Ai,same,e0,e1,e2] at h ⊢
  cases h
  refine ⟨fun _=>p1 (by decide),fun h=>absurd h (by simp),fun h=>absurd h (by simp),fun _ _=>?_⟩
  show upd C j (C j) (vlJ n a.toNat)=c.ca
  rw[Fh]
  exact v2 (by decide) (by decide)
 ·obtain ⟨a1,a2,rfl⟩:=ha
  simp only[Ai,put_,e0,e1,e2] at h ⊢
  cases h
  refine ⟨fun _=>p1 (by decide),fun h=>absurd h (by simp),fun h=>absurd h (by simp),fun _ _=>?_⟩
  show upd C (lkJ n a.toNat) (fstI b) (vlJ n a.toNat)=c.ca
  rw[upd_ne _ _ (by unfold lkJ vlJ;omega)]
  exact v2 (by decide) (by decide)
 ·obtain ⟨a1,rfl⟩:=ha
  by_cases hxx:C (hdJ n)=b
  ·have et:Ai n (8,l) (C (hdJ n))=put_ (C (hdJ n)) (hdI (a+1) (verI b+1)) (.ans 0 0):=by simp only[Ai,e0,e1];rw[if_pos hxx]
   rw[et] at h;cases h
  ·have et:Ai n (8,l) (C (hdJ n))=same (C (hdJ n)) (.turn 1 (hdJ n) (6,[a])):=by simp only[Ai,e0,e1];rw[if_neg hxx]
   rw[et] at h ⊢
   cases h
   refine ⟨fun _=>p1 (by decide),fun h=>absurd h (by simp),fun h=>absurd h (by simp),fun _ _=>?_⟩
   show upd C (hdJ n) (C (hdJ n)) (vlJ n a.toNat)=c.ca
   rw[Fh]
   exact v2 (by decide) (by decide)
 all_goals first
  |exact ha.elim
  |(simp only[Ai,same,put_,e0,e1,e2] at h
    first
    |(cases h
      exact ⟨fun h=>absurd h (by simp),fun _=>p2 (by decide),fun h=>absurd h (by simp),fun _ h=>absurd h (by simp)⟩)
    |(split at h<;>cases h <;>
      exact ⟨fun h=>absurd h (by simp),fun _=>p2 (by decide),fun h=>absurd h (by simp),fun _ h=>absurd h (by simp)⟩))
theorem vl_same {q:Q}{j:Nat}(ha:atT n q j) {a':Nat}(hne:q.1=5->a'≠(q.2.getD 1 0).toNat):upd C j (Ai n q (C j)).2.1 (vlJ n a')=C (vlJ n a'):=by
 by_cases hj:vlJ n a'=j
 ·obtain ⟨k,l⟩:=q
  unfold atT at ha
  simp only at ha hne
  split at ha
  all_goals first
   |exact ha.elim
   |(exfalso
     have h5:=hne rfl
     have h6:=ha.2
     unfold vlJ at hj h6
     omega)
   |(exfalso
     simp only[vlJ,nxJ,usJ,lkJ,hdJ,slI,D8] at hj ha
     omega)
   |(simp only[Ai,same]
     exact Fh _ _ _)
 ·exact upd_ne _ _ hj
end
section
variable {n:Nat}{C C':Nat->Int}
structure Bal (n:Nat) (C C':Nat->Int) (sc:List Cl) (ans:List (Int×Int)) (ii:Nat) (q:Q) (l':Ph) (S S':List Nat):Prop where
 eq:∀ z,(putP sc l').count z+((tolL sc ans ii).count z+(flQ n C q).count z)+(S.map fun a=>C (vlJ n a)).count z=(putL sc ans ii).count z+((tolP sc l').count z+(flP n C' l').count z)+(S'.map fun a=>C (vlJ n a)).count z
theorem bal_i {sc:List Cl}{ans:List (Int×Int)}{ii:Nat}{q:Q}{j:Nat}{l':Ph}{S S':List Nat}(ha:atT n q j) (hc:CallQ n C (cAt sc ii) q) (hS:SSt q (C j) S S') (hv:∀ a',(q.1=5->a'≠(q.2.getD 1 0).toNat)->C' (vlJ n a')=C (vlJ n a'))
 (h1:∀ e x,(Ai n q (C j)).2.2=.ans e x->putP sc l'=putL sc ans ii++putW (cAt sc ii) (e,x)∧tolP sc l'=tolL sc ans ii++tolW (cAt sc ii) (e,x)∧flP n C' l'=[]) (h2:∀ op j' q',(Ai n q (C j)).2.2=.turn op j' q'->putP sc l'=putL sc ans ii∧tolP sc l'=tolL sc ans ii∧flP n C' l'=flQ n C' q'):Bal n C C' sc ans ii q l' S S':=by
 obtain ⟨p1,p2,v1,v2⟩:=hc
 obtain ⟨k,l⟩:=q
 unfold atT at ha
 simp only at ha p1 p2 v1 v2 hv
 simp only[SSt] at hS
 refine ⟨fun z=>?_⟩
 generalize e0:l.getD 0 0=a at *
 generalize e1:l.getD 1 0=b at *
 generalize e2:l.getD 2 0=c2 at *
 have plain:∀ {op:Int} {j':Nat} {q':Q},(Ai n (k,l) (C j)).2.2=.turn op j' q'->S'=S->flQ n C' q'=flQ n C (k,l)->(putP sc l').count z+((tolL sc ans ii).count z+(flQ n C (k,l)).count z)+(S.map fun a=>C (vlJ n a)).count z=(putL sc ans ii).count z+((tolP sc l').count z+(flP n C' l').count z)+(S'.map fun a=>C (vlJ n a)).count z:=fun e eS ef=>by
  obtain ⟨x1,x2,x3⟩:=h2 _ _ _ e
  rw[x1,x2,x3,ef,eS]
 have fin:∀ {e x:Int},(Ai n (k,l) (C j)).2.2=.ans e x->S'=S->e≠0->k<14->(putP sc l').count z+((tolL sc ans ii).count z+(flQ n C (k,l)).count z)+(S.map fun a=>C (vlJ n a)).count z=(putL sc ans ii).count z+((tolP sc l').count z+(flP n C' l').count z)+(S'.map fun a=>C (vlJ n a)).count z:=fun {e x} he eS hne hk=>by
  obtain ⟨x1,x2,x3⟩:=h1 _ _ he
  have hf:flQ n C (k,l)=[]:=by unfold flQ;rw[if_neg (by simp only;omega),if_neg (by simp only;omega)]
  rw[x1,x2,x3,eS,hf]
  simp[putW,tolW,hne]
 have stay:k≠8->k≠13->S'=S:=fun h8 h13=>by
  rcases hS with h|h|h
  ·exact absurd h.1 h8
  ·exact absurd h.1 h13
  ·exact h.2.2
 split at ha
 ·by_cases hz:fstI (C j)=0
  ·exact fin (e:=80) (x:=0) (by simp only[Ai,same];rw[if_pos hz]) (stay (by decide) (by decide)) (by decide) (by decide)
  ·exact plain (by simp only[Ai,same];rw[if_neg hz]) (stay (by decide) (by decide)) rfl
 ·exact plain rfl (stay (by decide) (by decide)) rfl
 ·by_cases hxx:C j=b
  ·exact plain (by simp only[Ai,put_,e1];rw[if_pos hxx]) (stay (by decide) (by decide)) rfl
  ·exact plain (by simp only[Ai,same,e1];rw[if_neg hxx]) (stay (by decide) (by decide)) rfl
 ·exact plain rfl (stay (by decide) (by decide)) rfl
 ·exact plain rfl (stay (by decide) (by decide)) rfl
 ·exact plain rfl (stay (by decide) (by decide)) rfl
 ·exact plain rfl (stay (by decide) (by decide)) rfl
 ·obtain ⟨a1,rfl⟩:=ha
  by_cases hxx:C (hdJ n)=b
  ·have et:(Ai n (8,l) (C (hdJ n))).2.2=.ans 0 0:=by simp only[Ai,put_,e1];rw[if_pos hxx]
   obtain ⟨x1,x2,x3⟩:=h1 _ _ et
   have eS:S'=a.toNat :: S:=by
    rcases hS with h|h|h
    ·exact h.2.2
    ·cases h.1
    ·exact absurd ⟨rfl,hxx⟩ h.1
   have hp:=p1 (by decide)
   have hva:=v2 (by decide) (by decide)
   have hf:flQ n C (8,l)=[]:=rfl
   rw[x1,x2,x3,eS,hf]
   simp only[putW,tolW,hp,List.count_append,List.map_cons,List.count_cons,hva]
   simp[List.count_cons]
   omega
  ·have eS:S'=S:=by
    rcases hS with h|h|h
    ·exact absurd h.2.1 hxx
    ·cases h.1
    ·exact h.2.2
   exact plain (by simp only[Ai,same,e1];rw[if_neg hxx]) eS rfl
 ·by_cases hz:fstI (C j)=0
  ·exact fin (e:=90) (x:=0) (by simp only[Ai,same];rw[if_pos hz]) (stay (by decide) (by decide)) (by decide) (by decide)
  ·exact plain (by simp only[Ai,same];rw[if_neg hz]) (stay (by decide) (by decide)) rfl
 ·exact plain rfl (stay (by decide) (by decide)) rfl
 ·obtain ⟨a1,a2,a3,a4,rfl⟩:=ha
  by_cases hxx:C (hdJ n)=a
  ·have et:(Ai n (13,l) (C (hdJ n))).2.2=.turn 1 (vlJ n (slI a)) (14,[((slI a:Nat):Int)]):=by simp only[Ai,put_,e0];rw[if_pos hxx]
   obtain ⟨x1,x2,x3⟩:=h2 _ _ _ et
   have eS:S=slI a :: S':=by
    rcases hS with h|h|h
    ·cases h.1
    ·rw[←hxx];exact h.2.2
    ·exact absurd ⟨rfl,hxx⟩ h.2.1
   have hf:flQ n C (13,l)=[]:=rfl
   have hf2:flQ n C' (14,[((slI a:Nat):Int)])=[C (vlJ n (slI a))]:=by
    show [C' (vlJ n (((slI a:Nat):Int)).toNat)]=_
    rw[Int.toNat_natCast,hv _ (fun h=>absurd h (by decide))]
   rw[x1,x2,x3,eS,hf,hf2]
   simp only[List.map_cons,List.count_cons,List.count_nil]
   omega
  ·have eS:S'=S:=by
    rcases hS with h|h|h
    ·cases h.1
    ·exact absurd h.2.1 hxx
    ·exact h.2.2
   exact plain (by simp only[Ai,same,e0];rw[if_neg hxx]) eS rfl
 ·obtain ⟨a1,rfl⟩:=ha
  have et:(Ai n (14,l) (C (vlJ n a.toNat))).2.2=.turn 4 (usJ a.toNat) (15,[a,C (vlJ n a.toNat)]):=by simp only[Ai,same,e0]
  refine plain et (stay (by decide) (by decide)) ?_
  show [C (vlJ n a.toNat)]=[C (vlJ n (l.getD 0 0).toNat)]
  rw[e0]
 ·by_cases hxx:C j=1
  ·have et:(Ai n (15,l) (C j)).2.2=.turn 1 0 (16,[a,b]):=by simp only[Ai,put_,e0,e1];rw[if_pos hxx]
   refine plain et (stay (by decide) (by decide)) ?_
   show [b]=[l.getD 1 0]
   rw[e1]
  ·have et:(Ai n (15,l) (C j)).2.2=.ans 0 b:=by simp only[Ai,same,e1];rw[if_neg hxx]
   obtain ⟨x1,x2,x3⟩:=h1 _ _ et
   have hp:=p2 (by decide)
   have hf:flQ n C (15,l)=[b]:=by show [l.getD 1 0]=_;rw[e1]
   rw[x1,x2,x3,stay (by decide) (by decide),hf]
   simp only[putW,tolW,hp,List.count_append]
   simp
 ·have et:(Ai n (16,l) (C j)).2.2=.turn 2 (nxJ a.toNat) (17,[a,b,C j]):=by simp only[Ai,same,e0,e1]
  refine plain et (stay (by decide) (by decide)) ?_
  show [b]=[l.getD 1 0]
  rw[e1]
 ·have et:(Ai n (17,l) (C j)).2.2=.turn 4 0 (18,[a,b,c2]):=by simp only[Ai,put_,e0,e1,e2]
  refine plain et (stay (by decide) (by decide)) ?_
  show [b]=[l.getD 1 0]
  rw[e1]
 ·by_cases hxx:C j=c2
  ·have et:(Ai n (18,l) (C j)).2.2=.ans 0 b:=by simp only[Ai,put_,e1,e2];rw[if_pos hxx]
   obtain ⟨x1,x2,x3⟩:=h1 _ _ et
   have hp:=p2 (by decide)
   have hf:flQ n C (18,l)=[b]:=by show [l.getD 1 0]=_;rw[e1]
   rw[x1,x2,x3,stay (by decide) (by decide),hf]
   simp only[putW,tolW,hp,List.count_append]
   simp
  ·have et:(Ai n (18,l) (C j)).2.2=.turn 1 0 (16,[a,b]):=by simp only[Ai,same,e0,e1,e2];rw[if_neg hxx]
   refine plain et (stay (by decide) (by decide)) ?_
   show [b]=[l.getD 1 0]
   rw[e1]
 ·exact ha.elim
end
end Go.Proofs.YtbbhahigofeacaaDoor.Gen
