/- Of the proof of OnceOnce. Part 30 of 35. (Joined, by program, and written short, of: La3b.) -/
import Derived.Test.YtaofjdoielmobaaDoorOnceOnce25
import Derived.Test.YtaofjdoielmobaaDoorOnceOnce28
import Derived.Test.YtaofjdoielmobaaDoorOnceOnce29
set_option linter.unusedSimpArgs false
set_option linter.unusedVariables false
set_option maxHeartbeats 4000000
set_option maxRecDepth 100000
namespace Go.Proofs.YtaofjdoielmobaaDoor.Gen
open Go Go.Lift Go.Conc Go.RowKit
open Go.ConcN (upd upd_same upd_ne)
structure M3 (m B:Nat) (fr:Nat→Int) (an mf:Nat→Bool) (u:World):Prop where
 f:u.rowIs B 38 (m*2) (fun j=>I (fr j))
 a:u.rowIs (B+1) 4 m (fun h=>.bool (an h))
 y:u.rowIs (B+2) 4 m (fun h=>.bool (mf h))
section
variable {m B:Nat} {fr:Nat→Int} {an mf:Nat→Bool} {u u':World}
theorem M3.same (h:M3 m B fr an mf u) (e:u'.heap=u.heap):M3 m B fr an mf u':=⟨h.f.of_block (by rw [e]),h.a.of_block (by rw [e]),h.y.of_block (by rw [e])⟩
theorem M3.alloc (h:M3 m B fr an mf u) (o:Obj):M3 m B fr an mf (u.alloc o):=⟨h.f.alloc o,h.a.alloc o,h.y.alloc o⟩
theorem M3.grows (h:M3 m B fr an mf u) (g:Grows u u'):M3 m B fr an mf u':=⟨h.f.of_block (g.old _ h.f.lt),h.a.of_block (g.old _ h.a.lt),h.y.of_block (g.old _ h.y.lt)⟩
theorem upd_r {α:Type} (f:Nat→α) (k:Nat) (x:α) (g:α→Value) (i:Nat):(if i=k then g x else g (f i))=g (upd f k x i):=by
 by_cases e:i=k
 ·subst e;rw [if_pos rfl,upd_same]
 ·rw [if_neg e,upd_ne _ _ e]
theorem M3.setA (h:M3 m B fr an mf u) (k:Nat) (x:Bool):M3 m B fr (upd an k x) mf (u.setCell ⟨B+1,k,none⟩ (.bool x)):=⟨h.f.setOther (by show B≠B+1;omega) _,(h.a.set k _).congr fun i _=>upd_r an k x Value.bool i,h.y.setOther (by show B+2≠B+1;omega) _⟩
theorem M3.setY (h:M3 m B fr an mf u) (k:Nat) (x:Bool):M3 m B fr an (upd mf k x) (u.setCell ⟨B+2,k,none⟩ (.bool x)):=⟨h.f.setOther (by show B≠B+2;omega) _,h.a.setOther (by show B+1≠B+2;omega) _,(h.y.set k _).congr fun i _=>upd_r mf k x Value.bool i⟩
theorem M3.setF (h:M3 m B fr an mf u) (k:Nat) (x:Int):M3 m B (upd fr k x) an mf (u.setCell ⟨B,k,none⟩ (I x)):=⟨(h.f.set k _).congr fun i _=>upd_r fr k x (fun y=>I y) i,h.a.setOther (by show B+1≠B;omega) _,h.y.setOther (by show B+2≠B;omega) _⟩
end
section
variable {m N b o cap M wb:Nat} {A ln cp rb ro:Nat→Nat} {pc:Nat→Option Addr} {cl:Nat→List Cl} {l:Nat→Ph} {v:World} {F:Nat→Int×Int}
def CallO (N m:Nat) (cl:Nat→List Cl) (h:Nat):Prop:=∃ i,i<N∧∃ (k:Nat) (c:Cl),(cl i)[k]? = some c∧isO c∧which c.ca m=h
def Iv (N m:Nat) (cl:Nat→List Cl) (F:Nat→Int×Int) (fr:Nat→Int) (an:Nat→Bool):Prop:=∀ h,h<m→an h=true→fr (h*2)=(F h).1∧fr (h*2+1)=(F h).2∧CallO N m cl h
def ToldO (N m:Nat) (cl:Nat→List Cl) (F:Nat→Int×Int) (l:Nat→Ph):Prop:=∀ i,i<N→∀ (k:Nat) (c:Cl),(cl i)[k]? = some c→isO c→(l i).ans[k]? = some (F (which c.ca m))
theorem Iv.put {fr:Nat→Int} {an:Nat→Bool} (h:Iv N m cl F fr an) {j:Nat} (hj:CallO N m cl j):Iv N m cl F (upd (upd fr (j*2) (F j).1) (j*2+1) (F j).2) (upd an j true):=fun k hk hak=>by
 by_cases e:k=j
 ·subst e
  refine ⟨by rw [upd_ne _ _ (by omega),upd_same],by rw [upd_same],hj⟩
 ·rw [upd_ne _ _ e] at hak
  obtain ⟨h1,h2,h3⟩:=h k hk hak
  refine ⟨by rw [upd_ne _ _ (by omega),upd_ne _ _ (by omega)];exact h1,by rw [upd_ne _ _ (by omega),upd_ne _ _ (by omega)];exact h2,h3⟩
theorem l3_one (h0:0<m) (hm:m≤1000) (hS:SL N b o ln cp rb ro pc cl v) (hL:AL N M A ln l v) (hT:ToldO N m cl F l) {i k:Nat} {c:Cl} (hi:i<N) (hc:(cl i)[k]? = some c) {fr:Nat→Int} {an mf:Nat→Bool} {Q:Exit→Act→World→Prop} {a:Act} {u:World} (hM:M3 m v.heap.size fr an mf u) (hk:Kq v.heap.size v u) (hI:Iv N m cl F fr an) (hA:Fl 223 [(1,I (m:Nat)),(2,.slice (some ⟨b,o,none⟩) N cap),(8,Pt wb 0),(9,.slice (some ⟨M,0,none⟩) N N),(12,.slice (some ⟨v.heap.size,0,none⟩) m m),(13,.slice (some ⟨(v.heap.size+1),0,none⟩) m m),(14,.slice (some ⟨(v.heap.size+2),0,none⟩) m m),(15,I (i:Nat)),(16,I (k:Nat))] a)
 (k1:∀ a' w' fr' an',Fl 223 [(1,I (m:Nat)),(2,.slice (some ⟨b,o,none⟩) N cap),(8,Pt wb 0),(9,.slice (some ⟨M,0,none⟩) N N),(12,.slice (some ⟨v.heap.size,0,none⟩) m m),(13,.slice (some ⟨(v.heap.size+1),0,none⟩) m m),(14,.slice (some ⟨(v.heap.size+2),0,none⟩) m m),(15,I (i:Nat)),(16,I (k:Nat))] a'→M3 m v.heap.size fr' an' mf w'→Kq v.heap.size v w'→Iv N m cl F fr' an'→Q .normal a' w') (k2:∀ a' w',Fl 223 [(1,I (m:Nat)),(2,.slice (some ⟨b,o,none⟩) N cap),(8,Pt wb 0),(9,.slice (some ⟨M,0,none⟩) N N),(12,.slice (some ⟨v.heap.size,0,none⟩) m m),(13,.slice (some ⟨(v.heap.size+1),0,none⟩) m m),(14,.slice (some ⟨(v.heap.size+2),0,none⟩) m m),(15,I (i:Nat)),(16,I (k:Nat))] a'→M3 m v.heap.size fr an mf w'→Kq v.heap.size v w'→Q (.exit 3) a' w'):K3_3.wp Tryd.prog Q a u:=by
 unfold K3_3
 have hkl:k<ln i:=by rw [←hS.len i hi];exact (List.getElem?_eq_some_iff.1 hc).1
 have hpq:=hS.pq i hi (by omega)
 have hS1:=hS.go hk
 have sr:=hS1.sr i hi
 rw [hpq] at sr
 obtain ⟨d0,d1,d2,d3⟩:=hS1.sa i hi k c hc
 refine wp_then (p3_20 hi hkl sr d0 d1 d2 d3 hA) fun a1 w1 q=>?_
 obtain ⟨hA1,hw1⟩:=q
 have hM1:M3 m v.heap.size fr an mf w1:=hw1▸hM.alloc _
 have hk1:Kq v.heap.size v w1:=hk.trans (hw1▸Kq.alloc _ hk.size)
 have hy:w1.heap[u.heap.size]? = some (.cells #[I c.po,I c.ca,I c.cb,I c.cc] 35 (0,0)):=by rw [hw1];exact Array.getElem?_push_size
 have y0:w1.cell? ⟨u.heap.size,0,none⟩=some (I c.po):=cell_of hy rfl
 have y1:w1.cell? ⟨u.heap.size,1,none⟩=some (I c.ca):=cell_of hy rfl
 generalize u.heap.size=x at hA1 y0 y1
 clear hy hw1 d0 d1 d2 d3 sr hM hk hS1
 refine wp_seq ?_
 by_cases hco:isO c
 ·refine wp_then (p3_21y y0 hco.1 hco.2 hA1) fun a2 w2 q=>?_
  obtain ⟨hA2,rfl⟩:=q
  refine wp_cond_false (hA2.hf rfl) (wp_skip ?_)
  show Code.wp _ _ _ _ _
  refine wp_then (p3_22 h0 hm y1 hA2.tl) fun a3 w3 q=>?_
  obtain ⟨hA3,rfl⟩:=q
  have hom:=which_lt c.ca h0
  have hcall:CallO N m cl (which c.ca m):=⟨i,hi,k,c,hc,hco,rfl⟩
  have htold:=hT i hi k c hc hco
  generalize which c.ca m=h at hA3 hom hcall htold
  obtain ⟨e1,e2⟩:=(hL.go hk1).an i hi k _ htold
  have er:=(hL.go hk1).ar i hi
  refine wp_seq ?_
  have fin:∀ (a':Act) (w':World),Fl 223 [(135,.bool false),(1,I (m:Nat)),(2,.slice (some ⟨b,o,none⟩) N cap),(8,Pt wb 0),(9,.slice (some ⟨M,0,none⟩) N N),(12,.slice (some ⟨v.heap.size,0,none⟩) m m),(13,.slice (some ⟨(v.heap.size+1),0,none⟩) m m),(14,.slice (some ⟨(v.heap.size+2),0,none⟩) m m),(15,I (i:Nat)),(16,I (k:Nat)),(17,Pt x 0),(18,I (h:Nat))] a'∧(w'.heap=w3.heap∧w'.os=w3.os∧w'.output=w3.output)→(Code.cond (.tmp 135) (.seq q3_24 .ret) .skip).wp Tryd.prog (Exit.then (fun a'' w''=>(Code.seq q3_25 q3_26).wp Tryd.prog Q a'' w'') Q) a' w':=fun a' w' q=>by
   obtain ⟨hA4,z1,z2,z3⟩:=q
   refine wp_cond_false (hA4.hf rfl) (wp_skip ?_)
   show Code.wp _ _ _ _ _
   have hM4:=hM1.same z1
   have hk4:Kq v.heap.size v w':=hk1.trans (Kq.same z1 z2 z3)
   refine wp_then (p3_25 hom (hM4.a.cell hom) (hM4.a.frozen _) hA4.tl) fun a5 w5 q=>?_
   obtain ⟨hA5,hw5⟩:=q
   have hM5:M3 m v.heap.size fr (upd an h true) mf w5:=hw5▸hM4.setA h true
   have hk5:Kq v.heap.size v w5:=hk4.trans (hw5▸Kq.set _ (by omega))
   have er5:=(hL.go hk5).ar i hi
   obtain ⟨e3,e4⟩:=(hL.go hk5).an i hi k _ htold
   clear hw5
   refine wp_last (p3_26 hom hi hkl (hM5.f.cell (by omega)) (hM5.f.cell (by omega)) (hM5.f.frozen _) (hM5.f.frozen _) er5 e3 e4 hA5) fun a6 w6 q=>?_
   obtain ⟨hA6,hw6⟩:=q
   have hM6:=(hM5.setF (h*2) (F h).1).setF (h*2+1) (F h).2
   rw [←hw6] at hM6
   have hk6:Kq v.heap.size v w6:=hk5.trans (hw6▸(Kq.set _ (Nat.le_refl _)).trans (Kq.set _ (Nat.le_refl _)))
   exact k1 _ _ _ _ (hA6.sub (by simp)) hM6 hk6 (hI.put hcall)
  cases ha:an h with
  |false=>exact wp_then (wp_nrm (p3_23n hom (by rw [hM1.a.cell hom,ha]) hA3)) fin
  |true =>
   obtain ⟨g1,g2,_⟩:=hI h hom ha
   refine wp_then (wp_nrm (p3_23y hom hi hkl (by rw [hM1.a.cell hom,ha]) (by rw [hM1.f.cell (show h*2<m*2 by omega),g1]) (by rw [hM1.f.cell (show h*2+1<m*2 by omega),g2]) er e1 e2 hA3)) fin
 ·by_cases hlo:c.po<1
  ·refine wp_then (p3_21a y0 hlo hA1) fun a3 w3 q=>?_
   obtain ⟨hA3,rfl⟩:=q
   exact wp_cond_true (hA3.hd rfl) (wp_exit (k2 _ _ (hA3.sub (by simp)) hM1 hk1))
  ·have hhi:4<c.po:=by
    have:¬ (1≤c.po∧c.po≤4):=hco
    omega
   refine wp_then (p3_21b y0 hhi hA1) fun a3 w3 q=>?_
   obtain ⟨hA3,rfl⟩:=q
   exact wp_cond_true (hA3.hd rfl) (wp_exit (k2 _ _ (hA3.sub (by simp)) hM1 hk1))
theorem l3_row (h0:0<m) (hm:m≤1000) (hS:SL N b o ln cp rb ro pc cl v) (hL:AL N M A ln l v) (h64:∀ j,j<N→ln j≤64) (hT:ToldO N m cl F l) {i:Nat} (hi:i<N) {fr:Nat→Int} {an mf:Nat→Bool} {Q:Exit→Act→World→Prop} {a:Act} {u:World} (hM:M3 m v.heap.size fr an mf u) (hk:Kq v.heap.size v u) (hI:Iv N m cl F fr an) (hA:Fl 223 [(1,I (m:Nat)),(2,.slice (some ⟨b,o,none⟩) N cap),(8,Pt wb 0),(9,.slice (some ⟨M,0,none⟩) N N),(12,.slice (some ⟨v.heap.size,0,none⟩) m m),(13,.slice (some ⟨(v.heap.size+1),0,none⟩) m m),(14,.slice (some ⟨(v.heap.size+2),0,none⟩) m m),(15,I (i:Nat))] a)
 (k1:∀ a' w' fr' an',Fl 223 [(1,I (m:Nat)),(2,.slice (some ⟨b,o,none⟩) N cap),(8,Pt wb 0),(9,.slice (some ⟨M,0,none⟩) N N),(12,.slice (some ⟨v.heap.size,0,none⟩) m m),(13,.slice (some ⟨(v.heap.size+1),0,none⟩) m m),(14,.slice (some ⟨(v.heap.size+2),0,none⟩) m m),(15,I (i:Nat))] a'→M3 m v.heap.size fr' an' mf w'→Kq v.heap.size v w'→Iv N m cl F fr' an'→Q .normal a' w'):(Code.seq q3_17 (.block 2 K3_2)).wp Tryd.prog Q a u:=by
 refine wp_then (p3_17 hA) fun a1 w1 q=>?_
 obtain ⟨hA1,rfl⟩:=q
 unfold K3_2
 refine wp_while (t:=96) (fun c a x=>∃ k,k≤ln i∧c=ln i - k∧∃ fr an,Fl 223 [(1,I (m:Nat)),(2,.slice (some ⟨b,o,none⟩) N cap),(8,Pt wb 0),(9,.slice (some ⟨M,0,none⟩) N N),(12,.slice (some ⟨v.heap.size,0,none⟩) m m),(13,.slice (some ⟨(v.heap.size+1),0,none⟩) m m),(14,.slice (some ⟨(v.heap.size+2),0,none⟩) m m),(15,I (i:Nat)),(16,I (k:Nat))] a∧M3 m v.heap.size fr an mf x∧Kq v.heap.size v x∧Iv N m cl F fr an) (ln i) ⟨0,Nat.zero_le _,rfl,fr,an,hA1,hM,hk,hI⟩ ?_
 clear hA1 hM hk hI hA
 rintro c a2 x ⟨k,hj,rfl,fr,an,hA2,hM,hk,hI⟩
 refine ⟨_,p3_18 hi ((hL.go hk).ar i hi) hA2,?_⟩
 rintro a3 w3 ⟨hA3,rfl⟩
 by_cases hlt:k<ln i
 ·refine .inr ⟨hA3.hd (by simp [hlt]),?_⟩
  refine wp_seq (wp_block ?_)
  obtain ⟨c,hc⟩:∃ c,(cl i)[k]? = some c:=⟨_,List.getElem?_eq_getElem (by rw [hS.len i hi];exact hlt)⟩
  have h64':=h64 i hi
  refine l3_one h0 hm hS hL hT hi hc hM hk hI hA3.tl (fun a' w' fr' an' q1 q2 q3 q4=>?_) (fun a' w' q1 q2 q3=>?_)
  ·refine wp_last (p3_19 (by omega) q1) fun a9 w9 q=>?_
   obtain ⟨h9,rfl⟩:=q
   exact ⟨ln i - (k+1),by omega,k+1,by omega,rfl,fr',an',h9,q2,q3,q4⟩
  ·refine wp_last (p3_19 (by omega) q1) fun a9 w9 q=>?_
   obtain ⟨h9,rfl⟩:=q
   exact ⟨ln i - (k+1),by omega,k+1,by omega,rfl,fr,an,h9,q2,q3,hI⟩
 ·refine .inl ⟨hA3.hf (by simp [hlt]),?_⟩
  exact k1 _ _ fr an (hA3.sub (by simp)) hM hk hI
theorem l3_first (h0:0<m) (hm:m≤1000) (hN:N≤8) (hS:SL N b o ln cp rb ro pc cl v) (hL:AL N M A ln l v) (h64:∀ j,j<N→ln j≤64) (hT:ToldO N m cl F l) {fr:Nat→Int} {an mf:Nat→Bool} {Q:Exit→Act→World→Prop} {a:Act} {u:World} (hM:M3 m v.heap.size fr an mf u) (hk:Kq v.heap.size v u) (hI:Iv N m cl F fr an) (hA:Fl 223 [(1,I (m:Nat)),(2,.slice (some ⟨b,o,none⟩) N cap),(8,Pt wb 0),(9,.slice (some ⟨M,0,none⟩) N N),(12,.slice (some ⟨v.heap.size,0,none⟩) m m),(13,.slice (some ⟨(v.heap.size+1),0,none⟩) m m),(14,.slice (some ⟨(v.heap.size+2),0,none⟩) m m)] a)
 (k1:∀ a' w' fr' an',Fl 223 [(1,I (m:Nat)),(2,.slice (some ⟨b,o,none⟩) N cap),(8,Pt wb 0),(9,.slice (some ⟨M,0,none⟩) N N),(12,.slice (some ⟨v.heap.size,0,none⟩) m m),(13,.slice (some ⟨(v.heap.size+1),0,none⟩) m m),(14,.slice (some ⟨(v.heap.size+2),0,none⟩) m m)] a'→M3 m v.heap.size fr' an' mf w'→Kq v.heap.size v w'→Iv N m cl F fr' an'→Q .normal a' w'):(Code.seq q3_12 (.block 0 K3_0)).wp Tryd.prog Q a u:=by
 refine wp_then (p3_12 hA) fun a1 w1 q=>?_
 obtain ⟨hA1,rfl⟩:=q
 unfold K3_0
 refine wp_while (t:=76) (fun c a x=>∃ i,i≤N∧c=N - i∧∃ fr an,Fl 223 [(1,I (m:Nat)),(2,.slice (some ⟨b,o,none⟩) N cap),(8,Pt wb 0),(9,.slice (some ⟨M,0,none⟩) N N),(12,.slice (some ⟨v.heap.size,0,none⟩) m m),(13,.slice (some ⟨(v.heap.size+1),0,none⟩) m m),(14,.slice (some ⟨(v.heap.size+2),0,none⟩) m m),(15,I (i:Nat))] a∧M3 m v.heap.size fr an mf x∧Kq v.heap.size v x∧Iv N m cl F fr an) N ⟨0,Nat.zero_le _,rfl,fr,an,hA1,hM,hk,hI⟩ ?_
 clear hA1 hM hk hI hA
 rintro c a2 x ⟨i,hj,rfl,fr,an,hA2,hM,hk,hI⟩
 refine ⟨_,p3_13 hA2,?_⟩
 rintro a3 w3 ⟨hA3,rfl⟩
 by_cases hlt:i<N
 ·refine .inr ⟨hA3.hd (by simp [hlt]),?_⟩
  refine wp_seq (wp_block ?_)
  unfold K3_1
  refine wp_seq (wp_then (wp_nrm (p3_15 hlt ((hS.go hk).sr i hlt) ((hL.go hk).ar i hlt) hA3.tl)) fun a4 w4 q=>?_)
  obtain ⟨hA4,z1,z2,z3⟩:=q
  refine wp_cond_false (hA4.hf rfl) (wp_skip ?_)
  show Code.wp _ _ _ _ _
  refine l3_row h0 hm hS hL h64 hT hlt (hM.same z1) (hk.trans (Kq.same z1 z2 z3)) hI hA4.tl (fun a' w' fr' an' q1 q2 q3 q4=>?_)
  refine wp_last (p3_14 (by omega) q1) fun a9 w9 q=>?_
  obtain ⟨h9,rfl⟩:=q
  exact ⟨N - (i+1),by omega,i+1,by omega,rfl,fr',an',h9,q2,q3,q4⟩
 ·refine .inl ⟨hA3.hf (by simp [hlt]),?_⟩
  exact k1 _ _ fr an (hA3.sub (by simp)) hM hk hI
def Mrk (m:Nat) (cl:Nat→List Cl) (F:Nat→Int×Int) (an mf:Nat→Bool) (i k:Nat):Prop:=∀ i' k' c,(i'<i∨(i'=i∧k'<k))→(cl i')[k']? = some c→isO c→an (which c.ca m)=true→actR c=F (which c.ca m)→mf (which c.ca m)=true
theorem l3_two (h0:0<m) (hm:m≤1000) (hS:SL N b o ln cp rb ro pc cl v) {i k:Nat} {c:Cl} (hi:i<N) (hc:(cl i)[k]? = some c) {fr:Nat→Int} {an mf:Nat→Bool} {Q:Exit→Act→World→Prop} {a:Act} {u:World} (hM:M3 m v.heap.size fr an mf u) (hk:Kq v.heap.size v u) (hI:Iv N m cl F fr an) (hR:Mrk m cl F an mf i k) (hA:Fl 223 [(1,I (m:Nat)),(2,.slice (some ⟨b,o,none⟩) N cap),(8,Pt wb 0),(9,.slice (some ⟨M,0,none⟩) N N),(12,.slice (some ⟨v.heap.size,0,none⟩) m m),(13,.slice (some ⟨(v.heap.size+1),0,none⟩) m m),(14,.slice (some ⟨(v.heap.size+2),0,none⟩) m m),(19,I (i:Nat)),(20,I (k:Nat))] a)
 (k1:∀ a' w' mf',Fl 223 [(1,I (m:Nat)),(2,.slice (some ⟨b,o,none⟩) N cap),(8,Pt wb 0),(9,.slice (some ⟨M,0,none⟩) N N),(12,.slice (some ⟨v.heap.size,0,none⟩) m m),(13,.slice (some ⟨(v.heap.size+1),0,none⟩) m m),(14,.slice (some ⟨(v.heap.size+2),0,none⟩) m m),(19,I (i:Nat)),(20,I (k:Nat))] a'→M3 m v.heap.size fr an mf' w'→Kq v.heap.size v w'→Mrk m cl F an mf' i (k+1)→Q .normal a' w'):K3_7.wp Tryd.prog Q a u:=by
 unfold K3_7
 have hkl:k<ln i:=by rw [←hS.len i hi];exact (List.getElem?_eq_some_iff.1 hc).1
 have hpq:=hS.pq i hi (by omega)
 have hS1:=hS.go hk
 have sr:=hS1.sr i hi
 rw [hpq] at sr
 obtain ⟨d0,d1,d2,d3⟩:=hS1.sa i hi k c hc
 refine wp_then (p3_33 hi hkl sr d0 d1 d2 d3 hA) fun a1 w1 q=>?_
 obtain ⟨hA1,hw1⟩:=q
 have hM1:M3 m v.heap.size fr an mf w1:=hw1▸hM.alloc _
 have hk1:Kq v.heap.size v w1:=hk.trans (hw1▸Kq.alloc _ hk.size)
 have hy:w1.heap[u.heap.size]? = some (.cells #[I c.po,I c.ca,I c.cb,I c.cc] 35 (0,0)):=by rw [hw1];exact Array.getElem?_push_size
 have y0:w1.cell? ⟨u.heap.size,0,none⟩=some (I c.po):=cell_of hy rfl
 have y1:w1.cell? ⟨u.heap.size,1,none⟩=some (I c.ca):=cell_of hy rfl
 have y2:w1.cell? ⟨u.heap.size,2,none⟩=some (I c.cb):=cell_of hy rfl
 generalize u.heap.size=x at hA1 y0 y1 y2
 clear hy hw1 d0 d1 d2 d3 sr hM hk hS1
 by_cases hco:isO c
 ·refine wp_then (p3_34y y0 hco.1 hco.2 hA1) fun a2 w2 q=>?_
  obtain ⟨hA2,rfl⟩:=q
  refine wp_cond_true (hA2.hd rfl) ?_
  refine wp_then (p3_35 h0 hm y1 hA2.tl) fun a3 w3 q=>?_
  obtain ⟨hA3,rfl⟩:=q
  have hom:=which_lt c.ca h0
  have next:∀ β:Bool,(an (which c.ca m)=true→actR c=F (which c.ca m)→β=true)→(mf (which c.ca m)=true→β=true)→Mrk m cl F an (upd mf (which c.ca m) β) i (k+1):=fun β hb hb2 i' k' c' hlt hc' ho' ha' he'=>by
   by_cases e:which c'.ca m=which c.ca m
   ·rw [e,upd_same]
    rcases hlt with hlt|⟨e1,hlt⟩
    ·exact hb2 (e▸hR i' k' c' (.inl hlt) hc' ho' ha' he')
    ·by_cases e2:k'=k
     ·subst e1 e2
      rw [hc] at hc'
      cases hc'
      exact hb ha' he'
     ·exact hb2 (e▸hR i' k' c' (.inr ⟨e1,by omega⟩) hc' ho' ha' he')
   ·rw [upd_ne _ _ e]
    refine hR i' k' c' ?_ hc' ho' ha' he'
    rcases hlt with hlt|⟨e1,hlt⟩
    ·exact .inl hlt
    ·refine .inr ⟨e1,?_⟩
     by_cases e2:k'=k
     ·subst e1 e2
      rw [hc] at hc'
      cases hc'
      exact absurd rfl e
     ·omega
  have sty:∀ (u w':World) (β:Bool),Grows w3 u→w'.heap=(u.setCell ⟨v.heap.size+2,which c.ca m,none⟩ (.bool β)).heap→w'.os=w3.os→w'.output=w3.output→M3 m v.heap.size fr an (upd mf (which c.ca m) β) w'∧Kq v.heap.size v w':=fun u w' β hg e1 e2 e3=>by
   refine ⟨((hM1.grows hg).setY _ β).same e1,hk1.trans ⟨e2,e3,?_,fun j hj=>?_⟩⟩
   ·rw [e1]
    have:=hg.size
    simp only [World.setCell,Array.size_modify]
    omega
   ·rw [e1,Below.heap_setCell _ _ _ _ (by show j≠v.heap.size+2;omega),hg.old j (Nat.lt_of_lt_of_le hj hk1.size)]
  cases hf:mf (which c.ca m) with
  |true =>
   refine wp_last (wp_nrm (p3_36t hom (by rw [hM1.y.cell hom,hf]) (hM1.y.frozen _) hA3)) fun a4 w4 q=>?_
   obtain ⟨hA4,u',g1,g2,g3,g4⟩:=q
   obtain ⟨q1,q2⟩:=sty u' w4 true g1 g2 g3 g4
   exact k1 _ _ _ (hA4.sub (by simp)) q1 q2 (next true (fun _ _=>rfl) (fun _=>rfl))
  |false =>
   refine wp_last (wp_nrm (p3_36f hom (by rw [hM1.y.cell hom,hf]) (hM1.y.frozen _) y0 y2 (hM1.f.cell (show which c.ca m*2<m*2 by omega)) (hM1.f.cell (show which c.ca m*2+1<m*2 by omega)) ⟨fun w=>acts_any w c hco⟩ hA3)) fun a4 w4 q=>?_
   obtain ⟨hA4,u',β,hβ,g1,g2,g3,g4⟩:=q
   obtain ⟨q1,q2⟩:=sty u' w4 β g1 g2 g3 g4
   refine k1 _ _ _ (hA4.sub (by simp)) q1 q2 (next β (fun ha he=>hβ ?_) (fun h=>by rw [hf] at h;cases h))
   obtain ⟨z1,z2,_⟩:=hI _ hom ha
   rw [z1,z2,he]
   exact ⟨rfl,rfl⟩
 ·have stay:Mrk m cl F an mf i (k+1):=fun i' k' c' hlt hc' ho' ha' he'=>by
   refine hR i' k' c' ?_ hc' ho' ha' he'
   rcases hlt with hlt|⟨e1,hlt⟩
   ·exact .inl hlt
   ·refine .inr ⟨e1,?_⟩
    by_cases e2:k'=k
    ·subst e1 e2
     rw [hc] at hc'
     cases hc'
     exact absurd ho' hco
    ·omega
  by_cases hlo:c.po<1
  ·refine wp_then (p3_34a y0 hlo hA1) fun a3 w3 q=>?_
   obtain ⟨hA3,rfl⟩:=q
   exact wp_cond_false (hA3.hf rfl) (wp_skip (k1 _ _ _ (hA3.sub (by simp)) hM1 hk1 stay))
  ·have hhi:4<c.po:=by
    have:¬ (1≤c.po∧c.po≤4):=hco
    omega
   refine wp_then (p3_34b y0 hhi hA1) fun a3 w3 q=>?_
   obtain ⟨hA3,rfl⟩:=q
   exact wp_cond_false (hA3.hf rfl) (wp_skip (k1 _ _ _ (hA3.sub (by simp)) hM1 hk1 stay))
theorem l3_row2 (h0:0<m) (hm:m≤1000) (hS:SL N b o ln cp rb ro pc cl v) (hL:AL N M A ln l v) (h64:∀ j,j<N→ln j≤64) {i:Nat} (hi:i<N) {fr:Nat→Int} {an mf:Nat→Bool} {Q:Exit→Act→World→Prop} {a:Act} {u:World} (hM:M3 m v.heap.size fr an mf u) (hk:Kq v.heap.size v u) (hI:Iv N m cl F fr an) (hR:Mrk m cl F an mf i 0) (hA:Fl 223 [(1,I (m:Nat)),(2,.slice (some ⟨b,o,none⟩) N cap),(8,Pt wb 0),(9,.slice (some ⟨M,0,none⟩) N N),(12,.slice (some ⟨v.heap.size,0,none⟩) m m),(13,.slice (some ⟨(v.heap.size+1),0,none⟩) m m),(14,.slice (some ⟨(v.heap.size+2),0,none⟩) m m),(19,I (i:Nat))] a)
 (k1:∀ a' w' mf',Fl 223 [(1,I (m:Nat)),(2,.slice (some ⟨b,o,none⟩) N cap),(8,Pt wb 0),(9,.slice (some ⟨M,0,none⟩) N N),(12,.slice (some ⟨v.heap.size,0,none⟩) m m),(13,.slice (some ⟨(v.heap.size+1),0,none⟩) m m),(14,.slice (some ⟨(v.heap.size+2),0,none⟩) m m),(19,I (i:Nat))] a'→M3 m v.heap.size fr an mf' w'→Kq v.heap.size v w'→Mrk m cl F an mf' (i+1) 0→Q .normal a' w'):(Code.seq q3_30 (.block 6 K3_6)).wp Tryd.prog Q a u:=by
 refine wp_then (p3_30 hA) fun a1 w1 q=>?_
 obtain ⟨hA1,rfl⟩:=q
 unfold K3_6
 refine wp_while (t:=161) (fun c a x=>∃ k,k≤ln i∧c=ln i - k∧∃ mf,Fl 223 [(1,I (m:Nat)),(2,.slice (some ⟨b,o,none⟩) N cap),(8,Pt wb 0),(9,.slice (some ⟨M,0,none⟩) N N),(12,.slice (some ⟨v.heap.size,0,none⟩) m m),(13,.slice (some ⟨(v.heap.size+1),0,none⟩) m m),(14,.slice (some ⟨(v.heap.size+2),0,none⟩) m m),(19,I (i:Nat)),(20,I (k:Nat))] a∧M3 m v.heap.size fr an mf x∧Kq v.heap.size v x∧Mrk m cl F an mf i k) (ln i) ⟨0,Nat.zero_le _,rfl,mf,hA1,hM,hk,hR⟩ ?_
 clear hA1 hM hk hR hA
 rintro c a2 x ⟨k,hj,rfl,mf,hA2,hM,hk,hR⟩
 refine ⟨_,p3_31 hi ((hL.go hk).ar i hi) hA2,?_⟩
 rintro a3 w3 ⟨hA3,rfl⟩
 by_cases hlt:k<ln i
 ·refine .inr ⟨hA3.hd (by simp [hlt]),?_⟩
  refine wp_seq (wp_block ?_)
  obtain ⟨c,hc⟩:∃ c,(cl i)[k]? = some c:=⟨_,List.getElem?_eq_getElem (by rw [hS.len i hi];exact hlt)⟩
  have h64':=h64 i hi
  refine l3_two h0 hm hS hi hc hM hk hI hR hA3.tl (fun a' w' mf' q1 q2 q3 q4=>?_)
  refine wp_last (p3_32 (by omega) q1) fun a9 w9 q=>?_
  obtain ⟨h9,rfl⟩:=q
  exact ⟨ln i - (k+1),by omega,k+1,by omega,rfl,mf',h9,q2,q3,q4⟩
 ·refine .inl ⟨hA3.hf (by simp [hlt]),?_⟩
  refine k1 _ _ mf (hA3.sub (by simp)) hM hk (fun i' k' c' hlt' hc' ho' ha' he'=>hR i' k' c' ?_ hc' ho' ha' he')
  rcases hlt' with h|⟨e,h⟩
  ·by_cases e:i'=i
   ·subst e
    refine .inr ⟨rfl,?_⟩
    have h1:=(List.getElem?_eq_some_iff.1 hc').1
    have h2:=hS.len i' hi
    omega
   ·exact .inl (by omega)
  ·omega
theorem l3_second (h0:0<m) (hm:m≤1000) (hN:N≤8) (hS:SL N b o ln cp rb ro pc cl v) (hL:AL N M A ln l v) (h64:∀ j,j<N→ln j≤64) {fr:Nat→Int} {an mf:Nat→Bool} {Q:Exit→Act→World→Prop} {a:Act} {u:World} (hM:M3 m v.heap.size fr an mf u) (hk:Kq v.heap.size v u) (hI:Iv N m cl F fr an) (hA:Fl 223 [(1,I (m:Nat)),(2,.slice (some ⟨b,o,none⟩) N cap),(8,Pt wb 0),(9,.slice (some ⟨M,0,none⟩) N N),(12,.slice (some ⟨v.heap.size,0,none⟩) m m),(13,.slice (some ⟨(v.heap.size+1),0,none⟩) m m),(14,.slice (some ⟨(v.heap.size+2),0,none⟩) m m)] a)
 (k1:∀ a' w' mf',Fl 223 [(1,I (m:Nat)),(2,.slice (some ⟨b,o,none⟩) N cap),(8,Pt wb 0),(9,.slice (some ⟨M,0,none⟩) N N),(12,.slice (some ⟨v.heap.size,0,none⟩) m m),(13,.slice (some ⟨(v.heap.size+1),0,none⟩) m m),(14,.slice (some ⟨(v.heap.size+2),0,none⟩) m m)] a'→M3 m v.heap.size fr an mf' w'→Kq v.heap.size v w'→Mrk m cl F an mf' N 0→Q .normal a' w'):(Code.seq q3_27 (.block 4 K3_4)).wp Tryd.prog Q a u:=by
 refine wp_then (p3_27 hA) fun a1 w1 q=>?_
 obtain ⟨hA1,rfl⟩:=q
 unfold K3_4
 refine wp_while (t:=152) (fun c a x=>∃ i,i≤N∧c=N - i∧∃ mf,Fl 223 [(1,I (m:Nat)),(2,.slice (some ⟨b,o,none⟩) N cap),(8,Pt wb 0),(9,.slice (some ⟨M,0,none⟩) N N),(12,.slice (some ⟨v.heap.size,0,none⟩) m m),(13,.slice (some ⟨(v.heap.size+1),0,none⟩) m m),(14,.slice (some ⟨(v.heap.size+2),0,none⟩) m m),(19,I (i:Nat))] a∧M3 m v.heap.size fr an mf x∧Kq v.heap.size v x∧Mrk m cl F an mf i 0) N ⟨0,Nat.zero_le _,rfl,mf,hA1,hM,hk,fun i' k' c h=>by omega⟩ ?_
 clear hA1 hM hk hA
 rintro c a2 x ⟨i,hj,rfl,mf,hA2,hM,hk,hR⟩
 refine ⟨_,p3_28 hA2,?_⟩
 rintro a3 w3 ⟨hA3,rfl⟩
 by_cases hlt:i<N
 ·refine .inr ⟨hA3.hd (by simp [hlt]),?_⟩
  refine wp_seq (wp_block ?_)
  unfold K3_5
  refine l3_row2 h0 hm hS hL h64 hlt hM hk hI hR hA3.tl (fun a' w' mf' q1 q2 q3 q4=>?_)
  refine wp_last (p3_29 (by omega) q1) fun a9 w9 q=>?_
  obtain ⟨h9,rfl⟩:=q
  exact ⟨N - (i+1),by omega,i+1,by omega,rfl,mf',h9,q2,q3,q4⟩
 ·refine .inl ⟨hA3.hf (by simp [hlt]),?_⟩
  obtain rfl:i=N:=by omega
  exact k1 _ _ mf (hA3.sub (by simp)) hM hk hR
theorem l3_third (hm:m≤1000) {fr:Nat→Int} {an mf:Nat→Bool} {Q:Exit→Act→World→Prop} {a:Act} {u:World} (hM:M3 m v.heap.size fr an mf u) (hok:∀ h,h<m→an h=true→mf h=true) (hA:Fl 223 [(1,I (m:Nat)),(2,.slice (some ⟨b,o,none⟩) N cap),(8,Pt wb 0),(9,.slice (some ⟨M,0,none⟩) N N),(12,.slice (some ⟨v.heap.size,0,none⟩) m m),(13,.slice (some ⟨(v.heap.size+1),0,none⟩) m m),(14,.slice (some ⟨(v.heap.size+2),0,none⟩) m m)] a)
 (k1:∀ a',Fl 223 [(1,I (m:Nat)),(2,.slice (some ⟨b,o,none⟩) N cap),(8,Pt wb 0),(9,.slice (some ⟨M,0,none⟩) N N),(12,.slice (some ⟨v.heap.size,0,none⟩) m m),(13,.slice (some ⟨(v.heap.size+1),0,none⟩) m m),(14,.slice (some ⟨(v.heap.size+2),0,none⟩) m m)] a'→Q .normal a' u):(Code.seq q3_37 (.block 8 K3_8)).wp Tryd.prog Q a u:=by
 refine wp_then (p3_37 hA) fun a1 w1 q=>?_
 obtain ⟨hA1,rfl⟩:=q
 unfold K3_8
 refine wp_while (t:=204) (fun c a x=>∃ h,h≤m∧c=m - h∧Fl 223 [(1,I (m:Nat)),(2,.slice (some ⟨b,o,none⟩) N cap),(8,Pt wb 0),(9,.slice (some ⟨M,0,none⟩) N N),(12,.slice (some ⟨v.heap.size,0,none⟩) m m),(13,.slice (some ⟨(v.heap.size+1),0,none⟩) m m),(14,.slice (some ⟨(v.heap.size+2),0,none⟩) m m),(23,I (h:Nat))] a∧x=w1) m ⟨0,Nat.zero_le _,rfl,hA1,rfl⟩ ?_
 clear hA1 hA
 rintro c a2 x ⟨h,hj,rfl,hA2,rfl⟩
 refine ⟨_,p3_38 hA2,?_⟩
 rintro a3 w3 ⟨hA3,rfl⟩
 by_cases hlt:h<m
 ·refine .inr ⟨hA3.hd (by simp [hlt]),?_⟩
  refine wp_seq (wp_block ?_)
  unfold K3_9
  have fin:∀ (a':Act) (w':World),Fl 223 [(217,.bool false),(1,I (m:Nat)),(2,.slice (some ⟨b,o,none⟩) N cap),(8,Pt wb 0),(9,.slice (some ⟨M,0,none⟩) N N),(12,.slice (some ⟨v.heap.size,0,none⟩) m m),(13,.slice (some ⟨(v.heap.size+1),0,none⟩) m m),(14,.slice (some ⟨(v.heap.size+2),0,none⟩) m m),(23,I (h:Nat))] a'∧w'=w3→(Code.cond (.tmp 217) (.seq q3_41 .ret) .skip).wp Tryd.prog (Exit.inBlock 9 (Exit.then (fun a'' w''=>q3_39.wp Tryd.prog (Exit.then (fun a3 w4=>∃ n',n'<m - h∧∃ h',h'≤m∧n'=m - h'∧Fl 223 [(1,I (m:Nat)),(2,.slice (some ⟨b,o,none⟩) N cap),(8,Pt wb 0),(9,.slice (some ⟨M,0,none⟩) N N),(12,.slice (some ⟨v.heap.size,0,none⟩) m m),(13,.slice (some ⟨(v.heap.size+1),0,none⟩) m m),(14,.slice (some ⟨(v.heap.size+2),0,none⟩) m m),(23,I (h':Nat))] a3∧w4=w3) (Exit.inBlock 8 Q)) a'' w'') (Exit.then (fun a3 w4=>∃ n',n'<m - h∧∃ h',h'≤m∧n'=m - h'∧Fl 223 [(1,I (m:Nat)),(2,.slice (some ⟨b,o,none⟩) N cap),(8,Pt wb 0),(9,.slice (some ⟨M,0,none⟩) N N),(12,.slice (some ⟨v.heap.size,0,none⟩) m m),(13,.slice (some ⟨(v.heap.size+1),0,none⟩) m m),(14,.slice (some ⟨(v.heap.size+2),0,none⟩) m m),(23,I (h':Nat))] a3∧w4=w3) (Exit.inBlock 8 Q)))) a' w':=fun a' w' q=>by
   obtain ⟨hA4,rfl⟩:=q
   refine wp_cond_false (hA4.hf rfl) (wp_skip ?_)
   show Code.wp _ _ _ _ _
   refine wp_last (p3_39 (by omega) hA4.tl) fun a9 w9 q=>?_
   obtain ⟨h9,rfl⟩:=q
   exact ⟨m - (h+1),by omega,h+1,by omega,rfl,h9,rfl⟩
  cases ha:an h with
  |false=>exact wp_then (p3_40n hlt (by rw [hM.a.cell hlt,ha]) hA3.tl) fin
  |true=>exact wp_then (p3_40y hlt (by rw [hM.a.cell hlt,ha]) (by rw [hM.y.cell hlt,hok h hlt ha]) hA3.tl) fin
 ·refine .inl ⟨hA3.hf (by simp [hlt]),?_⟩
  exact k1 _ (hA3.sub (by simp))
end
end Go.Proofs.YtaofjdoielmobaaDoor.Gen
