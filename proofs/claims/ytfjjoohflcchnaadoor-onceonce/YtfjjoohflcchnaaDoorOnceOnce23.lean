/- OnceOnce, part 23 of 26: La3b, S13P, S13Q. -/
import Derived.Test.YtfjjoohflcchnaaDoorOnceOnce01
import Derived.Test.YtfjjoohflcchnaaDoorOnceOnce04
import Derived.Test.YtfjjoohflcchnaaDoorOnceOnce15
import Derived.Test.YtfjjoohflcchnaaDoorOnceOnce16
import Derived.Test.YtfjjoohflcchnaaDoorOnceOnce18
import Derived.Test.YtfjjoohflcchnaaDoorOnceOnce21
import Derived.Test.YtfjjoohflcchnaaDoorOnceOnce22
import Derived.Deep.RegionLaw
set_option linter.unusedSimpArgs false
set_option linter.unusedVariables false
set_option maxHeartbeats 4000000
set_option maxRecDepth 100000
noncomputable section
namespace Go.Proofs.YtfjjoohflcchnaaDoor.Gen
open Go Go.Lift Go.Conc Go.RowKit
open Go.ConcN (upd upd_same upd_ne)
variable {an mf:Nat->Bool} {i:Nat} {Q:Exit->Act->World->Prop} {a:Act} {u:World}
structure M3 (m B:Nat) (fr:Nat->Int) (an mf:Nat->Bool) (u:World):Prop where
 f:u.rowIs B 38 (m*2) (λj=>I (fr j))
 a:u.rowIs (B+1) 4 m (λh=>.bool (an h))
 y:u.rowIs (B+2) 4 m (λh=>.bool (mf h))
section
variable {m B:Nat}{fr:Nat->Int}{an mf:Nat->Bool}{u u':World}
theorem M3.same (h:M3 m B fr an mf u) (e:u'.heap=u.heap):M3 m B fr an mf u':=⟨h.f.of_block (by rw[e]),h.a.of_block (by rw[e]),h.y.of_block (by rw[e])⟩
theorem M3.alloc (h:M3 m B fr an mf u) (o:Obj):M3 m B fr an mf (u.alloc o):=⟨h.f.alloc o,h.a.alloc o,h.y.alloc o⟩
theorem M3.grows (h:M3 m B fr an mf u) (g:Grows u u'):M3 m B fr an mf u':=⟨h.f.of_block (g.old _ h.f.lt),h.a.of_block (g.old _ h.a.lt),h.y.of_block (g.old _ h.y.lt)⟩
theorem upd_r {α:Type}(f:Nat->α) (k:Nat) (x:α) (g:α->Value) (i:Nat):(if i=k then g x else g (f i))=g (upd f k x i):=by by_cases e:i=k;subst e;rw[if_pos rfl,upd_same];rw[if_neg e,upd_ne _ _ e]
theorem M3.setA (h:M3 m B fr an mf u) (k:Nat) (x:Bool):M3 m B fr (upd an k x) mf (u.setCell ⟨B+1,k,none⟩ (.bool x)):=⟨h.f.setOther (by show B≠B+1;omega) _,(h.a.set k _).congr λi _=>upd_r an k x Value.bool i,h.y.setOther (by show B+2≠B+1;omega) _⟩
theorem M3.setY (h:M3 m B fr an mf u) (k:Nat) (x:Bool):M3 m B fr an (upd mf k x) (u.setCell ⟨B+2,k,none⟩ (.bool x)):=⟨h.f.setOther (by show B≠B+2;omega) _,h.a.setOther (by show B+1≠B+2;omega) _,(h.y.set k _).congr λi _=>upd_r mf k x Value.bool i⟩
theorem M3.setF (h:M3 m B fr an mf u) (k:Nat) (x:Int):M3 m B (upd fr k x) an mf (u.setCell ⟨B,k,none⟩ (I x)):=⟨(h.f.set k _).congr λi _=>upd_r fr k x (λy=>I y) i,h.a.setOther (by show B+1≠B;omega) _,h.y.setOther (by show B+2≠B;omega) _⟩
end
section
variable {m N b o cap M wb:Nat}{A ln cp rb ro:Nat->Nat}{pc:Nat->Option Addr}{cl:Nat->List Cl}{l:Nat->Ph}{v:World}{F:Nat->Int×Int}
def CallO (N m:Nat) (cl:Nat->List Cl) (h:Nat):Prop:=∃ i,i<N∧∃ (k:Nat) (c:Cl),(cl i)[k]? = some c∧isO c∧which c.ca m=h
def Iv (N m:Nat) (cl:Nat->List Cl) (F:Nat->Int×Int) (fr:Nat->Int) (an:Nat->Bool):Prop:=∀ h,h<m->an h=true->fr (h*2)=(F h).1∧fr (h*2+1)=(F h).2∧CallO N m cl h
def ToldO (N m:Nat) (cl:Nat->List Cl) (F:Nat->Int×Int) (l:Nat->Ph):Prop:=∀ i,i<N->∀ (k:Nat) (c:Cl),(cl i)[k]? = some c->isO c->(l i).ans[k]? = some (F (which c.ca m))
theorem Iv.put {fr:Nat->Int}(h:Iv N m cl F fr an) {j:Nat}(hj:CallO N m cl j):Iv N m cl F (upd (upd fr (j*2) (F j).1) (j*2+1) (F j).2) (upd an j true):=λk hk hak=>by
 by_cases e:k=j
 .subst e
  refine ⟨by rw[upd_ne _ _ (by omega),upd_same],by rw[upd_same],hj⟩
 .rw[upd_ne _ _ e] at hak
  obtain ⟨h1,h2,h3⟩:=h k hk hak;refine ⟨by rw[upd_ne _ _ (by omega),upd_ne _ _ (by omega)];exact h1,by rw[upd_ne _ _ (by omega),upd_ne _ _ (by omega)];exact h2,h3⟩
theorem l3_one (h0:0<m) (hm:m<=1000) (hS:SL N b o ln cp rb ro pc cl v) (hL:AL N M A ln l v) (hT:ToldO N m cl F l) {k:Nat}{c:Cl}(hi:i<N) (hc:(cl i)[k]? = some c) {fr:Nat->Int}(hM:M3 m v.heap.size fr an mf u) (hk:Kq v.heap.size v u) (hI:Iv N m cl F fr an) (hA:Fl 223 [(1,I (m:Nat)),(2,.slice (some ⟨b,o,none⟩) N cap),(8,Pt wb 0),(9,.slice (some ⟨M,0,none⟩) N N),(12,.slice (some ⟨v.heap.size,0,none⟩) m m),(13,.slice (some ⟨(v.heap.size+1),0,none⟩) m m),(14,.slice (some ⟨(v.heap.size+2),0,none⟩) m m),(15,I (i:Nat)),(16,I (k:Nat))] a)
 (k1:∀ a' w' fr' an',Fl 223 [(1,I (m:Nat)),(2,.slice (some ⟨b,o,none⟩) N cap),(8,Pt wb 0),(9,.slice (some ⟨M,0,none⟩) N N),(12,.slice (some ⟨v.heap.size,0,none⟩) m m),(13,.slice (some ⟨(v.heap.size+1),0,none⟩) m m),(14,.slice (some ⟨(v.heap.size+2),0,none⟩) m m),(15,I (i:Nat)),(16,I (k:Nat))] a'->M3 m v.heap.size fr' an' mf w'->Kq v.heap.size v w'->Iv N m cl F fr' an'->Q .normal a' w') (k2:∀ a' w',Fl 223 [(1,I (m:Nat)),(2,.slice (some ⟨b,o,none⟩) N cap),(8,Pt wb 0),(9,.slice (some ⟨M,0,none⟩) N N),(12,.slice (some ⟨v.heap.size,0,none⟩) m m),(13,.slice (some ⟨(v.heap.size+1),0,none⟩) m m),(14,.slice (some ⟨(v.heap.size+2),0,none⟩) m m),(15,I (i:Nat)),(16,I (k:Nat))] a'->M3 m v.heap.size fr an mf w'->Kq v.heap.size v w'->Q (.exit 3) a' w'):K3_3.wp Tryd.prog Q a u:=by
 unfold K3_3;have hkl:k<ln i:=by rw[<-hS.len i hi];exact (Qc hc).1
 have hpq:=hS.pq i hi (by omega);have hS1:=hS.go hk;have sr:=hS1.sr i hi;rw[hpq] at sr;obtain ⟨d0,d1,d2,d3⟩:=hS1.sa i hi k c hc;refine wp_then (p3_20 hi hkl sr d0 d1 d2 d3 hA) λa1 w1 q=>?_;obtain ⟨hA1,hw1⟩:=q;have hM1:M3 m v.heap.size fr an mf w1:=hw1▸hM.alloc _;have hk1:Kq v.heap.size v w1:=hk.trans (hw1▸Kq.alloc _ hk.size);have hy:w1.heap[u.heap.size]? = some (.cells #[I c.po,I c.ca,I c.cb,I c.cc] 35 (0,0)):=by rw[hw1];exact Qo
 have y0:w1.cell? ⟨u.heap.size,0,none⟩=some (I c.po):=cell_of hy rfl;have y1:w1.cell? ⟨u.heap.size,1,none⟩=some (I c.ca):=cell_of hy rfl;generalize u.heap.size=x at hA1 y0 y1;clear hy hw1 d0 d1 d2 d3 sr hM hk hS1;refine wp_seq ?_;by_cases hco:isO c
 .refine wp_then (p3_21y y0 hco.1 hco.2 hA1) λa2 w2 q=>?_
  obtain ⟨hA2,rfl⟩:=q;refine wp_cond_false (hA2.hf rfl) (wp_skip ?_);show Code.wp _ _ _ _ _;refine wp_then (p3_22 h0 hm y1 hA2.tl) λa3 w3 q=>?_;obtain ⟨hA3,rfl⟩:=q;have hom:=which_lt c.ca h0;have hcall:CallO N m cl (which c.ca m):=⟨i,hi,k,c,hc,hco,rfl⟩
  have htold:=hT i hi k c hc hco;generalize which c.ca m=h at hA3 hom hcall htold;obtain ⟨e1,e2⟩:=(hL.go hk1).an i hi k _ htold;have er:=(hL.go hk1).ar i hi;refine wp_seq ?_;have fin:∀ (a':Act) (w':World),Fl 223 [(135,.bool false),(1,I (m:Nat)),(2,.slice (some ⟨b,o,none⟩) N cap),(8,Pt wb 0),(9,.slice (some ⟨M,0,none⟩) N N),(12,.slice (some ⟨v.heap.size,0,none⟩) m m),(13,.slice (some ⟨(v.heap.size+1),0,none⟩) m m),(14,.slice (some ⟨(v.heap.size+2),0,none⟩) m m),(15,I (i:Nat)),(16,I (k:Nat)),(17,Pt x 0),(18,I (h:Nat))] a'∧(w'.heap=w3.heap∧w'.os=w3.os∧w'.output=w3.output)->(Code.cond (.tmp 135) (.seq q3_24 .ret) .skip).wp Tryd.prog (Exit.then (λa'' w''=>(Code.seq q3_25 q3_26).wp Tryd.prog Q a'' w'') Q) a' w':=λa' w' q=>by
   obtain ⟨hA4,z1,z2,z3⟩:=q;refine wp_cond_false (hA4.hf rfl) (wp_skip ?_);show Code.wp _ _ _ _ _;have hM4:=hM1.same z1;have hk4:Kq v.heap.size v w':=hk1.trans (Kq.same z1 z2 z3);refine wp_then (p3_25 hom (hM4.a.cell hom) (hM4.a.frozen _) hA4.tl) λa5 w5 q=>?_;obtain ⟨hA5,hw5⟩:=q;have hM5:M3 m v.heap.size fr (upd an h true) mf w5:=hw5▸hM4.setA h true;have hk5:Kq v.heap.size v w5:=hk4.trans (hw5▸Kq.set _ (by omega));have er5:=(hL.go hk5).ar i hi;obtain ⟨e3,e4⟩:=(hL.go hk5).an i hi k _ htold;clear hw5;refine wp_last (p3_26 hom hi hkl (hM5.f.cell (by omega)) (hM5.f.cell (by omega)) (hM5.f.frozen _) (hM5.f.frozen _) er5 e3 e4 hA5) λa6 w6 q=>?_;obtain ⟨hA6,hw6⟩:=q;have hM6:=(hM5.setF (h*2) (F h).1).setF (h*2+1) (F h).2;rw[<-hw6] at hM6;have hk6:Kq v.heap.size v w6:=hk5.trans (hw6▸(Kq.set _ (Qi _)).trans (Kq.set _ (Qi _)));exact k1 _ _ _ _ (hA6.sub (by simp)) hM6 hk6 (hI.put hcall)
  cases ha:an h with
  |false=>exact wp_then (wp_nrm (p3_23n hom (by rw[hM1.a.cell hom,ha]) hA3)) fin
  |true =>obtain ⟨g1,g2,_⟩:=hI h hom ha;refine wp_then (wp_nrm (p3_23y hom hi hkl (by rw[hM1.a.cell hom,ha]) (by rw[hM1.f.cell (show h*2<m*2 by omega),g1]) (by rw[hM1.f.cell (show h*2+1<m*2 by omega),g2]) er e1 e2 hA3)) fin
 .by_cases hlo:c.po<1
  .refine wp_then (p3_21a y0 hlo hA1) λa3 w3 q=>?_
   obtain ⟨hA3,rfl⟩:=q;exact wp_cond_true (hA3.hd rfl) (wp_exit (k2 _ _ (hA3.sub (by simp)) hM1 hk1))
  .have hhi:4<c.po:=by have:¬ (1<=c.po∧c.po<=4):=hco;omega
   refine wp_then (p3_21b y0 hhi hA1) λa3 w3 q=>?_;obtain ⟨hA3,rfl⟩:=q;exact wp_cond_true (hA3.hd rfl) (wp_exit (k2 _ _ (hA3.sub (by simp)) hM1 hk1))
theorem l3_row (h0:0<m) (hm:m<=1000) (hS:SL N b o ln cp rb ro pc cl v) (hL:AL N M A ln l v) (h64:∀ j,j<N->ln j<=64) (hT:ToldO N m cl F l) (hi:i<N) {fr:Nat->Int}(hM:M3 m v.heap.size fr an mf u) (hk:Kq v.heap.size v u) (hI:Iv N m cl F fr an) (hA:Fl 223 [(1,I (m:Nat)),(2,.slice (some ⟨b,o,none⟩) N cap),(8,Pt wb 0),(9,.slice (some ⟨M,0,none⟩) N N),(12,.slice (some ⟨v.heap.size,0,none⟩) m m),(13,.slice (some ⟨(v.heap.size+1),0,none⟩) m m),(14,.slice (some ⟨(v.heap.size+2),0,none⟩) m m),(15,I (i:Nat))] a)
 (k1:∀ a' w' fr' an',Fl 223 [(1,I (m:Nat)),(2,.slice (some ⟨b,o,none⟩) N cap),(8,Pt wb 0),(9,.slice (some ⟨M,0,none⟩) N N),(12,.slice (some ⟨v.heap.size,0,none⟩) m m),(13,.slice (some ⟨(v.heap.size+1),0,none⟩) m m),(14,.slice (some ⟨(v.heap.size+2),0,none⟩) m m),(15,I (i:Nat))] a'->M3 m v.heap.size fr' an' mf w'->Kq v.heap.size v w'->Iv N m cl F fr' an'->Q .normal a' w'):(Code.seq q3_17 (.block 2 K3_2)).wp Tryd.prog Q a u:=by
 refine wp_then (p3_17 hA) λa1 w1 q=>?_;obtain ⟨hA1,rfl⟩:=q;unfold K3_2;refine wp_while (t:=96) (λc a x=>∃ k,k<=ln i∧c=ln i - k∧∃ fr an,Fl 223 [(1,I (m:Nat)),(2,.slice (some ⟨b,o,none⟩) N cap),(8,Pt wb 0),(9,.slice (some ⟨M,0,none⟩) N N),(12,.slice (some ⟨v.heap.size,0,none⟩) m m),(13,.slice (some ⟨(v.heap.size+1),0,none⟩) m m),(14,.slice (some ⟨(v.heap.size+2),0,none⟩) m m),(15,I (i:Nat)),(16,I (k:Nat))] a∧M3 m v.heap.size fr an mf x∧Kq v.heap.size v x∧Iv N m cl F fr an) (ln i) ⟨0,Nat.zero_le _,rfl,fr,an,hA1,hM,hk,hI⟩ ?_;clear hA1 hM hk hI hA;rintro c a2 x ⟨k,hj,rfl,fr,an,hA2,hM,hk,hI⟩;refine ⟨_,p3_18 hi ((hL.go hk).ar i hi) hA2,?_⟩;rintro a3 w3 ⟨hA3,rfl⟩;by_cases hlt:k<ln i
 .refine .inr ⟨hA3.hd (by simp[hlt]),?_⟩
  refine wp_seq (wp_block ?_);obtain ⟨c,hc⟩:∃ c,(cl i)[k]? = some c:=⟨_,Qf (by rw[hS.len i hi];exact hlt)⟩
  have h64':=h64 i hi;refine l3_one h0 hm hS hL hT hi hc hM hk hI hA3.tl (λa' w' fr' an' q1 q2 q3 q4=>?_) (λa' w' q1 q2 q3=>?_)
  .refine wp_last (p3_19 (by omega) q1) λa9 w9 q=>?_
   obtain ⟨h9,rfl⟩:=q;exact ⟨ln i - (k+1),by omega,k+1,by omega,rfl,fr',an',h9,q2,q3,q4⟩
  .refine wp_last (p3_19 (by omega) q1) λa9 w9 q=>?_
   obtain ⟨h9,rfl⟩:=q;exact ⟨ln i - (k+1),by omega,k+1,by omega,rfl,fr,an,h9,q2,q3,hI⟩
 .refine .inl ⟨hA3.hf (by simp[hlt]),?_⟩
  exact k1 _ _ fr an (hA3.sub (by simp)) hM hk hI
theorem l3_first (h0:0<m) (hm:m<=1000) (hN:N<=8) (hS:SL N b o ln cp rb ro pc cl v) (hL:AL N M A ln l v) (h64:∀ j,j<N->ln j<=64) (hT:ToldO N m cl F l) {fr:Nat->Int}(hM:M3 m v.heap.size fr an mf u) (hk:Kq v.heap.size v u) (hI:Iv N m cl F fr an) (hA:Fl 223 [(1,I (m:Nat)),(2,.slice (some ⟨b,o,none⟩) N cap),(8,Pt wb 0),(9,.slice (some ⟨M,0,none⟩) N N),(12,.slice (some ⟨v.heap.size,0,none⟩) m m),(13,.slice (some ⟨(v.heap.size+1),0,none⟩) m m),(14,.slice (some ⟨(v.heap.size+2),0,none⟩) m m)] a)
 (k1:∀ a' w' fr' an',Fl 223 [(1,I (m:Nat)),(2,.slice (some ⟨b,o,none⟩) N cap),(8,Pt wb 0),(9,.slice (some ⟨M,0,none⟩) N N),(12,.slice (some ⟨v.heap.size,0,none⟩) m m),(13,.slice (some ⟨(v.heap.size+1),0,none⟩) m m),(14,.slice (some ⟨(v.heap.size+2),0,none⟩) m m)] a'->M3 m v.heap.size fr' an' mf w'->Kq v.heap.size v w'->Iv N m cl F fr' an'->Q .normal a' w'):(Code.seq q3_12 (.block 0 K3_0)).wp Tryd.prog Q a u:=by
 refine wp_then (p3_12 hA) λa1 w1 q=>?_;obtain ⟨hA1,rfl⟩:=q;unfold K3_0;refine wp_while (t:=76) (λc a x=>∃ i,i<=N∧c=N - i∧∃ fr an,Fl 223 [(1,I (m:Nat)),(2,.slice (some ⟨b,o,none⟩) N cap),(8,Pt wb 0),(9,.slice (some ⟨M,0,none⟩) N N),(12,.slice (some ⟨v.heap.size,0,none⟩) m m),(13,.slice (some ⟨(v.heap.size+1),0,none⟩) m m),(14,.slice (some ⟨(v.heap.size+2),0,none⟩) m m),(15,I (i:Nat))] a∧M3 m v.heap.size fr an mf x∧Kq v.heap.size v x∧Iv N m cl F fr an) N ⟨0,Nat.zero_le _,rfl,fr,an,hA1,hM,hk,hI⟩ ?_;clear hA1 hM hk hI hA;rintro c a2 x ⟨i,hj,rfl,fr,an,hA2,hM,hk,hI⟩;refine ⟨_,p3_13 hA2,?_⟩;rintro a3 w3 ⟨hA3,rfl⟩;by_cases hlt:i<N
 .refine .inr ⟨hA3.hd (by simp[hlt]),?_⟩
  refine wp_seq (wp_block ?_);unfold K3_1;refine wp_seq (wp_then (wp_nrm (p3_15 hlt ((hS.go hk).sr i hlt) ((hL.go hk).ar i hlt) hA3.tl)) λa4 w4 q=>?_);obtain ⟨hA4,z1,z2,z3⟩:=q;refine wp_cond_false (hA4.hf rfl) (wp_skip ?_);show Code.wp _ _ _ _ _;refine l3_row h0 hm hS hL h64 hT hlt (hM.same z1) (hk.trans (Kq.same z1 z2 z3)) hI hA4.tl (λa' w' fr' an' q1 q2 q3 q4=>?_);refine wp_last (p3_14 (by omega) q1) λa9 w9 q=>?_;obtain ⟨h9,rfl⟩:=q;exact ⟨N - (i+1),by omega,i+1,by omega,rfl,fr',an',h9,q2,q3,q4⟩
 .refine .inl ⟨hA3.hf (by simp[hlt]),?_⟩
  exact k1 _ _ fr an (hA3.sub (by simp)) hM hk hI
def Mrk (m:Nat) (cl:Nat->List Cl) (F:Nat->Int×Int) (an mf:Nat->Bool) (i k:Nat):Prop:=∀ i' k' c,(i'<i∨(i'=i∧k'<k))->(cl i')[k']? = some c->isO c->an (which c.ca m)=true->actR c=F (which c.ca m)->mf (which c.ca m)=true
theorem l3_two (h0:0<m) (hm:m<=1000) (hS:SL N b o ln cp rb ro pc cl v) {k:Nat}{c:Cl}(hi:i<N) (hc:(cl i)[k]? = some c) {fr:Nat->Int}(hM:M3 m v.heap.size fr an mf u) (hk:Kq v.heap.size v u) (hI:Iv N m cl F fr an) (hR:Mrk m cl F an mf i k) (hA:Fl 223 [(1,I (m:Nat)),(2,.slice (some ⟨b,o,none⟩) N cap),(8,Pt wb 0),(9,.slice (some ⟨M,0,none⟩) N N),(12,.slice (some ⟨v.heap.size,0,none⟩) m m),(13,.slice (some ⟨(v.heap.size+1),0,none⟩) m m),(14,.slice (some ⟨(v.heap.size+2),0,none⟩) m m),(19,I (i:Nat)),(20,I (k:Nat))] a)
 (k1:∀ a' w' mf',Fl 223 [(1,I (m:Nat)),(2,.slice (some ⟨b,o,none⟩) N cap),(8,Pt wb 0),(9,.slice (some ⟨M,0,none⟩) N N),(12,.slice (some ⟨v.heap.size,0,none⟩) m m),(13,.slice (some ⟨(v.heap.size+1),0,none⟩) m m),(14,.slice (some ⟨(v.heap.size+2),0,none⟩) m m),(19,I (i:Nat)),(20,I (k:Nat))] a'->M3 m v.heap.size fr an mf' w'->Kq v.heap.size v w'->Mrk m cl F an mf' i (k+1)->Q .normal a' w'):K3_7.wp Tryd.prog Q a u:=by
 unfold K3_7;have hkl:k<ln i:=by rw[<-hS.len i hi];exact (Qc hc).1
 have hpq:=hS.pq i hi (by omega);have hS1:=hS.go hk;have sr:=hS1.sr i hi;rw[hpq] at sr;obtain ⟨d0,d1,d2,d3⟩:=hS1.sa i hi k c hc;refine wp_then (p3_33 hi hkl sr d0 d1 d2 d3 hA) λa1 w1 q=>?_;obtain ⟨hA1,hw1⟩:=q;have hM1:M3 m v.heap.size fr an mf w1:=hw1▸hM.alloc _;have hk1:Kq v.heap.size v w1:=hk.trans (hw1▸Kq.alloc _ hk.size);have hy:w1.heap[u.heap.size]? = some (.cells #[I c.po,I c.ca,I c.cb,I c.cc] 35 (0,0)):=by rw[hw1];exact Qo
 have y0:w1.cell? ⟨u.heap.size,0,none⟩=some (I c.po):=cell_of hy rfl;have y1:w1.cell? ⟨u.heap.size,1,none⟩=some (I c.ca):=cell_of hy rfl;have y2:w1.cell? ⟨u.heap.size,2,none⟩=some (I c.cb):=cell_of hy rfl;generalize u.heap.size=x at hA1 y0 y1 y2;clear hy hw1 d0 d1 d2 d3 sr hM hk hS1;by_cases hco:isO c
 .refine wp_then (p3_34y y0 hco.1 hco.2 hA1) λa2 w2 q=>?_
  obtain ⟨hA2,rfl⟩:=q;refine wp_cond_true (hA2.hd rfl) ?_;refine wp_then (p3_35 h0 hm y1 hA2.tl) λa3 w3 q=>?_;obtain ⟨hA3,rfl⟩:=q;have hom:=which_lt c.ca h0;have next:∀ β:Bool,(an (which c.ca m)=true->actR c=F (which c.ca m)->β=true)->(mf (which c.ca m)=true->β=true)->Mrk m cl F an (upd mf (which c.ca m) β) i (k+1):=λβ hb hb2 i' k' c' hlt hc' ho' ha' he'=>by
   by_cases e:which c'.ca m=which c.ca m
   .rw[e,upd_same]
    rcases hlt with hlt|⟨e1,hlt⟩
    exact hb2 (e▸hR i' k' c' (.inl hlt) hc' ho' ha' he')
    .by_cases e2:k'=k
     .subst e1 e2
      rw[hc] at hc';cases hc';exact hb ha' he'
     exact hb2 (e▸hR i' k' c' (.inr ⟨e1,by omega⟩) hc' ho' ha' he')
   .rw[upd_ne _ _ e]
    refine hR i' k' c' ?_ hc' ho' ha' he';rcases hlt with hlt|⟨e1,hlt⟩
    exact .inl hlt
    .refine .inr ⟨e1,?_⟩
     by_cases e2:k'=k
     .subst e1 e2
      rw[hc] at hc';cases hc';exact absurd rfl e
     omega
  have sty:∀ (u w':World) (β:Bool),Grows w3 u->w'.heap=(u.setCell ⟨v.heap.size+2,which c.ca m,none⟩ (.bool β)).heap->w'.os=w3.os->w'.output=w3.output->M3 m v.heap.size fr an (upd mf (which c.ca m) β) w'∧Kq v.heap.size v w':=λu w' β hg e1 e2 e3=>by
   refine ⟨((hM1.grows hg).setY _ β).same e1,hk1.trans ⟨e2,e3,?_,λj hj=>?_⟩⟩
   .rw[e1]
    have:=hg.size;simp only[World.setCell,Array.size_modify];omega
   rw[e1,Below.heap_setCell _ _ _ _ (by show j≠v.heap.size+2;omega),hg.old j (Qp hj hk1.size)]
  cases hf:mf (which c.ca m) with
  |true =>refine wp_last (wp_nrm (p3_36t hom (by rw[hM1.y.cell hom,hf]) (hM1.y.frozen _) hA3)) λa4 w4 q=>?_;obtain ⟨hA4,u',g1,g2,g3,g4⟩:=q;obtain ⟨q1,q2⟩:=sty u' w4 true g1 g2 g3 g4;exact k1 _ _ _ (hA4.sub (by simp)) q1 q2 (next true (λ_ _=>rfl) (λ_=>rfl))
  |false =>refine wp_last (wp_nrm (p3_36f hom (by rw[hM1.y.cell hom,hf]) (hM1.y.frozen _) y0 y2 (hM1.f.cell (show which c.ca m*2<m*2 by omega)) (hM1.f.cell (show which c.ca m*2+1<m*2 by omega)) ⟨λw=>acts_any w c hco⟩ hA3)) λa4 w4 q=>?_;obtain ⟨hA4,u',β,hβ,g1,g2,g3,g4⟩:=q;obtain ⟨q1,q2⟩:=sty u' w4 β g1 g2 g3 g4;refine k1 _ _ _ (hA4.sub (by simp)) q1 q2 (next β (λha he=>hβ ?_) (λh=>by rw[hf] at h;cases h));obtain ⟨z1,z2,_⟩:=hI _ hom ha;rw[z1,z2,he];exact ⟨rfl,rfl⟩
 .have stay:Mrk m cl F an mf i (k+1):=λi' k' c' hlt hc' ho' ha' he'=>by
   refine hR i' k' c' ?_ hc' ho' ha' he';rcases hlt with hlt|⟨e1,hlt⟩
   exact .inl hlt
   .refine .inr ⟨e1,?_⟩
    by_cases e2:k'=k
    .subst e1 e2
     rw[hc] at hc';cases hc';exact absurd ho' hco
    omega
  by_cases hlo:c.po<1
  .refine wp_then (p3_34a y0 hlo hA1) λa3 w3 q=>?_
   obtain ⟨hA3,rfl⟩:=q;exact wp_cond_false (hA3.hf rfl) (wp_skip (k1 _ _ _ (hA3.sub (by simp)) hM1 hk1 stay))
  .have hhi:4<c.po:=by have:¬ (1<=c.po∧c.po<=4):=hco;omega
   refine wp_then (p3_34b y0 hhi hA1) λa3 w3 q=>?_;obtain ⟨hA3,rfl⟩:=q;exact wp_cond_false (hA3.hf rfl) (wp_skip (k1 _ _ _ (hA3.sub (by simp)) hM1 hk1 stay))
theorem l3_row2 (h0:0<m) (hm:m<=1000) (hS:SL N b o ln cp rb ro pc cl v) (hL:AL N M A ln l v) (h64:∀ j,j<N->ln j<=64) (hi:i<N) {fr:Nat->Int}(hM:M3 m v.heap.size fr an mf u) (hk:Kq v.heap.size v u) (hI:Iv N m cl F fr an) (hR:Mrk m cl F an mf i 0) (hA:Fl 223 [(1,I (m:Nat)),(2,.slice (some ⟨b,o,none⟩) N cap),(8,Pt wb 0),(9,.slice (some ⟨M,0,none⟩) N N),(12,.slice (some ⟨v.heap.size,0,none⟩) m m),(13,.slice (some ⟨(v.heap.size+1),0,none⟩) m m),(14,.slice (some ⟨(v.heap.size+2),0,none⟩) m m),(19,I (i:Nat))] a)
 (k1:∀ a' w' mf',Fl 223 [(1,I (m:Nat)),(2,.slice (some ⟨b,o,none⟩) N cap),(8,Pt wb 0),(9,.slice (some ⟨M,0,none⟩) N N),(12,.slice (some ⟨v.heap.size,0,none⟩) m m),(13,.slice (some ⟨(v.heap.size+1),0,none⟩) m m),(14,.slice (some ⟨(v.heap.size+2),0,none⟩) m m),(19,I (i:Nat))] a'->M3 m v.heap.size fr an mf' w'->Kq v.heap.size v w'->Mrk m cl F an mf' (i+1) 0->Q .normal a' w'):(Code.seq q3_30 (.block 6 K3_6)).wp Tryd.prog Q a u:=by
 refine wp_then (p3_30 hA) λa1 w1 q=>?_;obtain ⟨hA1,rfl⟩:=q;unfold K3_6;refine wp_while (t:=161) (λc a x=>∃ k,k<=ln i∧c=ln i - k∧∃ mf,Fl 223 [(1,I (m:Nat)),(2,.slice (some ⟨b,o,none⟩) N cap),(8,Pt wb 0),(9,.slice (some ⟨M,0,none⟩) N N),(12,.slice (some ⟨v.heap.size,0,none⟩) m m),(13,.slice (some ⟨(v.heap.size+1),0,none⟩) m m),(14,.slice (some ⟨(v.heap.size+2),0,none⟩) m m),(19,I (i:Nat)),(20,I (k:Nat))] a∧M3 m v.heap.size fr an mf x∧Kq v.heap.size v x∧Mrk m cl F an mf i k) (ln i) ⟨0,Nat.zero_le _,rfl,mf,hA1,hM,hk,hR⟩ ?_;clear hA1 hM hk hR hA;rintro c a2 x ⟨k,hj,rfl,mf,hA2,hM,hk,hR⟩;refine ⟨_,p3_31 hi ((hL.go hk).ar i hi) hA2,?_⟩;rintro a3 w3 ⟨hA3,rfl⟩;by_cases hlt:k<ln i
 .refine .inr ⟨hA3.hd (by simp[hlt]),?_⟩
  refine wp_seq (wp_block ?_);obtain ⟨c,hc⟩:∃ c,(cl i)[k]? = some c:=⟨_,Qf (by rw[hS.len i hi];exact hlt)⟩
  have h64':=h64 i hi;refine l3_two h0 hm hS hi hc hM hk hI hR hA3.tl (λa' w' mf' q1 q2 q3 q4=>?_);refine wp_last (p3_32 (by omega) q1) λa9 w9 q=>?_;obtain ⟨h9,rfl⟩:=q;exact ⟨ln i - (k+1),by omega,k+1,by omega,rfl,mf',h9,q2,q3,q4⟩
 .refine .inl ⟨hA3.hf (by simp[hlt]),?_⟩
  refine k1 _ _ mf (hA3.sub (by simp)) hM hk (λi' k' c' hlt' hc' ho' ha' he'=>hR i' k' c' ?_ hc' ho' ha' he');rcases hlt' with h|⟨e,h⟩
  .by_cases e:i'=i
   .subst e
    refine .inr ⟨rfl,?_⟩;have h1:=(Qc hc').1;have h2:=hS.len i' hi;omega
   exact .inl (by omega)
  omega
theorem l3_second (h0:0<m) (hm:m<=1000) (hN:N<=8) (hS:SL N b o ln cp rb ro pc cl v) (hL:AL N M A ln l v) (h64:∀ j,j<N->ln j<=64) {fr:Nat->Int}(hM:M3 m v.heap.size fr an mf u) (hk:Kq v.heap.size v u) (hI:Iv N m cl F fr an) (hA:Fl 223 [(1,I (m:Nat)),(2,.slice (some ⟨b,o,none⟩) N cap),(8,Pt wb 0),(9,.slice (some ⟨M,0,none⟩) N N),(12,.slice (some ⟨v.heap.size,0,none⟩) m m),(13,.slice (some ⟨(v.heap.size+1),0,none⟩) m m),(14,.slice (some ⟨(v.heap.size+2),0,none⟩) m m)] a)
 (k1:∀ a' w' mf',Fl 223 [(1,I (m:Nat)),(2,.slice (some ⟨b,o,none⟩) N cap),(8,Pt wb 0),(9,.slice (some ⟨M,0,none⟩) N N),(12,.slice (some ⟨v.heap.size,0,none⟩) m m),(13,.slice (some ⟨(v.heap.size+1),0,none⟩) m m),(14,.slice (some ⟨(v.heap.size+2),0,none⟩) m m)] a'->M3 m v.heap.size fr an mf' w'->Kq v.heap.size v w'->Mrk m cl F an mf' N 0->Q .normal a' w'):(Code.seq q3_27 (.block 4 K3_4)).wp Tryd.prog Q a u:=by
 refine wp_then (p3_27 hA) λa1 w1 q=>?_;obtain ⟨hA1,rfl⟩:=q;unfold K3_4;refine wp_while (t:=152) (λc a x=>∃ i,i<=N∧c=N - i∧∃ mf,Fl 223 [(1,I (m:Nat)),(2,.slice (some ⟨b,o,none⟩) N cap),(8,Pt wb 0),(9,.slice (some ⟨M,0,none⟩) N N),(12,.slice (some ⟨v.heap.size,0,none⟩) m m),(13,.slice (some ⟨(v.heap.size+1),0,none⟩) m m),(14,.slice (some ⟨(v.heap.size+2),0,none⟩) m m),(19,I (i:Nat))] a∧M3 m v.heap.size fr an mf x∧Kq v.heap.size v x∧Mrk m cl F an mf i 0) N ⟨0,Nat.zero_le _,rfl,mf,hA1,hM,hk,λi' k' c h=>by omega⟩ ?_;clear hA1 hM hk hA;rintro c a2 x ⟨i,hj,rfl,mf,hA2,hM,hk,hR⟩;refine ⟨_,p3_28 hA2,?_⟩;rintro a3 w3 ⟨hA3,rfl⟩;by_cases hlt:i<N
 .refine .inr ⟨hA3.hd (by simp[hlt]),?_⟩
  refine wp_seq (wp_block ?_);unfold K3_5;refine l3_row2 h0 hm hS hL h64 hlt hM hk hI hR hA3.tl (λa' w' mf' q1 q2 q3 q4=>?_);refine wp_last (p3_29 (by omega) q1) λa9 w9 q=>?_;obtain ⟨h9,rfl⟩:=q;exact ⟨N - (i+1),by omega,i+1,by omega,rfl,mf',h9,q2,q3,q4⟩
 .refine .inl ⟨hA3.hf (by simp[hlt]),?_⟩
  obtain rfl:i=N:=by omega
  exact k1 _ _ mf (hA3.sub (by simp)) hM hk hR
theorem l3_third (hm:m<=1000) {fr:Nat->Int}(hM:M3 m v.heap.size fr an mf u) (hok:∀ h,h<m->an h=true->mf h=true) (hA:Fl 223 [(1,I (m:Nat)),(2,.slice (some ⟨b,o,none⟩) N cap),(8,Pt wb 0),(9,.slice (some ⟨M,0,none⟩) N N),(12,.slice (some ⟨v.heap.size,0,none⟩) m m),(13,.slice (some ⟨(v.heap.size+1),0,none⟩) m m),(14,.slice (some ⟨(v.heap.size+2),0,none⟩) m m)] a)
 (k1:∀ a',Fl 223 [(1,I (m:Nat)),(2,.slice (some ⟨b,o,none⟩) N cap),(8,Pt wb 0),(9,.slice (some ⟨M,0,none⟩) N N),(12,.slice (some ⟨v.heap.size,0,none⟩) m m),(13,.slice (some ⟨(v.heap.size+1),0,none⟩) m m),(14,.slice (some ⟨(v.heap.size+2),0,none⟩) m m)] a'->Q .normal a' u):(Code.seq q3_37 (.block 8 K3_8)).wp Tryd.prog Q a u:=by
 refine wp_then (p3_37 hA) λa1 w1 q=>?_;obtain ⟨hA1,rfl⟩:=q;unfold K3_8;refine wp_while (t:=204) (λc a x=>∃ h,h<=m∧c=m - h∧Fl 223 [(1,I (m:Nat)),(2,.slice (some ⟨b,o,none⟩) N cap),(8,Pt wb 0),(9,.slice (some ⟨M,0,none⟩) N N),(12,.slice (some ⟨v.heap.size,0,none⟩) m m),(13,.slice (some ⟨(v.heap.size+1),0,none⟩) m m),(14,.slice (some ⟨(v.heap.size+2),0,none⟩) m m),(23,I (h:Nat))] a∧x=w1) m ⟨0,Nat.zero_le _,rfl,hA1,rfl⟩ ?_;clear hA1 hA;rintro c a2 x ⟨h,hj,rfl,hA2,rfl⟩;refine ⟨_,p3_38 hA2,?_⟩;rintro a3 w3 ⟨hA3,rfl⟩;by_cases hlt:h<m
 .refine .inr ⟨hA3.hd (by simp[hlt]),?_⟩
  refine wp_seq (wp_block ?_);unfold K3_9;have fin:∀ (a':Act) (w':World),Fl 223 [(217,.bool false),(1,I (m:Nat)),(2,.slice (some ⟨b,o,none⟩) N cap),(8,Pt wb 0),(9,.slice (some ⟨M,0,none⟩) N N),(12,.slice (some ⟨v.heap.size,0,none⟩) m m),(13,.slice (some ⟨(v.heap.size+1),0,none⟩) m m),(14,.slice (some ⟨(v.heap.size+2),0,none⟩) m m),(23,I (h:Nat))] a'∧w'=w3->(Code.cond (.tmp 217) (.seq q3_41 .ret) .skip).wp Tryd.prog (Exit.inBlock 9 (Exit.then (λa'' w''=>q3_39.wp Tryd.prog (Exit.then (λa3 w4=>∃ n',n'<m - h∧∃ h',h'<=m∧n'=m - h'∧Fl 223 [(1,I (m:Nat)),(2,.slice (some ⟨b,o,none⟩) N cap),(8,Pt wb 0),(9,.slice (some ⟨M,0,none⟩) N N),(12,.slice (some ⟨v.heap.size,0,none⟩) m m),(13,.slice (some ⟨(v.heap.size+1),0,none⟩) m m),(14,.slice (some ⟨(v.heap.size+2),0,none⟩) m m),(23,I (h':Nat))] a3∧w4=w3) (Exit.inBlock 8 Q)) a'' w'') (Exit.then (λa3 w4=>∃ n',n'<m - h∧∃ h',h'<=m∧n'=m - h'∧Fl 223 [(1,I (m:Nat)),(2,.slice (some ⟨b,o,none⟩) N cap),(8,Pt wb 0),(9,.slice (some ⟨M,0,none⟩) N N),(12,.slice (some ⟨v.heap.size,0,none⟩) m m),(13,.slice (some ⟨(v.heap.size+1),0,none⟩) m m),(14,.slice (some ⟨(v.heap.size+2),0,none⟩) m m),(23,I (h':Nat))] a3∧w4=w3) (Exit.inBlock 8 Q)))) a' w':=λa' w' q=>by obtain ⟨hA4,rfl⟩:=q;refine wp_cond_false (hA4.hf rfl) (wp_skip ?_);show Code.wp _ _ _ _ _;refine wp_last (p3_39 (by omega) hA4.tl) λa9 w9 q=>?_;obtain ⟨h9,rfl⟩:=q;exact ⟨m - (h+1),by omega,h+1,by omega,rfl,h9,rfl⟩
  cases ha:an h with
  |false=>exact wp_then (p3_40n hlt (by rw[hM.a.cell hlt,ha]) hA3.tl) fin
  |true=>exact wp_then (p3_40y hlt (by rw[hM.a.cell hlt,ha]) (by rw[hM.y.cell hlt,hok h hlt ha]) hA3.tl) fin
 .refine .inl ⟨hA3.hf (by simp[hlt]),?_⟩
  exact k1 _ (hA3.sub (by simp))
end
end Go.Proofs.YtfjjoohflcchnaaDoor.Gen
namespace Go.Proofs.YtfjjoohflcchnaaDoor.Gen
open Go Go.Lift Go.Conc Go.RowKit
variable {v:World} {a:Act} {p:Option Addr} {Cb Eb Lb N Sb T Wb b c cap ct g i k m o t w x y:Nat} {ce op po:Int}
def C13:Code:=Tryd.f22.body.getD .skip
def q13_0:Code:=(seq1 C13)
def q13_1:Code:=(seq1 (seq2 C13))
def q13_2:Code:=(seq1 (seq2 (seq2 C13)))
def q13_3:Code:=(seq1 (seq2 (seq2 (seq2 C13))))
def q13_4:Code:=(seq1 (seq2 (seq2 (seq2 (seq2 C13)))))
def q13_5:Code:=(seq1 (seq2 (seq2 (seq2 (seq2 (seq2 C13))))))
def q13_6:Code:=(seq1 (seq1 (seq2 (seq2 (seq2 (seq2 (seq2 (seq2 C13))))))))
def q13_7:Code:=(seq1 (seq1 (loopC (blockC (seq2 (seq1 (seq2 (seq2 (seq2 (seq2 (seq2 (seq2 C13))))))))))))
def q13_9:Code:=(seq1 (blockC (seq1 (seq2 (loopC (blockC (seq2 (seq1 (seq2 (seq2 (seq2 (seq2 (seq2 (seq2 C13))))))))))))))
def q13_10:Code:=(seq1 (seq1 (seq2 (blockC (seq1 (seq2 (loopC (blockC (seq2 (seq1 (seq2 (seq2 (seq2 (seq2 (seq2 (seq2 C13))))))))))))))))
def q13_11:Code:=(seq1 (condA (seq2 (seq1 (seq2 (blockC (seq1 (seq2 (loopC (blockC (seq2 (seq1 (seq2 (seq2 (seq2 (seq2 (seq2 (seq2 C13))))))))))))))))))
def q13_12:Code:=(seq1 (seq2 (seq2 (blockC (seq1 (seq2 (loopC (blockC (seq2 (seq1 (seq2 (seq2 (seq2 (seq2 (seq2 (seq2 C13))))))))))))))))
def q13_13:Code:=(seq1 (seq2 (seq2 (seq2 (blockC (seq1 (seq2 (loopC (blockC (seq2 (seq1 (seq2 (seq2 (seq2 (seq2 (seq2 (seq2 C13)))))))))))))))))
def q13_21:Code:=(seq1 (seq1 (blockC (seq2 (seq2 (seq2 (seq2 (blockC (seq1 (seq2 (loopC (blockC (seq2 (seq1 (seq2 (seq2 (seq2 (seq2 (seq2 (seq2 C13))))))))))))))))))))
def q13_22:Code:=(condB (seq2 (seq1 (blockC (seq2 (seq2 (seq2 (seq2 (blockC (seq1 (seq2 (loopC (blockC (seq2 (seq1 (seq2 (seq2 (seq2 (seq2 (seq2 (seq2 C13)))))))))))))))))))))
def q13_23:Code:=(seq1 (seq1 (condA (seq2 (blockC (seq2 (seq2 (seq2 (seq2 (blockC (seq1 (seq2 (loopC (blockC (seq2 (seq1 (seq2 (seq2 (seq2 (seq2 (seq2 (seq2 C13))))))))))))))))))))))
def q13_24:Code:=(seq1 (condA (seq2 (seq1 (condA (seq2 (blockC (seq2 (seq2 (seq2 (seq2 (blockC (seq1 (seq2 (loopC (blockC (seq2 (seq1 (seq2 (seq2 (seq2 (seq2 (seq2 (seq2 C13))))))))))))))))))))))))
def q13_25:Code:=(seq1 (seq2 (condA (seq2 (blockC (seq2 (seq2 (seq2 (seq2 (blockC (seq1 (seq2 (loopC (blockC (seq2 (seq1 (seq2 (seq2 (seq2 (seq2 (seq2 (seq2 C13))))))))))))))))))))))
def q13_26:Code:=(seq1 (seq1 (seq2 (seq2 (condA (seq2 (blockC (seq2 (seq2 (seq2 (seq2 (blockC (seq1 (seq2 (loopC (blockC (seq2 (seq1 (seq2 (seq2 (seq2 (seq2 (seq2 (seq2 C13))))))))))))))))))))))))
def q13_27:Code:=(seq1 (seq2 (seq2 (seq2 (condA (seq2 (blockC (seq2 (seq2 (seq2 (seq2 (blockC (seq1 (seq2 (loopC (blockC (seq2 (seq1 (seq2 (seq2 (seq2 (seq2 (seq2 (seq2 C13))))))))))))))))))))))))
def q13_28:Code:=(seq1 (seq1 (seq2 (seq2 (seq2 (seq2 (condA (seq2 (blockC (seq2 (seq2 (seq2 (seq2 (blockC (seq1 (seq2 (loopC (blockC (seq2 (seq1 (seq2 (seq2 (seq2 (seq2 (seq2 (seq2 C13))))))))))))))))))))))))))
def q13_29:Code:=(seq1 (condA (seq2 (seq1 (seq2 (seq2 (seq2 (seq2 (condA (seq2 (blockC (seq2 (seq2 (seq2 (seq2 (blockC (seq1 (seq2 (loopC (blockC (seq2 (seq1 (seq2 (seq2 (seq2 (seq2 (seq2 (seq2 C13))))))))))))))))))))))))))))
def q13_30:Code:=(seq1 (seq2 (condA (seq2 (seq1 (seq2 (seq2 (seq2 (seq2 (condA (seq2 (blockC (seq2 (seq2 (seq2 (seq2 (blockC (seq1 (seq2 (loopC (blockC (seq2 (seq1 (seq2 (seq2 (seq2 (seq2 (seq2 (seq2 C13)))))))))))))))))))))))))))))
def q13_31:Code:=(seq1 (seq2 (seq2 (condA (seq2 (seq1 (seq2 (seq2 (seq2 (seq2 (condA (seq2 (blockC (seq2 (seq2 (seq2 (seq2 (blockC (seq1 (seq2 (loopC (blockC (seq2 (seq1 (seq2 (seq2 (seq2 (seq2 (seq2 (seq2 C13))))))))))))))))))))))))))))))
def q13_32:Code:=(seq1 (seq2 (seq2 (seq2 (seq2 (seq2 (condA (seq2 (blockC (seq2 (seq2 (seq2 (seq2 (blockC (seq1 (seq2 (loopC (blockC (seq2 (seq1 (seq2 (seq2 (seq2 (seq2 (seq2 (seq2 C13))))))))))))))))))))))))))
def q13_33:Code:=(seq1 (seq2 (seq2 (seq2 (seq2 (seq2 (seq2 (condA (seq2 (blockC (seq2 (seq2 (seq2 (seq2 (blockC (seq1 (seq2 (loopC (blockC (seq2 (seq1 (seq2 (seq2 (seq2 (seq2 (seq2 (seq2 C13)))))))))))))))))))))))))))
def q13_34:Code:=(seq1 (condA (seq2 (seq2 (seq2 (seq2 (seq2 (seq2 (seq2 (condA (seq2 (blockC (seq2 (seq2 (seq2 (seq2 (blockC (seq1 (seq2 (loopC (blockC (seq2 (seq1 (seq2 (seq2 (seq2 (seq2 (seq2 (seq2 C13)))))))))))))))))))))))))))))
def q13_14:Code:=(seq1 (condB (seq2 (blockC (seq2 (seq2 (seq2 (seq2 (blockC (seq1 (seq2 (loopC (blockC (seq2 (seq1 (seq2 (seq2 (seq2 (seq2 (seq2 (seq2 C13)))))))))))))))))))))
def q13_15:Code:=(seq1 (seq1 (seq2 (condB (seq2 (blockC (seq2 (seq2 (seq2 (seq2 (blockC (seq1 (seq2 (loopC (blockC (seq2 (seq1 (seq2 (seq2 (seq2 (seq2 (seq2 (seq2 C13)))))))))))))))))))))))
def q13_16:Code:=(condA (seq2 (seq1 (seq2 (condB (seq2 (blockC (seq2 (seq2 (seq2 (seq2 (blockC (seq1 (seq2 (loopC (blockC (seq2 (seq1 (seq2 (seq2 (seq2 (seq2 (seq2 (seq2 C13))))))))))))))))))))))))
def q13_17:Code:=(seq1 (seq2 (seq2 (condB (seq2 (blockC (seq2 (seq2 (seq2 (seq2 (blockC (seq1 (seq2 (loopC (blockC (seq2 (seq1 (seq2 (seq2 (seq2 (seq2 (seq2 (seq2 C13)))))))))))))))))))))))
def q13_18:Code:=(seq1 (condA (seq2 (seq2 (seq2 (condB (seq2 (blockC (seq2 (seq2 (seq2 (seq2 (blockC (seq1 (seq2 (loopC (blockC (seq2 (seq1 (seq2 (seq2 (seq2 (seq2 (seq2 (seq2 C13)))))))))))))))))))))))))
def q13_19:Code:=(seq1 (seq2 (condA (seq2 (seq2 (seq2 (condB (seq2 (blockC (seq2 (seq2 (seq2 (seq2 (blockC (seq1 (seq2 (loopC (blockC (seq2 (seq1 (seq2 (seq2 (seq2 (seq2 (seq2 (seq2 C13))))))))))))))))))))))))))
def q13_20:Code:=(seq1 (condA (seq2 (seq2 (condA (seq2 (seq2 (seq2 (condB (seq2 (blockC (seq2 (seq2 (seq2 (seq2 (blockC (seq1 (seq2 (loopC (blockC (seq2 (seq1 (seq2 (seq2 (seq2 (seq2 (seq2 (seq2 C13))))))))))))))))))))))))))))
def q13_8:Code:=(seq2 (seq2 (loopC (blockC (seq2 (seq1 (seq2 (seq2 (seq2 (seq2 (seq2 (seq2 C13))))))))))))
def q13_35:Code:=(seq1 (seq2 (seq2 (seq2 (seq2 (seq2 (seq2 (seq2 C13))))))))
def K13_2:Code:=(.seq (.seq q13_21 (.cond ( .tmp 100 ) .skip q13_22)) (.cond ( .tmp 100 ) (.seq (.seq q13_23 (.cond ( .tmp 115 ) (.seq q13_24 .ret) .skip)) (.seq q13_25 (.seq (.seq q13_26 (.cond ( .tmp 131 ) (.exit 1) .skip)) (.seq q13_27 (.seq (.seq q13_28 (.cond ( .tmp 138 ) (.seq q13_29 (.seq q13_30 (.seq q13_31 (.exit 1)))) .skip)) (.seq q13_32 (.seq q13_33 (.cond ( .tmp 172 ) (.seq q13_34 .ret) .skip)))))))) (.seq q13_14 (.seq (.seq q13_15 (.cond ( .tmp 62 ) q13_16 .skip)) (.seq q13_17 (.cond ( .tmp 84 ) (.seq q13_18 (.seq q13_19 (.cond ( .tmp 99 ) (.seq q13_20 .ret) .skip))) .skip))))))
def K13_1:Code:=(.seq q13_9 (.seq (.seq q13_10 (.cond ( .tmp 49 ) (.seq q13_11 .ret) .skip)) (.seq q13_12 (.seq q13_13 (.block 2 K13_2)))))
def K13_0:Code:=(.loop (.seq (.seq q13_7 (.cond ( .tmp 33 ) .skip (.exit 0))) (.seq (.block 1 K13_1) q13_8)))
theorem e13:C13=(.seq q13_0 (.seq q13_1 (.seq q13_2 (.seq q13_3 (.seq q13_4 (.seq q13_5 (.seq (.seq q13_6 (.block 0 K13_0)) (.seq q13_35 .ret)))))))):=by kernel_rfl
theorem p13_0  (hA:Fl 173 [(0,.slice p T ct),(1,I (m:Nat)),(2,.slice (some ⟨b,o,none⟩) N cap)] a):
 q13_0.wp Tryd.prog (λe a' w'=>e=.normal∧(Fl 173 [(0,.slice p T ct),(1,I (m:Nat)),(2,.slice (some ⟨b,o,none⟩) N cap),(6,.bool false)] a'∧w'=v)) a v:=by
 obtain ⟨u,rfl,hp⟩:=litF hA;simp only[Fls] at hp;clear hA;unfold q13_0 C13 Tryd.f22 seq1;simp only[Qa,lits,Nat.reduceAdd,hp];clear hp;go_wp2_with fail;first
  |refine ⟨?_,rfl⟩
  |refine ⟨rfl,?_,rfl⟩
  |skip
 exact ⟨rfl,rfl,by
  intro p hp;simp only[Sm,or_false] at hp;rcases hp with rfl|rfl|rfl|rfl<;>first|rfl|exact congrArg I (by omega)|exact congrArg Value.bool (by simp<;>omega)|exact congrArg Value.bool (by simp)|(simp;done)⟩
theorem p13_1 (hm:m<=1000) (hA:Fl 173 [(0,.slice p T ct),(1,I (m:Nat)),(2,.slice (some ⟨b,o,none⟩) N cap)] a):
 q13_1.wp Tryd.prog (λe a' w'=>e=.normal∧(Fl 173 [(0,.slice p T ct),(1,I (m:Nat)),(2,.slice (some ⟨b,o,none⟩) N cap),(7,.slice (some ⟨v.heap.size,0,none⟩) m m)] a'∧w'=v.alloc (.cells (madeCells #[I 0] m) 3))) a v:=by
 have hmk:=make_3 m (by omega);obtain ⟨u,rfl,hp⟩:=litF hA;simp only[Fls] at hp;clear hA;unfold q13_1 C13 Tryd.f22 seq1 seq2;simp only[Qa,lits,Nat.reduceAdd,hp];clear hp;go_wp2_with fail;first
  |refine ⟨?_,rfl⟩
  |refine ⟨rfl,?_,rfl⟩
  |skip
 exact ⟨rfl,rfl,by
  intro p hp;simp only[Sm,or_false] at hp;rcases hp with rfl|rfl|rfl|rfl<;>first|rfl|exact congrArg I (by omega)|exact congrArg Value.bool (by simp<;>omega)|exact congrArg Value.bool (by simp)|(simp;done)⟩
theorem p13_2 (hm:m<=1000) (hA:Fl 173 [(0,.slice p T ct),(1,I (m:Nat)),(2,.slice (some ⟨b,o,none⟩) N cap),(7,.slice (some ⟨Sb,0,none⟩) m m)] a):
 q13_2.wp Tryd.prog (λe a' w'=>e=.normal∧(Fl 173 [(0,.slice p T ct),(1,I (m:Nat)),(2,.slice (some ⟨b,o,none⟩) N cap),(7,.slice (some ⟨Sb,0,none⟩) m m),(8,.slice (some ⟨v.heap.size,0,none⟩) m m)] a'∧w'=v.alloc (.cells (madeCells #[.bool false] m) 4))) a v:=by
 have hmk:=make_4 m (by omega);obtain ⟨u,rfl,hp⟩:=litF hA;simp only[Fls] at hp;clear hA;unfold q13_2 C13 Tryd.f22 seq1 seq2;simp only[Qa,lits,Nat.reduceAdd,hp];clear hp;go_wp2_with fail;first
  |refine ⟨?_,rfl⟩
  |refine ⟨rfl,?_,rfl⟩
  |skip
 exact ⟨rfl,rfl,by
  intro p hp;simp only[Sm,or_false] at hp;rcases hp with rfl|rfl|rfl|rfl|rfl<;>first|rfl|exact congrArg I (by omega)|exact congrArg Value.bool (by simp<;>omega)|exact congrArg Value.bool (by simp)|(simp;done)⟩
theorem p13_3 (hm:N<=8) (hA:Fl 173 [(0,.slice p T ct),(1,I (m:Nat)),(2,.slice (some ⟨b,o,none⟩) N cap),(7,.slice (some ⟨Sb,0,none⟩) m m),(8,.slice (some ⟨Eb,0,none⟩) m m)] a):
 q13_3.wp Tryd.prog (λe a' w'=>e=.normal∧(Fl 173 [(0,.slice p T ct),(1,I (m:Nat)),(2,.slice (some ⟨b,o,none⟩) N cap),(7,.slice (some ⟨Sb,0,none⟩) m m),(8,.slice (some ⟨Eb,0,none⟩) m m),(9,.slice (some ⟨v.heap.size,0,none⟩) N N)] a'∧w'=v.alloc (.cells (madeCells #[.bool false] N) 4))) a v:=by
 have hmk:=make_4 N (by omega);obtain ⟨u,rfl,hp⟩:=litF hA;simp only[Fls] at hp;clear hA;unfold q13_3 C13 Tryd.f22 seq1 seq2;simp only[Qa,lits,Nat.reduceAdd,hp];clear hp;go_wp2_with fail;first
  |refine ⟨?_,rfl⟩
  |refine ⟨rfl,?_,rfl⟩
  |skip
 exact ⟨rfl,rfl,by
  intro p hp;simp only[Sm,or_false] at hp;rcases hp with rfl|rfl|rfl|rfl|rfl|rfl<;>first|rfl|exact congrArg I (by omega)|exact congrArg Value.bool (by simp<;>omega)|exact congrArg Value.bool (by simp)|(simp;done)⟩
theorem p13_4 (hm:N<=8) (hA:Fl 173 [(0,.slice p T ct),(1,I (m:Nat)),(2,.slice (some ⟨b,o,none⟩) N cap),(7,.slice (some ⟨Sb,0,none⟩) m m),(8,.slice (some ⟨Eb,0,none⟩) m m),(9,.slice (some ⟨Lb,0,none⟩) N N)] a):
 q13_4.wp Tryd.prog (λe a' w'=>e=.normal∧(Fl 173 [(0,.slice p T ct),(1,I (m:Nat)),(2,.slice (some ⟨b,o,none⟩) N cap),(7,.slice (some ⟨Sb,0,none⟩) m m),(8,.slice (some ⟨Eb,0,none⟩) m m),(9,.slice (some ⟨Lb,0,none⟩) N N),(10,.slice (some ⟨v.heap.size,0,none⟩) N N)] a'∧w'=v.alloc (.cells (madeCells #[I 0] N) 3))) a v:=by
 have hmk:=make_3 N (by omega);obtain ⟨u,rfl,hp⟩:=litF hA;simp only[Fls] at hp;clear hA;unfold q13_4 C13 Tryd.f22 seq1 seq2;simp only[Qa,lits,Nat.reduceAdd,hp];clear hp;go_wp2_with fail;first
  |refine ⟨?_,rfl⟩
  |refine ⟨rfl,?_,rfl⟩
  |skip
 exact ⟨rfl,rfl,by
  intro p hp;simp only[Sm,or_false] at hp;rcases hp with rfl|rfl|rfl|rfl|rfl|rfl|rfl<;>first|rfl|exact congrArg I (by omega)|exact congrArg Value.bool (by simp<;>omega)|exact congrArg Value.bool (by simp)|(simp;done)⟩
theorem p13_5 (hm:N<=8) (hA:Fl 173 [(0,.slice p T ct),(1,I (m:Nat)),(2,.slice (some ⟨b,o,none⟩) N cap),(7,.slice (some ⟨Sb,0,none⟩) m m),(8,.slice (some ⟨Eb,0,none⟩) m m),(9,.slice (some ⟨Lb,0,none⟩) N N),(10,.slice (some ⟨Cb,0,none⟩) N N)] a):
 q13_5.wp Tryd.prog (λe a' w'=>e=.normal∧(Fl 173 [(0,.slice p T ct),(1,I (m:Nat)),(2,.slice (some ⟨b,o,none⟩) N cap),(7,.slice (some ⟨Sb,0,none⟩) m m),(8,.slice (some ⟨Eb,0,none⟩) m m),(9,.slice (some ⟨Lb,0,none⟩) N N),(10,.slice (some ⟨Cb,0,none⟩) N N),(11,.slice (some ⟨v.heap.size,0,none⟩) N N)] a'∧w'=v.alloc (.cells (madeCells #[I 0] N) 3))) a v:=by
 have hmk:=make_3 N (by omega);obtain ⟨u,rfl,hp⟩:=litF hA;simp only[Fls] at hp;clear hA;unfold q13_5 C13 Tryd.f22 seq1 seq2;simp only[Qa,lits,Nat.reduceAdd,hp];clear hp;go_wp2_with fail;first
  |refine ⟨?_,rfl⟩
  |refine ⟨rfl,?_,rfl⟩
  |skip
 exact ⟨rfl,rfl,by
  intro p hp;simp only[Sm,or_false] at hp;rcases hp with rfl|rfl|rfl|rfl|rfl|rfl|rfl|rfl<;>first|rfl|exact congrArg I (by omega)|exact congrArg Value.bool (by simp<;>omega)|exact congrArg Value.bool (by simp)|(simp;done)⟩
theorem p13_6  (hA:Fl 173 [(0,.slice p T ct),(1,I (m:Nat)),(2,.slice (some ⟨b,o,none⟩) N cap),(7,.slice (some ⟨Sb,0,none⟩) m m),(8,.slice (some ⟨Eb,0,none⟩) m m),(9,.slice (some ⟨Lb,0,none⟩) N N),(10,.slice (some ⟨Cb,0,none⟩) N N),(11,.slice (some ⟨Wb,0,none⟩) N N)] a):
 q13_6.wp Tryd.prog (λe a' w'=>e=.normal∧(Fl 173 [(0,.slice p T ct),(1,I (m:Nat)),(2,.slice (some ⟨b,o,none⟩) N cap),(7,.slice (some ⟨Sb,0,none⟩) m m),(8,.slice (some ⟨Eb,0,none⟩) m m),(9,.slice (some ⟨Lb,0,none⟩) N N),(10,.slice (some ⟨Cb,0,none⟩) N N),(11,.slice (some ⟨Wb,0,none⟩) N N),(12,I ((0:Nat):Int))] a'∧w'=v)) a v:=by
 obtain ⟨u,rfl,hp⟩:=litF hA;simp only[Fls] at hp;clear hA;unfold q13_6 C13 Tryd.f22 seq1 seq2;simp only[Qa,lits,Nat.reduceAdd,hp];clear hp;go_wp2_with fail;first
  |refine ⟨?_,rfl⟩
  |refine ⟨rfl,?_,rfl⟩
  |skip
 exact ⟨rfl,rfl,by
  intro p hp;simp only[Sm,or_false] at hp;rcases hp with rfl|rfl|rfl|rfl|rfl|rfl|rfl|rfl|rfl<;>first|rfl|exact congrArg I (by omega)|exact congrArg Value.bool (by simp<;>omega)|exact congrArg Value.bool (by simp)|(simp;done)⟩
theorem p13_7  (hA:Fl 173 [(0,.slice p T ct),(1,I (m:Nat)),(2,.slice (some ⟨b,o,none⟩) N cap),(7,.slice (some ⟨Sb,0,none⟩) m m),(8,.slice (some ⟨Eb,0,none⟩) m m),(9,.slice (some ⟨Lb,0,none⟩) N N),(10,.slice (some ⟨Cb,0,none⟩) N N),(11,.slice (some ⟨Wb,0,none⟩) N N),(12,I (i:Nat))] a):
 q13_7.wp Tryd.prog (λe a' w'=>e=.normal∧(Fl 173 [(33,.bool (decide (i<T))),(0,.slice p T ct),(1,I (m:Nat)),(2,.slice (some ⟨b,o,none⟩) N cap),(7,.slice (some ⟨Sb,0,none⟩) m m),(8,.slice (some ⟨Eb,0,none⟩) m m),(9,.slice (some ⟨Lb,0,none⟩) N N),(10,.slice (some ⟨Cb,0,none⟩) N N),(11,.slice (some ⟨Wb,0,none⟩) N N),(12,I (i:Nat))] a'∧w'=v)) a v:=by
 obtain ⟨u,rfl,hp⟩:=litF hA;simp only[Fls] at hp;clear hA;unfold q13_7 C13 Tryd.f22 seq1 seq2 blockC loopC;simp only[Qa,lits,Nat.reduceAdd,hp];clear hp;go_wp2_with fail;first
  |refine ⟨?_,rfl⟩
  |refine ⟨rfl,?_,rfl⟩
  |skip
 exact ⟨rfl,rfl,by
  intro p hp;simp only[Sm,or_false] at hp;rcases hp with rfl|rfl|rfl|rfl|rfl|rfl|rfl|rfl|rfl|rfl<;>first|rfl|exact congrArg I (by omega)|exact congrArg Value.bool (by simp<;>omega)|exact congrArg Value.bool (by simp)|(simp;done)⟩
theorem p13_8 (hq:i<1000000000) (hA:Fl 173 [(0,.slice p T ct),(1,I (m:Nat)),(2,.slice (some ⟨b,o,none⟩) N cap),(7,.slice (some ⟨Sb,0,none⟩) m m),(8,.slice (some ⟨Eb,0,none⟩) m m),(9,.slice (some ⟨Lb,0,none⟩) N N),(10,.slice (some ⟨Cb,0,none⟩) N N),(11,.slice (some ⟨Wb,0,none⟩) N N),(12,I (i:Nat))] a):
 q13_8.wp Tryd.prog (λe a' w'=>e=.normal∧(Fl 173 [(0,.slice p T ct),(1,I (m:Nat)),(2,.slice (some ⟨b,o,none⟩) N cap),(7,.slice (some ⟨Sb,0,none⟩) m m),(8,.slice (some ⟨Eb,0,none⟩) m m),(9,.slice (some ⟨Lb,0,none⟩) N N),(10,.slice (some ⟨Cb,0,none⟩) N N),(11,.slice (some ⟨Wb,0,none⟩) N N),(12,I ((i+1:Nat):Int))] a'∧w'=v)) a v:=by
 have h9:wrap64 ((i:Int)+1)=((i+1:Nat):Int):=by unfold wrap64;omega
 obtain ⟨u,rfl,hp⟩:=litF hA;simp only[Fls] at hp;clear hA;unfold q13_8 C13 Tryd.f22 seq1 seq2 blockC loopC;simp only[Qa,lits,Nat.reduceAdd,hp];clear hp;go_wp2_with fail;first
  |refine ⟨?_,rfl⟩
  |refine ⟨rfl,?_,rfl⟩
  |skip
 exact ⟨rfl,rfl,by
  intro p hp;simp only[Sm,or_false] at hp;rcases hp with rfl|rfl|rfl|rfl|rfl|rfl|rfl|rfl|rfl<;>first|rfl|exact congrArg I (by omega)|exact congrArg Value.bool (by simp<;>omega)|exact congrArg Value.bool (by simp)|(simp;done)⟩
theorem p13_9 {th ol ne:Int}(hk:i<T) (d0:v.cell? ⟨g,i*5,none⟩=some (I th)) (d1:v.cell? ⟨g,i*5+1,none⟩=some (I ce)) (d2:v.cell? ⟨g,i*5+2,none⟩=some (I op)) (d3:v.cell? ⟨g,i*5+3,none⟩=some (I ol)) (d4:v.cell? ⟨g,i*5+4,none⟩=some (I ne)) (hA:Fl 173 [(0,.slice (some ⟨g,0,none⟩) T ct),(1,I (m:Nat)),(2,.slice (some ⟨b,o,none⟩) N cap),(7,.slice (some ⟨Sb,0,none⟩) m m),(8,.slice (some ⟨Eb,0,none⟩) m m),(9,.slice (some ⟨Lb,0,none⟩) N N),(10,.slice (some ⟨Cb,0,none⟩) N N),(11,.slice (some ⟨Wb,0,none⟩) N N),(12,I (i:Nat))] a):
 q13_9.wp Tryd.prog (λe a' w'=>e=.normal∧(Fl 173 [(0,.slice (some ⟨g,0,none⟩) T ct),(1,I (m:Nat)),(2,.slice (some ⟨b,o,none⟩) N cap),(7,.slice (some ⟨Sb,0,none⟩) m m),(8,.slice (some ⟨Eb,0,none⟩) m m),(9,.slice (some ⟨Lb,0,none⟩) N N),(10,.slice (some ⟨Cb,0,none⟩) N N),(11,.slice (some ⟨Wb,0,none⟩) N N),(12,I (i:Nat)),(13,Pt v.heap.size 0)] a'∧w'=v.alloc (.cells #[I th,I ce,I op,I ol,I ne] 60))) a v:=by
 have hk':(i:Int)<(T:Int):=by omega
 obtain ⟨u,rfl,hp⟩:=litF hA;simp only[Fls] at hp;clear hA;unfold q13_9 C13 Tryd.f22 seq1 seq2 blockC loopC;simp only[Qa,lits,Nat.reduceAdd,hp];clear hp;go_wp2_with fail;first
  |refine ⟨?_,rfl⟩
  |refine ⟨rfl,?_,rfl⟩
  |skip
 exact ⟨rfl,rfl,by
  intro p hp;simp only[Sm,or_false] at hp;rcases hp with rfl|rfl|rfl|rfl|rfl|rfl|rfl|rfl|rfl|rfl<;>first|rfl|exact congrArg I (by omega)|exact congrArg Value.bool (by simp<;>omega)|exact congrArg Value.bool (by simp)|(simp;done)⟩
theorem p13_10 (c0:v.cell? ⟨x,0,none⟩=some (I (t:Nat))) (ht:t<N) (hA:Fl 173 [(0,.slice (some ⟨g,0,none⟩) T ct),(1,I (m:Nat)),(2,.slice (some ⟨b,o,none⟩) N cap),(7,.slice (some ⟨Sb,0,none⟩) m m),(8,.slice (some ⟨Eb,0,none⟩) m m),(9,.slice (some ⟨Lb,0,none⟩) N N),(10,.slice (some ⟨Cb,0,none⟩) N N),(11,.slice (some ⟨Wb,0,none⟩) N N),(12,I (i:Nat)),(13,Pt x 0)] a):
 q13_10.wp Tryd.prog (λe a' w'=>e=.normal∧(Fl 173 [(49,.bool false),(0,.slice (some ⟨g,0,none⟩) T ct),(1,I (m:Nat)),(2,.slice (some ⟨b,o,none⟩) N cap),(7,.slice (some ⟨Sb,0,none⟩) m m),(8,.slice (some ⟨Eb,0,none⟩) m m),(9,.slice (some ⟨Lb,0,none⟩) N N),(10,.slice (some ⟨Cb,0,none⟩) N N),(11,.slice (some ⟨Wb,0,none⟩) N N),(12,I (i:Nat)),(13,Pt x 0)] a'∧w'=v)) a v:=by
 have h1:¬ (t:Int)<0:=by omega
 have h2:¬ (t:Int)≥(N:Int):=by omega
 obtain ⟨u,rfl,hp⟩:=litF hA;simp only[Fls] at hp;clear hA;unfold q13_10 C13 Tryd.f22 seq1 seq2 blockC loopC;simp only[Qa,lits,Nat.reduceAdd,hp];clear hp;go_wp2_with fail;first
  |refine ⟨?_,rfl⟩
  |refine ⟨rfl,?_,rfl⟩
  |skip
 exact ⟨rfl,rfl,by
  intro p hp;simp only[Sm,or_false] at hp;rcases hp with rfl|rfl|rfl|rfl|rfl|rfl|rfl|rfl|rfl|rfl|rfl<;>first|rfl|exact congrArg I (by omega)|exact congrArg Value.bool (by simp<;>omega)|exact congrArg Value.bool (by simp)|(simp;done)⟩
theorem p13_12 (c0:v.cell? ⟨x,0,none⟩=some (I (t:Nat))) (hA:Fl 173 [(0,.slice (some ⟨g,0,none⟩) T ct),(1,I (m:Nat)),(2,.slice (some ⟨b,o,none⟩) N cap),(7,.slice (some ⟨Sb,0,none⟩) m m),(8,.slice (some ⟨Eb,0,none⟩) m m),(9,.slice (some ⟨Lb,0,none⟩) N N),(10,.slice (some ⟨Cb,0,none⟩) N N),(11,.slice (some ⟨Wb,0,none⟩) N N),(12,I (i:Nat)),(13,Pt x 0)] a):
 q13_12.wp Tryd.prog (λe a' w'=>e=.normal∧(Fl 173 [(0,.slice (some ⟨g,0,none⟩) T ct),(1,I (m:Nat)),(2,.slice (some ⟨b,o,none⟩) N cap),(7,.slice (some ⟨Sb,0,none⟩) m m),(8,.slice (some ⟨Eb,0,none⟩) m m),(9,.slice (some ⟨Lb,0,none⟩) N N),(10,.slice (some ⟨Cb,0,none⟩) N N),(11,.slice (some ⟨Wb,0,none⟩) N N),(12,I (i:Nat)),(13,Pt x 0),(14,I (t:Nat))] a'∧w'=v)) a v:=by
 obtain ⟨u,rfl,hp⟩:=litF hA;simp only[Fls] at hp;clear hA;unfold q13_12 C13 Tryd.f22 seq1 seq2 blockC loopC;simp only[Qa,lits,Nat.reduceAdd,hp];clear hp;go_wp2_with fail;first
  |refine ⟨?_,rfl⟩
  |refine ⟨rfl,?_,rfl⟩
  |skip
 exact ⟨rfl,rfl,by
  intro p hp;simp only[Sm,or_false] at hp;rcases hp with rfl|rfl|rfl|rfl|rfl|rfl|rfl|rfl|rfl|rfl|rfl<;>first|rfl|exact congrArg I (by omega)|exact congrArg Value.bool (by simp<;>omega)|exact congrArg Value.bool (by simp)|(simp;done)⟩
theorem p13_13 (c2:v.cell? ⟨x,2,none⟩=some (I op)) (hA:Fl 173 [(0,.slice (some ⟨g,0,none⟩) T ct),(1,I (m:Nat)),(2,.slice (some ⟨b,o,none⟩) N cap),(7,.slice (some ⟨Sb,0,none⟩) m m),(8,.slice (some ⟨Eb,0,none⟩) m m),(9,.slice (some ⟨Lb,0,none⟩) N N),(10,.slice (some ⟨Cb,0,none⟩) N N),(11,.slice (some ⟨Wb,0,none⟩) N N),(12,I (i:Nat)),(13,Pt x 0),(14,I (t:Nat))] a):
 q13_13.wp Tryd.prog (λe a' w'=>e=.normal∧(Fl 173 [(0,.slice (some ⟨g,0,none⟩) T ct),(1,I (m:Nat)),(2,.slice (some ⟨b,o,none⟩) N cap),(7,.slice (some ⟨Sb,0,none⟩) m m),(8,.slice (some ⟨Eb,0,none⟩) m m),(9,.slice (some ⟨Lb,0,none⟩) N N),(10,.slice (some ⟨Cb,0,none⟩) N N),(11,.slice (some ⟨Wb,0,none⟩) N N),(12,I (i:Nat)),(13,Pt x 0),(14,I (t:Nat)),(53,I op)] a'∧w'=v)) a v:=by
 obtain ⟨u,rfl,hp⟩:=litF hA;simp only[Fls] at hp;clear hA;unfold q13_13 C13 Tryd.f22 seq1 seq2 blockC loopC;simp only[Qa,lits,Nat.reduceAdd,hp];clear hp;go_wp2_with fail;first
  |refine ⟨?_,rfl⟩
  |refine ⟨rfl,?_,rfl⟩
  |skip
 exact ⟨rfl,rfl,by
  intro p hp;simp only[Sm,or_false] at hp;rcases hp with rfl|rfl|rfl|rfl|rfl|rfl|rfl|rfl|rfl|rfl|rfl|rfl<;>first|rfl|exact congrArg I (by omega)|exact congrArg Value.bool (by simp<;>omega)|exact congrArg Value.bool (by simp)|(simp;done)⟩
theorem p13_21  (hA:Fl 173 [(0,.slice (some ⟨g,0,none⟩) T ct),(1,I (m:Nat)),(2,.slice (some ⟨b,o,none⟩) N cap),(7,.slice (some ⟨Sb,0,none⟩) m m),(8,.slice (some ⟨Eb,0,none⟩) m m),(9,.slice (some ⟨Lb,0,none⟩) N N),(10,.slice (some ⟨Cb,0,none⟩) N N),(11,.slice (some ⟨Wb,0,none⟩) N N),(12,I (i:Nat)),(13,Pt x 0),(14,I (t:Nat)),(53,I op)] a):
 q13_21.wp Tryd.prog (λe a' w'=>e=.normal∧(Fl 173 [(100,.bool (op==9)),(0,.slice (some ⟨g,0,none⟩) T ct),(1,I (m:Nat)),(2,.slice (some ⟨b,o,none⟩) N cap),(7,.slice (some ⟨Sb,0,none⟩) m m),(8,.slice (some ⟨Eb,0,none⟩) m m),(9,.slice (some ⟨Lb,0,none⟩) N N),(10,.slice (some ⟨Cb,0,none⟩) N N),(11,.slice (some ⟨Wb,0,none⟩) N N),(12,I (i:Nat)),(13,Pt x 0),(14,I (t:Nat)),(53,I op)] a'∧w'=v)) a v:=by
 obtain ⟨u,rfl,hp⟩:=litF hA;simp only[Fls] at hp;clear hA;unfold q13_21 C13 Tryd.f22 seq1 seq2 blockC loopC;simp only[Qa,lits,Nat.reduceAdd,hp];clear hp;go_wp2_with fail;first
  |refine ⟨?_,rfl⟩
  |refine ⟨rfl,?_,rfl⟩
  |skip
 exact ⟨rfl,rfl,by
  intro p hp;simp only[Sm,or_false] at hp;rcases hp with rfl|rfl|rfl|rfl|rfl|rfl|rfl|rfl|rfl|rfl|rfl|rfl|rfl<;>first|rfl|exact congrArg I (by omega)|exact congrArg Value.bool (by simp<;>omega)|exact congrArg Value.bool (by simp)|(simp;done)⟩
theorem p13_22  (hA:Fl 173 [(0,.slice (some ⟨g,0,none⟩) T ct),(1,I (m:Nat)),(2,.slice (some ⟨b,o,none⟩) N cap),(7,.slice (some ⟨Sb,0,none⟩) m m),(8,.slice (some ⟨Eb,0,none⟩) m m),(9,.slice (some ⟨Lb,0,none⟩) N N),(10,.slice (some ⟨Cb,0,none⟩) N N),(11,.slice (some ⟨Wb,0,none⟩) N N),(12,I (i:Nat)),(13,Pt x 0),(14,I (t:Nat)),(53,I op)] a):
 q13_22.wp Tryd.prog (λe a' w'=>e=.normal∧(Fl 173 [(100,.bool (op==10)),(0,.slice (some ⟨g,0,none⟩) T ct),(1,I (m:Nat)),(2,.slice (some ⟨b,o,none⟩) N cap),(7,.slice (some ⟨Sb,0,none⟩) m m),(8,.slice (some ⟨Eb,0,none⟩) m m),(9,.slice (some ⟨Lb,0,none⟩) N N),(10,.slice (some ⟨Cb,0,none⟩) N N),(11,.slice (some ⟨Wb,0,none⟩) N N),(12,I (i:Nat)),(13,Pt x 0),(14,I (t:Nat)),(53,I op)] a'∧w'=v)) a v:=by
 obtain ⟨u,rfl,hp⟩:=litF hA;simp only[Fls] at hp;clear hA;unfold q13_22 C13 Tryd.f22 seq1 seq2 condB blockC loopC;simp only[Qa,lits,Nat.reduceAdd,hp];clear hp;go_wp2_with fail;first
  |refine ⟨?_,rfl⟩
  |refine ⟨rfl,?_,rfl⟩
  |skip
 exact ⟨rfl,rfl,by
  intro p hp;simp only[Sm,or_false] at hp;rcases hp with rfl|rfl|rfl|rfl|rfl|rfl|rfl|rfl|rfl|rfl|rfl|rfl|rfl<;>first|rfl|exact congrArg I (by omega)|exact congrArg Value.bool (by simp<;>omega)|exact congrArg Value.bool (by simp)|(simp;done)⟩
theorem p13_14 (ht:t<N) (hc:c<1000000000) (c1:v.cell? ⟨Cb,t,none⟩=some (I (c:Nat))) (f1:v.frozen? ⟨Cb,t,none⟩=false) (hA:Fl 173 [(0,.slice (some ⟨g,0,none⟩) T ct),(1,I (m:Nat)),(2,.slice (some ⟨b,o,none⟩) N cap),(7,.slice (some ⟨Sb,0,none⟩) m m),(8,.slice (some ⟨Eb,0,none⟩) m m),(9,.slice (some ⟨Lb,0,none⟩) N N),(10,.slice (some ⟨Cb,0,none⟩) N N),(11,.slice (some ⟨Wb,0,none⟩) N N),(12,I (i:Nat)),(13,Pt x 0),(14,I (t:Nat)),(53,I op)] a):
 q13_14.wp Tryd.prog (λe a' w'=>e=.normal∧(Fl 173 [(0,.slice (some ⟨g,0,none⟩) T ct),(1,I (m:Nat)),(2,.slice (some ⟨b,o,none⟩) N cap),(7,.slice (some ⟨Sb,0,none⟩) m m),(8,.slice (some ⟨Eb,0,none⟩) m m),(9,.slice (some ⟨Lb,0,none⟩) N N),(10,.slice (some ⟨Cb,0,none⟩) N N),(11,.slice (some ⟨Wb,0,none⟩) N N),(12,I (i:Nat)),(13,Pt x 0),(14,I (t:Nat)),(53,I op)] a'∧w'=v.setCell ⟨Cb,t,none⟩ (I ((c+1:Nat):Int)))) a v:=by
 have ht':(t:Int)<(N:Int):=by omega
 have h9:wrap64 ((c:Int)+1)=((c+1:Nat):Int):=by unfold wrap64;omega
 obtain ⟨u,rfl,hp⟩:=litF hA;simp only[Fls] at hp;clear hA;unfold q13_14 C13 Tryd.f22 seq1 seq2 condB blockC loopC;simp only[Qa,lits,Nat.reduceAdd,hp];clear hp;go_wp2_with fail;first
  |refine ⟨?_,rfl⟩
  |refine ⟨rfl,?_,rfl⟩
  |skip
 exact ⟨rfl,rfl,by
  intro p hp;simp only[Sm,or_false] at hp;rcases hp with rfl|rfl|rfl|rfl|rfl|rfl|rfl|rfl|rfl|rfl|rfl|rfl<;>first|rfl|exact congrArg I (by omega)|exact congrArg Value.bool (by simp<;>omega)|exact congrArg Value.bool (by simp)|(simp;done)⟩
theorem p13_15 (c2:v.cell? ⟨x,2,none⟩=some (I op)) (hA:Fl 173 [(0,.slice (some ⟨g,0,none⟩) T ct),(1,I (m:Nat)),(2,.slice (some ⟨b,o,none⟩) N cap),(7,.slice (some ⟨Sb,0,none⟩) m m),(8,.slice (some ⟨Eb,0,none⟩) m m),(9,.slice (some ⟨Lb,0,none⟩) N N),(10,.slice (some ⟨Cb,0,none⟩) N N),(11,.slice (some ⟨Wb,0,none⟩) N N),(12,I (i:Nat)),(13,Pt x 0),(14,I (t:Nat)),(53,I op)] a):
 q13_15.wp Tryd.prog (λe a' w'=>e=.normal∧(Fl 173 [(62,.bool (op != 1)),(0,.slice (some ⟨g,0,none⟩) T ct),(1,I (m:Nat)),(2,.slice (some ⟨b,o,none⟩) N cap),(7,.slice (some ⟨Sb,0,none⟩) m m),(8,.slice (some ⟨Eb,0,none⟩) m m),(9,.slice (some ⟨Lb,0,none⟩) N N),(10,.slice (some ⟨Cb,0,none⟩) N N),(11,.slice (some ⟨Wb,0,none⟩) N N),(12,I (i:Nat)),(13,Pt x 0),(14,I (t:Nat)),(53,I op)] a'∧w'=v)) a v:=by
 obtain ⟨u,rfl,hp⟩:=litF hA;simp only[Fls] at hp;clear hA;unfold q13_15 C13 Tryd.f22 seq1 seq2 condB blockC loopC;simp only[Qa,lits,Nat.reduceAdd,hp];clear hp;go_wp2_with fail;first
  |refine ⟨?_,rfl⟩
  |refine ⟨rfl,?_,rfl⟩
  |skip
 exact ⟨rfl,rfl,by
  intro p hp;simp only[Sm,or_false] at hp;rcases hp with rfl|rfl|rfl|rfl|rfl|rfl|rfl|rfl|rfl|rfl|rfl|rfl|rfl<;>first|rfl|exact congrArg I (by omega)|exact congrArg Value.bool (by simp<;>omega)|exact congrArg Value.bool (by simp)|(simp;done)⟩
theorem p13_16 (ht:t<N) (hc:c<1000000000) (c1:v.cell? ⟨Wb,t,none⟩=some (I (c:Nat))) (f1:v.frozen? ⟨Wb,t,none⟩=false) (hA:Fl 173 [(0,.slice (some ⟨g,0,none⟩) T ct),(1,I (m:Nat)),(2,.slice (some ⟨b,o,none⟩) N cap),(7,.slice (some ⟨Sb,0,none⟩) m m),(8,.slice (some ⟨Eb,0,none⟩) m m),(9,.slice (some ⟨Lb,0,none⟩) N N),(10,.slice (some ⟨Cb,0,none⟩) N N),(11,.slice (some ⟨Wb,0,none⟩) N N),(12,I (i:Nat)),(13,Pt x 0),(14,I (t:Nat)),(53,I op)] a):
 q13_16.wp Tryd.prog (λe a' w'=>e=.normal∧(Fl 173 [(0,.slice (some ⟨g,0,none⟩) T ct),(1,I (m:Nat)),(2,.slice (some ⟨b,o,none⟩) N cap),(7,.slice (some ⟨Sb,0,none⟩) m m),(8,.slice (some ⟨Eb,0,none⟩) m m),(9,.slice (some ⟨Lb,0,none⟩) N N),(10,.slice (some ⟨Cb,0,none⟩) N N),(11,.slice (some ⟨Wb,0,none⟩) N N),(12,I (i:Nat)),(13,Pt x 0),(14,I (t:Nat)),(53,I op)] a'∧w'=v.setCell ⟨Wb,t,none⟩ (I ((c+1:Nat):Int)))) a v:=by
 have ht':(t:Int)<(N:Int):=by omega
 have h9:wrap64 ((c:Int)+1)=((c+1:Nat):Int):=by unfold wrap64;omega
 obtain ⟨u,rfl,hp⟩:=litF hA;simp only[Fls] at hp;clear hA;unfold q13_16 C13 Tryd.f22 seq1 seq2 condA condB blockC loopC;simp only[Qa,lits,Nat.reduceAdd,hp];clear hp;go_wp2_with fail;first
  |refine ⟨?_,rfl⟩
  |refine ⟨rfl,?_,rfl⟩
  |skip
 exact ⟨rfl,rfl,by
  intro p hp;simp only[Sm,or_false] at hp;rcases hp with rfl|rfl|rfl|rfl|rfl|rfl|rfl|rfl|rfl|rfl|rfl|rfl<;>first|rfl|exact congrArg I (by omega)|exact congrArg Value.bool (by simp<;>omega)|exact congrArg Value.bool (by simp)|(simp;done)⟩
theorem p13_17a (c2:v.cell? ⟨x,2,none⟩=some (I op)) (h2:¬ op=2) (hA:Fl 173 [(0,.slice (some ⟨g,0,none⟩) T ct),(1,I (m:Nat)),(2,.slice (some ⟨b,o,none⟩) N cap),(7,.slice (some ⟨Sb,0,none⟩) m m),(8,.slice (some ⟨Eb,0,none⟩) m m),(9,.slice (some ⟨Lb,0,none⟩) N N),(10,.slice (some ⟨Cb,0,none⟩) N N),(11,.slice (some ⟨Wb,0,none⟩) N N),(12,I (i:Nat)),(13,Pt x 0),(14,I (t:Nat)),(53,I op)] a):
 q13_17.wp Tryd.prog (λe a' w'=>e=.normal∧(Fl 173 [(84,.bool false),(0,.slice (some ⟨g,0,none⟩) T ct),(1,I (m:Nat)),(2,.slice (some ⟨b,o,none⟩) N cap),(7,.slice (some ⟨Sb,0,none⟩) m m),(8,.slice (some ⟨Eb,0,none⟩) m m),(9,.slice (some ⟨Lb,0,none⟩) N N),(10,.slice (some ⟨Cb,0,none⟩) N N),(11,.slice (some ⟨Wb,0,none⟩) N N),(12,I (i:Nat)),(13,Pt x 0),(14,I (t:Nat)),(53,I op)] a'∧w'=v)) a v:=by
 have g2:(op==2)=false:=by simp[h2]
 obtain ⟨u,rfl,hp⟩:=litF hA;simp only[Fls] at hp;clear hA;unfold q13_17 C13 Tryd.f22 seq1 seq2 condB blockC loopC;simp only[Qa,lits,Nat.reduceAdd,hp];clear hp;go_wp2_with fail;first
  |refine ⟨?_,rfl⟩
  |refine ⟨rfl,?_,rfl⟩
  |skip
 exact ⟨rfl,rfl,by
  intro p hp;simp only[Sm,or_false] at hp;rcases hp with rfl|rfl|rfl|rfl|rfl|rfl|rfl|rfl|rfl|rfl|rfl|rfl|rfl<;>first|rfl|exact congrArg I (by omega)|exact congrArg Value.bool (by simp<;>omega)|exact congrArg Value.bool (by simp)|(simp;done)⟩
theorem p13_17b (c2:v.cell? ⟨x,2,none⟩=some (I 2)) (c1:v.cell? ⟨x,1,none⟩=some (I ce)) (g2:(ce.tmod 2==1)=false) (hA:Fl 173 [(0,.slice (some ⟨g,0,none⟩) T ct),(1,I (m:Nat)),(2,.slice (some ⟨b,o,none⟩) N cap),(7,.slice (some ⟨Sb,0,none⟩) m m),(8,.slice (some ⟨Eb,0,none⟩) m m),(9,.slice (some ⟨Lb,0,none⟩) N N),(10,.slice (some ⟨Cb,0,none⟩) N N),(11,.slice (some ⟨Wb,0,none⟩) N N),(12,I (i:Nat)),(13,Pt x 0),(14,I (t:Nat)),(53,I 2)] a):
 q13_17.wp Tryd.prog (λe a' w'=>e=.normal∧(Fl 173 [(84,.bool false),(0,.slice (some ⟨g,0,none⟩) T ct),(1,I (m:Nat)),(2,.slice (some ⟨b,o,none⟩) N cap),(7,.slice (some ⟨Sb,0,none⟩) m m),(8,.slice (some ⟨Eb,0,none⟩) m m),(9,.slice (some ⟨Lb,0,none⟩) N N),(10,.slice (some ⟨Cb,0,none⟩) N N),(11,.slice (some ⟨Wb,0,none⟩) N N),(12,I (i:Nat)),(13,Pt x 0),(14,I (t:Nat)),(53,I 2)] a'∧w'=v)) a v:=by
 obtain ⟨u,rfl,hp⟩:=litF hA;simp only[Fls] at hp;clear hA;unfold q13_17 C13 Tryd.f22 seq1 seq2 condB blockC loopC;simp only[Qa,lits,Nat.reduceAdd,hp];clear hp;go_wp2_with fail;first
  |refine ⟨?_,rfl⟩
  |refine ⟨rfl,?_,rfl⟩
  |skip
 exact ⟨rfl,rfl,by
  intro p hp;simp only[Sm,or_false] at hp;rcases hp with rfl|rfl|rfl|rfl|rfl|rfl|rfl|rfl|rfl|rfl|rfl|rfl|rfl<;>first|rfl|exact congrArg I (by omega)|exact congrArg Value.bool (by simp<;>omega)|exact congrArg Value.bool (by simp)|(simp;done)⟩
theorem p13_17c (hk:k<m) (c1:v.cell? ⟨x,1,none⟩=some (I ce)) (g3:wrap64 (ce.tdiv 2)=(k:Int)) (c2:v.cell? ⟨x,2,none⟩=some (I 2)) (g2:(ce.tmod 2==1)=true) (hA:Fl 173 [(0,.slice (some ⟨g,0,none⟩) T ct),(1,I (m:Nat)),(2,.slice (some ⟨b,o,none⟩) N cap),(7,.slice (some ⟨Sb,0,none⟩) m m),(8,.slice (some ⟨Eb,0,none⟩) m m),(9,.slice (some ⟨Lb,0,none⟩) N N),(10,.slice (some ⟨Cb,0,none⟩) N N),(11,.slice (some ⟨Wb,0,none⟩) N N),(12,I (i:Nat)),(13,Pt x 0),(14,I (t:Nat)),(53,I 2)] a):
 q13_17.wp Tryd.prog (λe a' w'=>e=.normal∧(Fl 173 [(84,.bool true),(0,.slice (some ⟨g,0,none⟩) T ct),(1,I (m:Nat)),(2,.slice (some ⟨b,o,none⟩) N cap),(7,.slice (some ⟨Sb,0,none⟩) m m),(8,.slice (some ⟨Eb,0,none⟩) m m),(9,.slice (some ⟨Lb,0,none⟩) N N),(10,.slice (some ⟨Cb,0,none⟩) N N),(11,.slice (some ⟨Wb,0,none⟩) N N),(12,I (i:Nat)),(13,Pt x 0),(14,I (t:Nat)),(53,I 2)] a'∧w'=v)) a v:=by
 have hk':(k:Int)<(m:Int):=by omega
 have hk0:¬ (k:Int)<0:=by omega
 obtain ⟨u,rfl,hp⟩:=litF hA;simp only[Fls] at hp;clear hA;unfold q13_17 C13 Tryd.f22 seq1 seq2 condB blockC loopC;simp only[Qa,lits,Nat.reduceAdd,hp];clear hp;go_wp2_with fail;first
  |refine ⟨?_,rfl⟩
  |refine ⟨rfl,?_,rfl⟩
  |skip
 exact ⟨rfl,rfl,by
  intro p hp;simp only[Sm,or_false] at hp;rcases hp with rfl|rfl|rfl|rfl|rfl|rfl|rfl|rfl|rfl|rfl|rfl|rfl|rfl<;>first|rfl|exact congrArg I (by omega)|exact congrArg Value.bool (by simp<;>omega)|exact congrArg Value.bool (by simp)|(simp;done)⟩
theorem p13_18 (hk:k<m) (c1:v.cell? ⟨x,1,none⟩=some (I ce)) (g3:wrap64 (ce.tdiv 2)=(k:Int)) (hc:c<1000000000) (d1:v.cell? ⟨Sb,k,none⟩=some (I (c:Nat))) (f1:v.frozen? ⟨Sb,k,none⟩=false) (hA:Fl 173 [(0,.slice (some ⟨g,0,none⟩) T ct),(1,I (m:Nat)),(2,.slice (some ⟨b,o,none⟩) N cap),(7,.slice (some ⟨Sb,0,none⟩) m m),(8,.slice (some ⟨Eb,0,none⟩) m m),(9,.slice (some ⟨Lb,0,none⟩) N N),(10,.slice (some ⟨Cb,0,none⟩) N N),(11,.slice (some ⟨Wb,0,none⟩) N N),(12,I (i:Nat)),(13,Pt x 0),(14,I (t:Nat)),(53,I 2)] a):
 q13_18.wp Tryd.prog (λe a' w'=>e=.normal∧(Fl 173 [(0,.slice (some ⟨g,0,none⟩) T ct),(1,I (m:Nat)),(2,.slice (some ⟨b,o,none⟩) N cap),(7,.slice (some ⟨Sb,0,none⟩) m m),(8,.slice (some ⟨Eb,0,none⟩) m m),(9,.slice (some ⟨Lb,0,none⟩) N N),(10,.slice (some ⟨Cb,0,none⟩) N N),(11,.slice (some ⟨Wb,0,none⟩) N N),(12,I (i:Nat)),(13,Pt x 0),(14,I (t:Nat)),(53,I 2)] a'∧w'=v.setCell ⟨Sb,k,none⟩ (I ((c+1:Nat):Int)))) a v:=by
 have hk':(k:Int)<(m:Int):=by omega
 have hk0:¬ (k:Int)<0:=by omega
 have h9:wrap64 ((c:Int)+1)=((c+1:Nat):Int):=by unfold wrap64;omega
 obtain ⟨u,rfl,hp⟩:=litF hA;simp only[Fls] at hp;clear hA;unfold q13_18 C13 Tryd.f22 seq1 seq2 condA condB blockC loopC;simp only[Qa,lits,Nat.reduceAdd,hp];clear hp;go_wp2_with fail;first
  |refine ⟨?_,rfl⟩
  |refine ⟨rfl,?_,rfl⟩
  |skip
 exact ⟨rfl,rfl,by
  intro p hp;simp only[Sm,or_false] at hp;rcases hp with rfl|rfl|rfl|rfl|rfl|rfl|rfl|rfl|rfl|rfl|rfl|rfl<;>first|rfl|exact congrArg I (by omega)|exact congrArg Value.bool (by simp<;>omega)|exact congrArg Value.bool (by simp)|(simp;done)⟩
theorem p13_19 {c:Int}(hk:k<m) (c1:v.cell? ⟨x,1,none⟩=some (I ce)) (g3:wrap64 (ce.tdiv 2)=(k:Int)) (d1:v.cell? ⟨Sb,k,none⟩=some (I c)) (hc:c<=1) (hA:Fl 173 [(0,.slice (some ⟨g,0,none⟩) T ct),(1,I (m:Nat)),(2,.slice (some ⟨b,o,none⟩) N cap),(7,.slice (some ⟨Sb,0,none⟩) m m),(8,.slice (some ⟨Eb,0,none⟩) m m),(9,.slice (some ⟨Lb,0,none⟩) N N),(10,.slice (some ⟨Cb,0,none⟩) N N),(11,.slice (some ⟨Wb,0,none⟩) N N),(12,I (i:Nat)),(13,Pt x 0),(14,I (t:Nat)),(53,I 2)] a):
 q13_19.wp Tryd.prog (λe a' w'=>e=.normal∧(Fl 173 [(99,.bool false),(0,.slice (some ⟨g,0,none⟩) T ct),(1,I (m:Nat)),(2,.slice (some ⟨b,o,none⟩) N cap),(7,.slice (some ⟨Sb,0,none⟩) m m),(8,.slice (some ⟨Eb,0,none⟩) m m),(9,.slice (some ⟨Lb,0,none⟩) N N),(10,.slice (some ⟨Cb,0,none⟩) N N),(11,.slice (some ⟨Wb,0,none⟩) N N),(12,I (i:Nat)),(13,Pt x 0),(14,I (t:Nat)),(53,I 2)] a'∧w'=v)) a v:=by
 have hk':(k:Int)<(m:Int):=by omega
 have hk0:¬ (k:Int)<0:=by omega
 have h9:¬ c > 1:=by omega
 obtain ⟨u,rfl,hp⟩:=litF hA;simp only[Fls] at hp;clear hA;unfold q13_19 C13 Tryd.f22 seq1 seq2 condA condB blockC loopC;simp only[Qa,lits,Nat.reduceAdd,hp];clear hp;go_wp2_with fail;first
  |refine ⟨?_,rfl⟩
  |refine ⟨rfl,?_,rfl⟩
  |skip
 exact ⟨rfl,rfl,by
  intro p hp;simp only[Sm,or_false] at hp;rcases hp with rfl|rfl|rfl|rfl|rfl|rfl|rfl|rfl|rfl|rfl|rfl|rfl|rfl<;>first|rfl|exact congrArg I (by omega)|exact congrArg Value.bool (by simp<;>omega)|exact congrArg Value.bool (by simp)|(simp;done)⟩
theorem p13_27 {ca:Int}(hm0:0<m) (hm:m<=1000) (c1:v.cell? ⟨y,1,none⟩=some (I ca)) (hA:Fl 173 [(0,.slice (some ⟨g,0,none⟩) T ct),(1,I (m:Nat)),(2,.slice (some ⟨b,o,none⟩) N cap),(7,.slice (some ⟨Sb,0,none⟩) m m),(8,.slice (some ⟨Eb,0,none⟩) m m),(9,.slice (some ⟨Lb,0,none⟩) N N),(10,.slice (some ⟨Cb,0,none⟩) N N),(11,.slice (some ⟨Wb,0,none⟩) N N),(12,I (i:Nat)),(13,Pt x 0),(14,I (t:Nat)),(53,I op),(15,Pt y 0)] a):
 q13_27.wp Tryd.prog (λe a' w'=>e=.normal∧(Fl 173 [(0,.slice (some ⟨g,0,none⟩) T ct),(1,I (m:Nat)),(2,.slice (some ⟨b,o,none⟩) N cap),(7,.slice (some ⟨Sb,0,none⟩) m m),(8,.slice (some ⟨Eb,0,none⟩) m m),(9,.slice (some ⟨Lb,0,none⟩) N N),(10,.slice (some ⟨Cb,0,none⟩) N N),(11,.slice (some ⟨Wb,0,none⟩) N N),(12,I (i:Nat)),(13,Pt x 0),(14,I (t:Nat)),(53,I op),(15,Pt y 0),(16,I (which ca m:Nat))] a'∧w'=v)) a v:=by
 have H3:=Hid.mk ((place_body ca m hm0 (by omega) v).calls Tryd.func20 rfl);clear hm0 hm;obtain ⟨u,rfl,hp⟩:=litF hA;simp only[Fls] at hp;clear hA;unfold q13_27 C13 Tryd.f22 seq1 seq2 condA blockC loopC;simp only[Qa,lits,Nat.reduceAdd,hp];clear hp
 go_wp2_with (first|(go_at_call 20;refine H3.out.mono ?_;rintro e w1 ⟨_,rfl,rfl,rfl⟩))
 first
  |refine ⟨?_,rfl⟩
  |refine ⟨rfl,?_,rfl⟩
  |skip
 exact ⟨rfl,rfl,by
  intro p hp;simp only[Sm,or_false] at hp;rcases hp with rfl|rfl|rfl|rfl|rfl|rfl|rfl|rfl|rfl|rfl|rfl|rfl|rfl|rfl<;>first|rfl|exact congrArg I (by omega)|exact congrArg Value.bool (by simp<;>omega)|exact congrArg Value.bool (by simp)|(simp;done)⟩
theorem p13_26y (c0:v.cell? ⟨y,0,none⟩=some (I po)) (h1:1<=po) (h2:po<=4) (hA:Fl 173 [(0,.slice (some ⟨g,0,none⟩) T ct),(1,I (m:Nat)),(2,.slice (some ⟨b,o,none⟩) N cap),(7,.slice (some ⟨Sb,0,none⟩) m m),(8,.slice (some ⟨Eb,0,none⟩) m m),(9,.slice (some ⟨Lb,0,none⟩) N N),(10,.slice (some ⟨Cb,0,none⟩) N N),(11,.slice (some ⟨Wb,0,none⟩) N N),(12,I (i:Nat)),(13,Pt x 0),(14,I (t:Nat)),(53,I op),(15,Pt y 0)] a):
 q13_26.wp Tryd.prog (λe a' w'=>e=.normal∧(Fl 173 [(131,.bool false),(0,.slice (some ⟨g,0,none⟩) T ct),(1,I (m:Nat)),(2,.slice (some ⟨b,o,none⟩) N cap),(7,.slice (some ⟨Sb,0,none⟩) m m),(8,.slice (some ⟨Eb,0,none⟩) m m),(9,.slice (some ⟨Lb,0,none⟩) N N),(10,.slice (some ⟨Cb,0,none⟩) N N),(11,.slice (some ⟨Wb,0,none⟩) N N),(12,I (i:Nat)),(13,Pt x 0),(14,I (t:Nat)),(53,I op),(15,Pt y 0)] a'∧w'=v)) a v:=by
 have g1:¬ po<1:=by omega
 have g2:¬ po > 4:=by omega
 obtain ⟨u,rfl,hp⟩:=litF hA;simp only[Fls] at hp;clear hA;unfold q13_26 C13 Tryd.f22 seq1 seq2 condA blockC loopC;simp only[Qa,lits,Nat.reduceAdd,hp];clear hp;go_wp2_with fail;first
  |refine ⟨?_,rfl⟩
  |refine ⟨rfl,?_,rfl⟩
  |skip
 exact ⟨rfl,rfl,by
  intro p hp;simp only[Sm,or_false] at hp;rcases hp with rfl|rfl|rfl|rfl|rfl|rfl|rfl|rfl|rfl|rfl|rfl|rfl|rfl|rfl<;>first|rfl|exact congrArg I (by omega)|exact congrArg Value.bool (by simp<;>omega)|exact congrArg Value.bool (by simp)|(simp;done)⟩
theorem p13_26a (c0:v.cell? ⟨y,0,none⟩=some (I po)) (h1:po<1) (hA:Fl 173 [(0,.slice (some ⟨g,0,none⟩) T ct),(1,I (m:Nat)),(2,.slice (some ⟨b,o,none⟩) N cap),(7,.slice (some ⟨Sb,0,none⟩) m m),(8,.slice (some ⟨Eb,0,none⟩) m m),(9,.slice (some ⟨Lb,0,none⟩) N N),(10,.slice (some ⟨Cb,0,none⟩) N N),(11,.slice (some ⟨Wb,0,none⟩) N N),(12,I (i:Nat)),(13,Pt x 0),(14,I (t:Nat)),(53,I op),(15,Pt y 0)] a):
 q13_26.wp Tryd.prog (λe a' w'=>e=.normal∧(Fl 173 [(131,.bool true),(0,.slice (some ⟨g,0,none⟩) T ct),(1,I (m:Nat)),(2,.slice (some ⟨b,o,none⟩) N cap),(7,.slice (some ⟨Sb,0,none⟩) m m),(8,.slice (some ⟨Eb,0,none⟩) m m),(9,.slice (some ⟨Lb,0,none⟩) N N),(10,.slice (some ⟨Cb,0,none⟩) N N),(11,.slice (some ⟨Wb,0,none⟩) N N),(12,I (i:Nat)),(13,Pt x 0),(14,I (t:Nat)),(53,I op),(15,Pt y 0)] a'∧w'=v)) a v:=by
 obtain ⟨u,rfl,hp⟩:=litF hA;simp only[Fls] at hp;clear hA;unfold q13_26 C13 Tryd.f22 seq1 seq2 condA blockC loopC;simp only[Qa,lits,Nat.reduceAdd,hp];clear hp;go_wp2_with fail;first
  |refine ⟨?_,rfl⟩
  |refine ⟨rfl,?_,rfl⟩
  |skip
 exact ⟨rfl,rfl,by
  intro p hp;simp only[Sm,or_false] at hp;rcases hp with rfl|rfl|rfl|rfl|rfl|rfl|rfl|rfl|rfl|rfl|rfl|rfl|rfl|rfl<;>first|rfl|exact congrArg I (by omega)|exact congrArg Value.bool (by simp<;>omega)|exact congrArg Value.bool (by simp)|(simp;done)⟩
theorem p13_26b (c0:v.cell? ⟨y,0,none⟩=some (I po)) (h1:4<po) (hA:Fl 173 [(0,.slice (some ⟨g,0,none⟩) T ct),(1,I (m:Nat)),(2,.slice (some ⟨b,o,none⟩) N cap),(7,.slice (some ⟨Sb,0,none⟩) m m),(8,.slice (some ⟨Eb,0,none⟩) m m),(9,.slice (some ⟨Lb,0,none⟩) N N),(10,.slice (some ⟨Cb,0,none⟩) N N),(11,.slice (some ⟨Wb,0,none⟩) N N),(12,I (i:Nat)),(13,Pt x 0),(14,I (t:Nat)),(53,I op),(15,Pt y 0)] a):
 q13_26.wp Tryd.prog (λe a' w'=>e=.normal∧(Fl 173 [(131,.bool true),(0,.slice (some ⟨g,0,none⟩) T ct),(1,I (m:Nat)),(2,.slice (some ⟨b,o,none⟩) N cap),(7,.slice (some ⟨Sb,0,none⟩) m m),(8,.slice (some ⟨Eb,0,none⟩) m m),(9,.slice (some ⟨Lb,0,none⟩) N N),(10,.slice (some ⟨Cb,0,none⟩) N N),(11,.slice (some ⟨Wb,0,none⟩) N N),(12,I (i:Nat)),(13,Pt x 0),(14,I (t:Nat)),(53,I op),(15,Pt y 0)] a'∧w'=v)) a v:=by
 have g1:¬ po<1:=by omega
 have g2:po > 4:=by omega
 obtain ⟨u,rfl,hp⟩:=litF hA;simp only[Fls] at hp;clear hA;unfold q13_26 C13 Tryd.f22 seq1 seq2 condA blockC loopC;simp only[Qa,lits,Nat.reduceAdd,hp];clear hp;go_wp2_with fail;first
  |refine ⟨?_,rfl⟩
  |refine ⟨rfl,?_,rfl⟩
  |skip
 exact ⟨rfl,rfl,by
  intro p hp;simp only[Sm,or_false] at hp;rcases hp with rfl|rfl|rfl|rfl|rfl|rfl|rfl|rfl|rfl|rfl|rfl|rfl|rfl|rfl<;>first|rfl|exact congrArg I (by omega)|exact congrArg Value.bool (by simp<;>omega)|exact congrArg Value.bool (by simp)|(simp;done)⟩
theorem p13_28 (c2:v.cell? ⟨x,2,none⟩=some (I op)) (hA:Fl 173 [(0,.slice (some ⟨g,0,none⟩) T ct),(1,I (m:Nat)),(2,.slice (some ⟨b,o,none⟩) N cap),(7,.slice (some ⟨Sb,0,none⟩) m m),(8,.slice (some ⟨Eb,0,none⟩) m m),(9,.slice (some ⟨Lb,0,none⟩) N N),(10,.slice (some ⟨Cb,0,none⟩) N N),(11,.slice (some ⟨Wb,0,none⟩) N N),(12,I (i:Nat)),(13,Pt x 0),(14,I (t:Nat)),(53,I op),(15,Pt y 0),(16,I (w:Nat))] a):
 q13_28.wp Tryd.prog (λe a' w'=>e=.normal∧(Fl 173 [(138,.bool (op==9)),(0,.slice (some ⟨g,0,none⟩) T ct),(1,I (m:Nat)),(2,.slice (some ⟨b,o,none⟩) N cap),(7,.slice (some ⟨Sb,0,none⟩) m m),(8,.slice (some ⟨Eb,0,none⟩) m m),(9,.slice (some ⟨Lb,0,none⟩) N N),(10,.slice (some ⟨Cb,0,none⟩) N N),(11,.slice (some ⟨Wb,0,none⟩) N N),(12,I (i:Nat)),(13,Pt x 0),(14,I (t:Nat)),(53,I op),(15,Pt y 0),(16,I (w:Nat))] a'∧w'=v)) a v:=by
 obtain ⟨u,rfl,hp⟩:=litF hA;simp only[Fls] at hp;clear hA;unfold q13_28 C13 Tryd.f22 seq1 seq2 condA blockC loopC;simp only[Qa,lits,Nat.reduceAdd,hp];clear hp;go_wp2_with fail;first
  |refine ⟨?_,rfl⟩
  |refine ⟨rfl,?_,rfl⟩
  |skip
 exact ⟨rfl,rfl,by
  intro p hp;simp only[Sm,or_false] at hp;rcases hp with rfl|rfl|rfl|rfl|rfl|rfl|rfl|rfl|rfl|rfl|rfl|rfl|rfl|rfl|rfl<;>first|rfl|exact congrArg I (by omega)|exact congrArg Value.bool (by simp<;>omega)|exact congrArg Value.bool (by simp)|(simp;done)⟩
theorem p13_29 {q q0:Bool}(ht:t<N) (hw:w<m) (c1:v.cell? ⟨Eb,w,none⟩=some (.bool q)) (c2:v.cell? ⟨Lb,t,none⟩=some (.bool q0)) (f1:v.frozen? ⟨Lb,t,none⟩=false) (hA:Fl 173 [(0,.slice (some ⟨g,0,none⟩) T ct),(1,I (m:Nat)),(2,.slice (some ⟨b,o,none⟩) N cap),(7,.slice (some ⟨Sb,0,none⟩) m m),(8,.slice (some ⟨Eb,0,none⟩) m m),(9,.slice (some ⟨Lb,0,none⟩) N N),(10,.slice (some ⟨Cb,0,none⟩) N N),(11,.slice (some ⟨Wb,0,none⟩) N N),(12,I (i:Nat)),(13,Pt x 0),(14,I (t:Nat)),(53,I op),(15,Pt y 0),(16,I (w:Nat))] a):
 q13_29.wp Tryd.prog (λe a' w'=>e=.normal∧(Fl 173 [(0,.slice (some ⟨g,0,none⟩) T ct),(1,I (m:Nat)),(2,.slice (some ⟨b,o,none⟩) N cap),(7,.slice (some ⟨Sb,0,none⟩) m m),(8,.slice (some ⟨Eb,0,none⟩) m m),(9,.slice (some ⟨Lb,0,none⟩) N N),(10,.slice (some ⟨Cb,0,none⟩) N N),(11,.slice (some ⟨Wb,0,none⟩) N N),(12,I (i:Nat)),(13,Pt x 0),(14,I (t:Nat)),(53,I op),(15,Pt y 0),(16,I (w:Nat))] a'∧w'=v.setCell ⟨Lb,t,none⟩ (.bool q))) a v:=by
 have ht':(t:Int)<(N:Int):=by omega
 have hw':(w:Int)<(m:Int):=by omega
 obtain ⟨u,rfl,hp⟩:=litF hA;simp only[Fls] at hp;clear hA;unfold q13_29 C13 Tryd.f22 seq1 seq2 condA blockC loopC;simp only[Qa,lits,Nat.reduceAdd,hp];clear hp;go_wp2_with fail;first
  |refine ⟨?_,rfl⟩
  |refine ⟨rfl,?_,rfl⟩
  |skip
 exact ⟨rfl,rfl,by
  intro p hp;simp only[Sm,or_false] at hp;rcases hp with rfl|rfl|rfl|rfl|rfl|rfl|rfl|rfl|rfl|rfl|rfl|rfl|rfl|rfl<;>first|rfl|exact congrArg I (by omega)|exact congrArg Value.bool (by simp<;>omega)|exact congrArg Value.bool (by simp)|(simp;done)⟩
theorem p13_30 {c:Int}(ht:t<N) (c1:v.cell? ⟨Cb,t,none⟩=some (I c)) (f1:v.frozen? ⟨Cb,t,none⟩=false) (hA:Fl 173 [(0,.slice (some ⟨g,0,none⟩) T ct),(1,I (m:Nat)),(2,.slice (some ⟨b,o,none⟩) N cap),(7,.slice (some ⟨Sb,0,none⟩) m m),(8,.slice (some ⟨Eb,0,none⟩) m m),(9,.slice (some ⟨Lb,0,none⟩) N N),(10,.slice (some ⟨Cb,0,none⟩) N N),(11,.slice (some ⟨Wb,0,none⟩) N N),(12,I (i:Nat)),(13,Pt x 0),(14,I (t:Nat)),(53,I op),(15,Pt y 0),(16,I (w:Nat))] a):
 q13_30.wp Tryd.prog (λe a' w'=>e=.normal∧(Fl 173 [(0,.slice (some ⟨g,0,none⟩) T ct),(1,I (m:Nat)),(2,.slice (some ⟨b,o,none⟩) N cap),(7,.slice (some ⟨Sb,0,none⟩) m m),(8,.slice (some ⟨Eb,0,none⟩) m m),(9,.slice (some ⟨Lb,0,none⟩) N N),(10,.slice (some ⟨Cb,0,none⟩) N N),(11,.slice (some ⟨Wb,0,none⟩) N N),(12,I (i:Nat)),(13,Pt x 0),(14,I (t:Nat)),(53,I op),(15,Pt y 0),(16,I (w:Nat))] a'∧w'=v.setCell ⟨Cb,t,none⟩ (I ((0:Nat):Int)))) a v:=by
 have ht':(t:Int)<(N:Int):=by omega
 obtain ⟨u,rfl,hp⟩:=litF hA;simp only[Fls] at hp;clear hA;unfold q13_30 C13 Tryd.f22 seq1 seq2 condA blockC loopC;simp only[Qa,lits,Nat.reduceAdd,hp];clear hp;go_wp2_with fail;first
  |refine ⟨?_,rfl⟩
  |refine ⟨rfl,?_,rfl⟩
  |skip
 exact ⟨rfl,rfl,by
  intro p hp;simp only[Sm,or_false] at hp;rcases hp with rfl|rfl|rfl|rfl|rfl|rfl|rfl|rfl|rfl|rfl|rfl|rfl|rfl|rfl<;>first|rfl|exact congrArg I (by omega)|exact congrArg Value.bool (by simp<;>omega)|exact congrArg Value.bool (by simp)|(simp;done)⟩
theorem p13_31 {c:Int}(ht:t<N) (c1:v.cell? ⟨Wb,t,none⟩=some (I c)) (f1:v.frozen? ⟨Wb,t,none⟩=false) (hA:Fl 173 [(0,.slice (some ⟨g,0,none⟩) T ct),(1,I (m:Nat)),(2,.slice (some ⟨b,o,none⟩) N cap),(7,.slice (some ⟨Sb,0,none⟩) m m),(8,.slice (some ⟨Eb,0,none⟩) m m),(9,.slice (some ⟨Lb,0,none⟩) N N),(10,.slice (some ⟨Cb,0,none⟩) N N),(11,.slice (some ⟨Wb,0,none⟩) N N),(12,I (i:Nat)),(13,Pt x 0),(14,I (t:Nat)),(53,I op),(15,Pt y 0),(16,I (w:Nat))] a):
 q13_31.wp Tryd.prog (λe a' w'=>e=.normal∧(Fl 173 [(0,.slice (some ⟨g,0,none⟩) T ct),(1,I (m:Nat)),(2,.slice (some ⟨b,o,none⟩) N cap),(7,.slice (some ⟨Sb,0,none⟩) m m),(8,.slice (some ⟨Eb,0,none⟩) m m),(9,.slice (some ⟨Lb,0,none⟩) N N),(10,.slice (some ⟨Cb,0,none⟩) N N),(11,.slice (some ⟨Wb,0,none⟩) N N),(12,I (i:Nat)),(13,Pt x 0),(14,I (t:Nat)),(53,I op),(15,Pt y 0),(16,I (w:Nat))] a'∧w'=v.setCell ⟨Wb,t,none⟩ (I ((0:Nat):Int)))) a v:=by
 have ht':(t:Int)<(N:Int):=by omega
 obtain ⟨u,rfl,hp⟩:=litF hA;simp only[Fls] at hp;clear hA;unfold q13_31 C13 Tryd.f22 seq1 seq2 condA blockC loopC;simp only[Qa,lits,Nat.reduceAdd,hp];clear hp;go_wp2_with fail;first
  |refine ⟨?_,rfl⟩
  |refine ⟨rfl,?_,rfl⟩
  |skip
 exact ⟨rfl,rfl,by
  intro p hp;simp only[Sm,or_false] at hp;rcases hp with rfl|rfl|rfl|rfl|rfl|rfl|rfl|rfl|rfl|rfl|rfl|rfl|rfl|rfl<;>first|rfl|exact congrArg I (by omega)|exact congrArg Value.bool (by simp<;>omega)|exact congrArg Value.bool (by simp)|(simp;done)⟩
theorem p13_32 {q:Bool}(hw:w<m) (c1:v.cell? ⟨Eb,w,none⟩=some (.bool q)) (f1:v.frozen? ⟨Eb,w,none⟩=false) (hA:Fl 173 [(0,.slice (some ⟨g,0,none⟩) T ct),(1,I (m:Nat)),(2,.slice (some ⟨b,o,none⟩) N cap),(7,.slice (some ⟨Sb,0,none⟩) m m),(8,.slice (some ⟨Eb,0,none⟩) m m),(9,.slice (some ⟨Lb,0,none⟩) N N),(10,.slice (some ⟨Cb,0,none⟩) N N),(11,.slice (some ⟨Wb,0,none⟩) N N),(12,I (i:Nat)),(13,Pt x 0),(14,I (t:Nat)),(53,I op),(15,Pt y 0),(16,I (w:Nat))] a):
 q13_32.wp Tryd.prog (λe a' w'=>e=.normal∧(Fl 173 [(0,.slice (some ⟨g,0,none⟩) T ct),(1,I (m:Nat)),(2,.slice (some ⟨b,o,none⟩) N cap),(7,.slice (some ⟨Sb,0,none⟩) m m),(8,.slice (some ⟨Eb,0,none⟩) m m),(9,.slice (some ⟨Lb,0,none⟩) N N),(10,.slice (some ⟨Cb,0,none⟩) N N),(11,.slice (some ⟨Wb,0,none⟩) N N),(12,I (i:Nat)),(13,Pt x 0),(14,I (t:Nat)),(53,I op),(15,Pt y 0),(16,I (w:Nat))] a'∧w'=v.setCell ⟨Eb,w,none⟩ (.bool true))) a v:=by
 have hw':(w:Int)<(m:Int):=by omega
 obtain ⟨u,rfl,hp⟩:=litF hA;simp only[Fls] at hp;clear hA;unfold q13_32 C13 Tryd.f22 seq1 seq2 condA blockC loopC;simp only[Qa,lits,Nat.reduceAdd,hp];clear hp;go_wp2_with fail;first
  |refine ⟨?_,rfl⟩
  |refine ⟨rfl,?_,rfl⟩
  |skip
 exact ⟨rfl,rfl,by
  intro p hp;simp only[Sm,or_false] at hp;rcases hp with rfl|rfl|rfl|rfl|rfl|rfl|rfl|rfl|rfl|rfl|rfl|rfl|rfl|rfl<;>first|rfl|exact congrArg I (by omega)|exact congrArg Value.bool (by simp<;>omega)|exact congrArg Value.bool (by simp)|(simp;done)⟩
theorem p13_33n (ht:t<N) (c1:v.cell? ⟨Lb,t,none⟩=some (.bool false)) (hA:Fl 173 [(0,.slice (some ⟨g,0,none⟩) T ct),(1,I (m:Nat)),(2,.slice (some ⟨b,o,none⟩) N cap),(7,.slice (some ⟨Sb,0,none⟩) m m),(8,.slice (some ⟨Eb,0,none⟩) m m),(9,.slice (some ⟨Lb,0,none⟩) N N),(10,.slice (some ⟨Cb,0,none⟩) N N),(11,.slice (some ⟨Wb,0,none⟩) N N),(12,I (i:Nat)),(13,Pt x 0),(14,I (t:Nat)),(53,I op),(15,Pt y 0),(16,I (w:Nat))] a):
 q13_33.wp Tryd.prog (λe a' w'=>e=.normal∧(Fl 173 [(172,.bool false),(0,.slice (some ⟨g,0,none⟩) T ct),(1,I (m:Nat)),(2,.slice (some ⟨b,o,none⟩) N cap),(7,.slice (some ⟨Sb,0,none⟩) m m),(8,.slice (some ⟨Eb,0,none⟩) m m),(9,.slice (some ⟨Lb,0,none⟩) N N),(10,.slice (some ⟨Cb,0,none⟩) N N),(11,.slice (some ⟨Wb,0,none⟩) N N),(12,I (i:Nat)),(13,Pt x 0),(14,I (t:Nat)),(53,I op),(15,Pt y 0),(16,I (w:Nat))] a'∧w'=v)) a v:=by
 have ht':(t:Int)<(N:Int):=by omega
 obtain ⟨u,rfl,hp⟩:=litF hA;simp only[Fls] at hp;clear hA;unfold q13_33 C13 Tryd.f22 seq1 seq2 condA blockC loopC;simp only[Qa,lits,Nat.reduceAdd,hp];clear hp;go_wp2_with fail;first
  |refine ⟨?_,rfl⟩
  |refine ⟨rfl,?_,rfl⟩
  |skip
 exact ⟨rfl,rfl,by
  intro p hp;simp only[Sm,or_false] at hp;rcases hp with rfl|rfl|rfl|rfl|rfl|rfl|rfl|rfl|rfl|rfl|rfl|rfl|rfl|rfl|rfl<;>first|rfl|exact congrArg I (by omega)|exact congrArg Value.bool (by simp<;>omega)|exact congrArg Value.bool (by simp)|(simp;done)⟩
theorem p13_33y (ht:t<N) (c1:v.cell? ⟨Lb,t,none⟩=some (.bool true)) (c2:v.cell? ⟨Cb,t,none⟩=some (I 2)) (c3:v.cell? ⟨Wb,t,none⟩=some (I 0)) (hA:Fl 173 [(0,.slice (some ⟨g,0,none⟩) T ct),(1,I (m:Nat)),(2,.slice (some ⟨b,o,none⟩) N cap),(7,.slice (some ⟨Sb,0,none⟩) m m),(8,.slice (some ⟨Eb,0,none⟩) m m),(9,.slice (some ⟨Lb,0,none⟩) N N),(10,.slice (some ⟨Cb,0,none⟩) N N),(11,.slice (some ⟨Wb,0,none⟩) N N),(12,I (i:Nat)),(13,Pt x 0),(14,I (t:Nat)),(53,I op),(15,Pt y 0),(16,I (w:Nat))] a):
 q13_33.wp Tryd.prog (λe a' w'=>e=.normal∧(Fl 173 [(172,.bool false),(0,.slice (some ⟨g,0,none⟩) T ct),(1,I (m:Nat)),(2,.slice (some ⟨b,o,none⟩) N cap),(7,.slice (some ⟨Sb,0,none⟩) m m),(8,.slice (some ⟨Eb,0,none⟩) m m),(9,.slice (some ⟨Lb,0,none⟩) N N),(10,.slice (some ⟨Cb,0,none⟩) N N),(11,.slice (some ⟨Wb,0,none⟩) N N),(12,I (i:Nat)),(13,Pt x 0),(14,I (t:Nat)),(53,I op),(15,Pt y 0),(16,I (w:Nat))] a'∧w'=v)) a v:=by
 have ht':(t:Int)<(N:Int):=by omega
 obtain ⟨u,rfl,hp⟩:=litF hA;simp only[Fls] at hp;clear hA;unfold q13_33 C13 Tryd.f22 seq1 seq2 condA blockC loopC;simp only[Qa,lits,Nat.reduceAdd,hp];clear hp;go_wp2_with fail;first
  |refine ⟨?_,rfl⟩
  |refine ⟨rfl,?_,rfl⟩
  |skip
 exact ⟨rfl,rfl,by
  intro p hp;simp only[Sm,or_false] at hp;rcases hp with rfl|rfl|rfl|rfl|rfl|rfl|rfl|rfl|rfl|rfl|rfl|rfl|rfl|rfl|rfl<;>first|rfl|exact congrArg I (by omega)|exact congrArg Value.bool (by simp<;>omega)|exact congrArg Value.bool (by simp)|(simp;done)⟩
theorem p13_35   (hA:Fl 173 [] a):
 q13_35.wp Tryd.prog (λe a' w'=>e=.normal∧(Fl 173 [(6,.bool true)] a'∧w'=v)) a v:=by
 obtain ⟨u,rfl,-⟩:=litF hA;clear hA;unfold q13_35 C13 Tryd.f22 seq1 seq2;simp only[Qa,lits,Nat.reduceAdd];go_wp2_with fail;first
  |refine ⟨?_,rfl⟩
  |refine ⟨rfl,?_,rfl⟩
  |skip
 exact ⟨rfl,rfl,by
  intro p hp;simp only[Sm,or_false] at hp;rcases hp with rfl<;>first|rfl|exact congrArg I (by omega)|exact congrArg Value.bool (by simp<;>omega)|exact congrArg Value.bool (by simp)|(simp;done)⟩
theorem p13_23 {L cc:Nat}{tp:Option Addr}(ht:t<N) (c3:v.cell? ⟨x,3,none⟩=some (I (k:Nat))) (d:v.cell? ⟨b,o+t,none⟩=some (.slice tp L cc)) (hk:k<L) (hA:Fl 173 [(0,.slice (some ⟨g,0,none⟩) T ct),(1,I (m:Nat)),(2,.slice (some ⟨b,o,none⟩) N cap),(7,.slice (some ⟨Sb,0,none⟩) m m),(8,.slice (some ⟨Eb,0,none⟩) m m),(9,.slice (some ⟨Lb,0,none⟩) N N),(10,.slice (some ⟨Cb,0,none⟩) N N),(11,.slice (some ⟨Wb,0,none⟩) N N),(12,I (i:Nat)),(13,Pt x 0),(14,I (t:Nat)),(53,I op)] a):
 q13_23.wp Tryd.prog (Nrm λa' w'=>Fl 173 [(115,.bool false),(0,.slice (some ⟨g,0,none⟩) T ct),(1,I (m:Nat)),(2,.slice (some ⟨b,o,none⟩) N cap),(7,.slice (some ⟨Sb,0,none⟩) m m),(8,.slice (some ⟨Eb,0,none⟩) m m),(9,.slice (some ⟨Lb,0,none⟩) N N),(10,.slice (some ⟨Cb,0,none⟩) N N),(11,.slice (some ⟨Wb,0,none⟩) N N),(12,I (i:Nat)),(13,Pt x 0),(14,I (t:Nat)),(53,I op)] a'∧(w'.heap=v.heap∧w'.os=v.os∧w'.output=v.output)) a v:=by
 have ht':(t:Int)<(N:Int):=by omega
 have h1:¬ (k:Int)<0:=by omega
 have h2:¬ (k:Int)≥(L:Int):=by omega
 obtain ⟨hsz,hd,hp⟩:=hA;obtain ⟨u,rfl,hg⟩:=litN hsz hd;simp only[List.forall_mem_cons,hg] at hp;obtain ⟨u0,u1,u2,u7,u8,u9,u10,u11,u12,u13,u14,u53,-⟩:=hp;clear hg hsz hd;unfold q13_23 C13 Tryd.f22 seq1 seq2 condA blockC loopC;simp only[Qa,lits,Nat.reduceAdd,u0,u1,u2,u7,u8,u9,u10,u11,u12,u13,u14,u53];clear u0 u1 u2 u7 u8 u9 u10 u11 u12 u13 u14 u53
 go_region
 all_goals exact ⟨⟨rfl,rfl,by
  intro p hp;simp only[Sm,or_false] at hp;rcases hp with rfl|rfl|rfl|rfl|rfl|rfl|rfl|rfl|rfl|rfl|rfl|rfl|rfl<;>first|rfl|exact congrArg I (by omega)|exact congrArg Value.bool (by simp<;>omega)|exact congrArg Value.bool (by simp)|(simp;done)⟩,rfl,rfl,rfl⟩
theorem p13_25 {L cc rb ro:Nat}{ca cb c4:Int}(ht:t<N) (c3:v.cell? ⟨x,3,none⟩=some (I (k:Nat))) (d:v.cell? ⟨b,o+t,none⟩=some (.slice (some ⟨rb,ro,none⟩) L cc)) (hk:k<L) (d0:v.cell? ⟨rb,ro+k*4,none⟩=some (I po)) (d1:v.cell? ⟨rb,ro+k*4+1,none⟩=some (I ca)) (d2:v.cell? ⟨rb,ro+k*4+2,none⟩=some (I cb)) (d3:v.cell? ⟨rb,ro+k*4+3,none⟩=some (I c4)) (hA:Fl 173 [(0,.slice (some ⟨g,0,none⟩) T ct),(1,I (m:Nat)),(2,.slice (some ⟨b,o,none⟩) N cap),(7,.slice (some ⟨Sb,0,none⟩) m m),(8,.slice (some ⟨Eb,0,none⟩) m m),(9,.slice (some ⟨Lb,0,none⟩) N N),(10,.slice (some ⟨Cb,0,none⟩) N N),(11,.slice (some ⟨Wb,0,none⟩) N N),(12,I (i:Nat)),(13,Pt x 0),(14,I (t:Nat)),(53,I op)] a):
 q13_25.wp Tryd.prog (Nrm λa' w'=>Fl 173 [(0,.slice (some ⟨g,0,none⟩) T ct),(1,I (m:Nat)),(2,.slice (some ⟨b,o,none⟩) N cap),(7,.slice (some ⟨Sb,0,none⟩) m m),(8,.slice (some ⟨Eb,0,none⟩) m m),(9,.slice (some ⟨Lb,0,none⟩) N N),(10,.slice (some ⟨Cb,0,none⟩) N N),(11,.slice (some ⟨Wb,0,none⟩) N N),(12,I (i:Nat)),(13,Pt x 0),(14,I (t:Nat)),(53,I op),(15,Pt v.heap.size 0)] a'∧(w'.heap=(v.alloc (.cells #[I po,I ca,I cb,I c4] 35)).heap∧w'.os=v.os∧w'.output=v.output)) a v:=by
 have ht':(t:Int)<(N:Int):=by omega
 have zc:∀ a X,v.cell? a=some X->(v.alloc (.cells #[I 0,I 0,I 0,I 0] 35)).cell? a=some X:=λa X h=>by rw[World.cell?_of_block (w:=v) (w':=(v.alloc (.cells #[I 0,I 0,I 0,I 0] 35))) (by show (v.heap.push _)[a.block]? = _;rw[Qg,if_neg (by have:=World.block_lt_of_cell? _ _ h;omega)])];exact h
 have z1:=zc _ _ c3;have z2:=zc _ _ d;have z3:=zc _ _ d0;have z4:=zc _ _ d1;have z5:=zc _ _ d2;have z6:=zc _ _ d3;clear zc;have hk':(k:Int)<(L:Int):=by omega
 obtain ⟨hsz,hd,hp⟩:=hA;obtain ⟨u,rfl,hg⟩:=litN hsz hd;simp only[List.forall_mem_cons,hg] at hp;obtain ⟨u0,u1,u2,u7,u8,u9,u10,u11,u12,u13,u14,u53,-⟩:=hp;clear hg hsz hd;unfold q13_25 C13 Tryd.f22 seq1 seq2 condA blockC loopC;simp only[Qa,lits,Nat.reduceAdd,u0,u1,u2,u7,u8,u9,u10,u11,u12,u13,u14,u53];clear u0 u1 u2 u7 u8 u9 u10 u11 u12 u13 u14 u53
 go_region
 all_goals exact ⟨⟨rfl,rfl,by
  intro p hp;simp only[Sm,or_false] at hp;rcases hp with rfl|rfl|rfl|rfl|rfl|rfl|rfl|rfl|rfl|rfl|rfl|rfl|rfl<;>first|rfl|exact congrArg I (by omega)|exact congrArg Value.bool (by simp<;>omega)|exact congrArg Value.bool (by simp)|(simp;done)⟩,rfl,rfl,rfl⟩
end Go.Proofs.YtfjjoohflcchnaaDoor.Gen
