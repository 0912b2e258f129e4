/- Of the proof of StackKeeps. Part 28 of 33. (Joined, by program, and written short, of: La7V, La7W.) -/
import Derived.Test.YtbbhahigofeacaaDoorStackKeeps24
import Derived.Test.YtbbhahigofeacaaDoorStackKeeps26
import Derived.Test.YtbbhahigofeacaaDoorStackKeeps27
import Derived.Test.YtbbhahigofeacaaDoorStackKeeps29
set_option linter.unusedSimpArgs false
set_option linter.unusedVariables false
set_option maxHeartbeats 4000000
set_option maxRecDepth 100000
namespace Go.Proofs.YtbbhahigofeacaaDoor.Gen
open Go Go.Lift Go.Conc Go.RowKit
theorem kq7_alloc (w:World) (o:Obj):Kq w.heap.size w (w.alloc o):=Kq.alloc o (Nat.le_refl _)
structure PT (B:Nat) (pp:Option Addr) (P pc:Nat) (tp:Option Addr) (Q tc:Nat) (xs ys:List Int) (v w:World):Prop where
 xl:xs.length=P
 yl:ys.length=Q
 po:w.ownsRow B 3 1 (.slice pp P pc) P (xs.map I)
 to_:w.ownsRow B 3 1 (.slice tp Q tc) Q (ys.map I)
 ap:∀ g,(Value.slice pp P pc).ownBlock=some g->(Value.slice tp Q tc).ownBlock=some g->False
 kq:Kq B v w
 bl:B≤w.heap.size
theorem old7 {w w':World}{ob:Obj}{r:Option Nat}(hg:(w.alloc ob).grownBy w' r) {k:Nat}(hk:k<w.heap.size) (hne:some k≠r):w'.heap[k]? = w.heap[k]?:=by
 have hsz:(w.alloc ob).heap.size=w.heap.size+1:=by show (w.heap.push ob).size=_;simp
 rw[hg.block k (by omega) hne]
 show (w.heap.push ob)[k]? = _
 rw[Array.getElem?_push,if_neg (by omega)]
section
variable {B:Nat}{pp tp:Option Addr}{P pc Q tc:Nat}{xs ys:List Int}{v w w':World}
theorem PT.sym (h:PT B pp P pc tp Q tc xs ys v w):PT B tp Q tc pp P pc ys xs v w:=⟨h.yl,h.xl,h.to_,h.po,fun g a b=>h.ap g b a,h.kq,h.bl⟩
theorem PT.go (h:PT B pp P pc tp Q tc xs ys v w) (k:Kq w.heap.size w w'):PT B pp P pc tp Q tc xs ys v w' :=
 ⟨h.xl,h.yl,Au (fun g hg=>k.old g (Fp h.po g hg).2) h.po,Au (fun g hg=>k.old g (Fp h.to_ g hg).2) h.to_,h.ap,h.kq.trans (k.le h.bl),Nat.le_trans h.bl k.size⟩
theorem PT.put {g c:Nat}{ca:Int}{ob:Obj}(h:PT B pp P pc tp Q tc xs ys v w) (ho:w'.ownsRow B 3 1 (.slice (some ⟨g,0,none⟩) (P+1) c) (P+1) (xs.map I++[I ca])) (hg:(w.alloc ob).grownBy w' (Value.slice pp P pc).ownBlock) (ha:(Value.slice pp P pc).ownBlock=some g∨g=w.heap.size+1) :
 PT B (some ⟨g,0,none⟩) (P+1) c tp Q tc (xs++[ca]) ys v w':=by
 have hsz:w.heap.size+1≤w'.heap.size:=by have:=hg.size;have e:(w.alloc ob).heap.size=w.heap.size+1:=(by show (w.heap.push ob).size=_;simp);omega
 have hold:∀ k,k<w.heap.size->some k≠(Value.slice pp P pc).ownBlock->w'.heap[k]? = w.heap[k]?:=fun k hk hne=>old7 hg hk hne
 refine ⟨by rw[List.length_append,h.xl];rfl,h.yl,by rw[List.map_append];exact ho,Au (fun k hk=>hold k (Fp h.to_ k hk).2 (fun e=>h.ap k e.symm hk)) h.to_,fun k a b=>?_,⟨hg.os.trans h.kq.os,hg.output.trans h.kq.out,?_,fun k hk=>?_⟩,?_⟩
 ·have:g=k:=Option.some.inj a
  subst this
  rcases ha with e|e
  ·exact h.ap g e b
  ·have:=(Fp h.to_ g b).2;omega
 ·have:=h.kq.size;omega
 ·rw[hold k (by have:=h.bl;omega) (fun e=>by have:=(Fp h.po k e.symm).1;omega)]
  exact h.kq.old k hk
 ·have:=h.bl;omega
theorem PT.tol {g c:Nat}{ca:Int}{ob:Obj}(h:PT B pp P pc tp Q tc xs ys v w) (ho:w'.ownsRow B 3 1 (.slice (some ⟨g,0,none⟩) (Q+1) c) (Q+1) (ys.map I++[I ca])) (hg:(w.alloc ob).grownBy w' (Value.slice tp Q tc).ownBlock) (ha:(Value.slice tp Q tc).ownBlock=some g∨g=w.heap.size+1) :
 PT B pp P pc (some ⟨g,0,none⟩) (Q+1) c xs (ys++[ca]) v w':=(h.sym.put ho hg ha).sym
end
theorem step7 {v0 v:World}{a:Act}{n N b o cap M wb:Nat}{pp tp:Option Addr}{P pc Q tc i k:Nat}{ln cp rb ro A:Nat->Nat}{pq:Nat->Option Addr}{cl:Nat->List Cl}{l:Nat->Ph}{xs ys:List Int}{c:Cl}{x:Int×Int}{R:Exit->Act->World->Prop}
 (hS:SL N b o ln cp rb ro pq cl v0) (hL:AL N M A ln l v0) (hT:PT v0.heap.size pp P pc tp Q tc xs ys v0 v) (hP:P≤400000) (hQ:Q≤400000) (hi:i<N) (hk:k<ln i) (hc:(cl i)[k]? = some c) (hx:(l i).ans[k]? = some x)
 (hA:Fl 189 [(1,I (n:Nat)),(2,.slice (some ⟨b,o,none⟩) N cap),(8,Pt wb 0),(9,.slice (some ⟨M,0,none⟩) N N),(11,.slice pp P pc),(12,.slice tp Q tc),(13,I (i:Nat)),(14,I (k:Nat))] a)
 (hR:∀ a' w' pp P pc tp Q tc,Fl 189 [(1,I (n:Nat)),(2,.slice (some ⟨b,o,none⟩) N cap),(8,Pt wb 0),(9,.slice (some ⟨M,0,none⟩) N N),(11,.slice pp P pc),(12,.slice tp Q tc),(13,I (i:Nat)),(14,I (k:Nat))] a'->PT v0.heap.size pp P pc tp Q tc (xs++putW c x) (ys++tolW c x) v0 w'->R .normal a' w') :
 K7_3.wp Tryd.prog R a v:=by
 have hSv:=hS.go hT.kq
 have hLv:=hL.go hT.kq
 have hsr:=hSv.sr i hi
 rw[hSv.pq i hi (by omega)] at hsr
 obtain ⟨s0,s1,s2,s3⟩:=hSv.sa i hi k c hc
 unfold K7_3
 refine Cb (p7_18 hi hk hsr s0 s1 s2 s3 hA) fun a1 w1 h=>?_
 obtain ⟨h1,hw1⟩:=h
 have k1:Kq v.heap.size v w1:=by rw[hw1];exact kq7_alloc _ _
 have hcell:∀ (j:Nat) (y:Value),#[I c.po,I c.ca,I c.cb,I c.cc][j]? = some y->w1.cell? ⟨v.heap.size,j,none⟩=some y:=fun j y hy=>by
  rw[hw1];exact cell_of (v:=v.alloc (.cells #[I c.po,I c.ca,I c.cb,I c.cc] 50)) (b:=v.heap.size) (by show (v.heap.push _)[v.heap.size]? = _;simp;exact ⟨rfl,rfl⟩) hy
 have hsz:v.heap.size<w1.heap.size:=by rw[hw1];show _<(v.heap.push _).size;simp
 have hzp:∀ g,(Value.slice pp P pc).ownBlock=some g->g≠v.heap.size:=fun g hg=>by have:=(Fp hT.po g hg).2;omega
 have hT1:=hT.go k1
 have hL1:=hLv.go k1
 clear hw1 hSv hLv hsr s0 s1 s2 s3 k1 hT
 generalize v.heap.size=z at *
 obtain ⟨e0,e1⟩:=hL1.an i hi k x hx
 have har:=hL1.ar i hi
 have c0:=hcell 0 _ rfl
 have c1:=hcell 1 _ rfl
 by_cases hpo:c.po=1
 ·have ht0:tolW c x=[]:=by unfold tolW;rw[if_neg (fun h=>by omega)]
  by_cases hx0:x.1=0
  ·have hp0:putW c x=[c.ca]:=by unfold putW;rw[if_pos ⟨hpo,hx0⟩]
   rw[hp0,ht0,List.append_nil] at hR
   refine wp_seq (Cb (p7_19y c0 hi hk har e0 hpo hx0 h1) fun a2 w2 h=>?_)
   obtain ⟨h2,rfl⟩:=h
   refine wp_cond_true (h2.hd rfl) ?_
   refine wp_last (p7_20 hT1.bl hT1.po hP c1 h2.tl) fun a3 w3 h=>?_
   obtain ⟨g,cpg,h3,hown,hgr,hat,hlt⟩:=h
   have hT3:=hT1.put hown hgr hat
   have c0':w3.cell? ⟨z,0,none⟩=some (I c.po):=by
    rw[World.cell?_of_block (w:=w2) (w':=w3) (old7 hgr hsz (fun e=>hzp z e.symm rfl))];exact c0
   show Code.wp _ _ _ _ _
   refine Cb (p7_21a c0' (by omega) h3) fun a4 w4 h=>?_
   obtain ⟨h4,rfl⟩:=h
   exact wp_cond_false (h4.hf rfl) (wp_skip (hR _ _ _ _ _ _ _ _ (h4.sub (by simp)) hT3))
  ·have hp0:putW c x=[]:=by unfold putW;rw[if_neg (fun h=>hx0 h.2)]
   rw[hp0,ht0,List.append_nil,List.append_nil] at hR
   refine wp_seq (Cb (p7_19b c0 hi hk har e0 hpo hx0 h1) fun a2 w2 h=>?_)
   obtain ⟨h2,rfl⟩:=h
   refine wp_cond_false (h2.hf rfl) (wp_skip ?_)
   show Code.wp _ _ _ _ _
   refine Cb (p7_21a c0 (by omega) h2.tl) fun a4 w4 h=>?_
   obtain ⟨h4,rfl⟩:=h
   exact wp_cond_false (h4.hf rfl) (wp_skip (hR _ _ _ _ _ _ _ _ (h4.sub (by simp)) hT1))
 ·have hp0:putW c x=[]:=by unfold putW;rw[if_neg (fun h=>hpo h.1)]
  rw[hp0,List.append_nil] at hR
  refine wp_seq (Cb (p7_19a c0 hpo h1) fun a2 w2 h=>?_)
  obtain ⟨h2,rfl⟩:=h
  refine wp_cond_false (h2.hf rfl) (wp_skip ?_)
  show Code.wp _ _ _ _ _
  by_cases hp2:c.po=2
  ·by_cases hx0:x.1=0
   ·have ht0:tolW c x=[x.2]:=by unfold tolW;rw[if_pos ⟨hp2,hx0⟩]
    rw[ht0] at hR
    refine Cb (p7_21y c0 hi hk har e0 hp2 hx0 h2.tl) fun a4 w4 h=>?_
    obtain ⟨h4,rfl⟩:=h
    refine wp_cond_true (h4.hd rfl) ?_
    have h4':Fl 189 [(1,I (n:Nat)),(2,.slice (some ⟨b,o,none⟩) N cap),(8,Pt wb 0),(9,.slice (some ⟨M,0,none⟩) N N),(11,.slice pp P pc),(12,.slice tp Q tc),(13,I (i:Nat)),(14,I (k:Nat))] a4:=h4.tl.sub (by simp)
    refine wp_last (p7_22 hT1.bl hT1.to_ hQ hi hk har e1 h4') fun a5 w5 h=>?_
    obtain ⟨g,cpg,h5,hown,hgr,hat,hlt⟩:=h
    exact hR _ _ _ _ _ _ _ _ h5 (hT1.tol hown hgr hat)
   ·have ht0:tolW c x=[]:=by unfold tolW;rw[if_neg (fun h=>hx0 h.2)]
    rw[ht0,List.append_nil] at hR
    refine Cb (p7_21b c0 hi hk har e0 hp2 hx0 h2.tl) fun a4 w4 h=>?_
    obtain ⟨h4,rfl⟩:=h
    exact wp_cond_false (h4.hf rfl) (wp_skip (hR _ _ _ _ _ _ _ _ (h4.sub (by simp)) hT1))
  ·have ht0:tolW c x=[]:=by unfold tolW;rw[if_neg (fun h=>hp2 h.1)]
   rw[ht0,List.append_nil] at hR
   refine Cb (p7_21a c0 hp2 h2.tl) fun a4 w4 h=>?_
   obtain ⟨h4,rfl⟩:=h
   exact wp_cond_false (h4.hf rfl) (wp_skip (hR _ _ _ _ _ _ _ _ (h4.sub (by simp)) hT1))
theorem putL_len (sc:List Cl) (an:List (Int×Int)):∀ m,(putL sc an m).length≤m∧(tolL sc an m).length≤m
 |0=>⟨Nat.le_refl _,Nat.le_refl _⟩
 |m+1=>by
  obtain ⟨h1,h2⟩:=putL_len sc an m
  constructor
  ·show (putL sc an m++putW (cAt sc m) (aAt an m)).length≤m+1
   rw[List.length_append]
   have:(putW (cAt sc m) (aAt an m)).length≤1:=by unfold putW;split<;>simp
   omega
  ·show (tolL sc an m++tolW (cAt sc m) (aAt an m)).length≤m+1
   rw[List.length_append]
   have:(tolW (cAt sc m) (aAt an m)).length≤1:=by unfold tolW;split<;>simp
   omega
def putA (cl:Nat->List Cl) (an:Nat->List (Int×Int)):Nat->List Int
 |0=>[]
 |i+1=>putA cl an i++putL (cl i) (an i) (cl i).length
def tolA (cl:Nat->List Cl) (an:Nat->List (Int×Int)):Nat->List Int
 |0=>[]
 |i+1=>tolA cl an i++tolL (cl i) (an i) (cl i).length
theorem putA_len {cl:Nat->List Cl}{an:Nat->List (Int×Int)}:∀ i,(∀ k,k<i->(cl k).length≤64)->(putA cl an i).length≤64*i∧(tolA cl an i).length≤64*i
 |0,_=>⟨Nat.le_refl _,Nat.le_refl _⟩
 |i+1,h=>by
  obtain ⟨h1,h2⟩:=putA_len (an:=an) i (fun k hk=>h k (by omega))
  have h3:=putL_len (cl i) (an i) (cl i).length
  have h4:=h i (by omega)
  constructor
  ·show (putA cl an i++_).length≤_
   rw[List.length_append];omega
  ·show (tolA cl an i++_).length≤_
   rw[List.length_append];omega
theorem putA_count {cl:Nat->List Cl}{an:Nat->List (Int×Int)}(z:Int):∀ i,(putA cl an i).count z=totN (fun k=>(putL (cl k) (an k) (cl k).length).count z) i∧(tolA cl an i).count z=totN (fun k=>(tolL (cl k) (an k) (cl k).length).count z) i
 |0=>⟨rfl,rfl⟩
 |i+1=>by
  obtain ⟨h1,h2⟩:=putA_count (cl:=cl) (an:=an) z i
  constructor
  ·show (putA cl an i++_).count z=totN _ i+_
   rw[List.count_append,h1]
  ·show (tolA cl an i++_).count z=totN _ i+_
   rw[List.count_append,h2]
section
variable {v0 v:World}{a:Act}{n N b o cap M wb:Nat}{pp tp:Option Addr}{P pc Q tc i:Nat}{ln cp rb ro A:Nat->Nat}{pq:Nat->Option Addr}{cl:Nat->List Cl}{l:Nat->Ph}{xs ys:List Int}{R:Exit->Act->World->Prop}
theorem row7 (hS:SL N b o ln cp rb ro pq cl v0) (hL:AL N M A ln l v0) (h64:∀ k,k<N->ln k≤64) (hT:PT v0.heap.size pp P pc tp Q tc xs ys v0 v) (hP:P≤100000) (hQ:Q≤100000) (hi:i<N)
 (hA:Fl 189 [(1,I (n:Nat)),(2,.slice (some ⟨b,o,none⟩) N cap),(8,Pt wb 0),(9,.slice (some ⟨M,0,none⟩) N N),(11,.slice pp P pc),(12,.slice tp Q tc),(13,I (i:Nat))] a)
 (hR:∀ a' w' pp P pc tp Q tc,Fl 189 [(1,I (n:Nat)),(2,.slice (some ⟨b,o,none⟩) N cap),(8,Pt wb 0),(9,.slice (some ⟨M,0,none⟩) N N),(11,.slice pp P pc),(12,.slice tp Q tc),(13,I (i:Nat))] a'->PT v0.heap.size pp P pc tp Q tc (xs++putL (cl i) (l i).ans (cl i).length) (ys++tolL (cl i) (l i).ans (cl i).length) v0 w'->R .normal a' w') :
 K7_1.wp Tryd.prog R a v:=by
 have hlen:=hS.len i hi
 have hal:=hL.al i hi
 have h6:=h64 i hi
 have hsr:=(hS.go hT.kq).sr i hi
 have har:=(hL.go hT.kq).ar i hi
 unfold K7_1
 refine wp_seq (Cb (wp_nrm (p7_13 hi har hsr hA)) fun a1 w1 h=>?_)
 obtain ⟨h1,e1,e2,e3⟩:=h
 have hT1:=hT.go (Kq.same e1 e2 e3)
 refine wp_cond_false (h1.hf rfl) (wp_skip ?_)
 show Code.wp _ _ _ _ _
 refine Cb (p7_15 h1.tl) fun a2 w2 h=>?_
 obtain ⟨h2,rfl⟩:=h
 clear hT hsr har e1 e2 e3
 unfold K7_2
 refine wp_while (t:=77) (fun c a x=>∃ k,k≤ln i∧c=ln i - k∧∃ pp P pc tp Q tc,Fl 189 [(1,I (n:Nat)),(2,.slice (some ⟨b,o,none⟩) N cap),(8,Pt wb 0),(9,.slice (some ⟨M,0,none⟩) N N),(11,.slice pp P pc),(12,.slice tp Q tc),(13,I (i:Nat)),(14,I (k:Nat))] a∧PT v0.heap.size pp P pc tp Q tc (xs++putL (cl i) (l i).ans k) (ys++tolL (cl i) (l i).ans k) v0 x) (ln i) ⟨0,Nat.zero_le _,rfl,_,_,_,_,_,_,h2,by simpa only[putL,tolL,List.append_nil] using hT1⟩ ?_
 rintro c a3 x ⟨k,hk,rfl,pp',P',pc',tp',Q',tc',hA3,hT3⟩
 have har3:=(hL.go hT3.kq).ar i hi
 refine ⟨_,p7_16 hi har3 hA3,?_⟩
 rintro a4 w4 ⟨h4,rfl⟩
 by_cases hlt:k<ln i
 ·refine .inr ⟨h4.hd (by simp;omega),?_⟩
  obtain ⟨c,hc⟩:∃ c,(cl i)[k]? = some c:=⟨_,List.getElem?_eq_getElem (by omega)⟩
  obtain ⟨y,hy⟩:∃ y,(l i).ans[k]? = some y:=⟨_,List.getElem?_eq_getElem (by omega)⟩
  have ec:cAt (cl i) k=c:=by unfold cAt;rw[hc];rfl
  have ey:aAt (l i).ans k=y:=by unfold aAt;rw[hy];rfl
  have hpl:=putL_len (cl i) (l i).ans k
  have hx1:=hT1.xl
  have hy1:=hT1.yl
  have hx3:=hT3.xl
  have hy3:=hT3.yl
  rw[List.length_append] at hx3 hy3
  refine wp_seq (wp_block (step7 hS hL hT3 (by omega) (by omega) hi hlt hc hy (h4.tl) fun a5 w5 pp5 P5 pc5 tp5 Q5 tc5 h5 hT5=>?_))
  show Code.wp _ _ _ _ _
  refine wp_last (p7_17 (by omega) h5) fun a6 w6 h=>?_
  obtain ⟨h6,rfl⟩:=h
  refine ⟨ln i - (k+1),by omega,k+1,by omega,rfl,_,_,_,_,_,_,h6,?_⟩
  simpa only[putL,tolL,ec,ey,List.append_assoc] using hT5
 ·refine .inl ⟨h4.hf (by simp;omega),?_⟩
  have hkk:k=(cl i).length:=by omega
  rw[hkk] at hT3
  exact hR _ _ _ _ _ _ _ _ (h4.sub (by simp)) hT3
theorem rows7 (hS:SL N b o ln cp rb ro pq cl v0) (hL:AL N M A ln l v0) (h64:∀ k,k<N->ln k≤64) (hN:N≤8) (hA:Fl 189 [(1,I (n:Nat)),(2,.slice (some ⟨b,o,none⟩) N cap),(8,Pt wb 0),(9,.slice (some ⟨M,0,none⟩) N N),(11,.slice none 0 0),(12,.slice none 0 0)] a)
 (hR:∀ a' w' pp P pc tp Q tc,Fl 189 [(1,I (n:Nat)),(2,.slice (some ⟨b,o,none⟩) N cap),(8,Pt wb 0),(9,.slice (some ⟨M,0,none⟩) N N),(11,.slice pp P pc),(12,.slice tp Q tc)] a'->PT v0.heap.size pp P pc tp Q tc (putA cl (fun k=>(l k).ans) N) (tolA cl (fun k=>(l k).ans) N) v0 w'->R .normal a' w') :
 (Code.seq q7_10 (.block 0 K7_0)).wp Tryd.prog R a v0:=by
 refine Cb (p7_10 hA) fun a3 w3 h=>?_
 obtain ⟨h3,rfl⟩:=h
 unfold K7_0
 refine wp_while (t:=57) (fun c a x=>∃ i,i≤N∧c=N - i∧∃ pp P pc tp Q tc,Fl 189 [(1,I (n:Nat)),(2,.slice (some ⟨b,o,none⟩) N cap),(8,Pt wb 0),(9,.slice (some ⟨M,0,none⟩) N N),(11,.slice pp P pc),(12,.slice tp Q tc),(13,I (i:Nat))] a∧PT w3.heap.size pp P pc tp Q tc (putA cl (fun k=>(l k).ans) i) (tolA cl (fun k=>(l k).ans) i) w3 x) N ⟨0,Nat.zero_le _,rfl,none,0,0,none,0,0,h3,⟨rfl,rfl,World.ownsRow_nil _ _ _ _,World.ownsRow_nil _ _ _ _,fun g hg=>(by cases hg),Kq.refl _ _,Nat.le_refl _⟩⟩ ?_
 rintro c a4 x ⟨i,hi,rfl,pp,P,pc,tp,Q,tc,hA4,hT4⟩
 refine ⟨_,p7_11 hA4,?_⟩
 rintro a5 w5 ⟨h5,rfl⟩
 by_cases hlt:i<N
 ·refine .inr ⟨h5.hd (by simp;omega),?_⟩
  have hpl:=putA_len (cl:=cl) (an:=fun k=>(l k).ans) i (fun k hk=>by rw[hS.len k (by omega)];exact h64 k (by omega))
  have hx:=hT4.xl
  have hy:=hT4.yl
  refine wp_seq (wp_block (row7 hS hL h64 hT4 (by omega) (by omega) hlt h5.tl fun a6 w6 pp6 P6 pc6 tp6 Q6 tc6 h6 hT6=>?_))
  show Code.wp _ _ _ _ _
  refine wp_last (p7_12 (by omega) h6) fun a7 w7 h=>?_
  obtain ⟨h7,rfl⟩:=h
  exact ⟨N - (i+1),by omega,i+1,by omega,rfl,_,_,_,_,_,_,h7,hT6⟩
 ·refine .inl ⟨h5.hf (by simp;omega),?_⟩
  have hii:i=N:=by omega
  subst hii
  exact hR _ _ _ _ _ _ _ _ (h5.sub (by simp)) hT4
end
theorem nodup_len:∀ {n:Nat}(R:List Nat),R.Nodup->(∀ a∈R,a<n)->R.length≤n
 |0,[],_,_=>Nat.le_refl _
 |0,a :: _,_,h=>absurd (h a (by simp)) (Nat.not_lt_zero _)
 |n+1,R,hn,h=>by
  have h1:=nodup_len (n:=n) (R.erase n) (hn.erase n) (fun a ha=>by
   have h2:=(hn.mem_erase_iff).1 ha
   have:=h a h2.2
   have:=h2.1
   omega)
  have h3:=List.length_erase (a:=n) (l:=R)
  split at h3<;>omega
section
variable {v0 v:World}{a:Act}{n T ct g:Nat}{p:Option Addr}{pp tp:Option Addr}{P pc Q tc:Nat}{xs ys:List Int}{L:List Stp}{Rw:List Nat}{R:Exit->Act->World->Prop}
theorem lnk_cases {nx:Nat->Int}{y:Int}{F:List Nat}(h:Lnk nx y F):(F=[]∧y=0)∨∃ b F',F=b :: F'∧y=(b:Int)+1∧Lnk nx (nx b) F':=by
 cases F with
 |nil=>exact .inl ⟨rfl,h⟩
 |cons b F'=>exact .inr ⟨b,F',rfl,h.1,h.2⟩
theorem trl_of {w w':World}(hL:TrL g L w) (h:L≠[]->w'.heap[g]? = w.heap[g]?):TrL g L w':=fun k s hs=>by
 have hne:L≠[]:=fun e=>by rw[e] at hs;cases hs
 obtain ⟨h0,h1,h2,h3,h4⟩:=hL k s hs
 exact ⟨by rw[World.cell?_of_block (w:=w) (w':=w') (h hne)];exact h0,by rw[World.cell?_of_block (w:=w) (w':=w') (h hne)];exact h1,by rw[World.cell?_of_block (w:=w) (w':=w') (h hne)];exact h2,by rw[World.cell?_of_block (w:=w) (w':=w') (h hne)];exact h3,by rw[World.cell?_of_block (w:=w) (w':=w') (h hne)];exact h4⟩
theorem trl_lt {w:World}(hL:TrL g L w) (hne:L≠[]):g<w.heap.size:=by
 obtain ⟨s,hs⟩:∃ s,L[0]? = some s:=⟨_,List.getElem?_eq_getElem (List.length_pos_iff.2 hne)⟩
 exact World.block_lt_of_cell? _ _ (hL 0 s hs).1
theorem down7 {B:Nat}(hn:n≤1000) (hLT:L.length=T) (hTs:T≤400000) (hp0:0<T->p=some ⟨g,0,none⟩) (hL:TrL g L v) (hT:PT B pp P pc tp Q tc xs ys v0 v) (hap:∀ k,(Value.slice tp Q tc).ownBlock=some k->L≠[]->k≠g) (hQ:Q≤100000)
 {y0:Int} (hRw:Lnk (fun i=>B8 (lkJ n i) L) y0 Rw) (hnd:Rw.Nodup) (hlt:∀ a∈Rw,a<n)
 (hA:Fl 189 [(1,I (n:Nat)),(11,.slice pp P pc),(12,.slice tp Q tc),(16,.slice p T ct),(17,I y0)] a)
 (hR:∀ a' w' tp Q tc,Fl 189 [(11,.slice pp P pc),(12,.slice tp Q tc)] a'->PT B pp P pc tp Q tc xs (ys++Rw.map fun a=>B8 (vlJ n a) L) v0 w'->R .normal a' w') :
 (Code.seq q7_25 (.block 4 K7_4)).wp Tryd.prog R a v:=by
 have hlen:=nodup_len Rw hnd hlt
 have hyl:=hT.yl
 refine Cb (p7_25 hA) fun a1 w1 h=>?_
 obtain ⟨h1,rfl⟩:=h
 unfold K7_4
 refine wp_while (t:=139) (fun c a x=>∃ R0 R1 y tp Q tc,Rw=R0++R1∧c=R1.length∧Lnk (fun i=>B8 (lkJ n i) L) y R1∧Fl 189 [(1,I (n:Nat)),(11,.slice pp P pc),(12,.slice tp Q tc),(16,.slice p T ct),(17,I y),(18,I (R0.length:Nat))] a∧PT B pp P pc tp Q tc xs (ys++R0.map fun a=>B8 (vlJ n a) L) v0 x∧TrL g L x∧∀ k,(Value.slice tp Q tc).ownBlock=some k->L≠[]->k≠g) Rw.length ⟨[],Rw,y0,tp,Q,tc,rfl,rfl,hRw,h1,by simpa only[List.map_nil,List.append_nil] using hT,hL,hap⟩ ?_
 clear hT hL hap h1 hRw hA
 rintro c a3 x ⟨R0,R1,y,tp',Q',tc',e,rfl,hl,hA3,hT3,hL3,hap3⟩
 refine ⟨_,p7_26 hA3,?_⟩
 rintro a4 w4 ⟨h4,rfl⟩
 have hlR:R0.length+R1.length=Rw.length:=by rw[e,List.length_append]
 have hy3:=hT3.yl
 rw[List.length_append,List.length_map] at hy3
 rcases lnk_cases hl with ⟨rfl,rfl⟩|⟨b,F,rfl,rfl,hl'⟩
 ·refine .inl ⟨h4.hf (by simp),?_⟩
  rw[List.append_nil] at e
  subst e
  exact hR _ _ _ _ _ (h4.sub (by simp)) hT3
 ·refine .inr ⟨h4.hd (decide_eq_true (by omega)),?_⟩
  have hb:b<n:=hlt b (by rw[e];simp)
  simp only[List.length_cons] at hlR
  refine wp_seq (wp_block ?_)
  unfold K7_5
  refine wp_seq (Cb (p7_28 (by omega) (by omega) h4.tl) fun a5 w5 h=>?_)
  obtain ⟨h5,rfl⟩:=h
  refine wp_cond_false (h5.hf rfl) (wp_skip ?_)
  show Code.wp _ _ _ _ _
  refine Cb (p7_30 hn hLT hTs hp0 hL3 hb rfl hT3.bl hT3.to_ (by omega) h5.tl) fun a6 w6 h=>?_
  obtain ⟨g2,cpg,w1,h6,hown,⟨q1,q2,q3⟩,hgr,hat⟩:=h
  have hT6:=(hT3.go (Kq.same q1 q2 q3)).tol hown hgr hat
  have hL1:TrL g L w1:=trl_of hL3 (fun _=>by rw[q1])
  have hL6:TrL g L w6:=trl_of hL1 (fun hne=>old7 hgr (trl_lt hL1 hne) (fun e=>hap3 g e.symm hne rfl))
  have hap6:∀ k,(Value.slice (some ⟨g2,0,none⟩) (Q'+1) cpg).ownBlock=some k->L≠[]->k≠g:=fun k hk hne=>by
   have:g2=k:=Option.some.inj hk
   subst this
   rcases hat with e|e
   ·exact hap3 g2 e hne
   ·have:=trl_lt hL1 hne;omega
  clear hgr hown hL1 hat hT3 hL3 hap3 q1 q2 q3
  refine wp_last (p7_31 hn hLT hTs hp0 hL6 hb rfl h6) fun a7 w7 h=>?_
  obtain ⟨h7,q1,q2,q3⟩:=h
  show Code.wp _ _ _ _ _
  refine wp_last (p7_27 (by omega) h7) fun a8 w8 h=>?_
  obtain ⟨h8,rfl⟩:=h
  refine ⟨F.length,by simp only[List.length_cons];omega,R0++[b],F,_,_,_,_,by rw[e,List.append_assoc];rfl,rfl,hl',?_,?_,trl_of hL6 (fun _=>by rw[q1]),hap6⟩
  ·rw[List.length_append];exact h8
  ·rw[List.map_append,←List.append_assoc]
   exact hT6.go (Kq.same q1 q2 q3)
theorem same7 {B:Nat}(hT:PT B pp P pc tp Q tc xs ys v0 v) (hc:∀ z,xs.count z=ys.count z) (hPQ:P=Q) (hP:P≤100000) (hA:Fl 189 [(11,.slice pp P pc),(12,.slice tp Q tc)] a)
 (hR:∀ a' w',Fl 189 [] a'->Kq B v0 w'->R .normal a' w') :
 (Code.seq q7_34 (.block 6 K7_6)).wp Tryd.prog R a v:=by
 refine Cb (p7_34 hA) fun a2 w2 h=>?_
 obtain ⟨h2,rfl⟩:=h
 unfold K7_6
 refine wp_while (t:=173) (fun c a x=>∃ g,g≤P∧c=P - g∧Fl 189 [(11,.slice pp P pc),(12,.slice tp Q tc),(19,I (g:Nat))] a∧PT B pp P pc tp Q tc xs ys v0 x) P ⟨0,Nat.zero_le _,rfl,h2,hT⟩ ?_
 clear hT h2 hA
 rintro c a3 x ⟨g,hg,rfl,hA3,hT3⟩
 refine ⟨_,p7_35 hA3,?_⟩
 rintro a4 w4 ⟨h4,rfl⟩
 by_cases hlt:g<P
 ·refine .inr ⟨h4.hd (by simp;omega),?_⟩
  obtain ⟨b1,c1,e1,_,_⟩:=hT3.po.form (by omega)
  obtain ⟨b2,c2,e2,_,_⟩:=hT3.to_.form (by omega)
  simp only[Value.slice.injEq,true_and] at e1 e2
  obtain ⟨rfl,rfl⟩:=e1
  obtain ⟨rfl,rfl⟩:=e2
  have hx:=hT3.xl
  have hy:=hT3.yl
  have g1:∀ k x,xs[k]? = some x->w4.cell? ⟨b1,0+k,none⟩=some (I x):=fun k x hk=>by
   rw[Nat.zero_add,hT3.po.cellAt k (by have:=(List.getElem?_eq_some_iff.1 hk).1;omega),List.getElem?_map,hk];rfl
  have g2:∀ k x,ys[k]? = some x->w4.cell? ⟨b2,0+k,none⟩=some (I x):=fun k x hk=>by
   rw[Nat.zero_add,hT3.to_.cellAt k (by have:=(List.getElem?_eq_some_iff.1 hk).1;omega),List.getElem?_map,hk];rfl
  obtain ⟨z,hz⟩:∃ z,xs[g]? = some z:=⟨_,List.getElem?_eq_getElem (by omega)⟩
  refine wp_seq (wp_block ?_)
  unfold K7_7
  refine Cb (wp_nrm (p7_37 hx hy (by omega) (by omega) hlt (g1 g z hz) g1 g2 (hc z) h4.tl)) fun a5 w5 h=>?_
  obtain ⟨h5,q1,q2,q3⟩:=h
  refine wp_cond_false (h5.hf rfl) (wp_skip ?_)
  show Code.wp _ _ _ _ _
  refine wp_last (p7_36 (by omega) h5.tl) fun a6 w6 h=>?_
  obtain ⟨h6,rfl⟩:=h
  exact ⟨P - (g+1),by omega,g+1,by omega,rfl,h6,hT3.go (Kq.same q1 q2 q3)⟩
 ·exact .inl ⟨h4.hf (by simp;omega),hR _ _ (h4.sub (by simp)) hT3.kq⟩
end
noncomputable def T7:Code:=.seq (.seq q7_4 (.cond (.tmp 35) (.seq q7_5 .ret) .skip)) (.seq (.seq q7_6 (.cond (.tmp 53) (.seq q7_7 .ret) .skip)) (.seq q7_8 (.seq q7_9 (.seq (.seq q7_10 (.block 0 K7_0)) (.seq q7_23 (.seq q7_24 (.seq (.seq q7_25 (.block 4 K7_4)) (.seq (.seq q7_32 (.cond (.tmp 169) (.seq q7_33 .ret) .skip)) (.seq (.seq q7_34 (.block 6 K7_6)) (.seq q7_39 .ret))))))))))
theorem fine_T7:A7 Tryd.prog true LV T7:=B0 Bw extT (by kernel_rfl)
theorem tail7_no {a:Act}{v:World}{E:Int}(hE:E=1∨E=2) (hA:Fl 189 [(7,.bool true),(10,I E)] a):T7.wp Tryd.prog (fun e a' w'=>e=.ret∧Fl 189 [(6,.bool true)] a'∧Kq v.heap.size v w') a v:=by
 unfold T7
 refine wp_seq (Cb (p7_4n (by omega) hA) fun a1 w1 h=>?_)
 obtain ⟨h1,rfl⟩:=h
 refine wp_cond_true (h1.hd rfl) ?_
 refine Cb (p7_5 h1.tl) fun a2 w2 h=>?_
 obtain ⟨h2,rfl⟩:=h
 exact wp_ret ⟨rfl,h2,Kq.refl _ _⟩
theorem kq_of_grows {v w:World}(h:Grows v w):Kq v.heap.size v w:=⟨h.os,h.output,h.size,h.old⟩
theorem tail7_yes {v:World}{a:Act}{S:TS}{n N b o cap M wb:Nat}{ln cp rb ro A:Nat->Nat}{pq:Nat->Option Addr}{cl:Nat->List Cl}{l:Nat->Ph}{L:List Stp}{Rw:List Nat}(hn:n≤1000) (hN:N≤8) (hR:Rep zn S v) (hwb:wb=S.wb) (hstk:S.stk=false) (htr:S.tr=flat L) (hSn:S.n=L.length) (hs4:S.n≤400000)
 (hS:SL N b o ln cp rb ro pq cl v) (hL:AL N M A ln l v) (h64:∀ k,k<N->ln k≤64)
 (hRw:Lnk (fun i=>B8 (lkJ n i) L) (R1.fstI (B8 (hdJ n) L)) Rw) (hnd:Rw.Nodup) (hlt:∀ a∈Rw,a<n) (h0:0≤B8 (hdJ n) L∧B8 (hdJ n) L<4611686018427387904)
 (hc:∀ z,totN (fun k=>(putL (cl k) (l k).ans (cl k).length).count z) N=totN (fun k=>(tolL (cl k) (l k).ans (cl k).length).count z) N+(Rw.map fun a=>B8 (vlJ n a) L).count z)
 (hA:Fl 189 [(7,.bool true),(10,I 0),(1,I (n:Nat)),(2,.slice (some ⟨b,o,none⟩) N cap),(8,Pt wb 0),(9,.slice (some ⟨M,0,none⟩) N N)] a):T7.wp Tryd.prog (fun e a' w'=>e=.ret∧Fl 189 [(6,.bool true)] a'∧Kq v.heap.size v w') a v:=by
 unfold T7
 refine wp_seq (Cb (p7_4y hA) fun a1 w1 h=>?_)
 obtain ⟨h1,rfl⟩:=h
 refine wp_cond_false (h1.hf rfl) (wp_skip ?_)
 show Code.wp _ _ _ _ _
 refine wp_seq (Cb (p7_6 hR hwb hstk hn h1.tl) fun a2 w2 h=>?_)
 obtain ⟨h2,rfl⟩:=h
 refine wp_cond_false (h2.hf rfl) (wp_skip ?_)
 show Code.wp _ _ _ _ _
 refine Cb (p7_8 h2.tl) fun a3 w3 h=>?_
 obtain ⟨h3,rfl⟩:=h
 refine Cb (p7_9 h3) fun a4 w4 h=>?_
 obtain ⟨h4,rfl⟩:=h
 refine wp_seq (rows7 hS hL h64 hN h4 fun a5 w5 pp P pc tp Q tc h5 hT5=>?_)
 show Code.wp _ _ _ _ _
 have hR5:Rep zn S w5:=hR.grows hT5.kq.size hT5.kq.old
 have hlenA:=putA_len (cl:=cl) (an:=fun k=>(l k).ans) N (fun k hk=>by rw[hS.len k hk];exact h64 k hk)
 have hx5:=hT5.xl
 have hy5:=hT5.yl
 refine Cb (p7_23 hR5 hwb htr hs4 (show Fl 189 [(1,I (n:Nat)),(11,.slice pp P pc),(12,.slice tp Q tc),(8,Pt wb 0)] a5 from h5.sub (by simp))) fun a6 w6 h=>?_
 obtain ⟨p,g,ct,h6,hp,hg,hgr⟩:=h
 have hL6:TrL g L w6:=fun k s hs=>by
  obtain ⟨f0,f1,f2,f3,f4⟩:=flat_get L k s hs
  exact ⟨hg _ _ f0,hg _ _ f1,hg _ _ f2,hg _ _ f3,hg _ _ f4⟩
 have hT6:=hT5.go (kq_of_grows hgr)
 have hap6:∀ k,(Value.slice tp Q tc).ownBlock=some k->L≠[]->k≠g:=fun k hk hne=>by
  have h1:=(Fp hT5.to_ k hk).2
  have h2:=(hp (by have:=List.length_pos_iff.2 hne;omega)).2
  omega
 refine Cb (p7_24 hn hSn.symm hs4 (fun h=>(hp h).1) hL6 (and_fst h0.1 h0.2) (show Fl 189 [(1,I (n:Nat)),(11,.slice pp P pc),(12,.slice tp Q tc),(16,.slice p S.n ct)] a6 from h6.sub (by simp))) fun a7 w7 h=>?_
 obtain ⟨h7,q1,q2,q3⟩:=h
 have hT7:=hT6.go (Kq.same q1 q2 q3)
 have hL7:TrL g L w7:=trl_of hL6 (fun _=>by rw[q1])
 refine wp_seq (down7 hn hSn.symm hs4 (fun h=>(hp h).1) hL7 hT7 hap6 (by omega) hRw hnd hlt (show Fl 189 [(1,I (n:Nat)),(11,.slice pp P pc),(12,.slice tp Q tc),(16,.slice p S.n ct),(17,I (R1.fstI (B8 (hdJ n) L)))] a7 from h7.sub (by simp)) fun a8 w8 tp8 Q8 tc8 h8 hT8=>?_)
 show Code.wp _ _ _ _ _
 have hcnt:∀ z,(putA cl (fun k=>(l k).ans) N).count z=(tolA cl (fun k=>(l k).ans) N++Rw.map fun a=>B8 (vlJ n a) L).count z:=fun z=>by
  rw[List.count_append,(putA_count z N).1,(putA_count z N).2]
  exact hc z
 have hPQ:P=Q8:=by
  have h1:=hT8.xl
  have h2:=hT8.yl
  rw[←h1,←h2]
  exact (List.perm_iff_count.2 hcnt).length_eq
 refine wp_seq (Cb (p7_32 hPQ h8) fun a9 w9 h=>?_)
 obtain ⟨h9,rfl⟩:=h
 refine wp_cond_false (h9.hf rfl) (wp_skip ?_)
 show Code.wp _ _ _ _ _
 refine wp_seq (same7 hT8 hcnt hPQ (by omega) h9.tl fun a10 w10 h10 hk10=>?_)
 show Code.wp _ _ _ _ _
 refine Cb (p7_39 h10) fun a11 w11 h=>?_
 obtain ⟨h11,rfl⟩:=h
 exact wp_ret ⟨rfl,h11,hk10⟩
end Go.Proofs.YtbbhahigofeacaaDoor.Gen
