/- StackLinear, part 22 of 32: StW, StM. -/
import Derived.Test.YtbbhahigofeacaaDoorStackLinear01
import Derived.Test.YtbbhahigofeacaaDoorStackLinear05
import Derived.Test.YtbbhahigofeacaaDoorStackLinear07
import Derived.Test.YtbbhahigofeacaaDoorStackLinear21
set_option linter.unusedSimpArgs false
set_option linter.unusedVariables false
set_option maxHeartbeats 4000000
set_option maxRecDepth 100000
noncomputable section
namespace Go.Proofs.YtbbhahigofeacaaDoor.R1
open Go.RowKit Go.Proofs.YtbbhahigofeacaaDoor.Pl
variable {f v:Int} {w:World}
theorem getI_put {a b:Nat}(x v:Int) (hb:a+b<=64) (h2:b<=62) (h0:0<=v) (h1:v<2 ^ b):getI (putI x a b v) a b=v:=by
 have hf:=getI_fits (putI x a b v) a b h2;have hp:=pow_le62 h2;have hv:Fits v:=by unfold Fits;omega
 have hs:getI v 0 b=v:=by unfold getI;rw[Int.pow_zero,Int.ediv_one];exact Int.emod_eq_of_lt h0 h1
 refine tb_ext hf hv (λi hi=>?_);rw[tb_getI _ _ _ _ hb hi];by_cases hib:i<b
 .rw[tb_putI _ _ _ _ _ (by omega) (by omega)]
  have e:a+i - a=i:=by omega
  simp[hib,e]
 .have:tb v i=false:=by rw[<-hs,tb_getI _ _ _ _ (by omega) hi];simp[hib]
  simp[hib,this]
theorem getI_far {a b c d:Nat}(x v:Int) (hb:a+b<=64) (hd:c+d<=64) (h2:d<=62) (h:c+d<=a∨a+b<=c):getI (putI x a b v) c d=getI x c d:=by
 refine tb_ext (getI_fits _ c d h2) (getI_fits _ c d h2) (λi hi=>?_);rw[tb_getI _ _ _ _ hd hi,tb_getI _ _ _ _ hd hi];by_cases hid:i<d
 .rw[tb_putI _ _ _ _ _ (by omega) (by omega)]
  have:¬ (a<=c+i∧c+i<a+b):=by omega
  simp[hid]
  try (intro h1 h2;omega)
 simp[hid]
def hdI (f v:Int):Int:=putW (putW 0 0 32 f) 32 30 (v.tmod 1073741824)
def fstI (x:Int):Int:=getI x 0 32
def verI (x:Int):Int:=getI x 32 30
theorem fits0:Fits 0:=by unfold Fits;omega
theorem putW_fits (x a b v:Int):Fits (putW x a b v):=by unfold putW;split;exact putI_fits _ _ _ _;exact fits0
theorem putW_eq {x:Int}(a b:Nat) (h1:1<=b) (h2:b<=62) (h3:a+b<=64) (v0:0<=v) (v1:v<2 ^ b):putW x a b v=putI x a b v:=by
 have e:putB a b v=true:=by unfold putB mayB;simp only[Bool.and_eq_true,decide_eq_true_eq,Int.toNat_natCast];exact ⟨⟨by omega,by omega,by omega,by omega⟩,v0,v1⟩
 unfold putW;rw[if_pos e];rfl
theorem J0 (x:Int):0<=fstI x∧fstI x<4294967296:=⟨Jz _ _ _,getI_lt x 0 32⟩
theorem verI_in (x:Int):0<=verI x∧verI x<1073741824:=⟨Jz _ _ _,getI_lt x 32 30⟩
theorem hd_eq (f0:0<=f) (f1:f<4294967296) (v0:0<=v):hdI f v=putI (putI 0 0 32 f) 32 30 (v.tmod 1073741824):=by
 have hv:0<=v.tmod 1073741824∧v.tmod 1073741824<1073741824:=⟨Int.tmod_nonneg _ v0,Int.tmod_lt_of_pos v (by decide)⟩
 unfold hdI;have e1:=putW_eq (x:=0) (v:=f) 0 32 (by omega) (by omega) (by omega) f0 (by show f<2 ^ 32;omega);have e2:=putW_eq (x:=putI 0 0 32 f) (v:=v.tmod 1073741824) 32 30 (by omega) (by omega) (by omega) hv.1 (by show _<2 ^ 30;omega);have e1:putW 0 0 32 f=putI 0 0 32 f:=e1;have e2:putW (putI 0 0 32 f) 32 30 (v.tmod 1073741824)=putI (putI 0 0 32 f) 32 30 (v.tmod 1073741824):=e2;rw[e1,e2]
theorem fst_hd (f0:0<=f) (f1:f<4294967296) (v0:0<=v):fstI (hdI f v)=f:=by rw[hd_eq f0 f1 v0];unfold fstI;rw[getI_far _ _ (by omega) (by omega) (by omega) (by omega)];exact getI_put _ _ (by omega) (by omega) f0 (by show f<2 ^ 32;omega)
theorem ver_hd (f0:0<=f) (f1:f<4294967296) (v0:0<=v):verI (hdI f v)=v.tmod 1073741824:=by
 have hv:0<=v.tmod 1073741824∧v.tmod 1073741824<1073741824:=⟨Int.tmod_nonneg _ v0,Int.tmod_lt_of_pos v (by decide)⟩
 rw[hd_eq f0 f1 v0];unfold verI;exact getI_put _ _ (by omega) (by omega) hv.1 (by show _<2 ^ 30;omega)
theorem hdI_fits (f v:Int):Fits (hdI f v):=putW_fits _ _ _ _
theorem fstI_zero:fstI 0=0:=by decide
theorem verI_zero:verI 0=0:=by decide
structure Flds (w:World):Prop where
 a0:w.cell? ⟨0,0,none⟩=some (I 0)
 a1:w.cell? ⟨0,1,none⟩=some (I 32)
 b0:w.cell? ⟨1,0,none⟩=some (I 32)
 b1:w.cell? ⟨1,1,none⟩=some (I 30)
 c0:w.cell? ⟨2,0,none⟩=some (I 0)
 c1:w.cell? ⟨2,1,none⟩=some (I 32)
 d0:w.cell? ⟨3,0,none⟩=some (I 32)
 d1:w.cell? ⟨3,1,none⟩=some (I 30)
theorem Flds.of {w':World}(h:Flds w) (k:∀ a x,w.cell? a=some x->w'.cell? a=some x):Flds w':=⟨k _ _ h.a0,k _ _ h.a1,k _ _ h.b0,k _ _ h.b1,k _ _ h.c0,k _ _ h.c1,k _ _ h.d0,k _ _ h.d1⟩
theorem Flds.below {w':World}(h:Flds w) (hb:Below w.heap.size w w'):Flds w':=h.of λa x ha=>by rw[hb.cell (World.block_lt_of_cell? _ _ ha)];exact ha
theorem blw_next {w1 w2:World}(h1:Below w.heap.size w w1) (h2:Below w1.heap.size w1 w2):Below w.heap.size w w2:=h1.trans (h2.mono h1.size)
theorem shead_any (f v:Int) (w:World) (hF:Flds w):Body Tryd.f42 #[I f,I v] w (λr w'=>r=I (hdI f v)∧Below w.heap.size w w'):=by
 have HF:Hid (Flds w):=⟨hF⟩
 have f5:=hF.a0;have f6:=hF.a1;clear hF;intro code' hcode;obtain rfl:=Qd hcode;clear hcode;simp only[Tryd.ntmps42,Sz,Nat.reduceAdd,Nat.reduceSub,Sy];go_wp2_with fail;refine (put_any 0 0 32 f _ fits0).mono ?_;rintro e u1 ⟨rfl,hb1⟩;have HB1:Hid (Below w.heap.size w u1):=⟨hb1⟩
 have f3:=(HF.out.below hb1).b0;have f4:=(HF.out.below hb1).b1;clear f5 f6 hb1;go_wp2_with fail;refine (put_any (putW 0 0 32 f) 32 30 (v.tmod 1073741824) _ (putW_fits _ _ _ _)).mono ?_;rintro e u2 ⟨rfl,hb2⟩;have HB2:Hid (Below w.heap.size w u2):=⟨blw_next HB1.out hb2⟩
 clear f3 f4 hb2;go_wp2_with fail;go_ret;exact ⟨_,rfl,rfl,HB2.out⟩
theorem thead_any (f v:Int) (w:World) (hF:Flds w):Body Tryd.f92 #[I f,I v] w (λr w'=>r=I (hdI f v)∧Below w.heap.size w w'):=by
 have HF:Hid (Flds w):=⟨hF⟩
 have f5:=hF.c0;have f6:=hF.c1;clear hF;intro code' hcode;obtain rfl:=Qd hcode;clear hcode;simp only[Tryd.ntmps92,Sz,Nat.reduceAdd,Nat.reduceSub,Sy];go_wp2_with fail;refine (put_any 0 0 32 f _ fits0).mono ?_;rintro e u1 ⟨rfl,hb1⟩;have HB1:Hid (Below w.heap.size w u1):=⟨hb1⟩
 have f3:=(HF.out.below hb1).d0;have f4:=(HF.out.below hb1).d1;clear f5 f6 hb1;go_wp2_with fail;refine (put_any (putW 0 0 32 f) 32 30 (v.tmod 1073741824) _ (putW_fits _ _ _ _)).mono ?_;rintro e u2 ⟨rfl,hb2⟩;have HB2:Hid (Below w.heap.size w u2):=⟨blw_next HB1.out hb2⟩
 clear f3 f4 hb2;go_wp2_with fail;go_ret;exact ⟨_,rfl,rfl,HB2.out⟩
theorem Ew (x:Int) (a b:Nat) (w:World) (h1:1<=b) (h2:b<=62) (h3:a+b<=64):Body Tryd.f45 #[I x,F a b] w (λr w'=>r=I (getI x a b)∧Below w.heap.size w w'):=by
 have H:Hid (mayB a b=true):=⟨decide_eq_true ⟨by omega,by omega,by omega,by omega⟩⟩
 have h64:(a:Int)+b<=64:=by omega
 intro code hb;obtain rfl:=Qd hb;clear hb;simp only[Tryd.ntmps45,Sz,Nat.reduceAdd,Nat.reduceSub,Sy]
 go_wp2_with (go_at_call 70;refine (K8 _ _ _).mono ?_;rintro e w' ⟨rfl,rfl⟩;rw[H.out])
 go_loop [5,12] (λv i=>∃ k:Nat,k<=b∧i=.int .i64 k∧v=.int .i64 (getI x a k)) (λ_ i=>b - (intOf i).toNat)
 case atStart=>exact ⟨0,Nat.zero_le _,rfl,by rw[getI_zero]⟩
 case round =>
  obtain ⟨k,hk,rfl,rfl⟩:=hrel;by_cases hlt:k<b
  .have hst:Hid (bits .or .i64 (getI x a k) (wrap64 (bI x (a+k)*2 ^ k))=getI x a (k+1)):=⟨getI_step x a k (by omega) (by omega)⟩
   go_wp2_with (go_at_call 71;refine (bit_any _ _ _ (by omega) (by omega)).mono ?_;rintro e w' ⟨rfl,rfl⟩)
   go_round
   case rel =>exact ⟨k+1,by omega,by go_num,by rw[hst.out]⟩
   case measure=>simp[intOf];omega
  .go_wp2
   go_ret;have:k=b:=by omega
   subst this;exact ⟨_,rfl,rfl,((Below.refl _ _).alloc (Qi _) _).alloc (by simp) _⟩
end Go.Proofs.YtbbhahigofeacaaDoor.R1
namespace Go.Proofs.YtbbhahigofeacaaDoor.Gen
open Go Go.Lift Go.Conc Go.RowKit
open R1 (fstI verI hdI)
variable {j n:Nat}
def nxJ (i:Nat):Nat:=1+2*i
def usJ (i:Nat):Nat:=2+2*i
def hdJ (n:Nat):Nat:=2*n+1
def vlJ (n i:Nat):Nat:=2*n+2+2*i
def lkJ (n i:Nat):Nat:=2*n+3+2*i
def slI (x:Int):Nat:=(fstI x - 1).toNat
abbrev Nt:=(Int×Int)×Int×Nx
def same (x:Int) (y:Nx):Nt:=((x,x),x,y)
def put_ (x y:Int) (k:Nx):Nt:=((x,y),y,k)
def Ak (n:Nat) (q:Q) (x:Int):Nt :=
 let a:=q.2.getD 0 0
 let b:=q.2.getD 1 0
 let c:=q.2.getD 2 0
 match q.1 with
 |1=>same x (if fstI x=0 then .ans 80 0 else .turn 1 (nxJ (slI x)) (2,[a,x]))
 |2=>same x (.turn 4 0 (3,[a,b,x]))
 |3=>if x=b then put_ x (hdI c (verI b+1)) (.turn 2 (usJ (slI b)) (4,[a,(slI b:Nat)])) else same x (.turn 1 0 (1,[a]))
 |4=>put_ x 1 (.turn 2 (vlJ n b.toNat) (5,[a,b]))
 |5=>put_ x a (.turn 1 (hdJ n) (6,[b]))
 |6=>same x (.turn 2 (lkJ n a.toNat) (7,[a,x]))
 |7=>put_ x (fstI b) (.turn 4 (hdJ n) (8,[a,b]))
 |8=>if x=b then put_ x (hdI (a+1) (verI b+1)) (.ans 0 0) else same x (.turn 1 (hdJ n) (6,[a]))
 |11=>same x (if fstI x=0 then .ans 90 0 else .turn 1 (lkJ n (slI x)) (12,[x]))
 |12=>same x (.turn 4 (hdJ n) (13,[a,x]))
 |13=>if x=a then put_ x (hdI b (verI a+1)) (.turn 1 (vlJ n (slI a)) (14,[(slI a:Nat)])) else same x (.turn 1 (hdJ n) (11,[]))
 |14=>same x (.turn 4 (usJ a.toNat) (15,[a,x]))
 |15=>if x=1 then put_ x 0 (.turn 1 0 (16,[a,b])) else same x (.ans 0 b)
 |16=>same x (.turn 2 (nxJ a.toNat) (17,[a,b,x]))
 |17=>put_ x (fstI c) (.turn 4 0 (18,[a,b,c]))
 |18=>if x=c then put_ x (hdI (a+1) (verI c+1)) (.ans 0 b) else same x (.turn 1 0 (16,[a,b]))
 |_=>same x (.ans 1 0)
def okT (n:Nat) (j:Nat) (x:Int):Prop:=(j=0∨j=hdJ n->fstI x<=n)∧(j % 2=1∧j≠hdJ n->0<=x∧x<=n)
def E3 (n:Nat) (a:Int):Prop:=0<=a∧a<n
def atT (n:Nat) (q:Q) (j:Nat):Prop :=
 let a:=q.2.getD 0 0
 let b:=q.2.getD 1 0
 let c:=q.2.getD 2 0
 match q.1 with
 |1=>j=0
 |2=>0<fstI b∧fstI b<=n∧j=nxJ (slI b)
 |3=>0<fstI b∧fstI b<=n∧0<=c∧c<=n∧j=0
 |4=>E3 n b∧j=usJ b.toNat
 |5=>E3 n b∧j=vlJ n b.toNat
 |6=>E3 n a∧j=hdJ n
 |7=>E3 n a∧fstI b<=n∧j=lkJ n a.toNat
 |8=>E3 n a∧j=hdJ n
 |11=>j=hdJ n
 |12=>0<fstI a∧fstI a<=n∧j=lkJ n (slI a)
 |13=>0<fstI a∧fstI a<=n∧0<=b∧b<=n∧j=hdJ n
 |14=>E3 n a∧j=vlJ n a.toNat
 |15=>E3 n a∧j=usJ a.toNat
 |16=>E3 n a∧j=0
 |17=>E3 n a∧fstI c<=n∧j=nxJ a.toNat
 |18=>E3 n a∧j=0
 |_=>False
theorem okT_hd (hn:n<=1000) (hj:j=0∨j=hdJ n) {f v:Int}(f0:0<=f) (f1:f<=n) (v0:0<=v):okT n j (hdI f (v+1)):=by refine ⟨λ_=>?_,λh=>?_⟩;rw[R1.fst_hd f0 (by omega) (by omega)];exact f1;unfold hdJ at *;omega
theorem okT_ref (hj:j≠0∧j≠hdJ n) {x:Int}(h:0<=x∧x<=n):okT n j x:=⟨λq=>by omega,λ_=>h⟩
theorem okT_any (hj:j≠0∧j % 2=0) (x:Int):okT n j x:=⟨λq=>by unfold hdJ at q;omega,λq=>by omega⟩
theorem okt_T (hn:n<=1000) (q:Q) (j:Nat) (x:Int) (ha:atT n q j) (hx:okT n j x):okT n j (Ak n q x).2.1:=by
 unfold atT at ha;unfold Ak;have v1:=R1.verI_in (q.2.getD 0 0);have v2:=R1.verI_in (q.2.getD 1 0);have v3:=R1.verI_in (q.2.getD 2 0);have w2:=R1.J0 (q.2.getD 1 0);have w3:=R1.J0 (q.2.getD 2 0);simp only at ha ⊢;split at ha;exact hx;exact hx
 .split
  exact okT_hd hn (by omega) ha.2.2.1 ha.2.2.2.1 v2.1;exact hx
 exact okT_any (by have:=ha.2;unfold usJ at this;omega) _;exact okT_any (by have:=ha.2;unfold vlJ at this;omega) _;exact hx;exact okT_ref (by have:=ha.2.2;unfold lkJ at this;unfold hdJ;omega) ⟨w2.1,ha.2.1⟩
 .split
  exact okT_hd hn (by omega) (by have:=ha.1.1;omega) (by have:=ha.1.2;omega) v2.1;exact hx
 exact hx;exact hx
 .split
  exact okT_hd hn (by omega) ha.2.2.1 ha.2.2.2.1 v1.1;exact hx
 exact hx
 .split
  exact okT_any (by have:=ha.2;unfold usJ at this;omega) _;exact hx
 exact hx;exact okT_ref (by have h1:=ha.2.2;have h2:=ha.1;unfold E3 at h2;unfold nxJ at h1;unfold hdJ;omega) ⟨w3.1,ha.2.1⟩
 .split
  exact okT_hd hn (by omega) (by have:=ha.1.1;omega) (by have:=ha.1.2;omega) v3.1;exact hx
 exact ha.elim
theorem sl_in {x:Int}(h0:0<fstI x) (h1:fstI x<=n):E3 n ((slI x:Nat):Int):=by unfold E3 slI;omega
theorem att_T (q:Q) (j:Nat) (x:Int) (op:Int) (j':Nat) (q':Q) (ha:atT n q j) (hx:okT n j x) (h:(Ak n q x).2.2=.turn op j' q'):atT n q' j':=by
 obtain ⟨k,l⟩:=q;have w:=R1.J0 x;unfold atT at ha;unfold Ak at h;simp only at ha h;split at ha
 .subst ha
  simp only[same] at h;split at h<;>cases h;exact ⟨by show 0<fstI x;omega,hx.1 (.inl rfl),rfl⟩
 .simp only[same] at h
  cases h;have hr:=hx.2 (by rw[ha.2.2];unfold nxJ hdJ slI;omega);exact ⟨ha.1,ha.2.1,hr.1,hr.2,rfl⟩
 .simp only[put_,same] at h
  split at h
  .try simp only[put_] at h
   cases h;exact ⟨sl_in ha.1 ha.2.1,rfl⟩
  .try simp only[same] at h
   cases h;rfl
 .simp only[put_] at h
  cases h;exact ⟨ha.1,rfl⟩
 .simp only[put_] at h
  cases h;exact ⟨ha.1,rfl⟩
 .simp only[same] at h
  cases h;exact ⟨ha.1,hx.1 (.inr ha.2),rfl⟩
 .simp only[put_] at h
  cases h;exact ⟨ha.1,rfl⟩
 .simp only[put_,same] at h
  split at h
  .try simp only[put_] at h
   cases h
  .try simp only[same] at h
   cases h;exact ⟨ha.1,rfl⟩
 .simp only[same] at h
  split at h<;>cases h;exact ⟨by show 0<fstI x;omega,hx.1 (.inr ha),rfl⟩
 .simp only[same] at h
  cases h;have hr:=hx.2 (by rw[ha.2.2];unfold lkJ hdJ slI;omega);exact ⟨ha.1,ha.2.1,hr.1,hr.2,rfl⟩
 .simp only[put_,same] at h
  split at h
  .try simp only[put_] at h
   cases h;exact ⟨sl_in ha.1 ha.2.1,rfl⟩
  .try simp only[same] at h
   cases h;rfl
 .simp only[same] at h
  cases h;exact ⟨ha.1,rfl⟩
 .simp only[put_,same] at h
  split at h
  .try simp only[put_] at h
   cases h;exact ⟨ha.1,rfl⟩
  .try simp only[same] at h
   cases h
 .simp only[same] at h
  cases h;exact ⟨ha.1,hx.1 (.inl ha.2),rfl⟩
 .simp only[put_] at h
  cases h;exact ⟨ha.1,rfl⟩
 .simp only[put_,same] at h
  split at h
  .try simp only[put_] at h
   cases h
  .try simp only[same] at h
   cases h;exact ⟨ha.1,rfl⟩
 exact ha.elim
def mcT (n:Nat):Mc where
 start _ c:=if c.po=1 then .turn 1 0 (1,[c.ca]) else if c.po=2 then .turn 1 (hdJ n) (11,[]) else .ans 1 0
 turn:=Ak n
 woke _:=.ans 1 0
 stuck _:=.ans 4 0
 bnd:=true
 ok j x:=n<=1000->okT n j x
 at_ q j:=n<=1000->atT n q j
 ok0 j h:=⟨λ_=>by rw[R1.fstI_zero];omega,λ_=>⟨by omega,by omega⟩⟩
 okt q j x ha hx h:=okt_T h q j x (ha h) (hx h)
 atS i c op j q h hn:=by
  split at h;cases h;rfl
  .split at h<;>cases h
   rfl
 atT q j x op j' q' ha hx h hn:=att_T q j x op j' q' (ha hn) (hx hn) h
 atW q op j q' h:=by cases h
 atU q op j q' h:=by cases h
end Go.Proofs.YtbbhahigofeacaaDoor.Gen
