/- OnceOnce, part 11 of 26: KpW. -/
import Derived.Test.YtfjjoohflcchnaaDoorOnceOnce01
import Derived.Test.YtfjjoohflcchnaaDoorOnceOnce05
import Derived.Test.YtfjjoohflcchnaaDoorOnceOnce10
set_option linter.unusedSimpArgs false
set_option linter.unusedVariables false
set_option maxHeartbeats 4000000
set_option maxRecDepth 100000
noncomputable section
namespace Go.Proofs.YtfjjoohflcchnaaDoor.R1
open Go.RowKit Go.Proofs.YtfjjoohflcchnaaDoor.Pl
variable {w:World}
theorem getI_put {a b:Nat}(x v:Int) (hb:a+b<=64) (h2:b<=62) (h0:0<=v) (h1:v<2 ^ b):getI (putI x a b v) a b=v:=by
 have hf:=getI_fits (putI x a b v) a b h2;have hp:=pow_le62 h2;have hv:Fits v:=by unfold Fits;omega
 have hs:getI v 0 b=v:=by unfold getI;rw[Int.pow_zero,Int.ediv_one];exact Int.emod_eq_of_lt h0 h1
 refine tb_ext hf hv (λi hi=>?_);rw[tb_getI _ _ _ _ hb hi];by_cases hib:i<b
 .rw[tb_putI _ _ _ _ _ (by omega) (by omega)]
  have e:a+i - a=i:=by omega
  simp[hib,e]
 .have:tb v i=false:=by rw[<-hs,tb_getI _ _ _ _ (by omega) hi];simp[hib]
  simp[hib,this]
theorem getI_far {a b c d:Nat}(x v:Int) (hb:a+b<=64) (hd:c+d<=64) (h2:d<=62) (h:c+d<=a∨a+b<=c):getI (putI x a b v) c d=getI x c d:=by
 refine tb_ext (getI_fits _ c d h2) (getI_fits _ c d h2) (λi hi=>?_);rw[tb_getI _ _ _ _ hd hi,tb_getI _ _ _ _ hd hi];by_cases hid:i<d
 .rw[tb_putI _ _ _ _ _ (by omega) (by omega)]
  have:¬ (a<=c+i∧c+i<a+b):=by omega
  simp[hid]
  try (intro h1 h2;omega)
 simp[hid]
def Ae (s who code:Int):Int:=putW (putW (putW 0 2 8 who) 10 20 code) 0 2 s
def stI (x:Int):Int:=getI x 0 2
def whoI (x:Int):Int:=getI x 2 8
def codI (x:Int):Int:=getI x 10 20
theorem fits0:Fits 0:=by unfold Fits;omega
theorem putW_fits (x a b v:Int):Fits (putW x a b v):=by unfold putW;split;exact putI_fits _ _ _ _;exact fits0
theorem putW_eq {x v:Int}(a b:Nat) (h1:1<=b) (h2:b<=62) (h3:a+b<=64) (v0:0<=v) (v1:v<2 ^ b):putW x a b v=putI x a b v:=by
 have e:putB a b v=true:=by unfold putB mayB;simp only[Bool.and_eq_true,decide_eq_true_eq,Int.toNat_natCast];exact ⟨⟨by omega,by omega,by omega,by omega⟩,v0,v1⟩
 unfold putW;rw[if_pos e];rfl
section
variable {s who code:Int}(s0:0<=s) (s1:s<4) (w0:0<=who) (w1:who<256) (c0:0<=code) (c1:code<1048576)
include s0 s1 in
theorem st_word:stI (Ae s who code)=s:=by unfold stI Ae;rw[show (0:Int)=((0:Nat):Int) from rfl,show (2:Int)=((2:Nat):Int) from rfl,putW_eq 0 2 (by omega) (by omega) (by omega) s0 (by show s<2 ^ 2;omega)];exact getI_put _ _ (by omega) (by omega) s0 (by show s<2 ^ 2;omega)
include s0 s1 w0 w1 c0 c1 in
theorem word_eq:Ae s who code=putI (putI (putI 0 2 8 who) 10 20 code) 0 2 s:=by unfold Ae;have e1:=putW_eq (x:=0) (v:=who) 2 8 (by omega) (by omega) (by omega) w0 (by show who<2 ^ 8;omega);have e2:=putW_eq (x:=putI 0 2 8 who) (v:=code) 10 20 (by omega) (by omega) (by omega) c0 (by show code<2 ^ 20;omega);have e3:=putW_eq (x:=putI (putI 0 2 8 who) 10 20 code) (v:=s) 0 2 (by omega) (by omega) (by omega) s0 (by show s<2 ^ 2;omega);have e1:putW 0 2 8 who=putI 0 2 8 who:=e1;have e2:putW (putI 0 2 8 who) 10 20 code=putI (putI 0 2 8 who) 10 20 code:=e2;have e3:putW (putI (putI 0 2 8 who) 10 20 code) 0 2 s=putI (putI (putI 0 2 8 who) 10 20 code) 0 2 s:=e3;rw[e1,e2,e3]
include s0 s1 w0 w1 c0 c1 in
theorem who_word:whoI (Ae s who code)=who:=by rw[word_eq s0 s1 w0 w1 c0 c1];unfold whoI;rw[getI_far _ _ (by omega) (by omega) (by omega) (by omega),getI_far _ _ (by omega) (by omega) (by omega) (by omega)];exact getI_put _ _ (by omega) (by omega) w0 (by show who<2 ^ 8;omega)
include s0 s1 w0 w1 c0 c1 in
theorem cod_word:codI (Ae s who code)=code:=by rw[word_eq s0 s1 w0 w1 c0 c1];unfold codI;rw[getI_far _ _ (by omega) (by omega) (by omega) (by omega)];exact getI_put _ _ (by omega) (by omega) c0 (by show code<2 ^ 20;omega)
end
structure Flds (w:World):Prop where
 s0:w.cell? ⟨1,0,none⟩=some (I 0)
 s1:w.cell? ⟨1,1,none⟩=some (I 2)
 c0:w.cell? ⟨2,0,none⟩=some (I 10)
 c1:w.cell? ⟨2,1,none⟩=some (I 20)
 w0:w.cell? ⟨3,0,none⟩=some (I 2)
 w1:w.cell? ⟨3,1,none⟩=some (I 8)
theorem Flds.of {w':World}(h:Flds w) (k:∀ a x,w.cell? a=some x->w'.cell? a=some x):Flds w':=⟨k _ _ h.s0,k _ _ h.s1,k _ _ h.c0,k _ _ h.c1,k _ _ h.w0,k _ _ h.w1⟩
theorem Flds.below {w':World}(h:Flds w) (hb:Below w.heap.size w w'):Flds w':=h.of λa x ha=>by rw[hb.cell (World.block_lt_of_cell? _ _ ha)];exact ha
theorem blw_next {w1 w2:World}(h1:Below w.heap.size w w1) (h2:Below w1.heap.size w1 w2):Below w.heap.size w w2:=h1.trans (h2.mono h1.size)
theorem wordOf_any (s who code:Int) (w:World) (hF:Flds w):Body Tryd.f96 #[I s,I who,I code] w (λr w'=>r=I (Ae s who code)∧Below w.heap.size w w'):=by
 have HF:Hid (Flds w):=⟨hF⟩
 obtain ⟨f1,f2,f3,f4,f5,f6⟩:=hF;clear f1 f2 f3 f4;intro code' hcode;obtain rfl:=Qd hcode;clear hcode;simp only[Tryd.ntmps96,Sz,Nat.reduceAdd,Nat.reduceSub,Sy];go_wp2_with fail;refine (put_any 0 2 8 who _ fits0).mono ?_;rintro e u1 ⟨rfl,hb1⟩;have HB1:Hid (Below w.heap.size w u1):=⟨hb1⟩
 have f3:=(HF.out.below hb1).c0;have f4:=(HF.out.below hb1).c1;clear f5 f6 hb1;go_wp2_with fail;refine (put_any (putW 0 2 8 who) 10 20 code _ (putW_fits _ _ _ _)).mono ?_;rintro e u2 ⟨rfl,hb2⟩;have HB2:Hid (Below w.heap.size w u2):=⟨blw_next HB1.out hb2⟩
 have f1:=(HF.out.below HB2.out).s0;have f2:=(HF.out.below HB2.out).s1;clear f3 f4 hb2;go_wp2_with fail;refine (put_any (putW (putW 0 2 8 who) 10 20 code) 0 2 s _ (putW_fits _ _ _ _)).mono ?_;rintro e u3 ⟨rfl,hb3⟩;have HB3:Hid (Below w.heap.size w u3):=⟨blw_next HB2.out hb3⟩
 clear hb3 f1 f2;go_wp2_with fail;go_ret;exact ⟨_,rfl,rfl,HB3.out⟩
theorem wget_body (x:Int) (a b:Nat) (w:World) (h1:1<=b) (h2:b<=62) (h3:a+b<=64):Body Tryd.f74 #[I x,F a b] w (λr w'=>r=I (getI x a b)∧Below w.heap.size w w'):=by
 have H:Hid (mayB a b=true):=⟨decide_eq_true ⟨by omega,by omega,by omega,by omega⟩⟩
 have h64:(a:Int)+b<=64:=by omega
 intro code hb;obtain rfl:=Qd hb;clear hb;simp only[Tryd.ntmps74,Sz,Nat.reduceAdd,Nat.reduceSub,Sy]
 go_wp2_with (go_at_call 109;refine (A8 _ _ _).mono ?_;rintro e w' ⟨rfl,rfl⟩;rw[H.out])
 go_loop [5,12] (λv i=>∃ k:Nat,k<=b∧i=.int .i64 k∧v=.int .i64 (getI x a k)) (λ_ i=>b - (intOf i).toNat)
 case atStart=>exact ⟨0,Nat.zero_le _,rfl,by rw[getI_zero]⟩
 case round =>
  obtain ⟨k,hk,rfl,rfl⟩:=hrel;by_cases hlt:k<b
  .have hst:Hid (bits .or .i64 (getI x a k) (wrap64 (bI x (a+k)*2 ^ k))=getI x a (k+1)):=⟨getI_step x a k (by omega) (by omega)⟩
   go_wp2_with (go_at_call 110;refine (bit_any _ _ _ (by omega) (by omega)).mono ?_;rintro e w' ⟨rfl,rfl⟩)
   go_round
   case rel =>exact ⟨k+1,by omega,by go_num,by rw[hst.out]⟩
   case measure=>simp[intOf];omega
  .go_wp2
   go_ret;have:k=b:=by omega
   subst this;exact ⟨_,rfl,rfl,((Below.refl _ _).alloc (Qi _) _).alloc (by simp) _⟩
theorem id_any (tb i:Nat) (w:World) (h:w.cell? ⟨tb,1,none⟩=some (I i)):Calls Tryd.prog 68 #[.pointer (some ⟨tb,0,none⟩)] w λe w'=>e=.returned (I i)∧w'=w:=by
 go_enter Tryd.func68,Tryd.ntmps68
 go_wp2_with fail;go_ret;exact ⟨rfl,rfl⟩
end Go.Proofs.YtfjjoohflcchnaaDoor.R1
