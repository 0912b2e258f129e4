/- Of the proof of CounterTimes. Part 15 of 31. (Joined, by program, and written short, of: CtW, CtM.) -/
import Derived.Test.YtfjjoohflcchnaaDoorCounterTimes04
import Derived.Test.YtfjjoohflcchnaaDoorCounterTimes14
import Derived.Deep.RegionHeld3
import Derived.BigRegion
import Derived.Deep.RegionLaw
set_option linter.unusedSimpArgs false
set_option linter.unusedVariables false
set_option maxHeartbeats 4000000
set_option maxRecDepth 100000
namespace Go.Proofs.YtfjjoohflcchnaaDoor.R1
open Go.RowKit Go.Proofs.YtfjjoohflcchnaaDoor.Pl
theorem get_at (x:Int) (a b:Nat) (w:World) (h1:1≤b) (h2:b≤62) (h3:a+b≤64) {a' b':Int} (ha:a'=a) (hb:b'=b) :
 Calls Tryd.prog 74 #[I x,F a' b'] w fun e w'=>e=.returned (I (getI x a b))∧Below w.heap.size w w':=by
 subst ha hb;exact get_yes x a b w h1 h2 h3
theorem putI_wrap (x:Int) (a b:Nat) (v:Int):putI (wrap64 x) a b v=putI x a b v:=by unfold putI;rw [ofInt_wrap]
theorem put_step0 {x v y:Int} {a k:Nat} (h:a+k<64) (hy:y=putI x a k v∨(k=0∧y=x)) :
 bits .or .i64 (bits .andNot .i64 y (wrap64 (2 ^ (a+k)))) (wrap64 (bI v k*2 ^ (a+k)))=putI x a (k+1) v:=by
 have hst:=putI_step x v a k h
 rw [Int.one_mul] at hst
 rcases hy with rfl|⟨rfl,rfl⟩
 ·exact hst
 ·have e:putI y a 0 v=wrap64 y:=by rw [←putI_wrap,putI_zero (wrap_fits y)]
  rw [e] at hst
  rw [←hst,bits_andNot_eq y,bits_andNot_eq (wrap64 y),ofInt_wrap y]
theorem below_drewN2 {B:Nat} {a w:World} (h:Below B a w) (n:Nat):Below B a (w.drewN n):=h.trans ⟨rfl,rfl,rfl,Nat.le_refl _,fun _ _=>rfl⟩
theorem put_all (x:Int) (a b:Nat) (v:Int) (w:World) (h1:1≤b) (h2:b≤62) (h3:a+b≤64) (v0:0≤v) (v1:v<2 ^ b) :
 Calls Tryd.prog 105 #[I x,F a b,I v] w fun e w'=>e=.returned (.tuple #[I (putI x a b v),I 0])∧Below w.heap.size w w':=by
 have H:Hid (mayB a b=true):=⟨decide_eq_true ⟨by omega,by omega,by omega,by omega⟩⟩
 have h64:(a:Int)+b≤64:=by omega
 rw [←wrap_pow h2] at v1
 go_enter Tryd.func105,Tryd.ntmps105
 go_wp2_with (go_at_call 109;refine (mayBe_any _ _ _).mono ?_;rintro e w' ⟨rfl,rfl⟩;rw [H.out])
 go_loopw [0,26] (fun y i u=>∃ (k:Nat) (y0:Int),k≤b∧i=.int .i64 k∧y=.int .i64 y0∧(y0=putI x a k v∨(k=0∧y0=x))∧u.cell? ⟨w.heap.size,0,none⟩=some (I a)∧Below w.heap.size w u) (fun _ i _=>b - (intOf i).toNat)
 case atStart=>exact ⟨0,x,Nat.zero_le _,rfl,rfl,.inr ⟨rfl,rfl⟩,by simp,((Below.refl _ _).alloc (Nat.le_refl _) _).alloc (by simp) _⟩
 case round =>
  obtain ⟨k,y0,hk,rfl,rfl,hy,hc,hb⟩:=hrel
  have HB:Hid (Below w.heap.size w _):=⟨hb⟩
  have HY:Hid (y0=putI x a k v∨(k=0∧y0=x)):=⟨hy⟩
  clear hb hy
  by_cases hlt:k<b
  ·have hst:Hid (bits .or .i64 (bits .andNot .i64 y0 (wrap64 (2 ^ (a+k)))) (wrap64 (bI v k*2 ^ (a+k)))=putI x a (k+1) v):=⟨put_step0 (by omega) HY.out⟩
   go_wp2
   go_quiet ((go_at_call 110;exact Calls.quiet_of_same (bit_any _ _ _ (by omega) (by omega))))
   go_wp2
   go_roundw
   case rel =>
    exact ⟨k+1,_,by omega,by go_num,by rw [hst.out],.inl rfl,by simpa using hc,below_drewN2 HB.out _⟩
   case measure=>simp [intOf];omega
  ·go_wp2
   go_ret2
   have:k=b:=by omega
   subst this
   rcases HY.out with rfl|⟨h,_⟩
   ·exact ⟨rfl,HB.out⟩
   ·omega
theorem put_at (x:Int) (a b:Nat) (v:Int) (w:World) (h1:1≤b) (h2:b≤62) (h3:a+b≤64) (v0:0≤v) (v1:v<2 ^ b) {a' b':Int} (ha:a'=a) (hb:b'=b) :
 Calls Tryd.prog 105 #[I x,F a' b',I v] w fun e w'=>e=.returned (.tuple #[I (putI x a b v),I 0])∧Below w.heap.size w w':=by
 subst ha hb;exact put_all x a b v w h1 h2 h3 v0 v1
def amtA (v n:Int):Int:=IntKind.i64.wrap (IntKind.u32.wrap (IntKind.i64.wrap (getI v 0 32+n)))
theorem amtA_eq (v n:Int):amtA v n=(getI v 0 32+n) % 4294967296:=by
 unfold amtA
 simp only [IntKind.wrap_i64,IntKind.wrap_u32]
 omega
theorem amtA_in (v n:Int):0≤amtA v n∧amtA v n<2 ^ 32:=by rw [amtA_eq];omega
def addA (v n:Int):Int:=putI v 0 32 (amtA v n)
def addI (v n:Int):Int:=putI (addA v n) 32 30 ((getI (addA v n) 32 30+1) % 1073741824)
structure Flds (w:World):Prop where
 a0:w.cell? ⟨6,0,none⟩=some (I 0)
 a1:w.cell? ⟨6,1,none⟩=some (I 32)
 b0:w.cell? ⟨7,0,none⟩=some (I 32)
 b1:w.cell? ⟨7,1,none⟩=some (I 30)
theorem Flds.of {w w':World} (h:Flds w) (k:∀ a x,w.cell? a=some x→w'.cell? a=some x):Flds w':=⟨k _ _ h.a0,k _ _ h.a1,k _ _ h.b0,k _ _ h.b1⟩
theorem Flds.below {w w':World} (h:Flds w) (hb:Below w.heap.size w w'):Flds w':=h.of fun a x ha=>by rw [hb.cell (World.block_lt_of_cell? _ _ ha)];exact ha
theorem keepF {u u':World} (h:u.cell? ⟨6,0,none⟩=some (I 0)∧u.cell? ⟨6,1,none⟩=some (I 32)∧u.cell? ⟨7,0,none⟩=some (I 32)∧u.cell? ⟨7,1,none⟩=some (I 30)) (hb:Below u.heap.size u u') :
 u'.cell? ⟨6,0,none⟩=some (I 0)∧u'.cell? ⟨6,1,none⟩=some (I 32)∧u'.cell? ⟨7,0,none⟩=some (I 32)∧u'.cell? ⟨7,1,none⟩=some (I 30):=by
 have:=Flds.below ⟨h.1,h.2.1,h.2.2.1,h.2.2.2⟩ hb
 exact ⟨this.a0,this.a1,this.b0,this.b1⟩
theorem blw_drew (w:World):Below w.heap.size w w.drew:=⟨rfl,rfl,rfl,Nat.le_refl _,fun _ _=>rfl⟩
theorem blw3 {w w1 w2:World} (h1:Below w.drew.heap.size w.drew w1) (h2:Below w1.heap.size w1 w2):Below w.heap.size w w2:=((blw_drew w).trans h1).trans (h2.mono h1.size)
theorem blw_next {w w1 w2:World} (h1:Below w.heap.size w w1) (h2:Below w1.heap.size w1 w2):Below w.heap.size w w2:=h1.trans (h2.mono h1.size)
def verB (x:Int):Int:=(IntKind.i64.wrap (getI x 32 30+1)).tmod 1073741824
theorem verB_eq (x:Int):verB x=(getI x 32 30+1) % 1073741824:=by
 have h0:=getI_nonneg x 32 30
 have h1:=getI_lt x 32 30
 unfold verB
 rw [i64_wrap,wrap_id (by unfold Fits;omega),Int.tmod_eq_emod_of_nonneg (by omega)]
theorem verB_in (x:Int):0≤verB x∧verB x<2 ^ 30:=by rw [verB_eq];omega
theorem added_any (v n:Int) (w:World) (hF:Flds w):Body Tryd.f87 #[I v,I n] w (fun r w'=>r=I (addI v n)∧Below w.heap.size w w'):=by
 obtain ⟨a0,a1,b0,b1⟩:=hF
 intro code hcode
 obtain rfl:=Option.some.inj hcode
 clear hcode
 simp only [Tryd.ntmps87,List.size_toArray,List.length_cons,List.length_nil,Nat.reduceAdd,Nat.reduceSub,Array.replicate_succ,Array.replicate_zero,List.push_toArray,List.append_toArray,List.nil_append,List.cons_append]
 go_wp2_with fail
 have HA:Hid (0≤amtA v n∧amtA v n<2 ^ 32):=⟨amtA_in v n⟩
 go_region_held3 (fun u=>u.cell? ⟨6,0,none⟩=some (I 0)∧u.cell? ⟨6,1,none⟩=some (I 32)∧u.cell? ⟨7,0,none⟩=some (I 32)∧u.cell? ⟨7,1,none⟩=some (I 30))
  (first|(exact keepF ‹_› ‹Below _ _ _›)|(simp [go_sem, *];done))
  (first
    |(go_at_call 74;refine (get_at v 0 32 _ (by decide) (by decide) (by decide) rfl rfl).mono ?_;rintro e w1 ⟨rfl,hb1⟩)
    |(go_at_call 105;refine (put_at v 0 32 (amtA v n) _ (by decide) (by decide) (by decide) HA.out.1 HA.out.2 rfl rfl).mono ?_;rintro e w2 ⟨rfl,hb2⟩))
 rename_i hH
 have HB2:Hid (Below w.heap.size w w2):=⟨blw3 hb1 hb2⟩
 clear hb1 hb2 a0 a1 b0 b1
 obtain ⟨a0,a1,b0,b1⟩:=hH
 generalize hX:putI v 0 32 (amtA v n)=x
 have HX:Hid (addA v n=x):=⟨hX⟩
 have HVB:Hid (0≤verB x∧verB x<2 ^ 30):=⟨verB_in x⟩
 clear hX
 go_wp2_with fail
 go_region_held3 (fun u=>u.cell? ⟨6,0,none⟩=some (I 0)∧u.cell? ⟨6,1,none⟩=some (I 32)∧u.cell? ⟨7,0,none⟩=some (I 32)∧u.cell? ⟨7,1,none⟩=some (I 30))
  (first|(exact keepF ‹_› ‹Below _ _ _›)|(simp [go_sem, *];done))
  (first
    |(go_at_call 74;refine (get_at x 32 30 _ (by decide) (by decide) (by decide) rfl rfl).mono ?_;rintro e w3 ⟨rfl,hb3⟩)
    |(go_at_call 105;refine (put_at x 32 30 (verB x) _ (by decide) (by decide) (by decide) HVB.out.1 HVB.out.2 rfl rfl).mono ?_;rintro e w4 ⟨rfl,hb4⟩))
 rename_i hH
 have HB4:Hid (Below w.heap.size w w4):=⟨blw_next HB2.out (blw3 hb3 hb4)⟩
 clear hb3 hb4 a0 a1 b0 b1 hH
 go_wp2_with fail
 go_ret
 refine ⟨_,rfl,?_,HB4.out⟩
 unfold addI
 rw [HX.out,←verB_eq]
 rfl
def amtS (v:Int):Int:=wrap64 (wrap32 (getI v 0 32))
def totI (l:List Int):Int:=l.foldl (fun s v=>wrap64 (s+amtS v)) 0
theorem totI_next {l:List Int} {k:Nat} {x:Int} (h:l[k]? = some x):totI (l.take (k+1))=wrap64 (totI (l.take k)+amtS x):=by
 have hk:=(List.getElem?_eq_some_iff.1 h).1
 rw [List.take_succ_eq_append_getElem hk]
 unfold totI
 rw [List.foldl_append]
 have:l[k]=x:=by have:=List.getElem?_eq_getElem hk;rw [this] at h;exact Option.some.inj h
 rw [this];rfl
theorem cell_below {w w':World} {a:Addr} {x:Value} (hb:Below w.heap.size w w') (h:w.cell? a=some x):w'.cell? a=some x:=by rw [hb.cell (World.block_lt_of_cell? _ _ h)];exact h
theorem total_any (l:List Int) (b cap:Nat) (w:World) (hl:l.length≤1000) (hF:Flds w) (hc:∀ k x,l[k]? = some x→w.cell? ⟨b,k,none⟩=some (I x)) :
 Body Tryd.f90 #[.slice (some ⟨b,0,none⟩) l.length cap] w (fun r w'=>r=I (totI l)∧Below w.heap.size w w'):=by
 have HF:Hid (Flds w):=⟨hF⟩
 have HC:Hid (∀ k x,l[k]? = some x→w.cell? ⟨b,k,none⟩=some (I x)):=⟨hc⟩
 clear hF hc
 intro code hcode
 obtain rfl:=Option.some.inj hcode
 clear hcode
 simp only [Tryd.ntmps90,List.size_toArray,List.length_cons,List.length_nil,Nat.reduceAdd,Nat.reduceSub,Array.replicate_succ,Array.replicate_zero,List.push_toArray,List.append_toArray,List.nil_append,List.cons_append]
 go_wp2_with fail
 go_loopw [3,8] (fun s i u=>∃ k:Nat,k≤l.length∧i=.int .i64 k∧s=I (totI (l.take k))∧Below w.heap.size w u) (fun _ i _=>l.length - (intOf i).toNat)
 case atStart=>exact ⟨0,Nat.zero_le _,rfl,rfl,Below.refl _ _⟩
 case round =>
  obtain ⟨k,hk,rfl,rfl,hb⟩:=hrel
  have HB:Hid (Below w.heap.size w wr):=⟨hb⟩
  by_cases hlt:k<l.length
  ·obtain ⟨x,hx⟩:∃ x,l[k]? = some x:=⟨_,List.getElem?_eq_getElem hlt⟩
   have hcx:wr.cell? ⟨b,k,none⟩=some (I x):=cell_below hb (HC.out k x hx)
   have a0:=(HF.out.below hb).a0
   have a1:=(HF.out.below hb).a1
   have HN:Hid (totI (l.take (k+1))=wrap64 (totI (l.take k)+amtS x)):=⟨totI_next hx⟩
   generalize totI (l.take k)=sk at HN
   clear hb hx
   go_wp2_with (first
    |(go_at_call 74;refine (get_at x 0 32 _ (by decide) (by decide) (by decide) rfl rfl).mono ?_;rintro e w1 ⟨rfl,hb1⟩))
   go_roundw
   case rel=>exact ⟨k+1,by omega,by go_num,by rw [HN.out];rfl,blw_next HB.out hb1⟩
   case measure=>simp [intOf];omega
  ·have:k=l.length:=by omega
   subst this
   rw [List.take_length]
   clear hb
   go_wp2_with fail
   go_ret
   exact ⟨_,rfl,rfl,HB.out⟩
theorem equal_any (l m:List Int) (b c cap cap2:Nat) (w:World) (hl:l.length≤1000) (hlm:m.length=l.length) (hc:∀ k x,l[k]? = some x→w.cell? ⟨b,k,none⟩=some (I x)) (hd:∀ k x,m[k]? = some x→w.cell? ⟨c,k,none⟩=some (I x)) :
 Body Tryd.f89 #[.slice (some ⟨b,0,none⟩) l.length cap,.slice (some ⟨c,0,none⟩) m.length cap2] w (fun r w'=>r=.bool (decide (l=m))∧Below w.heap.size w w'):=by
 have HC:Hid (∀ k x,l[k]? = some x→w.cell? ⟨b,k,none⟩=some (I x)):=⟨hc⟩
 have HD:Hid (∀ k x,m[k]? = some x→w.cell? ⟨c,k,none⟩=some (I x)):=⟨hd⟩
 have HLM:Hid (m.length=l.length):=⟨hlm⟩
 rw [hlm]
 clear hc hd hlm
 intro code hcode
 obtain rfl:=Option.some.inj hcode
 clear hcode
 simp only [Tryd.ntmps89,List.size_toArray,List.length_cons,List.length_nil,Nat.reduceAdd,Nat.reduceSub,Array.replicate_succ,Array.replicate_zero,List.push_toArray,List.append_toArray,List.nil_append,List.cons_append]
 go_wp2_with fail
 go_loopw [13] (fun i u=>∃ k:Nat,k≤l.length∧i=.int .i64 k∧l.take k=m.take k∧∃ q,u=w.drewN q) (fun i _=>l.length - (intOf i).toNat)
 case atStart=>exact ⟨0,Nat.zero_le _,rfl,rfl,0,rfl⟩
 case round =>
  obtain ⟨k,hk,rfl,hso,q,rfl⟩:=hrel
  have HSO:Hid (l.take k=m.take k):=⟨hso⟩
  clear hso
  by_cases hlt:k<l.length
  ·obtain ⟨x,hx⟩:∃ x,l[k]? = some x:=⟨_,List.getElem?_eq_getElem hlt⟩
   obtain ⟨y,hy⟩:∃ y,m[k]? = some y:=⟨_,List.getElem?_eq_getElem (by rw [HLM.out];exact hlt)⟩
   have hcx:w.cell? ⟨b,k,none⟩=some (I x):=HC.out k x hx
   have hcy:w.cell? ⟨c,k,none⟩=some (I y):=HD.out k y hy
   have HXY:Hid (l[k]? = some x∧m[k]? = some y):=⟨hx,hy⟩
   clear hx hy
   by_cases he:x=y
   ·have e1:(x != y)=false:=by simp [he]
    have HE:Hid (x=y):=⟨he⟩
    clear he
    go_wp2_with fail
    go_quiet (fail)
    go_wp2_with fail
    go_roundw
    case rel =>
     refine ⟨k+1,by omega,by go_num,?_,_,rfl⟩
     rw [List.take_add_one,List.take_add_one,HSO.out,HXY.out.1,HXY.out.2,HE.out]
    case measure=>simp [intOf];omega
   ·have e1:(x != y)=true:=by simp [he]
    have HE:Hid (¬ x=y):=⟨he⟩
    clear he
    go_wp2_with fail
    go_quiet (fail)
    go_wp2_with fail
    go_ret
    refine ⟨_,rfl,?_,⟨rfl,rfl,rfl,Nat.le_refl _,fun _ _=>rfl⟩⟩
    have:¬ l=m:=fun h=>by
     subst h
     have:=HXY.out
     rw [this.1] at this
     exact HE.out (Option.some.inj this.2)
    simp [this]
  ·have:k=l.length:=by omega
   subst this
   go_wp2_with fail
   go_ret
   refine ⟨_,rfl,?_,⟨rfl,rfl,rfl,Nat.le_refl _,fun _ _=>rfl⟩⟩
   have e1:l=m:=by
    have:=HSO.out
    rw [List.take_length,←HLM.out,List.take_length] at this
    exact this
   simp [e1]
end Go.Proofs.YtfjjoohflcchnaaDoor.R1
namespace Go.Proofs.YtfjjoohflcchnaaDoor.R1
open Go Go.RowKit Go.Proofs.YtfjjoohflcchnaaDoor.Pl
theorem pow_mono2 {b i:Nat} (h:b≤i):(2:Int) ^ b≤2 ^ i:=by
 have:(2:Nat) ^ b≤2 ^ i:=Nat.pow_le_pow_right (by decide) h
 have e1:((2:Int) ^ b)=((2 ^ b:Nat):Int):=by simp
 have e2:((2:Int) ^ i)=((2 ^ i:Nat):Int):=by simp
 rw [e1,e2];omega
theorem tb_small {v:Int} {b i:Nat} (h0:0≤v) (h1:v<2 ^ b) (hb:b≤i) (hi:i<64):tb v i=false:=by
 rw [tb_eq v i hi,Int.ediv_eq_zero_of_lt h0 (Int.lt_of_lt_of_le h1 (pow_mono2 hb))];decide
theorem small_fits {v:Int} {b:Nat} (h0:0≤v) (h1:v<2 ^ b) (hb:b≤62):Fits v:=by
 have:=pow_le62 hb;unfold Fits;omega
theorem get_put (x v:Int) (a b:Nat) (hb:b≤62) (hab:a+b≤64) (h0:0≤v) (h1:v<2 ^ b):getI (putI x a b v) a b=v:=by
 refine tb_ext (getI_fits _ _ _ hb) (small_fits h0 h1 hb) fun i hi=>?_
 rw [tb_getI _ _ _ _ hab hi]
 by_cases h:i<b
 ·rw [tb_putI _ _ _ _ _ (by omega) (by omega),if_pos (by omega),show a+i - a=i by omega];simp [h]
 ·rw [tb_small h0 h1 (by omega) hi];simp [h]
theorem get_apart (x v:Int) (a b c d:Nat) (hb:b≤62) (hd:d≤62) (hcd:c+d≤64) (h:∀ i,¬ ((a≤i∧i<a+b)∧(c≤i∧i<c+d))):getI (putI x a b v) c d=getI x c d:=by
 refine tb_ext (getI_fits _ _ _ hd) (getI_fits _ _ _ hd) fun i hi=>?_
 rw [tb_getI _ _ _ _ hcd hi,tb_getI _ _ _ _ hcd hi]
 by_cases h1:i<d
 ·have:=h (c+i)
  rw [tb_putI _ _ _ _ _ (by omega) (by omega),if_neg (by omega)]
 ·simp [h1]
theorem amt_addI (x n:Int):getI (addI x n) 0 32=(getI x 0 32+n) % 4294967296:=by
 unfold addI
 rw [get_apart _ _ 32 30 0 32 (by decide) (by decide) (by decide) (fun i=>by omega)]
 unfold addA
 rw [get_put _ _ 0 32 (by decide) (by decide) (amtA_in x n).1 (amtA_in x n).2,amtA_eq]
def wr56 (y:Int):Int :=
 let a:=y.tmod 4294967296
 let b:=if a<0 then wrap64 (a+4294967296) else a
 if b≥2147483648 then wrap64 (b - 4294967296) else b
theorem wr56_eq (y:Int):wr56 y=wrap32 y:=by
 have h:y.tmod 4294967296=if 0≤y then y % 4294967296 else -((-y) % 4294967296):=by
  by_cases h:0≤y
  ·rw [if_pos h,Int.tmod_eq_emod_of_nonneg h]
  ·rw [if_neg h,←Int.tmod_eq_emod_of_nonneg (by omega:0≤-y),Int.neg_tmod,Int.neg_neg]
 unfold wr56 wrap32 wrap64
 simp only [h]
 split<;>split<;>split<;>omega
theorem amtS_eq (v:Int):amtS v=wrap32 (getI v 0 32):=by unfold amtS wrap64 wrap32;omega
theorem amtS_add (x n:Int):wr56 (wrap64 (amtS x+n.tmod 4294967296))=amtS (addI x n):=by
 rw [wr56_eq,amtS_eq,amtS_eq,amt_addI]
 have h:n.tmod 4294967296=if 0≤n then n % 4294967296 else -((-n) % 4294967296):=by
  by_cases h:0≤n
  ·rw [if_pos h,Int.tmod_eq_emod_of_nonneg h]
  ·rw [if_neg h,←Int.tmod_eq_emod_of_nonneg (by omega:0≤-n),Int.neg_tmod,Int.neg_neg]
 rw [h]
 unfold wrap32 wrap64
 split<;>omega
theorem amtS_zero:amtS 0=0:=by decide +kernel
end Go.Proofs.YtfjjoohflcchnaaDoor.R1
