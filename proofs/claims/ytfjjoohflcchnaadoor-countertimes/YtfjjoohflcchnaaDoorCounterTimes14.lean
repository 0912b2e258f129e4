/- Of the proof of CounterTimes. Part 14 of 31. (Joined, by program, and written short, of: W1Plain, W1Word.) -/
import Derived.WalkKit
import Derived.Test.YtfjjoohflcchnaaDoorRows
import Derived.WalkSpells
import Derived.WalkLawsBesides
import Derived.Deep.QuietTactic
import Derived.BigQuiet
set_option linter.unusedSimpArgs false
set_option linter.unusedVariables false
set_option maxHeartbeats 4000000
set_option maxRecDepth 100000
namespace Go.Proofs.YtfjjoohflcchnaaDoor.Pl
open Go.RowKit
def Fits (x:Int):Prop:=-9223372036854775808≤x∧x≤9223372036854775807
def tb (x:Int) (i:Nat):Bool:=(BitVec.ofInt 64 x).getLsbD i
theorem wrap_toNat (B:BitVec 64):wrap64 (B.toNat:Int)=B.toInt:=by
 have h:=B.isLt
 rw [BitVec.toInt_eq_toNat_cond]
 unfold wrap64
 split<;>omega
theorem wrap_eq (n:Int):wrap64 n=(BitVec.ofInt 64 n).toInt:=by
 rw [←wrap_toNat,BitVec.toNat_ofInt]
 unfold wrap64
 omega
theorem wrap_fits (n:Int):Fits (wrap64 n):=by unfold wrap64 Fits;omega
theorem ofInt_wrap (n:Int):BitVec.ofInt 64 (wrap64 n)=BitVec.ofInt 64 n:=by rw [wrap_eq,BitVec.ofInt_toInt]
theorem wrap_id {x:Int} (h:Fits x):wrap64 x=x:=by unfold Fits at h;unfold wrap64;omega
theorem toInt_fits (B:BitVec 64):Fits B.toInt:=by rw [←wrap_toNat];exact wrap_fits _
theorem toInt_ofInt {x:Int} (h:Fits x):(BitVec.ofInt 64 x).toInt=x:=by rw [←wrap_eq,wrap_id h]
theorem tb_ext {x y:Int} (hx:Fits x) (hy:Fits y) (h:∀ i,i<64→tb x i=tb y i):x=y:=by
 rw [←toInt_ofInt hx,←toInt_ofInt hy]
 exact congrArg BitVec.toInt (BitVec.eq_of_getLsbD_eq h)
theorem i64_wrap (n:Int):IntKind.i64.wrap n=wrap64 n:=by rw [IntKind.wrap_i64];unfold wrap64;rfl
theorem bits_or_eq (x y:Int):bits .or .i64 x y=(BitVec.ofInt 64 x ||| BitVec.ofInt 64 y).toInt:=by
 rw [←wrap_toNat,←i64_wrap];rfl
theorem bits_and_eq (x y:Int):bits .and .i64 x y=(BitVec.ofInt 64 x &&& BitVec.ofInt 64 y).toInt:=by
 rw [←wrap_toNat,←i64_wrap];rfl
theorem bits_andNot_eq (x y:Int):bits .andNot .i64 x y=(BitVec.ofInt 64 x &&& ~~~ BitVec.ofInt 64 y).toInt:=by
 rw [←wrap_toNat,←i64_wrap];rfl
theorem or_fits (x y:Int):Fits (bits .or .i64 x y):=by rw [bits_or_eq];exact toInt_fits _
theorem and_fits (x y:Int):Fits (bits .and .i64 x y):=by rw [bits_and_eq];exact toInt_fits _
theorem tb_or (x y:Int) (i:Nat):tb (bits .or .i64 x y) i=(tb x i||tb y i):=by
 unfold tb;rw [bits_or_eq,BitVec.ofInt_toInt,BitVec.getLsbD_or]
theorem tb_and (x y:Int) (i:Nat):tb (bits .and .i64 x y) i=(tb x i&&tb y i):=by
 unfold tb;rw [bits_and_eq,BitVec.ofInt_toInt,BitVec.getLsbD_and]
theorem tb_andNot (x y:Int) (i:Nat) (hi:i<64):tb (bits .andNot .i64 x y) i=(tb x i&&!tb y i):=by
 unfold tb;rw [bits_andNot_eq,BitVec.ofInt_toInt,BitVec.getLsbD_and,BitVec.getLsbD_not];simp [hi]
theorem tb_wrap (x:Int) (i:Nat):tb (wrap64 x) i=tb x i:=by unfold tb;rw [ofInt_wrap]
theorem ofInt_shl (x:Int) (n:Nat):BitVec.ofInt 64 (x*2 ^ n)=BitVec.ofInt 64 x <<< n:=by
 rw [BitVec.shiftLeft_eq_mul_twoPow,BitVec.ofInt_mul]
 congr 1
 apply BitVec.eq_of_toNat_eq
 rw [BitVec.toNat_ofInt,BitVec.toNat_twoPow]
 have:((2:Int) ^ n)=((2 ^ n:Nat):Int):=by simp
 rw [this]
 omega
theorem tb_shl (x:Int) (n i:Nat) (hi:i<64):tb (wrap64 (x*2 ^ n)) i=(decide (n≤i)&&tb x (i - n)):=by
 rw [tb_wrap];unfold tb;rw [ofInt_shl,BitVec.getLsbD_shiftLeft]
 by_cases h:n≤i
 ·simp [hi,h,Nat.not_lt.2 h]
 ·simp [h,Nat.lt_of_not_le h]
theorem mod_div_mod (y P m:Int) (hP:0<P):y % (P*(2*m)) / P % 2=y / P % 2:=by
 have e:y=y % (P*(2*m))+P*((2*m)*(y / (P*(2*m)))):=by
  have h:=(Int.emod_add_mul_ediv y (P*(2*m))).symm
  rw [Int.mul_assoc P (2*m) (y / (P*(2*m)))] at h
  exact h
 have hx:y / P=y % (P*(2*m)) / P+(2*m)*(y / (P*(2*m))):=by
  rw [show y / P=(y % (P*(2*m))+P*((2*m)*(y / (P*(2*m))))) / P from by rw [←e]]
  rw [Int.add_mul_ediv_left _ _ (Int.ne_of_gt hP)]
 rw [hx,Int.mul_assoc,Int.add_mul_emod_self_left]
theorem tb_eq (x:Int) (i:Nat) (hi:i<64):tb x i=decide (x / 2 ^ i % 2=1):=by
 unfold tb
 rw [←BitVec.testBit_toNat,Nat.testBit_eq_decide_div_mod_eq,BitVec.toNat_ofInt]
 have hp:(0:Int)<2 ^ i:=Int.pow_pos (by decide)
 have h64:((2 ^ 64:Nat):Int)=2 ^ i*(2*2 ^ (63 - i)):=by
  have:(64:Nat)=i+(1+(63 - i)):=by omega
  rw [show ((2 ^ 64:Nat):Int)=(2:Int) ^ 64 from rfl]
  rw [this,Int.pow_add,Int.pow_add]
  simp
 have hr0:0≤x % ((2 ^ 64:Nat):Int):=Int.emod_nonneg _ (by decide)
 have hm:=mod_div_mod x (2 ^ i) (2 ^ (63 - i)) hp
 rw [←h64] at hm
 rw [←hm]
 obtain ⟨m,hm⟩:=Int.eq_ofNat_of_zero_le hr0
 rw [hm,Int.toNat_natCast]
 have:((m:Int) / 2 ^ i % 2)=((m / 2 ^ i % 2:Nat):Int):=by simp
 rw [this]
 congr 1
 apply propext
 omega
def bI (x:Int) (i:Nat):Int:=x / 2 ^ i % 2
theorem bI_tb (x:Int) (i:Nat) (hi:i<64):bI x i=if tb x i=true then 1 else 0:=by
 rw [tb_eq x i hi];unfold bI
 by_cases h:x / 2 ^ i % 2=1<;>simp [h];omega
theorem tb_bit01 (x:Int) (i j:Nat) (hi:i<64):tb (bI x i) j=(decide (j=0)&&tb x i):=by
 rw [bI_tb x i hi]
 cases tb x i
 ·simp [tb]
 ·by_cases h:j=0
  ·subst h;simp [tb]
  ·simp [tb,h]
def getI (x:Int) (a b:Nat):Int:=x / 2 ^ a % 2 ^ b
theorem getI_nonneg (x:Int) (a b:Nat):0≤getI x a b:=Int.emod_nonneg _ (Int.ne_of_gt (Int.pow_pos (by decide)))
theorem getI_lt (x:Int) (a b:Nat):getI x a b<2 ^ b:=Int.emod_lt_of_pos _ (Int.pow_pos (by decide))
theorem pow_le62 {b:Nat} (h:b≤62):(2:Int) ^ b≤4611686018427387904:=by
 have:(2:Nat) ^ b≤2 ^ 62:=Nat.pow_le_pow_right (by decide) h
 have e:((2:Int) ^ b)=((2 ^ b:Nat):Int):=by simp
 rw [e];omega
theorem getI_fits (x:Int) (a b:Nat) (h:b≤62):Fits (getI x a b):=by
 have:=getI_nonneg x a b;have:=getI_lt x a b;have:=pow_le62 h;unfold Fits;omega
theorem div_div_pow (x:Int) (a b:Nat):x / 2 ^ a / 2 ^ b=x / 2 ^ (a+b):=by
 rw [Int.ediv_ediv_of_nonneg (Int.le_of_lt (Int.pow_pos (by decide))),Int.pow_add]
theorem getI_zero (x:Int) (a:Nat):getI x a 0=0:=by unfold getI;simp [Int.emod_one]
theorem tb_getI (x:Int) (a b i:Nat) (hab:a+b≤64) (hi:i<64):tb (getI x a b) i=(decide (i<b)&&tb x (a+i)):=by
 have hp:(0:Int)<2 ^ i:=Int.pow_pos (by decide)
 rw [tb_eq _ i hi]
 by_cases h:i<b
 ·rw [tb_eq x (a+i) (by omega)]
  have hb:(2:Int) ^ b=2 ^ i*(2*2 ^ (b - i - 1)):=by
   have:b=i+(1+(b - i - 1)):=by omega
   rw [show (2:Int) ^ b=2 ^ (i+(1+(b - i - 1))) from by rw [←this],Int.pow_add,Int.pow_add]
   simp
  have:getI x a b / 2 ^ i % 2=x / 2 ^ (a+i) % 2:=by
   unfold getI
   rw [hb,mod_div_mod _ _ _ hp,div_div_pow]
  rw [this];simp [h]
 ·have hle:(2:Int) ^ b≤2 ^ i:=by
   have:(2:Nat) ^ b≤2 ^ i:=Nat.pow_le_pow_right (by decide) (by omega)
   have e1:((2:Int) ^ b)=((2 ^ b:Nat):Int):=by simp
   have e2:((2:Int) ^ i)=((2 ^ i:Nat):Int):=by simp
   rw [e1,e2];omega
  have h0:getI x a b / 2 ^ i=0:=Int.ediv_eq_zero_of_lt (getI_nonneg _ _ _) (Int.lt_of_lt_of_le (getI_lt _ _ _) hle)
  rw [h0];simp [h]
def putI (x:Int) (a b:Nat) (v:Int):Int :=
 ((BitVec.ofInt 64 x &&& ~~~ ((BitVec.allOnes 64 >>> (64 - b)) <<< a)) ||| ((BitVec.ofInt 64 v <<< a) &&& ((BitVec.allOnes 64 >>> (64 - b)) <<< a))).toInt
theorem putI_fits (x:Int) (a b:Nat) (v:Int):Fits (putI x a b v):=toInt_fits _
theorem tb_putI (x:Int) (a b:Nat) (v:Int) (i:Nat) (hb:b≤64) (hi:i<64) :
 tb (putI x a b v) i=if a≤i∧i<a+b then tb v (i - a) else tb x i:=by
 unfold putI
 unfold tb
 rw [BitVec.ofInt_toInt]
 simp only [BitVec.getLsbD_or,BitVec.getLsbD_and,BitVec.getLsbD_not,BitVec.getLsbD_shiftLeft,BitVec.getLsbD_ushiftRight,BitVec.getLsbD_allOnes]
 by_cases h1:a≤i
 ·by_cases h2:i<a+b
  ·have h3:64 - b+(i - a)<64:=by omega
   have h4:¬ i<a:=by omega
   simp [hi,h1,h2,h3,h4]
  ·have h3:¬ (64 - b+(i - a)<64):=by omega
   have h4:¬ i<a:=by omega
   simp [hi,h1,h2,h3,h4]
 ·have h4:i<a:=by omega
  simp [hi,h1,h4]
theorem putI_zero {x:Int} (hx:Fits x) (a:Nat) (v:Int):putI x a 0 v=x :=
 tb_ext (putI_fits _ _ _ _) hx fun i hi=>by
  rw [tb_putI _ _ _ _ _ (by omega) hi,if_neg (by omega)]
theorem tb_one (i:Nat):tb 1 i=decide (i=0):=by unfold tb;simp
theorem putI_step (x v:Int) (a k:Nat) (h:a+k<64) :
 bits .or .i64 (bits .andNot .i64 (putI x a k v) (wrap64 (1*2 ^ (a+k)))) (wrap64 (bI v k*2 ^ (a+k)))=putI x a (k+1) v:=by
 refine tb_ext (or_fits _ _) (putI_fits _ _ _ _) fun i hi=>?_
 rw [tb_or,tb_andNot _ _ _ hi,tb_shl _ _ _ hi,tb_shl _ _ _ hi,tb_putI _ _ _ _ _ (by omega) hi,tb_putI _ _ _ _ _ (by omega) hi,tb_one,tb_bit01 _ _ _ (by omega)]
 by_cases h0:i=a+k
 ·subst h0;simp
 ·by_cases h1:a+k≤i
  ·have e1:¬ (i - (a+k)=0):=by omega
   have e2:¬ (a≤i∧i<a+k):=by omega
   have e3:¬ (a≤i∧i<a+(k+1)):=by omega
   rw [if_neg e2,if_neg e3];simp [e1]
  ·by_cases h2:a≤i
   ·have e2:(a≤i∧i<a+k):=by omega
    have e3:(a≤i∧i<a+(k+1)):=by omega
    rw [if_pos e2,if_pos e3];simp [h1]
   ·have e2:¬ (a≤i∧i<a+k):=by omega
    have e3:¬ (a≤i∧i<a+(k+1)):=by omega
    rw [if_neg e2,if_neg e3];simp [h1]
theorem getI_step (x:Int) (a k:Nat) (h:a+k<64) (hk:k<62) :
 bits .or .i64 (getI x a k) (wrap64 (bI x (a+k)*2 ^ k))=getI x a (k+1):=by
 refine tb_ext (or_fits _ _) (getI_fits _ _ _ (by omega)) fun i hi=>?_
 rw [tb_or,tb_shl _ _ _ hi,tb_getI _ _ _ _ (by omega) hi,tb_getI _ _ _ _ (by omega) hi,tb_bit01 _ _ _ (by omega)]
 by_cases h0:i=k
 ·subst h0;simp
 ·by_cases h1:k≤i
  ·have e1:¬ (i - k=0):=by omega
   have e2:¬ (i<k):=by omega
   have e3:¬ (i<k+1):=by omega
   simp [e1,e2,e3]
  ·have e2:(i<k):=by omega
   have e3:(i<k+1):=by omega
   simp [h1,e2,e3]
theorem and_one (y:Int):bits .and .i64 y 1=y % 2:=by
 refine tb_ext (and_fits _ _) (by unfold Fits;omega) fun i hi=>?_
 rw [tb_and,tb_one]
 have h0:y % 2=bI y 0:=by unfold bI;simp
 rw [h0,tb_bit01 _ _ _ (by omega)]
 by_cases h:i=0
 ·subst h;simp
 ·simp [h]
end Go.Proofs.YtfjjoohflcchnaaDoor.Pl
namespace Go.Proofs.YtfjjoohflcchnaaDoor.R1
open Go.RowKit Go.Proofs.YtfjjoohflcchnaaDoor.Pl
abbrev I (n:Int):Value:=.int .i64 n
abbrev F (a b:Int):Value:=.agg #[.int .i64 a,.int .i64 b]
theorem ret_int {k:IntKind} {a b:Int} (h:a=b):Ending.returned (.int k a)=.returned (.int k b):=by rw [h]
def mayB (a b:Int):Bool:=decide (1≤b∧b≤62∧0≤a∧a≤64 - b)
theorem mayBe_any (a b:Int) (w:World) :
 Calls Tryd.prog 109 #[F a b] w fun e w'=>e=.returned (.bool (mayB a b))∧w'=w.alloc (.cells #[I a,I b] 124):=by
 by_cases h1:1≤b
 ·by_cases h2:b≤62
  ·by_cases h3:0≤a
   ·by_cases h4:a≤64 - b
    ·have e:mayB a b=true:=decide_eq_true ⟨h1,h2,h3,h4⟩
     rw [e];have E:Hid (mayB a b=true):=e
     clear e
     go_enter Tryd.func109,Tryd.ntmps109
     go_wp2
     go_ret
     exact ⟨rfl,rfl⟩
    ·have e:mayB a b=false:=decide_eq_false (by omega)
     rw [e];clear e
     go_enter Tryd.func109,Tryd.ntmps109
     go_wp2
     go_ret
     exact ⟨rfl,rfl⟩
   ·have e:mayB a b=false:=decide_eq_false (by omega)
    rw [e];clear e
    go_enter Tryd.func109,Tryd.ntmps109
    go_wp2
    go_ret
    exact ⟨rfl,rfl⟩
  ·have e:mayB a b=false:=decide_eq_false (by omega)
   rw [e];clear e
   go_enter Tryd.func109,Tryd.ntmps109
   go_wp2
   go_ret
   exact ⟨rfl,rfl⟩
 ·have e:mayB a b=false:=decide_eq_false (by omega)
  rw [e];clear e
  go_enter Tryd.func109,Tryd.ntmps109
  go_wp2
  go_ret
  exact ⟨rfl,rfl⟩
theorem bit_any (x n:Int) (w:World) (h0:0≤n) (h1:n<64) :
 Calls Tryd.prog 110 #[I x,I n] w fun e w'=>e=.returned (I (bI x n.toNat))∧w'=w:=by
 go_enter Tryd.func110,Tryd.ntmps110
 go_wp2
 go_ret
 exact ⟨ret_int (by rw [and_one];rfl),rfl⟩
theorem get_yes (x:Int) (a b:Nat) (w:World) (h1:1≤b) (h2:b≤62) (h3:a+b≤64) :
 Calls Tryd.prog 74 #[I x,F a b] w fun e w'=>e=.returned (I (getI x a b))∧Below w.heap.size w w':=by
 have H:Hid (mayB a b=true):=decide_eq_true ⟨by omega,by omega,by omega,by omega⟩
 have h64:(a:Int)+b≤64:=by omega
 go_enter Tryd.func74,Tryd.ntmps74
 go_wp2_with (go_at_call 109;refine (mayBe_any _ _ _).mono ?_;rintro e w' ⟨rfl,rfl⟩;rw [H.out])
 go_loop [5,12] (fun v i=>∃ k:Nat,k≤b∧i=.int .i64 k∧v=.int .i64 (getI x a k)) (fun _ i=>b - (intOf i).toNat)
 case atStart=>exact ⟨0,Nat.zero_le _,rfl,by rw [getI_zero]⟩
 case round =>
  obtain ⟨k,hk,rfl,rfl⟩:=hrel
  by_cases hlt:k<b
  ·have hst:Hid (bits .or .i64 (getI x a k) (wrap64 (bI x (a+k)*2 ^ k))=getI x a (k+1)):=getI_step x a k (by omega) (by omega)
   go_wp2_with (go_at_call 110;refine (bit_any _ _ _ (by omega) (by omega)).mono ?_;rintro e w' ⟨rfl,rfl⟩)
   go_round
   case rel =>
    exact ⟨k+1,by omega,by go_num,by rw [hst.out]⟩
   case measure=>simp [intOf];omega
  ·go_wp2
   go_ret
   have:k=b:=by omega
   subst this
   exact ⟨rfl,((Below.refl _ _).alloc (Nat.le_refl _) _).alloc (by simp) _⟩
theorem wrap_pow {b:Nat} (h:b≤62):wrap64 (2 ^ b)=2 ^ b:=by
 have h2:=pow_le62 h
 have h0:(0:Int)<2 ^ b:=Int.pow_pos (by decide)
 exact wrap_id (by unfold Fits;omega)
end Go.Proofs.YtfjjoohflcchnaaDoor.R1
