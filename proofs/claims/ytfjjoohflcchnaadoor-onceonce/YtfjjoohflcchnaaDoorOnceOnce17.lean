/- OnceOnce, part 17 of 26: La3P. -/
import Derived.Test.YtfjjoohflcchnaaDoorOnceOnce01
import Derived.Test.YtfjjoohflcchnaaDoorOnceOnce13
import Derived.Test.YtfjjoohflcchnaaDoorOnceOnce15
import Derived.Test.YtfjjoohflcchnaaDoorOnceOnce16
set_option linter.unusedSimpArgs false
set_option linter.unusedVariables false
set_option maxHeartbeats 4000000
set_option maxRecDepth 100000
noncomputable section
namespace Go.Proofs.YtfjjoohflcchnaaDoor.Gen
open Go Go.Lift Go.Conc Go.RowKit
variable {v:World} {a:Act} {Fb L M N Yb Zb b cap cc h i k m o wb x:Nat} {ca po:Int}
def C3:Code:=Tryd.f3.body.getD .skip
def q3_0:Code:=(seq1 C3)
def q3_1:Code:=(seq1 (seq2 C3))
def q3_2:Code:=(seq1 (seq2 (seq2 C3)))
def q3_3:Code:=(seq1 (seq2 (seq2 (seq2 C3))))
def q3_4:Code:=(seq1 (seq1 (seq2 (seq2 (seq2 (seq2 C3))))))
def q3_5:Code:=(seq1 (condA (seq2 (seq1 (seq2 (seq2 (seq2 (seq2 C3))))))))
def q3_6:Code:=(seq1 (seq2 (seq2 (seq2 (seq2 (seq2 C3))))))
def q3_7:Code:=(seq1 (seq1 (seq2 (seq2 (seq2 (seq2 (seq2 (seq2 C3))))))))
def q3_8:Code:=(seq1 (condA (seq2 (seq1 (seq2 (seq2 (seq2 (seq2 (seq2 (seq2 C3))))))))))
def q3_9:Code:=(seq1 (seq2 (seq2 (seq2 (seq2 (seq2 (seq2 (seq2 C3))))))))
def q3_10:Code:=(seq1 (seq2 (seq2 (seq2 (seq2 (seq2 (seq2 (seq2 (seq2 C3)))))))))
def q3_11:Code:=(seq1 (seq2 (seq2 (seq2 (seq2 (seq2 (seq2 (seq2 (seq2 (seq2 C3))))))))))
def q3_12:Code:=(seq1 (seq1 (seq2 (seq2 (seq2 (seq2 (seq2 (seq2 (seq2 (seq2 (seq2 (seq2 C3))))))))))))
def q3_13:Code:=(seq1 (seq1 (loopC (blockC (seq2 (seq1 (seq2 (seq2 (seq2 (seq2 (seq2 (seq2 (seq2 (seq2 (seq2 (seq2 C3))))))))))))))))
def q3_15:Code:=(seq1 (seq1 (blockC (seq1 (seq2 (loopC (blockC (seq2 (seq1 (seq2 (seq2 (seq2 (seq2 (seq2 (seq2 (seq2 (seq2 (seq2 (seq2 C3)))))))))))))))))))
def q3_16:Code:=(seq1 (condA (seq2 (seq1 (blockC (seq1 (seq2 (loopC (blockC (seq2 (seq1 (seq2 (seq2 (seq2 (seq2 (seq2 (seq2 (seq2 (seq2 (seq2 (seq2 C3)))))))))))))))))))))
def q3_17:Code:=(seq1 (seq2 (blockC (seq1 (seq2 (loopC (blockC (seq2 (seq1 (seq2 (seq2 (seq2 (seq2 (seq2 (seq2 (seq2 (seq2 (seq2 (seq2 C3)))))))))))))))))))
def q3_18:Code:=(seq1 (seq1 (loopC (blockC (seq2 (seq2 (blockC (seq1 (seq2 (loopC (blockC (seq2 (seq1 (seq2 (seq2 (seq2 (seq2 (seq2 (seq2 (seq2 (seq2 (seq2 (seq2 C3)))))))))))))))))))))))
def q3_20:Code:=(seq1 (blockC (seq1 (seq2 (loopC (blockC (seq2 (seq2 (blockC (seq1 (seq2 (loopC (blockC (seq2 (seq1 (seq2 (seq2 (seq2 (seq2 (seq2 (seq2 (seq2 (seq2 (seq2 (seq2 C3)))))))))))))))))))))))))
def q3_21:Code:=(seq1 (seq1 (seq2 (blockC (seq1 (seq2 (loopC (blockC (seq2 (seq2 (blockC (seq1 (seq2 (loopC (blockC (seq2 (seq1 (seq2 (seq2 (seq2 (seq2 (seq2 (seq2 (seq2 (seq2 (seq2 (seq2 C3)))))))))))))))))))))))))))
def q3_22:Code:=(seq1 (seq2 (seq2 (blockC (seq1 (seq2 (loopC (blockC (seq2 (seq2 (blockC (seq1 (seq2 (loopC (blockC (seq2 (seq1 (seq2 (seq2 (seq2 (seq2 (seq2 (seq2 (seq2 (seq2 (seq2 (seq2 C3)))))))))))))))))))))))))))
def q3_23:Code:=(seq1 (seq1 (seq2 (seq2 (seq2 (blockC (seq1 (seq2 (loopC (blockC (seq2 (seq2 (blockC (seq1 (seq2 (loopC (blockC (seq2 (seq1 (seq2 (seq2 (seq2 (seq2 (seq2 (seq2 (seq2 (seq2 (seq2 (seq2 C3)))))))))))))))))))))))))))))
def q3_24:Code:=(seq1 (condA (seq2 (seq1 (seq2 (seq2 (seq2 (blockC (seq1 (seq2 (loopC (blockC (seq2 (seq2 (blockC (seq1 (seq2 (loopC (blockC (seq2 (seq1 (seq2 (seq2 (seq2 (seq2 (seq2 (seq2 (seq2 (seq2 (seq2 (seq2 C3)))))))))))))))))))))))))))))))
def q3_25:Code:=(seq1 (seq2 (seq2 (seq2 (seq2 (blockC (seq1 (seq2 (loopC (blockC (seq2 (seq2 (blockC (seq1 (seq2 (loopC (blockC (seq2 (seq1 (seq2 (seq2 (seq2 (seq2 (seq2 (seq2 (seq2 (seq2 (seq2 (seq2 C3)))))))))))))))))))))))))))))
def q3_26:Code:=(seq2 (seq2 (seq2 (seq2 (seq2 (blockC (seq1 (seq2 (loopC (blockC (seq2 (seq2 (blockC (seq1 (seq2 (loopC (blockC (seq2 (seq1 (seq2 (seq2 (seq2 (seq2 (seq2 (seq2 (seq2 (seq2 (seq2 (seq2 C3)))))))))))))))))))))))))))))
def q3_19:Code:=(seq2 (seq2 (loopC (blockC (seq2 (seq2 (blockC (seq1 (seq2 (loopC (blockC (seq2 (seq1 (seq2 (seq2 (seq2 (seq2 (seq2 (seq2 (seq2 (seq2 (seq2 (seq2 C3)))))))))))))))))))))))
def q3_14:Code:=(seq2 (seq2 (loopC (blockC (seq2 (seq1 (seq2 (seq2 (seq2 (seq2 (seq2 (seq2 (seq2 (seq2 (seq2 (seq2 C3))))))))))))))))
def q3_27:Code:=(seq1 (seq1 (seq2 (seq2 (seq2 (seq2 (seq2 (seq2 (seq2 (seq2 (seq2 (seq2 (seq2 C3)))))))))))))
def q3_28:Code:=(seq1 (seq1 (loopC (blockC (seq2 (seq1 (seq2 (seq2 (seq2 (seq2 (seq2 (seq2 (seq2 (seq2 (seq2 (seq2 (seq2 C3)))))))))))))))))
def q3_30:Code:=(seq1 (blockC (seq1 (seq2 (loopC (blockC (seq2 (seq1 (seq2 (seq2 (seq2 (seq2 (seq2 (seq2 (seq2 (seq2 (seq2 (seq2 (seq2 C3)))))))))))))))))))
def q3_31:Code:=(seq1 (seq1 (loopC (blockC (seq2 (blockC (seq1 (seq2 (loopC (blockC (seq2 (seq1 (seq2 (seq2 (seq2 (seq2 (seq2 (seq2 (seq2 (seq2 (seq2 (seq2 (seq2 C3)))))))))))))))))))))))
def q3_33:Code:=(seq1 (blockC (seq1 (seq2 (loopC (blockC (seq2 (blockC (seq1 (seq2 (loopC (blockC (seq2 (seq1 (seq2 (seq2 (seq2 (seq2 (seq2 (seq2 (seq2 (seq2 (seq2 (seq2 (seq2 C3)))))))))))))))))))))))))
def q3_34:Code:=(seq1 (seq2 (blockC (seq1 (seq2 (loopC (blockC (seq2 (blockC (seq1 (seq2 (loopC (blockC (seq2 (seq1 (seq2 (seq2 (seq2 (seq2 (seq2 (seq2 (seq2 (seq2 (seq2 (seq2 (seq2 C3))))))))))))))))))))))))))
def q3_35:Code:=(seq1 (condA (seq2 (seq2 (blockC (seq1 (seq2 (loopC (blockC (seq2 (blockC (seq1 (seq2 (loopC (blockC (seq2 (seq1 (seq2 (seq2 (seq2 (seq2 (seq2 (seq2 (seq2 (seq2 (seq2 (seq2 (seq2 C3))))))))))))))))))))))))))))
def q3_36:Code:=(seq2 (condA (seq2 (seq2 (blockC (seq1 (seq2 (loopC (blockC (seq2 (blockC (seq1 (seq2 (loopC (blockC (seq2 (seq1 (seq2 (seq2 (seq2 (seq2 (seq2 (seq2 (seq2 (seq2 (seq2 (seq2 (seq2 C3))))))))))))))))))))))))))))
def q3_32:Code:=(seq2 (seq2 (loopC (blockC (seq2 (blockC (seq1 (seq2 (loopC (blockC (seq2 (seq1 (seq2 (seq2 (seq2 (seq2 (seq2 (seq2 (seq2 (seq2 (seq2 (seq2 (seq2 C3)))))))))))))))))))))))
def q3_29:Code:=(seq2 (seq2 (loopC (blockC (seq2 (seq1 (seq2 (seq2 (seq2 (seq2 (seq2 (seq2 (seq2 (seq2 (seq2 (seq2 (seq2 C3)))))))))))))))))
def q3_37:Code:=(seq1 (seq1 (seq2 (seq2 (seq2 (seq2 (seq2 (seq2 (seq2 (seq2 (seq2 (seq2 (seq2 (seq2 C3))))))))))))))
def q3_38:Code:=(seq1 (seq1 (loopC (blockC (seq2 (seq1 (seq2 (seq2 (seq2 (seq2 (seq2 (seq2 (seq2 (seq2 (seq2 (seq2 (seq2 (seq2 C3))))))))))))))))))
def q3_40:Code:=(seq1 (blockC (seq1 (seq2 (loopC (blockC (seq2 (seq1 (seq2 (seq2 (seq2 (seq2 (seq2 (seq2 (seq2 (seq2 (seq2 (seq2 (seq2 (seq2 C3))))))))))))))))))))
def q3_41:Code:=(seq1 (condA (seq2 (blockC (seq1 (seq2 (loopC (blockC (seq2 (seq1 (seq2 (seq2 (seq2 (seq2 (seq2 (seq2 (seq2 (seq2 (seq2 (seq2 (seq2 (seq2 C3))))))))))))))))))))))
def q3_39:Code:=(seq2 (seq2 (loopC (blockC (seq2 (seq1 (seq2 (seq2 (seq2 (seq2 (seq2 (seq2 (seq2 (seq2 (seq2 (seq2 (seq2 (seq2 C3))))))))))))))))))
def q3_42:Code:=(seq1 (seq2 (seq2 (seq2 (seq2 (seq2 (seq2 (seq2 (seq2 (seq2 (seq2 (seq2 (seq2 (seq2 C3))))))))))))))
def K3_3:Code:=(.seq q3_20 (.seq (.seq q3_21 (.cond ( .tmp 113 ) (.exit 3) .skip)) (.seq q3_22 (.seq (.seq q3_23 (.cond ( .tmp 135 ) (.seq q3_24 .ret) .skip)) (.seq q3_25 q3_26)))))
def K3_2:Code:=(.loop (.seq (.seq q3_18 (.cond ( .tmp 96 ) .skip (.exit 2))) (.seq (.block 3 K3_3) q3_19)))
def K3_1:Code:=(.seq (.seq q3_15 (.cond ( .tmp 89 ) (.seq q3_16 .ret) .skip)) (.seq q3_17 (.block 2 K3_2)))
def K3_0:Code:=(.loop (.seq (.seq q3_13 (.cond ( .tmp 76 ) .skip (.exit 0))) (.seq (.block 1 K3_1) q3_14)))
def K3_7:Code:=(.seq q3_33 (.seq q3_34 (.cond ( .tmp 178 ) (.seq q3_35 q3_36) .skip)))
def K3_6:Code:=(.loop (.seq (.seq q3_31 (.cond ( .tmp 161 ) .skip (.exit 6))) (.seq (.block 7 K3_7) q3_32)))
def K3_5:Code:=(.seq q3_30 (.block 6 K3_6))
def K3_4:Code:=(.loop (.seq (.seq q3_28 (.cond ( .tmp 152 ) .skip (.exit 4))) (.seq (.block 5 K3_5) q3_29)))
def K3_9:Code:=(.seq q3_40 (.cond ( .tmp 217 ) (.seq q3_41 .ret) .skip))
def K3_8:Code:=(.loop (.seq (.seq q3_38 (.cond ( .tmp 204 ) .skip (.exit 8))) (.seq (.block 9 K3_9) q3_39)))
theorem e3:C3=(.seq q3_0 (.seq q3_1 (.seq q3_2 (.seq q3_3 (.seq (.seq q3_4 (.cond ( .tmp 39 ) (.seq q3_5 .ret) .skip)) (.seq q3_6 (.seq (.seq q3_7 (.cond ( .tmp 66 ) (.seq q3_8 .ret) .skip)) (.seq q3_9 (.seq q3_10 (.seq q3_11 (.seq (.seq q3_12 (.block 0 K3_0)) (.seq (.seq q3_27 (.block 4 K3_4)) (.seq (.seq q3_37 (.block 8 K3_8)) (.seq q3_42 .ret)))))))))))))):=by kernel_rfl
theorem p3_4  (hA:Fl 223 [(7,.bool true),(10,I 0),(1,I (m:Nat)),(2,.slice (some ⟨b,o,none⟩) N cap),(8,Pt wb 0),(9,.slice (some ⟨M,0,none⟩) N N)] a):
 q3_4.wp Tryd.prog (λe a' w'=>e=.normal∧(Fl 223 [(39,.bool false),(1,I (m:Nat)),(2,.slice (some ⟨b,o,none⟩) N cap),(8,Pt wb 0),(9,.slice (some ⟨M,0,none⟩) N N)] a'∧w'=v)) a v:=by
 obtain ⟨u,rfl,hp⟩:=litF hA;simp only[Fls] at hp;clear hA;unfold q3_4 C3 Tryd.f3 seq1 seq2;simp only[Qa,lits,Nat.reduceAdd,hp];clear hp;go_wp2_with fail;first
  |refine ⟨?_,rfl⟩
  |refine ⟨rfl,?_,rfl⟩
  |skip
 exact ⟨rfl,rfl,by
  intro p hp;simp only[Sm,or_false] at hp;rcases hp with rfl|rfl|rfl|rfl|rfl<;>first|rfl|exact congrArg I (by omega)|exact congrArg Value.bool (by simp<;>omega)|exact congrArg Value.bool (by simp)|(simp;done)⟩
theorem p3_4n {E:Int}(hE:¬ E=0) (hA:Fl 223 [(7,.bool true),(10,I E)] a):
 q3_4.wp Tryd.prog (λe a' w'=>e=.normal∧(Fl 223 [(39,.bool true),(7,.bool true),(10,I E)] a'∧w'=v)) a v:=by
 obtain ⟨u,rfl,hp⟩:=litF hA;simp only[Fls] at hp;clear hA;unfold q3_4 C3 Tryd.f3 seq1 seq2;simp only[Qa,lits,Nat.reduceAdd,hp];clear hp;go_wp2_with fail;first
  |refine ⟨?_,rfl⟩
  |refine ⟨rfl,?_,rfl⟩
  |skip
 exact ⟨rfl,rfl,by
  intro p hp;simp only[Sm,or_false] at hp;rcases hp with rfl|rfl|rfl<;>first|rfl|exact congrArg I (by omega)|exact congrArg Value.bool (by simp<;>omega)|exact congrArg Value.bool (by simp)|(simp;done)⟩
theorem p3_5a   (hA:Fl 223 [(7,.bool true),(10,I 1)] a):
 q3_5.wp Tryd.prog (λe a' w'=>e=.normal∧(Fl 223 [(6,.bool true)] a'∧w'=v)) a v:=by
 obtain ⟨u,rfl,hp⟩:=litF hA;simp only[Fls] at hp;clear hA;unfold q3_5 C3 Tryd.f3 seq1 seq2 condA;simp only[Qa,lits,Nat.reduceAdd,hp];clear hp;go_wp2_with fail;first
  |refine ⟨?_,rfl⟩
  |refine ⟨rfl,?_,rfl⟩
  |skip
 exact ⟨rfl,rfl,by
  intro p hp;simp only[Sm,or_false] at hp;rcases hp with rfl<;>first|rfl|exact congrArg I (by omega)|exact congrArg Value.bool (by simp<;>omega)|exact congrArg Value.bool (by simp)|(simp;done)⟩
theorem p3_5b   (hA:Fl 223 [(7,.bool true),(10,I 2)] a):
 q3_5.wp Tryd.prog (λe a' w'=>e=.normal∧(Fl 223 [(6,.bool true)] a'∧w'=v)) a v:=by
 obtain ⟨u,rfl,hp⟩:=litF hA;simp only[Fls] at hp;clear hA;unfold q3_5 C3 Tryd.f3 seq1 seq2 condA;simp only[Qa,lits,Nat.reduceAdd,hp];clear hp;go_wp2_with fail;first
  |refine ⟨?_,rfl⟩
  |refine ⟨rfl,?_,rfl⟩
  |skip
 exact ⟨rfl,rfl,by
  intro p hp;simp only[Sm,or_false] at hp;rcases hp with rfl<;>first|rfl|exact congrArg I (by omega)|exact congrArg Value.bool (by simp<;>omega)|exact congrArg Value.bool (by simp)|(simp;done)⟩
theorem p3_6 {S:TS}(hR:Rep zn S v) (hwb:wb=S.wb) (hs:S.stk=false) (hA:Fl 223 [(1,I (m:Nat)),(2,.slice (some ⟨b,o,none⟩) N cap),(8,Pt wb 0),(9,.slice (some ⟨M,0,none⟩) N N)] a):
 q3_6.wp Tryd.prog (λe a' w'=>e=.normal∧(Fl 223 [(1,I (m:Nat)),(2,.slice (some ⟨b,o,none⟩) N cap),(8,Pt wb 0),(9,.slice (some ⟨M,0,none⟩) N N),(11,.bool false)] a'∧w'=v)) a v:=by
 subst hwb;have h3:=(body10s hR).calls Tryd.func19 rfl;rw[hs] at h3;have H3:Hid (Calls Tryd.prog 19 #[Pt S.wb 0] v _):=⟨h3⟩
 clear h3 hR;obtain ⟨u,rfl,hp⟩:=litF hA;simp only[Fls] at hp;clear hA;unfold q3_6 C3 Tryd.f3 seq1 seq2;simp only[Qa,lits,Nat.reduceAdd,hp];clear hp
 go_wp2_with (first|(go_at_call 19;refine H3.out.mono ?_;rintro e w1 ⟨_,rfl,rfl,rfl⟩))
 first
  |refine ⟨?_,rfl⟩
  |refine ⟨rfl,?_,rfl⟩
  |skip
 exact ⟨rfl,rfl,by
  intro p hp;simp only[Sm,or_false] at hp;rcases hp with rfl|rfl|rfl|rfl|rfl<;>first|rfl|exact congrArg I (by omega)|exact congrArg Value.bool (by simp<;>omega)|exact congrArg Value.bool (by simp)|(simp;done)⟩
theorem p3_7 (hm0:0<m) (hm:m<=1000) (hA:Fl 223 [(1,I (m:Nat)),(2,.slice (some ⟨b,o,none⟩) N cap),(8,Pt wb 0),(9,.slice (some ⟨M,0,none⟩) N N),(11,.bool false)] a):
 q3_7.wp Tryd.prog (λe a' w'=>e=.normal∧(Fl 223 [(66,.bool false),(1,I (m:Nat)),(2,.slice (some ⟨b,o,none⟩) N cap),(8,Pt wb 0),(9,.slice (some ⟨M,0,none⟩) N N)] a'∧w'=v)) a v:=by
 have h1:¬ (m:Int)<1:=by omega
 have h2:¬ (m:Int) > 1000:=by omega
 obtain ⟨u,rfl,hp⟩:=litF hA;simp only[Fls] at hp;clear hA;unfold q3_7 C3 Tryd.f3 seq1 seq2;simp only[Qa,lits,Nat.reduceAdd,hp];clear hp;go_wp2_with fail;first
  |refine ⟨?_,rfl⟩
  |refine ⟨rfl,?_,rfl⟩
  |skip
 exact ⟨rfl,rfl,by
  intro p hp;simp only[Sm,or_false] at hp;rcases hp with rfl|rfl|rfl|rfl|rfl<;>first|rfl|exact congrArg I (by omega)|exact congrArg Value.bool (by simp<;>omega)|exact congrArg Value.bool (by simp)|(simp;done)⟩
theorem p3_9 (hm:m<=1000) (hA:Fl 223 [(1,I (m:Nat)),(2,.slice (some ⟨b,o,none⟩) N cap),(8,Pt wb 0),(9,.slice (some ⟨M,0,none⟩) N N)] a):
 q3_9.wp Tryd.prog (λe a' w'=>e=.normal∧(Fl 223 [(1,I (m:Nat)),(2,.slice (some ⟨b,o,none⟩) N cap),(8,Pt wb 0),(9,.slice (some ⟨M,0,none⟩) N N),(12,.slice (some ⟨v.heap.size,0,none⟩) m m)] a'∧w'=v.alloc (.cells (madeCells #[I 0,I 0] (m*2)) 38))) a v:=by
 have hmk:=make_38 m (by omega);obtain ⟨u,rfl,hp⟩:=litF hA;simp only[Fls] at hp;clear hA;unfold q3_9 C3 Tryd.f3 seq1 seq2;simp only[Qa,lits,Nat.reduceAdd,hp];clear hp;go_wp2_with fail;first
  |refine ⟨?_,rfl⟩
  |refine ⟨rfl,?_,rfl⟩
  |skip
 exact ⟨rfl,rfl,by
  intro p hp;simp only[Sm,or_false] at hp;rcases hp with rfl|rfl|rfl|rfl|rfl<;>first|rfl|exact congrArg I (by omega)|exact congrArg Value.bool (by simp<;>omega)|exact congrArg Value.bool (by simp)|(simp;done)⟩
theorem p3_10 (hm:m<=1000) (hA:Fl 223 [(1,I (m:Nat)),(2,.slice (some ⟨b,o,none⟩) N cap),(8,Pt wb 0),(9,.slice (some ⟨M,0,none⟩) N N),(12,.slice (some ⟨Fb,0,none⟩) m m)] a):
 q3_10.wp Tryd.prog (λe a' w'=>e=.normal∧(Fl 223 [(1,I (m:Nat)),(2,.slice (some ⟨b,o,none⟩) N cap),(8,Pt wb 0),(9,.slice (some ⟨M,0,none⟩) N N),(12,.slice (some ⟨Fb,0,none⟩) m m),(13,.slice (some ⟨v.heap.size,0,none⟩) m m)] a'∧w'=v.alloc (.cells (madeCells #[.bool false] m) 4))) a v:=by
 have hmk:=make_4 m (by omega);obtain ⟨u,rfl,hp⟩:=litF hA;simp only[Fls] at hp;clear hA;unfold q3_10 C3 Tryd.f3 seq1 seq2;simp only[Qa,lits,Nat.reduceAdd,hp];clear hp;go_wp2_with fail;first
  |refine ⟨?_,rfl⟩
  |refine ⟨rfl,?_,rfl⟩
  |skip
 exact ⟨rfl,rfl,by
  intro p hp;simp only[Sm,or_false] at hp;rcases hp with rfl|rfl|rfl|rfl|rfl|rfl<;>first|rfl|exact congrArg I (by omega)|exact congrArg Value.bool (by simp<;>omega)|exact congrArg Value.bool (by simp)|(simp;done)⟩
theorem p3_11 (hm:m<=1000) (hA:Fl 223 [(1,I (m:Nat)),(2,.slice (some ⟨b,o,none⟩) N cap),(8,Pt wb 0),(9,.slice (some ⟨M,0,none⟩) N N),(12,.slice (some ⟨Fb,0,none⟩) m m),(13,.slice (some ⟨Yb,0,none⟩) m m)] a):
 q3_11.wp Tryd.prog (λe a' w'=>e=.normal∧(Fl 223 [(1,I (m:Nat)),(2,.slice (some ⟨b,o,none⟩) N cap),(8,Pt wb 0),(9,.slice (some ⟨M,0,none⟩) N N),(12,.slice (some ⟨Fb,0,none⟩) m m),(13,.slice (some ⟨Yb,0,none⟩) m m),(14,.slice (some ⟨v.heap.size,0,none⟩) m m)] a'∧w'=v.alloc (.cells (madeCells #[.bool false] m) 4))) a v:=by
 have hmk:=make_4 m (by omega);obtain ⟨u,rfl,hp⟩:=litF hA;simp only[Fls] at hp;clear hA;unfold q3_11 C3 Tryd.f3 seq1 seq2;simp only[Qa,lits,Nat.reduceAdd,hp];clear hp;go_wp2_with fail;first
  |refine ⟨?_,rfl⟩
  |refine ⟨rfl,?_,rfl⟩
  |skip
 exact ⟨rfl,rfl,by
  intro p hp;simp only[Sm,or_false] at hp;rcases hp with rfl|rfl|rfl|rfl|rfl|rfl|rfl<;>first|rfl|exact congrArg I (by omega)|exact congrArg Value.bool (by simp<;>omega)|exact congrArg Value.bool (by simp)|(simp;done)⟩
theorem p3_12  (hA:Fl 223 [(1,I (m:Nat)),(2,.slice (some ⟨b,o,none⟩) N cap),(8,Pt wb 0),(9,.slice (some ⟨M,0,none⟩) N N),(12,.slice (some ⟨Fb,0,none⟩) m m),(13,.slice (some ⟨Yb,0,none⟩) m m),(14,.slice (some ⟨Zb,0,none⟩) m m)] a):
 q3_12.wp Tryd.prog (λe a' w'=>e=.normal∧(Fl 223 [(1,I (m:Nat)),(2,.slice (some ⟨b,o,none⟩) N cap),(8,Pt wb 0),(9,.slice (some ⟨M,0,none⟩) N N),(12,.slice (some ⟨Fb,0,none⟩) m m),(13,.slice (some ⟨Yb,0,none⟩) m m),(14,.slice (some ⟨Zb,0,none⟩) m m),(15,I ((0:Nat):Int))] a'∧w'=v)) a v:=by
 obtain ⟨u,rfl,hp⟩:=litF hA;simp only[Fls] at hp;clear hA;unfold q3_12 C3 Tryd.f3 seq1 seq2;simp only[Qa,lits,Nat.reduceAdd,hp];clear hp;go_wp2_with fail;first
  |refine ⟨?_,rfl⟩
  |refine ⟨rfl,?_,rfl⟩
  |skip
 exact ⟨rfl,rfl,by
  intro p hp;simp only[Sm,or_false] at hp;rcases hp with rfl|rfl|rfl|rfl|rfl|rfl|rfl|rfl<;>first|rfl|exact congrArg I (by omega)|exact congrArg Value.bool (by simp<;>omega)|exact congrArg Value.bool (by simp)|(simp;done)⟩
theorem p3_13  (hA:Fl 223 [(1,I (m:Nat)),(2,.slice (some ⟨b,o,none⟩) N cap),(8,Pt wb 0),(9,.slice (some ⟨M,0,none⟩) N N),(12,.slice (some ⟨Fb,0,none⟩) m m),(13,.slice (some ⟨Yb,0,none⟩) m m),(14,.slice (some ⟨Zb,0,none⟩) m m),(15,I (i:Nat))] a):
 q3_13.wp Tryd.prog (λe a' w'=>e=.normal∧(Fl 223 [(76,.bool (decide (i<N))),(1,I (m:Nat)),(2,.slice (some ⟨b,o,none⟩) N cap),(8,Pt wb 0),(9,.slice (some ⟨M,0,none⟩) N N),(12,.slice (some ⟨Fb,0,none⟩) m m),(13,.slice (some ⟨Yb,0,none⟩) m m),(14,.slice (some ⟨Zb,0,none⟩) m m),(15,I (i:Nat))] a'∧w'=v)) a v:=by
 obtain ⟨u,rfl,hp⟩:=litF hA;simp only[Fls] at hp;clear hA;unfold q3_13 C3 Tryd.f3 seq1 seq2 blockC loopC;simp only[Qa,lits,Nat.reduceAdd,hp];clear hp;go_wp2_with fail;first
  |refine ⟨?_,rfl⟩
  |refine ⟨rfl,?_,rfl⟩
  |skip
 exact ⟨rfl,rfl,by
  intro p hp;simp only[Sm,or_false] at hp;rcases hp with rfl|rfl|rfl|rfl|rfl|rfl|rfl|rfl|rfl<;>first|rfl|exact congrArg I (by omega)|exact congrArg Value.bool (by simp<;>omega)|exact congrArg Value.bool (by simp)|(simp;done)⟩
theorem p3_14 (hq:i<1000000000) (hA:Fl 223 [(1,I (m:Nat)),(2,.slice (some ⟨b,o,none⟩) N cap),(8,Pt wb 0),(9,.slice (some ⟨M,0,none⟩) N N),(12,.slice (some ⟨Fb,0,none⟩) m m),(13,.slice (some ⟨Yb,0,none⟩) m m),(14,.slice (some ⟨Zb,0,none⟩) m m),(15,I (i:Nat))] a):
 q3_14.wp Tryd.prog (λe a' w'=>e=.normal∧(Fl 223 [(1,I (m:Nat)),(2,.slice (some ⟨b,o,none⟩) N cap),(8,Pt wb 0),(9,.slice (some ⟨M,0,none⟩) N N),(12,.slice (some ⟨Fb,0,none⟩) m m),(13,.slice (some ⟨Yb,0,none⟩) m m),(14,.slice (some ⟨Zb,0,none⟩) m m),(15,I ((i+1:Nat):Int))] a'∧w'=v)) a v:=by
 have h9:wrap64 ((i:Int)+1)=((i+1:Nat):Int):=by unfold wrap64;omega
 obtain ⟨u,rfl,hp⟩:=litF hA;simp only[Fls] at hp;clear hA;unfold q3_14 C3 Tryd.f3 seq1 seq2 blockC loopC;simp only[Qa,lits,Nat.reduceAdd,hp];clear hp;go_wp2_with fail;first
  |refine ⟨?_,rfl⟩
  |refine ⟨rfl,?_,rfl⟩
  |skip
 exact ⟨rfl,rfl,by
  intro p hp;simp only[Sm,or_false] at hp;rcases hp with rfl|rfl|rfl|rfl|rfl|rfl|rfl|rfl<;>first|rfl|exact congrArg I (by omega)|exact congrArg Value.bool (by simp<;>omega)|exact congrArg Value.bool (by simp)|(simp;done)⟩
theorem p3_17  (hA:Fl 223 [(1,I (m:Nat)),(2,.slice (some ⟨b,o,none⟩) N cap),(8,Pt wb 0),(9,.slice (some ⟨M,0,none⟩) N N),(12,.slice (some ⟨Fb,0,none⟩) m m),(13,.slice (some ⟨Yb,0,none⟩) m m),(14,.slice (some ⟨Zb,0,none⟩) m m),(15,I (i:Nat))] a):
 q3_17.wp Tryd.prog (λe a' w'=>e=.normal∧(Fl 223 [(1,I (m:Nat)),(2,.slice (some ⟨b,o,none⟩) N cap),(8,Pt wb 0),(9,.slice (some ⟨M,0,none⟩) N N),(12,.slice (some ⟨Fb,0,none⟩) m m),(13,.slice (some ⟨Yb,0,none⟩) m m),(14,.slice (some ⟨Zb,0,none⟩) m m),(15,I (i:Nat)),(16,I ((0:Nat):Int))] a'∧w'=v)) a v:=by
 obtain ⟨u,rfl,hp⟩:=litF hA;simp only[Fls] at hp;clear hA;unfold q3_17 C3 Tryd.f3 seq1 seq2 blockC loopC;simp only[Qa,lits,Nat.reduceAdd,hp];clear hp;go_wp2_with fail;first
  |refine ⟨?_,rfl⟩
  |refine ⟨rfl,?_,rfl⟩
  |skip
 exact ⟨rfl,rfl,by
  intro p hp;simp only[Sm,or_false] at hp;rcases hp with rfl|rfl|rfl|rfl|rfl|rfl|rfl|rfl|rfl<;>first|rfl|exact congrArg I (by omega)|exact congrArg Value.bool (by simp<;>omega)|exact congrArg Value.bool (by simp)|(simp;done)⟩
theorem p3_18 {tp:Option Addr}(hi:i<N) (d:v.cell? ⟨M,i,none⟩=some (.slice tp L cc)) (hA:Fl 223 [(1,I (m:Nat)),(2,.slice (some ⟨b,o,none⟩) N cap),(8,Pt wb 0),(9,.slice (some ⟨M,0,none⟩) N N),(12,.slice (some ⟨Fb,0,none⟩) m m),(13,.slice (some ⟨Yb,0,none⟩) m m),(14,.slice (some ⟨Zb,0,none⟩) m m),(15,I (i:Nat)),(16,I (k:Nat))] a):
 q3_18.wp Tryd.prog (λe a' w'=>e=.normal∧(Fl 223 [(96,.bool (decide (k<L))),(1,I (m:Nat)),(2,.slice (some ⟨b,o,none⟩) N cap),(8,Pt wb 0),(9,.slice (some ⟨M,0,none⟩) N N),(12,.slice (some ⟨Fb,0,none⟩) m m),(13,.slice (some ⟨Yb,0,none⟩) m m),(14,.slice (some ⟨Zb,0,none⟩) m m),(15,I (i:Nat)),(16,I (k:Nat))] a'∧w'=v)) a v:=by
 have hi':(i:Int)<(N:Int):=by omega
 obtain ⟨u,rfl,hp⟩:=litF hA;simp only[Fls] at hp;clear hA;unfold q3_18 C3 Tryd.f3 seq1 seq2 blockC loopC;simp only[Qa,lits,Nat.reduceAdd,hp];clear hp;go_wp2_with fail;first
  |refine ⟨?_,rfl⟩
  |refine ⟨rfl,?_,rfl⟩
  |skip
 exact ⟨rfl,rfl,by
  intro p hp;simp only[Sm,or_false] at hp;rcases hp with rfl|rfl|rfl|rfl|rfl|rfl|rfl|rfl|rfl|rfl<;>first|rfl|exact congrArg I (by omega)|exact congrArg Value.bool (by simp<;>omega)|exact congrArg Value.bool (by simp)|(simp;done)⟩
theorem p3_19 (hq:k<1000000000) (hA:Fl 223 [(1,I (m:Nat)),(2,.slice (some ⟨b,o,none⟩) N cap),(8,Pt wb 0),(9,.slice (some ⟨M,0,none⟩) N N),(12,.slice (some ⟨Fb,0,none⟩) m m),(13,.slice (some ⟨Yb,0,none⟩) m m),(14,.slice (some ⟨Zb,0,none⟩) m m),(15,I (i:Nat)),(16,I (k:Nat))] a):
 q3_19.wp Tryd.prog (λe a' w'=>e=.normal∧(Fl 223 [(1,I (m:Nat)),(2,.slice (some ⟨b,o,none⟩) N cap),(8,Pt wb 0),(9,.slice (some ⟨M,0,none⟩) N N),(12,.slice (some ⟨Fb,0,none⟩) m m),(13,.slice (some ⟨Yb,0,none⟩) m m),(14,.slice (some ⟨Zb,0,none⟩) m m),(15,I (i:Nat)),(16,I ((k+1:Nat):Int))] a'∧w'=v)) a v:=by
 have h9:wrap64 ((k:Int)+1)=((k+1:Nat):Int):=by unfold wrap64;omega
 obtain ⟨u,rfl,hp⟩:=litF hA;simp only[Fls] at hp;clear hA;unfold q3_19 C3 Tryd.f3 seq1 seq2 blockC loopC;simp only[Qa,lits,Nat.reduceAdd,hp];clear hp;go_wp2_with fail;first
  |refine ⟨?_,rfl⟩
  |refine ⟨rfl,?_,rfl⟩
  |skip
 exact ⟨rfl,rfl,by
  intro p hp;simp only[Sm,or_false] at hp;rcases hp with rfl|rfl|rfl|rfl|rfl|rfl|rfl|rfl|rfl<;>first|rfl|exact congrArg I (by omega)|exact congrArg Value.bool (by simp<;>omega)|exact congrArg Value.bool (by simp)|(simp;done)⟩
theorem p3_20 {rb ro:Nat}{cb c4:Int}(hi:i<N) (hk:k<L) (d:v.cell? ⟨b,o+i,none⟩=some (.slice (some ⟨rb,ro,none⟩) L cc)) (d0:v.cell? ⟨rb,ro+k*4,none⟩=some (I po)) (d1:v.cell? ⟨rb,ro+k*4+1,none⟩=some (I ca)) (d2:v.cell? ⟨rb,ro+k*4+2,none⟩=some (I cb)) (d3:v.cell? ⟨rb,ro+k*4+3,none⟩=some (I c4)) (hA:Fl 223 [(1,I (m:Nat)),(2,.slice (some ⟨b,o,none⟩) N cap),(8,Pt wb 0),(9,.slice (some ⟨M,0,none⟩) N N),(12,.slice (some ⟨Fb,0,none⟩) m m),(13,.slice (some ⟨Yb,0,none⟩) m m),(14,.slice (some ⟨Zb,0,none⟩) m m),(15,I (i:Nat)),(16,I (k:Nat))] a):
 q3_20.wp Tryd.prog (λe a' w'=>e=.normal∧(Fl 223 [(1,I (m:Nat)),(2,.slice (some ⟨b,o,none⟩) N cap),(8,Pt wb 0),(9,.slice (some ⟨M,0,none⟩) N N),(12,.slice (some ⟨Fb,0,none⟩) m m),(13,.slice (some ⟨Yb,0,none⟩) m m),(14,.slice (some ⟨Zb,0,none⟩) m m),(15,I (i:Nat)),(16,I (k:Nat)),(17,Pt v.heap.size 0)] a'∧w'=v.alloc (.cells #[I po,I ca,I cb,I c4] 35))) a v:=by
 have hi':(i:Int)<(N:Int):=by omega
 have hk':(k:Int)<(L:Int):=by omega
 obtain ⟨u,rfl,hp⟩:=litF hA;simp only[Fls] at hp;clear hA;unfold q3_20 C3 Tryd.f3 seq1 seq2 blockC loopC;simp only[Qa,lits,Nat.reduceAdd,hp];clear hp;go_wp2_with fail;first
  |refine ⟨?_,rfl⟩
  |refine ⟨rfl,?_,rfl⟩
  |skip
 exact ⟨rfl,rfl,by
  intro p hp;simp only[Sm,or_false] at hp;rcases hp with rfl|rfl|rfl|rfl|rfl|rfl|rfl|rfl|rfl|rfl<;>first|rfl|exact congrArg I (by omega)|exact congrArg Value.bool (by simp<;>omega)|exact congrArg Value.bool (by simp)|(simp;done)⟩
theorem p3_21y (c0:v.cell? ⟨x,0,none⟩=some (I po)) (h1:1<=po) (h2:po<=4) (hA:Fl 223 [(1,I (m:Nat)),(2,.slice (some ⟨b,o,none⟩) N cap),(8,Pt wb 0),(9,.slice (some ⟨M,0,none⟩) N N),(12,.slice (some ⟨Fb,0,none⟩) m m),(13,.slice (some ⟨Yb,0,none⟩) m m),(14,.slice (some ⟨Zb,0,none⟩) m m),(15,I (i:Nat)),(16,I (k:Nat)),(17,Pt x 0)] a):
 q3_21.wp Tryd.prog (λe a' w'=>e=.normal∧(Fl 223 [(113,.bool false),(1,I (m:Nat)),(2,.slice (some ⟨b,o,none⟩) N cap),(8,Pt wb 0),(9,.slice (some ⟨M,0,none⟩) N N),(12,.slice (some ⟨Fb,0,none⟩) m m),(13,.slice (some ⟨Yb,0,none⟩) m m),(14,.slice (some ⟨Zb,0,none⟩) m m),(15,I (i:Nat)),(16,I (k:Nat)),(17,Pt x 0)] a'∧w'=v)) a v:=by
 have g1:¬ po<1:=by omega
 have g2:¬ po > 4:=by omega
 obtain ⟨u,rfl,hp⟩:=litF hA;simp only[Fls] at hp;clear hA;unfold q3_21 C3 Tryd.f3 seq1 seq2 blockC loopC;simp only[Qa,lits,Nat.reduceAdd,hp];clear hp;go_wp2_with fail;first
  |refine ⟨?_,rfl⟩
  |refine ⟨rfl,?_,rfl⟩
  |skip
 exact ⟨rfl,rfl,by
  intro p hp;simp only[Sm,or_false] at hp;rcases hp with rfl|rfl|rfl|rfl|rfl|rfl|rfl|rfl|rfl|rfl|rfl<;>first|rfl|exact congrArg I (by omega)|exact congrArg Value.bool (by simp<;>omega)|exact congrArg Value.bool (by simp)|(simp;done)⟩
theorem p3_21a (c0:v.cell? ⟨x,0,none⟩=some (I po)) (h1:po<1) (hA:Fl 223 [(1,I (m:Nat)),(2,.slice (some ⟨b,o,none⟩) N cap),(8,Pt wb 0),(9,.slice (some ⟨M,0,none⟩) N N),(12,.slice (some ⟨Fb,0,none⟩) m m),(13,.slice (some ⟨Yb,0,none⟩) m m),(14,.slice (some ⟨Zb,0,none⟩) m m),(15,I (i:Nat)),(16,I (k:Nat)),(17,Pt x 0)] a):
 q3_21.wp Tryd.prog (λe a' w'=>e=.normal∧(Fl 223 [(113,.bool true),(1,I (m:Nat)),(2,.slice (some ⟨b,o,none⟩) N cap),(8,Pt wb 0),(9,.slice (some ⟨M,0,none⟩) N N),(12,.slice (some ⟨Fb,0,none⟩) m m),(13,.slice (some ⟨Yb,0,none⟩) m m),(14,.slice (some ⟨Zb,0,none⟩) m m),(15,I (i:Nat)),(16,I (k:Nat)),(17,Pt x 0)] a'∧w'=v)) a v:=by
 obtain ⟨u,rfl,hp⟩:=litF hA;simp only[Fls] at hp;clear hA;unfold q3_21 C3 Tryd.f3 seq1 seq2 blockC loopC;simp only[Qa,lits,Nat.reduceAdd,hp];clear hp;go_wp2_with fail;first
  |refine ⟨?_,rfl⟩
  |refine ⟨rfl,?_,rfl⟩
  |skip
 exact ⟨rfl,rfl,by
  intro p hp;simp only[Sm,or_false] at hp;rcases hp with rfl|rfl|rfl|rfl|rfl|rfl|rfl|rfl|rfl|rfl|rfl<;>first|rfl|exact congrArg I (by omega)|exact congrArg Value.bool (by simp<;>omega)|exact congrArg Value.bool (by simp)|(simp;done)⟩
theorem p3_21b (c0:v.cell? ⟨x,0,none⟩=some (I po)) (h1:4<po) (hA:Fl 223 [(1,I (m:Nat)),(2,.slice (some ⟨b,o,none⟩) N cap),(8,Pt wb 0),(9,.slice (some ⟨M,0,none⟩) N N),(12,.slice (some ⟨Fb,0,none⟩) m m),(13,.slice (some ⟨Yb,0,none⟩) m m),(14,.slice (some ⟨Zb,0,none⟩) m m),(15,I (i:Nat)),(16,I (k:Nat)),(17,Pt x 0)] a):
 q3_21.wp Tryd.prog (λe a' w'=>e=.normal∧(Fl 223 [(113,.bool true),(1,I (m:Nat)),(2,.slice (some ⟨b,o,none⟩) N cap),(8,Pt wb 0),(9,.slice (some ⟨M,0,none⟩) N N),(12,.slice (some ⟨Fb,0,none⟩) m m),(13,.slice (some ⟨Yb,0,none⟩) m m),(14,.slice (some ⟨Zb,0,none⟩) m m),(15,I (i:Nat)),(16,I (k:Nat)),(17,Pt x 0)] a'∧w'=v)) a v:=by
 have g1:¬ po<1:=by omega
 have g2:po > 4:=by omega
 obtain ⟨u,rfl,hp⟩:=litF hA;simp only[Fls] at hp;clear hA;unfold q3_21 C3 Tryd.f3 seq1 seq2 blockC loopC;simp only[Qa,lits,Nat.reduceAdd,hp];clear hp;go_wp2_with fail;first
  |refine ⟨?_,rfl⟩
  |refine ⟨rfl,?_,rfl⟩
  |skip
 exact ⟨rfl,rfl,by
  intro p hp;simp only[Sm,or_false] at hp;rcases hp with rfl|rfl|rfl|rfl|rfl|rfl|rfl|rfl|rfl|rfl|rfl<;>first|rfl|exact congrArg I (by omega)|exact congrArg Value.bool (by simp<;>omega)|exact congrArg Value.bool (by simp)|(simp;done)⟩
theorem p3_22 (hm0:0<m) (hm:m<=1000) (c1:v.cell? ⟨x,1,none⟩=some (I ca)) (hA:Fl 223 [(1,I (m:Nat)),(2,.slice (some ⟨b,o,none⟩) N cap),(8,Pt wb 0),(9,.slice (some ⟨M,0,none⟩) N N),(12,.slice (some ⟨Fb,0,none⟩) m m),(13,.slice (some ⟨Yb,0,none⟩) m m),(14,.slice (some ⟨Zb,0,none⟩) m m),(15,I (i:Nat)),(16,I (k:Nat)),(17,Pt x 0)] a):
 q3_22.wp Tryd.prog (λe a' w'=>e=.normal∧(Fl 223 [(1,I (m:Nat)),(2,.slice (some ⟨b,o,none⟩) N cap),(8,Pt wb 0),(9,.slice (some ⟨M,0,none⟩) N N),(12,.slice (some ⟨Fb,0,none⟩) m m),(13,.slice (some ⟨Yb,0,none⟩) m m),(14,.slice (some ⟨Zb,0,none⟩) m m),(15,I (i:Nat)),(16,I (k:Nat)),(17,Pt x 0),(18,I (which ca m:Nat))] a'∧w'=v)) a v:=by
 have H3:=Hid.mk ((place_body ca m hm0 (by omega) v).calls Tryd.func20 rfl);clear hm0 hm;obtain ⟨u,rfl,hp⟩:=litF hA;simp only[Fls] at hp;clear hA;unfold q3_22 C3 Tryd.f3 seq1 seq2 blockC loopC;simp only[Qa,lits,Nat.reduceAdd,hp];clear hp
 go_wp2_with (first|(go_at_call 20;refine H3.out.mono ?_;rintro e w1 ⟨_,rfl,rfl,rfl⟩))
 first
  |refine ⟨?_,rfl⟩
  |refine ⟨rfl,?_,rfl⟩
  |skip
 exact ⟨rfl,rfl,by
  intro p hp;simp only[Sm,or_false] at hp;rcases hp with rfl|rfl|rfl|rfl|rfl|rfl|rfl|rfl|rfl|rfl|rfl<;>first|rfl|exact congrArg I (by omega)|exact congrArg Value.bool (by simp<;>omega)|exact congrArg Value.bool (by simp)|(simp;done)⟩
theorem p3_25 {q:Bool}(hh:h<m) (c1:v.cell? ⟨Yb,h,none⟩=some (.bool q)) (f1:v.frozen? ⟨Yb,h,none⟩=false) (hA:Fl 223 [(1,I (m:Nat)),(2,.slice (some ⟨b,o,none⟩) N cap),(8,Pt wb 0),(9,.slice (some ⟨M,0,none⟩) N N),(12,.slice (some ⟨Fb,0,none⟩) m m),(13,.slice (some ⟨Yb,0,none⟩) m m),(14,.slice (some ⟨Zb,0,none⟩) m m),(15,I (i:Nat)),(16,I (k:Nat)),(17,Pt x 0),(18,I (h:Nat))] a):
 q3_25.wp Tryd.prog (λe a' w'=>e=.normal∧(Fl 223 [(1,I (m:Nat)),(2,.slice (some ⟨b,o,none⟩) N cap),(8,Pt wb 0),(9,.slice (some ⟨M,0,none⟩) N N),(12,.slice (some ⟨Fb,0,none⟩) m m),(13,.slice (some ⟨Yb,0,none⟩) m m),(14,.slice (some ⟨Zb,0,none⟩) m m),(15,I (i:Nat)),(16,I (k:Nat)),(17,Pt x 0),(18,I (h:Nat))] a'∧w'=v.setCell ⟨Yb,h,none⟩ (.bool true))) a v:=by
 have hh':(h:Int)<(m:Int):=by omega
 obtain ⟨u,rfl,hp⟩:=litF hA;simp only[Fls] at hp;clear hA;unfold q3_25 C3 Tryd.f3 seq1 seq2 blockC loopC;simp only[Qa,lits,Nat.reduceAdd,hp];clear hp;go_wp2_with fail;first
  |refine ⟨?_,rfl⟩
  |refine ⟨rfl,?_,rfl⟩
  |skip
 exact ⟨rfl,rfl,by
  intro p hp;simp only[Sm,or_false] at hp;rcases hp with rfl|rfl|rfl|rfl|rfl|rfl|rfl|rfl|rfl|rfl|rfl<;>first|rfl|exact congrArg I (by omega)|exact congrArg Value.bool (by simp<;>omega)|exact congrArg Value.bool (by simp)|(simp;done)⟩
theorem p3_27  (hA:Fl 223 [(1,I (m:Nat)),(2,.slice (some ⟨b,o,none⟩) N cap),(8,Pt wb 0),(9,.slice (some ⟨M,0,none⟩) N N),(12,.slice (some ⟨Fb,0,none⟩) m m),(13,.slice (some ⟨Yb,0,none⟩) m m),(14,.slice (some ⟨Zb,0,none⟩) m m)] a):
 q3_27.wp Tryd.prog (λe a' w'=>e=.normal∧(Fl 223 [(1,I (m:Nat)),(2,.slice (some ⟨b,o,none⟩) N cap),(8,Pt wb 0),(9,.slice (some ⟨M,0,none⟩) N N),(12,.slice (some ⟨Fb,0,none⟩) m m),(13,.slice (some ⟨Yb,0,none⟩) m m),(14,.slice (some ⟨Zb,0,none⟩) m m),(19,I ((0:Nat):Int))] a'∧w'=v)) a v:=by
 obtain ⟨u,rfl,hp⟩:=litF hA;simp only[Fls] at hp;clear hA;unfold q3_27 C3 Tryd.f3 seq1 seq2;simp only[Qa,lits,Nat.reduceAdd,hp];clear hp;go_wp2_with fail;first
  |refine ⟨?_,rfl⟩
  |refine ⟨rfl,?_,rfl⟩
  |skip
 exact ⟨rfl,rfl,by
  intro p hp;simp only[Sm,or_false] at hp;rcases hp with rfl|rfl|rfl|rfl|rfl|rfl|rfl|rfl<;>first|rfl|exact congrArg I (by omega)|exact congrArg Value.bool (by simp<;>omega)|exact congrArg Value.bool (by simp)|(simp;done)⟩
theorem p3_28  (hA:Fl 223 [(1,I (m:Nat)),(2,.slice (some ⟨b,o,none⟩) N cap),(8,Pt wb 0),(9,.slice (some ⟨M,0,none⟩) N N),(12,.slice (some ⟨Fb,0,none⟩) m m),(13,.slice (some ⟨Yb,0,none⟩) m m),(14,.slice (some ⟨Zb,0,none⟩) m m),(19,I (i:Nat))] a):
 q3_28.wp Tryd.prog (λe a' w'=>e=.normal∧(Fl 223 [(152,.bool (decide (i<N))),(1,I (m:Nat)),(2,.slice (some ⟨b,o,none⟩) N cap),(8,Pt wb 0),(9,.slice (some ⟨M,0,none⟩) N N),(12,.slice (some ⟨Fb,0,none⟩) m m),(13,.slice (some ⟨Yb,0,none⟩) m m),(14,.slice (some ⟨Zb,0,none⟩) m m),(19,I (i:Nat))] a'∧w'=v)) a v:=by
 obtain ⟨u,rfl,hp⟩:=litF hA;simp only[Fls] at hp;clear hA;unfold q3_28 C3 Tryd.f3 seq1 seq2 blockC loopC;simp only[Qa,lits,Nat.reduceAdd,hp];clear hp;go_wp2_with fail;first
  |refine ⟨?_,rfl⟩
  |refine ⟨rfl,?_,rfl⟩
  |skip
 exact ⟨rfl,rfl,by
  intro p hp;simp only[Sm,or_false] at hp;rcases hp with rfl|rfl|rfl|rfl|rfl|rfl|rfl|rfl|rfl<;>first|rfl|exact congrArg I (by omega)|exact congrArg Value.bool (by simp<;>omega)|exact congrArg Value.bool (by simp)|(simp;done)⟩
theorem p3_29 (hq:i<1000000000) (hA:Fl 223 [(1,I (m:Nat)),(2,.slice (some ⟨b,o,none⟩) N cap),(8,Pt wb 0),(9,.slice (some ⟨M,0,none⟩) N N),(12,.slice (some ⟨Fb,0,none⟩) m m),(13,.slice (some ⟨Yb,0,none⟩) m m),(14,.slice (some ⟨Zb,0,none⟩) m m),(19,I (i:Nat))] a):
 q3_29.wp Tryd.prog (λe a' w'=>e=.normal∧(Fl 223 [(1,I (m:Nat)),(2,.slice (some ⟨b,o,none⟩) N cap),(8,Pt wb 0),(9,.slice (some ⟨M,0,none⟩) N N),(12,.slice (some ⟨Fb,0,none⟩) m m),(13,.slice (some ⟨Yb,0,none⟩) m m),(14,.slice (some ⟨Zb,0,none⟩) m m),(19,I ((i+1:Nat):Int))] a'∧w'=v)) a v:=by
 have h9:wrap64 ((i:Int)+1)=((i+1:Nat):Int):=by unfold wrap64;omega
 obtain ⟨u,rfl,hp⟩:=litF hA;simp only[Fls] at hp;clear hA;unfold q3_29 C3 Tryd.f3 seq1 seq2 blockC loopC;simp only[Qa,lits,Nat.reduceAdd,hp];clear hp;go_wp2_with fail;first
  |refine ⟨?_,rfl⟩
  |refine ⟨rfl,?_,rfl⟩
  |skip
 exact ⟨rfl,rfl,by
  intro p hp;simp only[Sm,or_false] at hp;rcases hp with rfl|rfl|rfl|rfl|rfl|rfl|rfl|rfl<;>first|rfl|exact congrArg I (by omega)|exact congrArg Value.bool (by simp<;>omega)|exact congrArg Value.bool (by simp)|(simp;done)⟩
theorem p3_30  (hA:Fl 223 [(1,I (m:Nat)),(2,.slice (some ⟨b,o,none⟩) N cap),(8,Pt wb 0),(9,.slice (some ⟨M,0,none⟩) N N),(12,.slice (some ⟨Fb,0,none⟩) m m),(13,.slice (some ⟨Yb,0,none⟩) m m),(14,.slice (some ⟨Zb,0,none⟩) m m),(19,I (i:Nat))] a):
 q3_30.wp Tryd.prog (λe a' w'=>e=.normal∧(Fl 223 [(1,I (m:Nat)),(2,.slice (some ⟨b,o,none⟩) N cap),(8,Pt wb 0),(9,.slice (some ⟨M,0,none⟩) N N),(12,.slice (some ⟨Fb,0,none⟩) m m),(13,.slice (some ⟨Yb,0,none⟩) m m),(14,.slice (some ⟨Zb,0,none⟩) m m),(19,I (i:Nat)),(20,I ((0:Nat):Int))] a'∧w'=v)) a v:=by
 obtain ⟨u,rfl,hp⟩:=litF hA;simp only[Fls] at hp;clear hA;unfold q3_30 C3 Tryd.f3 seq1 seq2 blockC loopC;simp only[Qa,lits,Nat.reduceAdd,hp];clear hp;go_wp2_with fail;first
  |refine ⟨?_,rfl⟩
  |refine ⟨rfl,?_,rfl⟩
  |skip
 exact ⟨rfl,rfl,by
  intro p hp;simp only[Sm,or_false] at hp;rcases hp with rfl|rfl|rfl|rfl|rfl|rfl|rfl|rfl|rfl<;>first|rfl|exact congrArg I (by omega)|exact congrArg Value.bool (by simp<;>omega)|exact congrArg Value.bool (by simp)|(simp;done)⟩
theorem p3_31 {tp:Option Addr}(hi:i<N) (d:v.cell? ⟨M,i,none⟩=some (.slice tp L cc)) (hA:Fl 223 [(1,I (m:Nat)),(2,.slice (some ⟨b,o,none⟩) N cap),(8,Pt wb 0),(9,.slice (some ⟨M,0,none⟩) N N),(12,.slice (some ⟨Fb,0,none⟩) m m),(13,.slice (some ⟨Yb,0,none⟩) m m),(14,.slice (some ⟨Zb,0,none⟩) m m),(19,I (i:Nat)),(20,I (k:Nat))] a):
 q3_31.wp Tryd.prog (λe a' w'=>e=.normal∧(Fl 223 [(161,.bool (decide (k<L))),(1,I (m:Nat)),(2,.slice (some ⟨b,o,none⟩) N cap),(8,Pt wb 0),(9,.slice (some ⟨M,0,none⟩) N N),(12,.slice (some ⟨Fb,0,none⟩) m m),(13,.slice (some ⟨Yb,0,none⟩) m m),(14,.slice (some ⟨Zb,0,none⟩) m m),(19,I (i:Nat)),(20,I (k:Nat))] a'∧w'=v)) a v:=by
 have hi':(i:Int)<(N:Int):=by omega
 obtain ⟨u,rfl,hp⟩:=litF hA;simp only[Fls] at hp;clear hA;unfold q3_31 C3 Tryd.f3 seq1 seq2 blockC loopC;simp only[Qa,lits,Nat.reduceAdd,hp];clear hp;go_wp2_with fail;first
  |refine ⟨?_,rfl⟩
  |refine ⟨rfl,?_,rfl⟩
  |skip
 exact ⟨rfl,rfl,by
  intro p hp;simp only[Sm,or_false] at hp;rcases hp with rfl|rfl|rfl|rfl|rfl|rfl|rfl|rfl|rfl|rfl<;>first|rfl|exact congrArg I (by omega)|exact congrArg Value.bool (by simp<;>omega)|exact congrArg Value.bool (by simp)|(simp;done)⟩
theorem p3_32 (hq:k<1000000000) (hA:Fl 223 [(1,I (m:Nat)),(2,.slice (some ⟨b,o,none⟩) N cap),(8,Pt wb 0),(9,.slice (some ⟨M,0,none⟩) N N),(12,.slice (some ⟨Fb,0,none⟩) m m),(13,.slice (some ⟨Yb,0,none⟩) m m),(14,.slice (some ⟨Zb,0,none⟩) m m),(19,I (i:Nat)),(20,I (k:Nat))] a):
 q3_32.wp Tryd.prog (λe a' w'=>e=.normal∧(Fl 223 [(1,I (m:Nat)),(2,.slice (some ⟨b,o,none⟩) N cap),(8,Pt wb 0),(9,.slice (some ⟨M,0,none⟩) N N),(12,.slice (some ⟨Fb,0,none⟩) m m),(13,.slice (some ⟨Yb,0,none⟩) m m),(14,.slice (some ⟨Zb,0,none⟩) m m),(19,I (i:Nat)),(20,I ((k+1:Nat):Int))] a'∧w'=v)) a v:=by
 have h9:wrap64 ((k:Int)+1)=((k+1:Nat):Int):=by unfold wrap64;omega
 obtain ⟨u,rfl,hp⟩:=litF hA;simp only[Fls] at hp;clear hA;unfold q3_32 C3 Tryd.f3 seq1 seq2 blockC loopC;simp only[Qa,lits,Nat.reduceAdd,hp];clear hp;go_wp2_with fail;first
  |refine ⟨?_,rfl⟩
  |refine ⟨rfl,?_,rfl⟩
  |skip
 exact ⟨rfl,rfl,by
  intro p hp;simp only[Sm,or_false] at hp;rcases hp with rfl|rfl|rfl|rfl|rfl|rfl|rfl|rfl|rfl<;>first|rfl|exact congrArg I (by omega)|exact congrArg Value.bool (by simp<;>omega)|exact congrArg Value.bool (by simp)|(simp;done)⟩
theorem p3_33 {rb ro:Nat}{cb c4:Int}(hi:i<N) (hk:k<L) (d:v.cell? ⟨b,o+i,none⟩=some (.slice (some ⟨rb,ro,none⟩) L cc)) (d0:v.cell? ⟨rb,ro+k*4,none⟩=some (I po)) (d1:v.cell? ⟨rb,ro+k*4+1,none⟩=some (I ca)) (d2:v.cell? ⟨rb,ro+k*4+2,none⟩=some (I cb)) (d3:v.cell? ⟨rb,ro+k*4+3,none⟩=some (I c4)) (hA:Fl 223 [(1,I (m:Nat)),(2,.slice (some ⟨b,o,none⟩) N cap),(8,Pt wb 0),(9,.slice (some ⟨M,0,none⟩) N N),(12,.slice (some ⟨Fb,0,none⟩) m m),(13,.slice (some ⟨Yb,0,none⟩) m m),(14,.slice (some ⟨Zb,0,none⟩) m m),(19,I (i:Nat)),(20,I (k:Nat))] a):
 q3_33.wp Tryd.prog (λe a' w'=>e=.normal∧(Fl 223 [(1,I (m:Nat)),(2,.slice (some ⟨b,o,none⟩) N cap),(8,Pt wb 0),(9,.slice (some ⟨M,0,none⟩) N N),(12,.slice (some ⟨Fb,0,none⟩) m m),(13,.slice (some ⟨Yb,0,none⟩) m m),(14,.slice (some ⟨Zb,0,none⟩) m m),(19,I (i:Nat)),(20,I (k:Nat)),(21,Pt v.heap.size 0)] a'∧w'=v.alloc (.cells #[I po,I ca,I cb,I c4] 35))) a v:=by
 have hi':(i:Int)<(N:Int):=by omega
 have hk':(k:Int)<(L:Int):=by omega
 obtain ⟨u,rfl,hp⟩:=litF hA;simp only[Fls] at hp;clear hA;unfold q3_33 C3 Tryd.f3 seq1 seq2 blockC loopC;simp only[Qa,lits,Nat.reduceAdd,hp];clear hp;go_wp2_with fail;first
  |refine ⟨?_,rfl⟩
  |refine ⟨rfl,?_,rfl⟩
  |skip
 exact ⟨rfl,rfl,by
  intro p hp;simp only[Sm,or_false] at hp;rcases hp with rfl|rfl|rfl|rfl|rfl|rfl|rfl|rfl|rfl|rfl<;>first|rfl|exact congrArg I (by omega)|exact congrArg Value.bool (by simp<;>omega)|exact congrArg Value.bool (by simp)|(simp;done)⟩
theorem p3_34y (c0:v.cell? ⟨x,0,none⟩=some (I po)) (h1:1<=po) (h2:po<=4) (hA:Fl 223 [(1,I (m:Nat)),(2,.slice (some ⟨b,o,none⟩) N cap),(8,Pt wb 0),(9,.slice (some ⟨M,0,none⟩) N N),(12,.slice (some ⟨Fb,0,none⟩) m m),(13,.slice (some ⟨Yb,0,none⟩) m m),(14,.slice (some ⟨Zb,0,none⟩) m m),(19,I (i:Nat)),(20,I (k:Nat)),(21,Pt x 0)] a):
 q3_34.wp Tryd.prog (λe a' w'=>e=.normal∧(Fl 223 [(178,.bool true),(1,I (m:Nat)),(2,.slice (some ⟨b,o,none⟩) N cap),(8,Pt wb 0),(9,.slice (some ⟨M,0,none⟩) N N),(12,.slice (some ⟨Fb,0,none⟩) m m),(13,.slice (some ⟨Yb,0,none⟩) m m),(14,.slice (some ⟨Zb,0,none⟩) m m),(19,I (i:Nat)),(20,I (k:Nat)),(21,Pt x 0)] a'∧w'=v)) a v:=by
 have g1:po≥1:=by omega
 obtain ⟨u,rfl,hp⟩:=litF hA;simp only[Fls] at hp;clear hA;unfold q3_34 C3 Tryd.f3 seq1 seq2 blockC loopC;simp only[Qa,lits,Nat.reduceAdd,hp];clear hp;go_wp2_with fail;first
  |refine ⟨?_,rfl⟩
  |refine ⟨rfl,?_,rfl⟩
  |skip
 exact ⟨rfl,rfl,by
  intro p hp;simp only[Sm,or_false] at hp;rcases hp with rfl|rfl|rfl|rfl|rfl|rfl|rfl|rfl|rfl|rfl|rfl<;>first|rfl|exact congrArg I (by omega)|exact congrArg Value.bool (by simp<;>omega)|exact congrArg Value.bool (by simp)|(simp;done)⟩
theorem p3_34a (c0:v.cell? ⟨x,0,none⟩=some (I po)) (h1:po<1) (hA:Fl 223 [(1,I (m:Nat)),(2,.slice (some ⟨b,o,none⟩) N cap),(8,Pt wb 0),(9,.slice (some ⟨M,0,none⟩) N N),(12,.slice (some ⟨Fb,0,none⟩) m m),(13,.slice (some ⟨Yb,0,none⟩) m m),(14,.slice (some ⟨Zb,0,none⟩) m m),(19,I (i:Nat)),(20,I (k:Nat)),(21,Pt x 0)] a):
 q3_34.wp Tryd.prog (λe a' w'=>e=.normal∧(Fl 223 [(178,.bool false),(1,I (m:Nat)),(2,.slice (some ⟨b,o,none⟩) N cap),(8,Pt wb 0),(9,.slice (some ⟨M,0,none⟩) N N),(12,.slice (some ⟨Fb,0,none⟩) m m),(13,.slice (some ⟨Yb,0,none⟩) m m),(14,.slice (some ⟨Zb,0,none⟩) m m),(19,I (i:Nat)),(20,I (k:Nat)),(21,Pt x 0)] a'∧w'=v)) a v:=by
 have g1:¬ po≥1:=by omega
 obtain ⟨u,rfl,hp⟩:=litF hA;simp only[Fls] at hp;clear hA;unfold q3_34 C3 Tryd.f3 seq1 seq2 blockC loopC;simp only[Qa,lits,Nat.reduceAdd,hp];clear hp;go_wp2_with fail;first
  |refine ⟨?_,rfl⟩
  |refine ⟨rfl,?_,rfl⟩
  |skip
 exact ⟨rfl,rfl,by
  intro p hp;simp only[Sm,or_false] at hp;rcases hp with rfl|rfl|rfl|rfl|rfl|rfl|rfl|rfl|rfl|rfl|rfl<;>first|rfl|exact congrArg I (by omega)|exact congrArg Value.bool (by simp<;>omega)|exact congrArg Value.bool (by simp)|(simp;done)⟩
theorem p3_34b (c0:v.cell? ⟨x,0,none⟩=some (I po)) (h1:4<po) (hA:Fl 223 [(1,I (m:Nat)),(2,.slice (some ⟨b,o,none⟩) N cap),(8,Pt wb 0),(9,.slice (some ⟨M,0,none⟩) N N),(12,.slice (some ⟨Fb,0,none⟩) m m),(13,.slice (some ⟨Yb,0,none⟩) m m),(14,.slice (some ⟨Zb,0,none⟩) m m),(19,I (i:Nat)),(20,I (k:Nat)),(21,Pt x 0)] a):
 q3_34.wp Tryd.prog (λe a' w'=>e=.normal∧(Fl 223 [(178,.bool false),(1,I (m:Nat)),(2,.slice (some ⟨b,o,none⟩) N cap),(8,Pt wb 0),(9,.slice (some ⟨M,0,none⟩) N N),(12,.slice (some ⟨Fb,0,none⟩) m m),(13,.slice (some ⟨Yb,0,none⟩) m m),(14,.slice (some ⟨Zb,0,none⟩) m m),(19,I (i:Nat)),(20,I (k:Nat)),(21,Pt x 0)] a'∧w'=v)) a v:=by
 have g1:po≥1:=by omega
 have g2:¬ po<=4:=by omega
 obtain ⟨u,rfl,hp⟩:=litF hA;simp only[Fls] at hp;clear hA;unfold q3_34 C3 Tryd.f3 seq1 seq2 blockC loopC;simp only[Qa,lits,Nat.reduceAdd,hp];clear hp;go_wp2_with fail;first
  |refine ⟨?_,rfl⟩
  |refine ⟨rfl,?_,rfl⟩
  |skip
 exact ⟨rfl,rfl,by
  intro p hp;simp only[Sm,or_false] at hp;rcases hp with rfl|rfl|rfl|rfl|rfl|rfl|rfl|rfl|rfl|rfl|rfl<;>first|rfl|exact congrArg I (by omega)|exact congrArg Value.bool (by simp<;>omega)|exact congrArg Value.bool (by simp)|(simp;done)⟩
theorem p3_35 (hm0:0<m) (hm:m<=1000) (c1:v.cell? ⟨x,1,none⟩=some (I ca)) (hA:Fl 223 [(1,I (m:Nat)),(2,.slice (some ⟨b,o,none⟩) N cap),(8,Pt wb 0),(9,.slice (some ⟨M,0,none⟩) N N),(12,.slice (some ⟨Fb,0,none⟩) m m),(13,.slice (some ⟨Yb,0,none⟩) m m),(14,.slice (some ⟨Zb,0,none⟩) m m),(19,I (i:Nat)),(20,I (k:Nat)),(21,Pt x 0)] a):
 q3_35.wp Tryd.prog (λe a' w'=>e=.normal∧(Fl 223 [(1,I (m:Nat)),(2,.slice (some ⟨b,o,none⟩) N cap),(8,Pt wb 0),(9,.slice (some ⟨M,0,none⟩) N N),(12,.slice (some ⟨Fb,0,none⟩) m m),(13,.slice (some ⟨Yb,0,none⟩) m m),(14,.slice (some ⟨Zb,0,none⟩) m m),(19,I (i:Nat)),(20,I (k:Nat)),(21,Pt x 0),(22,I (which ca m:Nat))] a'∧w'=v)) a v:=by
 have H3:=Hid.mk ((place_body ca m hm0 (by omega) v).calls Tryd.func20 rfl);clear hm0 hm;obtain ⟨u,rfl,hp⟩:=litF hA;simp only[Fls] at hp;clear hA;unfold q3_35 C3 Tryd.f3 seq1 seq2 condA blockC loopC;simp only[Qa,lits,Nat.reduceAdd,hp];clear hp
 go_wp2_with (first|(go_at_call 20;refine H3.out.mono ?_;rintro e w1 ⟨_,rfl,rfl,rfl⟩))
 first
  |refine ⟨?_,rfl⟩
  |refine ⟨rfl,?_,rfl⟩
  |skip
 exact ⟨rfl,rfl,by
  intro p hp;simp only[Sm,or_false] at hp;rcases hp with rfl|rfl|rfl|rfl|rfl|rfl|rfl|rfl|rfl|rfl|rfl<;>first|rfl|exact congrArg I (by omega)|exact congrArg Value.bool (by simp<;>omega)|exact congrArg Value.bool (by simp)|(simp;done)⟩
theorem p3_37  (hA:Fl 223 [(1,I (m:Nat)),(2,.slice (some ⟨b,o,none⟩) N cap),(8,Pt wb 0),(9,.slice (some ⟨M,0,none⟩) N N),(12,.slice (some ⟨Fb,0,none⟩) m m),(13,.slice (some ⟨Yb,0,none⟩) m m),(14,.slice (some ⟨Zb,0,none⟩) m m)] a):
 q3_37.wp Tryd.prog (λe a' w'=>e=.normal∧(Fl 223 [(1,I (m:Nat)),(2,.slice (some ⟨b,o,none⟩) N cap),(8,Pt wb 0),(9,.slice (some ⟨M,0,none⟩) N N),(12,.slice (some ⟨Fb,0,none⟩) m m),(13,.slice (some ⟨Yb,0,none⟩) m m),(14,.slice (some ⟨Zb,0,none⟩) m m),(23,I ((0:Nat):Int))] a'∧w'=v)) a v:=by
 obtain ⟨u,rfl,hp⟩:=litF hA;simp only[Fls] at hp;clear hA;unfold q3_37 C3 Tryd.f3 seq1 seq2;simp only[Qa,lits,Nat.reduceAdd,hp];clear hp;go_wp2_with fail;first
  |refine ⟨?_,rfl⟩
  |refine ⟨rfl,?_,rfl⟩
  |skip
 exact ⟨rfl,rfl,by
  intro p hp;simp only[Sm,or_false] at hp;rcases hp with rfl|rfl|rfl|rfl|rfl|rfl|rfl|rfl<;>first|rfl|exact congrArg I (by omega)|exact congrArg Value.bool (by simp<;>omega)|exact congrArg Value.bool (by simp)|(simp;done)⟩
theorem p3_38  (hA:Fl 223 [(1,I (m:Nat)),(2,.slice (some ⟨b,o,none⟩) N cap),(8,Pt wb 0),(9,.slice (some ⟨M,0,none⟩) N N),(12,.slice (some ⟨Fb,0,none⟩) m m),(13,.slice (some ⟨Yb,0,none⟩) m m),(14,.slice (some ⟨Zb,0,none⟩) m m),(23,I (h:Nat))] a):
 q3_38.wp Tryd.prog (λe a' w'=>e=.normal∧(Fl 223 [(204,.bool (decide (h<m))),(1,I (m:Nat)),(2,.slice (some ⟨b,o,none⟩) N cap),(8,Pt wb 0),(9,.slice (some ⟨M,0,none⟩) N N),(12,.slice (some ⟨Fb,0,none⟩) m m),(13,.slice (some ⟨Yb,0,none⟩) m m),(14,.slice (some ⟨Zb,0,none⟩) m m),(23,I (h:Nat))] a'∧w'=v)) a v:=by
 obtain ⟨u,rfl,hp⟩:=litF hA;simp only[Fls] at hp;clear hA;unfold q3_38 C3 Tryd.f3 seq1 seq2 blockC loopC;simp only[Qa,lits,Nat.reduceAdd,hp];clear hp;go_wp2_with fail;first
  |refine ⟨?_,rfl⟩
  |refine ⟨rfl,?_,rfl⟩
  |skip
 exact ⟨rfl,rfl,by
  intro p hp;simp only[Sm,or_false] at hp;rcases hp with rfl|rfl|rfl|rfl|rfl|rfl|rfl|rfl|rfl<;>first|rfl|exact congrArg I (by omega)|exact congrArg Value.bool (by simp<;>omega)|exact congrArg Value.bool (by simp)|(simp;done)⟩
theorem p3_39 (hq:h<1000000000) (hA:Fl 223 [(1,I (m:Nat)),(2,.slice (some ⟨b,o,none⟩) N cap),(8,Pt wb 0),(9,.slice (some ⟨M,0,none⟩) N N),(12,.slice (some ⟨Fb,0,none⟩) m m),(13,.slice (some ⟨Yb,0,none⟩) m m),(14,.slice (some ⟨Zb,0,none⟩) m m),(23,I (h:Nat))] a):
 q3_39.wp Tryd.prog (λe a' w'=>e=.normal∧(Fl 223 [(1,I (m:Nat)),(2,.slice (some ⟨b,o,none⟩) N cap),(8,Pt wb 0),(9,.slice (some ⟨M,0,none⟩) N N),(12,.slice (some ⟨Fb,0,none⟩) m m),(13,.slice (some ⟨Yb,0,none⟩) m m),(14,.slice (some ⟨Zb,0,none⟩) m m),(23,I ((h+1:Nat):Int))] a'∧w'=v)) a v:=by
 have h9:wrap64 ((h:Int)+1)=((h+1:Nat):Int):=by unfold wrap64;omega
 obtain ⟨u,rfl,hp⟩:=litF hA;simp only[Fls] at hp;clear hA;unfold q3_39 C3 Tryd.f3 seq1 seq2 blockC loopC;simp only[Qa,lits,Nat.reduceAdd,hp];clear hp;go_wp2_with fail;first
  |refine ⟨?_,rfl⟩
  |refine ⟨rfl,?_,rfl⟩
  |skip
 exact ⟨rfl,rfl,by
  intro p hp;simp only[Sm,or_false] at hp;rcases hp with rfl|rfl|rfl|rfl|rfl|rfl|rfl|rfl<;>first|rfl|exact congrArg I (by omega)|exact congrArg Value.bool (by simp<;>omega)|exact congrArg Value.bool (by simp)|(simp;done)⟩
theorem p3_40n (hh:h<m) (c1:v.cell? ⟨Yb,h,none⟩=some (.bool false)) (hA:Fl 223 [(1,I (m:Nat)),(2,.slice (some ⟨b,o,none⟩) N cap),(8,Pt wb 0),(9,.slice (some ⟨M,0,none⟩) N N),(12,.slice (some ⟨Fb,0,none⟩) m m),(13,.slice (some ⟨Yb,0,none⟩) m m),(14,.slice (some ⟨Zb,0,none⟩) m m),(23,I (h:Nat))] a):
 q3_40.wp Tryd.prog (λe a' w'=>e=.normal∧(Fl 223 [(217,.bool false),(1,I (m:Nat)),(2,.slice (some ⟨b,o,none⟩) N cap),(8,Pt wb 0),(9,.slice (some ⟨M,0,none⟩) N N),(12,.slice (some ⟨Fb,0,none⟩) m m),(13,.slice (some ⟨Yb,0,none⟩) m m),(14,.slice (some ⟨Zb,0,none⟩) m m),(23,I (h:Nat))] a'∧w'=v)) a v:=by
 have hh':(h:Int)<(m:Int):=by omega
 obtain ⟨u,rfl,hp⟩:=litF hA;simp only[Fls] at hp;clear hA;unfold q3_40 C3 Tryd.f3 seq1 seq2 blockC loopC;simp only[Qa,lits,Nat.reduceAdd,hp];clear hp;go_wp2_with fail;first
  |refine ⟨?_,rfl⟩
  |refine ⟨rfl,?_,rfl⟩
  |skip
 exact ⟨rfl,rfl,by
  intro p hp;simp only[Sm,or_false] at hp;rcases hp with rfl|rfl|rfl|rfl|rfl|rfl|rfl|rfl|rfl<;>first|rfl|exact congrArg I (by omega)|exact congrArg Value.bool (by simp<;>omega)|exact congrArg Value.bool (by simp)|(simp;done)⟩
theorem p3_40y (hh:h<m) (c1:v.cell? ⟨Yb,h,none⟩=some (.bool true)) (c2:v.cell? ⟨Zb,h,none⟩=some (.bool true)) (hA:Fl 223 [(1,I (m:Nat)),(2,.slice (some ⟨b,o,none⟩) N cap),(8,Pt wb 0),(9,.slice (some ⟨M,0,none⟩) N N),(12,.slice (some ⟨Fb,0,none⟩) m m),(13,.slice (some ⟨Yb,0,none⟩) m m),(14,.slice (some ⟨Zb,0,none⟩) m m),(23,I (h:Nat))] a):
 q3_40.wp Tryd.prog (λe a' w'=>e=.normal∧(Fl 223 [(217,.bool false),(1,I (m:Nat)),(2,.slice (some ⟨b,o,none⟩) N cap),(8,Pt wb 0),(9,.slice (some ⟨M,0,none⟩) N N),(12,.slice (some ⟨Fb,0,none⟩) m m),(13,.slice (some ⟨Yb,0,none⟩) m m),(14,.slice (some ⟨Zb,0,none⟩) m m),(23,I (h:Nat))] a'∧w'=v)) a v:=by
 have hh':(h:Int)<(m:Int):=by omega
 obtain ⟨u,rfl,hp⟩:=litF hA;simp only[Fls] at hp;clear hA;unfold q3_40 C3 Tryd.f3 seq1 seq2 blockC loopC;simp only[Qa,lits,Nat.reduceAdd,hp];clear hp;go_wp2_with fail;first
  |refine ⟨?_,rfl⟩
  |refine ⟨rfl,?_,rfl⟩
  |skip
 exact ⟨rfl,rfl,by
  intro p hp;simp only[Sm,or_false] at hp;rcases hp with rfl|rfl|rfl|rfl|rfl|rfl|rfl|rfl|rfl<;>first|rfl|exact congrArg I (by omega)|exact congrArg Value.bool (by simp<;>omega)|exact congrArg Value.bool (by simp)|(simp;done)⟩
end Go.Proofs.YtfjjoohflcchnaaDoor.Gen
