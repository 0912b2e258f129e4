/- StackLinear, part 19 of 32: La8P. -/
import Derived.Test.YtbbhahigofeacaaDoorStackLinear01
import Derived.Test.YtbbhahigofeacaaDoorStackLinear09
import Derived.Test.YtbbhahigofeacaaDoorStackLinear10
import Derived.Test.YtbbhahigofeacaaDoorStackLinear12
import Derived.Test.YtbbhahigofeacaaDoorStackLinear17
import Derived.Test.YtbbhahigofeacaaDoorStackLinear18
import Derived.BigQuiet
import Derived.Deep.RegionHeld3
import Derived.Deep.RegionLaw
set_option linter.unusedSimpArgs false
set_option linter.unusedVariables false
set_option maxHeartbeats 4000000
set_option maxRecDepth 100000
noncomputable section
namespace Go.Proofs.YtbbhahigofeacaaDoor.Gen
open Go Go.Lift Go.Conc Go.RowKit
open R3 (evL evC evV)
variable {v:World} {a:Act} {p pp:Option Addr} {N P cap g i o pc:Nat} {po:Int}
def C8:Code:=Tryd.f8.body.getD .skip
def q8_0:Code:=(seq1 C8)
def q8_1:Code:=(seq1 (seq2 C8))
def q8_2:Code:=(seq1 (seq2 (seq2 C8)))
def q8_3:Code:=(seq1 (seq2 (seq2 (seq2 C8))))
def q8_4:Code:=(seq1 (seq1 (seq2 (seq2 (seq2 (seq2 C8))))))
def q8_5:Code:=(seq1 (condA (seq2 (seq1 (seq2 (seq2 (seq2 (seq2 C8))))))))
def q8_6:Code:=(seq1 (seq2 (seq2 (seq2 (seq2 (seq2 C8))))))
def q8_7:Code:=(seq1 (seq1 (seq2 (seq2 (seq2 (seq2 (seq2 (seq2 C8))))))))
def q8_8:Code:=(seq1 (condA (seq2 (seq1 (seq2 (seq2 (seq2 (seq2 (seq2 (seq2 C8))))))))))
def q8_9:Code:=(seq1 (seq2 (seq2 (seq2 (seq2 (seq2 (seq2 (seq2 C8))))))))
def q8_10:Code:=(seq1 (seq1 (seq2 (seq2 (seq2 (seq2 (seq2 (seq2 (seq2 (seq2 C8))))))))))
def q8_11:Code:=(seq1 (seq1 (Be (Ar (seq2 (seq1 (seq2 (seq2 (seq2 (seq2 (seq2 (seq2 (seq2 (seq2 C8))))))))))))))
def q8_13:Code:=(seq1 (Ar (seq1 (seq2 (Be (Ar (seq2 (seq1 (seq2 (seq2 (seq2 (seq2 (seq2 (seq2 (seq2 (seq2 C8))))))))))))))))
def q8_14:Code:=(condA (seq2 (Ar (seq1 (seq2 (Be (Ar (seq2 (seq1 (seq2 (seq2 (seq2 (seq2 (seq2 (seq2 (seq2 (seq2 C8)))))))))))))))))
def q8_12:Code:=(seq2 (seq2 (Be (Ar (seq2 (seq1 (seq2 (seq2 (seq2 (seq2 (seq2 (seq2 (seq2 (seq2 C8))))))))))))))
def q8_15:Code:=(seq1 (seq1 (seq2 (seq2 (seq2 (seq2 (seq2 (seq2 (seq2 (seq2 (seq2 C8)))))))))))
def q8_16:Code:=(seq1 (condA (seq2 (seq1 (seq2 (seq2 (seq2 (seq2 (seq2 (seq2 (seq2 (seq2 (seq2 C8)))))))))))))
def q8_17:Code:=(seq1 (seq2 (seq2 (seq2 (seq2 (seq2 (seq2 (seq2 (seq2 (seq2 (seq2 C8)))))))))))
def q8_18:Code:=(seq1 (seq2 (seq2 (seq2 (seq2 (seq2 (seq2 (seq2 (seq2 (seq2 (seq2 (seq2 C8))))))))))))
def K8_1:Code:=(.seq q8_13 (.cond ( .tmp 63 ) q8_14 .skip))
def K8_0:Code:=(.loop (.seq (.seq q8_11 (.cond ( .tmp 47 ) .skip (.exit 0))) (.seq (.block 1 K8_1) q8_12)))
theorem e8:C8=(.seq q8_0 (.seq q8_1 (.seq q8_2 (.seq q8_3 (.seq (.seq q8_4 (.cond ( .tmp 32 ) (.seq q8_5 .ret) .skip)) (.seq q8_6 (.seq (.seq q8_7 (.cond ( .tmp 43 ) (.seq q8_8 .ret) .skip)) (.seq q8_9 (.seq (.seq q8_10 (.block 0 K8_0)) (.seq (.seq q8_15 (.cond ( .tmp 73 ) (.seq q8_16 .ret) .skip)) (.seq q8_17 (.seq q8_18 .ret)))))))))))):=by kernel_rfl
theorem p8_4n {E:Int}(hE:E≠0) (hA:Fl 84 [(7,.bool true),(10,I E)] a):
 q8_4.wp Tryd.prog (λe a' w'=>e=.normal∧(Fl 84 [(32,.bool true),(7,.bool true),(10,I E)] a'∧w'=v)) a v:=by
 obtain ⟨u,rfl,hp⟩:=litF hA;simp only[Fls] at hp;clear hA;unfold q8_4 C8 Tryd.f8 seq1 seq2;simp only[Qa,lits,Nat.reduceAdd,hp];clear hp;go_wp2_with fail;first
  |refine ⟨?_,rfl⟩
  |refine ⟨rfl,?_,rfl⟩
  |skip
 exact ⟨rfl,rfl,by
  intro p hp;simp only[Sm,or_false] at hp;rcases hp with rfl|rfl|rfl<;>first|rfl|exact congrArg I (by omega)|exact congrArg Value.bool (by simp<;>omega)|exact congrArg Value.bool (by simp)|(simp;done)⟩
theorem p8_4y {sv av:Value}{wb:Nat}  (hA:Fl 84 [(7,.bool true),(10,I 0),(2,sv),(8,Pt wb 0),(9,av)] a):
 q8_4.wp Tryd.prog (λe a' w'=>e=.normal∧(Fl 84 [(32,.bool false),(2,sv),(8,Pt wb 0),(9,av)] a'∧w'=v)) a v:=by
 obtain ⟨u,rfl,hp⟩:=litF hA;simp only[Fls] at hp;clear hA;unfold q8_4 C8 Tryd.f8 seq1 seq2;simp only[Qa,lits,Nat.reduceAdd,hp];clear hp;go_wp2_with fail;first
  |refine ⟨?_,rfl⟩
  |refine ⟨rfl,?_,rfl⟩
  |skip
 exact ⟨rfl,rfl,by
  intro p hp;simp only[Sm,or_false] at hp;rcases hp with rfl|rfl|rfl|rfl<;>first|rfl|exact congrArg I (by omega)|exact congrArg Value.bool (by simp<;>omega)|exact congrArg Value.bool (by simp)|(simp;done)⟩
theorem p8_5 {E:Int}  (hA:Fl 84 [(7,.bool true),(10,I E)] a):
 q8_5.wp Tryd.prog (λe a' w'=>e=.normal∧(Fl 84 [(6,.bool true)] a'∧w'=v)) a v:=by
 obtain ⟨u,rfl,hp⟩:=litF hA;simp only[Fls] at hp;clear hA;unfold q8_5 C8 Tryd.f8 seq1 seq2 condA;simp only[Qa,lits,Nat.reduceAdd,hp];clear hp;go_wp2_with fail;first
  |refine ⟨?_,rfl⟩
  |refine ⟨rfl,?_,rfl⟩
  |skip
 exact ⟨rfl,rfl,by
  intro p hp;simp only[Sm,or_false] at hp;rcases hp with rfl<;>first|rfl|exact congrArg I (by omega)|exact congrArg Value.bool (by simp<;>omega)|exact congrArg Value.bool (by simp)|(simp;done)⟩
theorem grows_below {B:Nat}{w w':World}(h:Grows v w) (k:Below w.heap.size w w'):Grows v w':=⟨Qk h.size k.size,λb hb=>(k.block b (Qp hb h.size)).trans (h.old b hb),k.os.trans h.os,k.output.trans h.output⟩
theorem p8_6 {sv av:Value}{wb:Nat}{E:List His.Ev}{TT:Value->World->Prop}(h16:Calls Tryd.prog 16 #[Pt wb 0] v λe w'=>∃ tv,e=.returned tv∧Grows v w'∧TT tv w') (h34:∀ tv u,Grows v u->TT tv u->Calls Tryd.prog 34 #[sv,av,tv] u λe w'=>∃ lv,e=.returned (.tuple #[lv,I 0])∧w'.ownsRow v.heap.size 70 8 lv E.length (E.flatMap evL)∧Below u.heap.size u w') (hA:Fl 84 [(2,sv),(8,Pt wb 0),(9,av)] a):
 q8_6.wp Tryd.prog (λe a' w'=>e=.normal∧∃ lv,Fl 84 [(11,lv),(12,I 0)] a'∧w'.ownsRow v.heap.size 70 8 lv E.length (E.flatMap evL)∧Grows v w') a v:=by
 have H16:Hid (Calls Tryd.prog 16 #[Pt wb 0] v λe w'=>∃ tv,e=.returned tv∧Grows v w'∧TT tv w'):=⟨h16⟩
 have H34:Hid (∀ tv u,Grows v u->TT tv u->Calls Tryd.prog 34 #[sv,av,tv] u λe w'=>∃ lv,e=.returned (.tuple #[lv,I 0])∧w'.ownsRow v.heap.size 70 8 lv E.length (E.flatMap evL)∧Below u.heap.size u w'):=⟨h34⟩
 clear h16 h34;obtain ⟨u,rfl,hp⟩:=litF hA;simp only[Fls] at hp;clear hA;unfold q8_6 C8 Tryd.f8 seq1 seq2;simp only[Qa,lits,Nat.reduceAdd,hp];clear hp
 go_wp2_with (first
  |(go_at_call 16;refine H16.out.mono ?_;rintro e w1 ⟨tv,rfl,k1,k2⟩;have KK:Hid (Grows v w1∧TT tv w1):=⟨⟨k1,k2⟩⟩;clear k1 k2)
  |(go_at_call 34;refine (H34.out _ _ KK.out.1 KK.out.2).mono ?_;rintro e w2 ⟨lv,rfl,m1,m2⟩;have MM:Hid (w2.ownsRow v.heap.size 70 8 lv E.length (E.flatMap evL)∧Grows v w2):=⟨⟨m1,grows_below (B:=0) KK.out.1 m2⟩⟩;clear m1 m2))
 first
  |exact ⟨lv,⟨rfl,rfl,by
  intro p hp;simp only[Sm,or_false] at hp;rcases hp with rfl|rfl<;>first|rfl|exact congrArg I (by omega)|exact congrArg Value.bool (by simp<;>omega)|exact congrArg Value.bool (by simp)|(simp;done)⟩,MM.out.1,MM.out.2⟩
  |exact ⟨rfl,lv,⟨rfl,rfl,by
  intro p hp;simp only[Sm,or_false] at hp;rcases hp with rfl|rfl<;>first|rfl|exact congrArg I (by omega)|exact congrArg Value.bool (by simp<;>omega)|exact congrArg Value.bool (by simp)|(simp;done)⟩,MM.out.1,MM.out.2⟩
theorem p8_7 {lv:Value}  (hA:Fl 84 [(11,lv),(12,I 0)] a):
 q8_7.wp Tryd.prog (λe a' w'=>e=.normal∧(Fl 84 [(43,.bool false),(11,lv)] a'∧w'=v)) a v:=by
 obtain ⟨u,rfl,hp⟩:=litF hA;simp only[Fls] at hp;clear hA;unfold q8_7 C8 Tryd.f8 seq1 seq2;simp only[Qa,lits,Nat.reduceAdd,hp];clear hp;go_wp2_with fail;first
  |refine ⟨?_,rfl⟩
  |refine ⟨rfl,?_,rfl⟩
  |skip
 exact ⟨rfl,rfl,by
  intro p hp;simp only[Sm,or_false] at hp;rcases hp with rfl|rfl<;>first|rfl|exact congrArg I (by omega)|exact congrArg Value.bool (by simp<;>omega)|exact congrArg Value.bool (by simp)|(simp;done)⟩
theorem p8_9 {lv:Value}  (hA:Fl 84 [(11,lv)] a):
 q8_9.wp Tryd.prog (λe a' w'=>e=.normal∧(Fl 84 [(11,lv),(13,.slice none 0 0)] a'∧w'=v)) a v:=by
 obtain ⟨u,rfl,hp⟩:=litF hA;simp only[Fls] at hp;clear hA;unfold q8_9 C8 Tryd.f8 seq1 seq2;simp only[Qa,lits,Nat.reduceAdd,hp];clear hp;go_wp2_with fail;first
  |refine ⟨?_,rfl⟩
  |refine ⟨rfl,?_,rfl⟩
  |skip
 exact ⟨rfl,rfl,by
  intro p hp;simp only[Sm,or_false] at hp;rcases hp with rfl|rfl<;>first|rfl|exact congrArg I (by omega)|exact congrArg Value.bool (by simp<;>omega)|exact congrArg Value.bool (by simp)|(simp;done)⟩
theorem p8_10  (hA:Fl 84 [(11,.slice p N cap),(13,.slice pp P pc)] a):
 q8_10.wp Tryd.prog (λe a' w'=>e=.normal∧(Fl 84 [(11,.slice p N cap),(13,.slice pp P pc),(14,I 0)] a'∧w'=v)) a v:=by
 obtain ⟨u,rfl,hp⟩:=litF hA;simp only[Fls] at hp;clear hA;unfold q8_10 C8 Tryd.f8 seq1 seq2;simp only[Qa,lits,Nat.reduceAdd,hp];clear hp;go_wp2_with fail;first
  |refine ⟨?_,rfl⟩
  |refine ⟨rfl,?_,rfl⟩
  |skip
 exact ⟨rfl,rfl,by
  intro p hp;simp only[Sm,or_false] at hp;rcases hp with rfl|rfl|rfl<;>first|rfl|exact congrArg I (by omega)|exact congrArg Value.bool (by simp<;>omega)|exact congrArg Value.bool (by simp)|(simp;done)⟩
theorem p8_11  (hA:Fl 84 [(11,.slice p N cap),(13,.slice pp P pc),(14,I (i:Nat))] a):
 q8_11.wp Tryd.prog (λe a' w'=>e=.normal∧(Fl 84 [(47,.bool (decide (i<N))),(11,.slice p N cap),(13,.slice pp P pc),(14,I (i:Nat))] a'∧w'=v)) a v:=by
 obtain ⟨u,rfl,hp⟩:=litF hA;simp only[Fls] at hp;clear hA;unfold q8_11 C8 Tryd.f8 seq1 seq2 Ar Be;simp only[Qa,lits,Nat.reduceAdd,hp];clear hp;go_wp2_with fail;first
  |refine ⟨?_,rfl⟩
  |refine ⟨rfl,?_,rfl⟩
  |skip
 exact ⟨rfl,rfl,by
  intro p hp;simp only[Sm,or_false] at hp;rcases hp with rfl|rfl|rfl|rfl<;>first|rfl|exact congrArg I (by omega)|exact congrArg Value.bool (by simp<;>omega)|exact congrArg Value.bool (by simp)|(simp;done)⟩
theorem p8_12 (hq:i<1000000000) (hA:Fl 84 [(11,.slice p N cap),(13,.slice pp P pc),(14,I (i:Nat))] a):
 q8_12.wp Tryd.prog (λe a' w'=>e=.normal∧(Fl 84 [(11,.slice p N cap),(13,.slice pp P pc),(14,I ((i+1:Nat):Int))] a'∧w'=v)) a v:=by
 have h9:IntKind.i64.wrap ((i:Int)+1)=((i+1:Nat):Int):=by rw[IntKind.wrap_i64];omega
 obtain ⟨u,rfl,hp⟩:=litF hA;simp only[Fls] at hp;clear hA;unfold q8_12 C8 Tryd.f8 seq1 seq2 Ar Be;simp only[Qa,lits,Nat.reduceAdd,hp];clear hp;go_wp2_with fail;first
  |refine ⟨?_,rfl⟩
  |refine ⟨rfl,?_,rfl⟩
  |skip
 exact ⟨rfl,rfl,by
  intro p hp;simp only[Sm,or_false] at hp;rcases hp with rfl|rfl|rfl<;>first|rfl|exact congrArg I (by omega)|exact congrArg Value.bool (by simp<;>omega)|exact congrArg Value.bool (by simp)|(simp;done)⟩
theorem p8_13a (hi:i<N) (c1:v.cell? ⟨g,o+i*8+1,none⟩=some (I po)) (h1:po=1) (hA:Fl 84 [(11,.slice (some ⟨g,o,none⟩) N cap),(13,.slice pp P pc),(14,I (i:Nat))] a):
 q8_13.wp Tryd.prog (λe a' w'=>e=.normal∧(Fl 84 [(63,.bool true),(11,.slice (some ⟨g,o,none⟩) N cap),(13,.slice pp P pc),(14,I (i:Nat))] a'∧w'=v)) a v:=by
 have hi':(i:Int)<(N:Int):=by omega
 subst h1;obtain ⟨u,rfl,hp⟩:=litF hA;simp only[Fls] at hp;clear hA;unfold q8_13 C8 Tryd.f8 seq1 seq2 Ar Be;simp only[Qa,lits,Nat.reduceAdd,hp];clear hp;go_wp2_with fail;first
  |refine ⟨?_,rfl⟩
  |refine ⟨rfl,?_,rfl⟩
  |skip
 exact ⟨rfl,rfl,by
  intro p hp;simp only[Sm,or_false] at hp;rcases hp with rfl|rfl|rfl|rfl<;>first|rfl|exact congrArg I (by omega)|exact congrArg Value.bool (by simp<;>omega)|exact congrArg Value.bool (by simp)|(simp;done)⟩
theorem p8_13b (hi:i<N) (c1:v.cell? ⟨g,o+i*8+1,none⟩=some (I po)) (h1:po=2) (hA:Fl 84 [(11,.slice (some ⟨g,o,none⟩) N cap),(13,.slice pp P pc),(14,I (i:Nat))] a):
 q8_13.wp Tryd.prog (λe a' w'=>e=.normal∧(Fl 84 [(63,.bool true),(11,.slice (some ⟨g,o,none⟩) N cap),(13,.slice pp P pc),(14,I (i:Nat))] a'∧w'=v)) a v:=by
 have hi':(i:Int)<(N:Int):=by omega
 subst h1;obtain ⟨u,rfl,hp⟩:=litF hA;simp only[Fls] at hp;clear hA;unfold q8_13 C8 Tryd.f8 seq1 seq2 Ar Be;simp only[Qa,lits,Nat.reduceAdd,hp];clear hp;go_wp2_with fail;first
  |refine ⟨?_,rfl⟩
  |refine ⟨rfl,?_,rfl⟩
  |skip
 exact ⟨rfl,rfl,by
  intro p hp;simp only[Sm,or_false] at hp;rcases hp with rfl|rfl|rfl|rfl<;>first|rfl|exact congrArg I (by omega)|exact congrArg Value.bool (by simp<;>omega)|exact congrArg Value.bool (by simp)|(simp;done)⟩
theorem p8_13n (hi:i<N) (c1:v.cell? ⟨g,o+i*8+1,none⟩=some (I po)) (h1:¬ po=1) (h2:¬ po=2) (hA:Fl 84 [(11,.slice (some ⟨g,o,none⟩) N cap),(13,.slice pp P pc),(14,I (i:Nat))] a):
 q8_13.wp Tryd.prog (λe a' w'=>e=.normal∧(Fl 84 [(63,.bool false),(11,.slice (some ⟨g,o,none⟩) N cap),(13,.slice pp P pc),(14,I (i:Nat))] a'∧w'=v)) a v:=by
 have hi':(i:Int)<(N:Int):=by omega
 obtain ⟨u,rfl,hp⟩:=litF hA;simp only[Fls] at hp;clear hA;unfold q8_13 C8 Tryd.f8 seq1 seq2 Ar Be;simp only[Qa,lits,Nat.reduceAdd,hp];clear hp;go_wp2_with fail;first
  |refine ⟨?_,rfl⟩
  |refine ⟨rfl,?_,rfl⟩
  |skip
 exact ⟨rfl,rfl,by
  intro p hp;simp only[Sm,or_false] at hp;rcases hp with rfl|rfl|rfl|rfl<;>first|rfl|exact congrArg I (by omega)|exact congrArg Value.bool (by simp<;>omega)|exact congrArg Value.bool (by simp)|(simp;done)⟩
theorem p8_14 {B:Nat}{xs:List Value}{x:His.Ev}(hi:i<N) (hB:B<=v.heap.size) (ho:v.ownsRow B 70 8 (.slice pp P pc) P xs) (hl:P<=100000) (hx:v.rangeAt g (o+i*8) (evC x).toList) (hA:Fl 84 [(11,.slice (some ⟨g,o,none⟩) N cap),(13,.slice pp P pc),(14,I (i:Nat))] a):
 q8_14.wp Tryd.prog (λe a' w'=>e=.normal∧∃ g2 cpg,Fl 84 [(11,.slice (some ⟨g,o,none⟩) N cap),(13,.slice (some ⟨g2,0,none⟩) (P+1) cpg),(14,I (i:Nat))] a'∧w'.ownsRow B 70 8 (.slice (some ⟨g2,0,none⟩) (P+1) cpg) (P+1) (xs++evL x)∧(v.alloc (.cells (evC x) 70)).grownBy w' (Value.slice pp P pc).ownBlock) a v:=by
 have HO:Hid (v.ownsRow B 70 8 (.slice pp P pc) P xs):=⟨ho⟩
 have HX:Hid (v.rangeAt g (o+i*8) (evC x).toList):=⟨hx⟩
 clear ho hx;obtain ⟨j0,hj,hj0,hj1,hj2⟩:=info_parts R3.info33;have hi':(i:Int)<(N:Int):=by omega
 obtain ⟨u,rfl,hp⟩:=litF hA;simp only[Fls] at hp;clear hA;unfold q8_14 C8 Tryd.f8 seq1 seq2 condA Ar Be;simp only[Qa,lits,Nat.reduceAdd,hp];clear hp
 go_wp2_with (first
  |((with_reducible refine R3.wp_load33 (.tmp 67) ?_ ?_ g (o+i*8) ?_ x ?_ ?_);rfl;rfl;rfl;exact HX.out)
  |(refine wpList_append_lies _ rfl (.tmp 64) (.tmp 69) 66 rfl B 70 j0 _ 8 64 Tryd.underlying66 hj hj0 hj1 hj2 rfl (by decide) (.slice pp P pc) P xs rfl (D8 (Ae (Below.refl _ _) _) HO.out) ⟨_,0,none⟩ 1 1 (evL x) rfl rfl (R3.news8 _ _ _) (R3.one8 _) (by decide) (by unfold maxLen;omega) (by omega) (by simp;omega) _ rfl ?_
    intro g2 cpg w6 hown6 hgrow6 hat6 hlt6))
 first
  |exact ⟨g2,cpg,⟨rfl,rfl,by
  intro p hp;simp only[Sm,or_false] at hp;rcases hp with rfl|rfl|rfl<;>first|rfl|exact congrArg I (by omega)|exact congrArg Value.bool (by simp<;>omega)|exact congrArg Value.bool (by simp)|(simp;done)⟩,hown6,hgrow6⟩
  |exact ⟨rfl,g2,cpg,⟨rfl,rfl,by
  intro p hp;simp only[Sm,or_false] at hp;rcases hp with rfl|rfl|rfl<;>first|rfl|exact congrArg I (by omega)|exact congrArg Value.bool (by simp<;>omega)|exact congrArg Value.bool (by simp)|(simp;done)⟩,hown6,hgrow6⟩
  |exact ⟨g2,cpg,⟨rfl,rfl,by
  intro p hp;simp only[Sm,or_false] at hp;rcases hp with rfl|rfl|rfl<;>first|rfl|exact congrArg I (by omega)|exact congrArg Value.bool (by simp<;>omega)|exact congrArg Value.bool (by simp)|(simp;done)⟩,hown6⟩
  |exact ⟨g2,⟨cpg,⟨rfl,rfl,by
  intro p hp;simp only[Sm,or_false] at hp;rcases hp with rfl|rfl|rfl<;>first|rfl|exact congrArg I (by omega)|exact congrArg Value.bool (by simp<;>omega)|exact congrArg Value.bool (by simp)|(simp;done)⟩,hown6⟩⟩
  |exact ⟨g2,cpg,⟨⟨rfl,rfl,by
  intro p hp;simp only[Sm,or_false] at hp;rcases hp with rfl|rfl|rfl<;>first|rfl|exact congrArg I (by omega)|exact congrArg Value.bool (by simp<;>omega)|exact congrArg Value.bool (by simp)|(simp;done)⟩,hown6⟩,hgrow6⟩
  |(trace_state;fail)
theorem p8_15y (h:12<P) (hA:Fl 84 [(13,.slice pp P pc)] a):
 q8_15.wp Tryd.prog (λe a' w'=>e=.normal∧(Fl 84 [(73,.bool true),(13,.slice pp P pc)] a'∧w'=v)) a v:=by
 have h':(P:Int) > 12:=by omega
 obtain ⟨u,rfl,hp⟩:=litF hA;simp only[Fls] at hp;clear hA;unfold q8_15 C8 Tryd.f8 seq1 seq2;simp only[Qa,lits,Nat.reduceAdd,hp];clear hp;go_wp2_with fail;first
  |refine ⟨?_,rfl⟩
  |refine ⟨rfl,?_,rfl⟩
  |skip
 exact ⟨rfl,rfl,by
  intro p hp;simp only[Sm,or_false] at hp;rcases hp with rfl|rfl<;>first|rfl|exact congrArg I (by omega)|exact congrArg Value.bool (by simp<;>omega)|exact congrArg Value.bool (by simp)|(simp;done)⟩
theorem p8_15n (h:P<=12) (hA:Fl 84 [(13,.slice pp P pc)] a):
 q8_15.wp Tryd.prog (λe a' w'=>e=.normal∧(Fl 84 [(73,.bool false),(13,.slice pp P pc)] a'∧w'=v)) a v:=by
 have h':¬ (P:Int) > 12:=by omega
 have h'':¬ (12:Int)<(P:Int):=by omega
 obtain ⟨u,rfl,hp⟩:=litF hA;simp only[Fls] at hp;clear hA;unfold q8_15 C8 Tryd.f8 seq1 seq2;simp only[Qa,lits,Nat.reduceAdd,hp];clear hp;go_wp2_with fail;first
  |refine ⟨?_,rfl⟩
  |refine ⟨rfl,?_,rfl⟩
  |skip
 exact ⟨rfl,rfl,by
  intro p hp;simp only[Sm,or_false] at hp;rcases hp with rfl|rfl<;>first|rfl|exact congrArg I (by omega)|exact congrArg Value.bool (by simp<;>omega)|exact congrArg Value.bool (by simp)|(simp;done)⟩
theorem p8_16   (hA:Fl 84 [] a):
 q8_16.wp Tryd.prog (λe a' w'=>e=.normal∧(Fl 84 [(6,.bool true)] a'∧w'=v)) a v:=by
 obtain ⟨u,rfl,-⟩:=litF hA;clear hA;unfold q8_16 C8 Tryd.f8 seq1 seq2 condA;simp only[Qa,lits,Nat.reduceAdd];go_wp2_with fail;first
  |refine ⟨?_,rfl⟩
  |refine ⟨rfl,?_,rfl⟩
  |skip
 exact ⟨rfl,rfl,by
  intro p hp;simp only[Sm,or_false] at hp;rcases hp with rfl<;>first|rfl|exact congrArg I (by omega)|exact congrArg Value.bool (by simp<;>omega)|exact congrArg Value.bool (by simp)|(simp;done)⟩
theorem p8_17 {cv:Value}(h35:Calls Tryd.prog 35 #[I 2,I 0,cv] v λe w'=>e=.returned (.tuple #[.bool true,I 0])∧Below v.heap.size v w') (hA:Fl 84 [(13,cv)] a):
 q8_17.wp Tryd.prog (λe a' w'=>e=.normal∧Fl 84 [(15,.bool true),(16,I 0)] a'∧Below v.heap.size v w') a v:=by
 have H35:Hid (Calls Tryd.prog 35 #[I 2,I 0,cv] v λe w'=>e=.returned (.tuple #[.bool true,I 0])∧Below v.heap.size v w'):=⟨h35⟩
 clear h35;obtain ⟨u,rfl,hp⟩:=litF hA;simp only[Fls] at hp;clear hA;unfold q8_17 C8 Tryd.f8 seq1 seq2;simp only[Qa,lits,Nat.reduceAdd,hp];clear hp
 go_wp2_with (go_at_call 35;refine H35.out.mono ?_;rintro e w1 ⟨rfl,kk⟩;have KK:Hid (Below v.heap.size v w1):=⟨kk⟩;clear kk)
 first
  |exact ⟨⟨rfl,rfl,by
  intro p hp;simp only[Sm,or_false] at hp;rcases hp with rfl|rfl<;>first|rfl|exact congrArg I (by omega)|exact congrArg Value.bool (by simp<;>omega)|exact congrArg Value.bool (by simp)|(simp;done)⟩,KK.out⟩
  |exact ⟨rfl,⟨rfl,rfl,by
  intro p hp;simp only[Sm,or_false] at hp;rcases hp with rfl|rfl<;>first|rfl|exact congrArg I (by omega)|exact congrArg Value.bool (by simp<;>omega)|exact congrArg Value.bool (by simp)|(simp;done)⟩,KK.out⟩
theorem p8_18   (hA:Fl 84 [(15,.bool true),(16,I 0)] a):
 q8_18.wp Tryd.prog (λe a' w'=>e=.normal∧(Fl 84 [(6,.bool true)] a'∧w'=v)) a v:=by
 obtain ⟨u,rfl,hp⟩:=litF hA;simp only[Fls] at hp;clear hA;unfold q8_18 C8 Tryd.f8 seq1 seq2;simp only[Qa,lits,Nat.reduceAdd,hp];clear hp;go_wp2_with fail;first
  |refine ⟨?_,rfl⟩
  |refine ⟨rfl,?_,rfl⟩
  |skip
 exact ⟨rfl,rfl,by
  intro p hp;simp only[Sm,or_false] at hp;rcases hp with rfl<;>first|rfl|exact congrArg I (by omega)|exact congrArg Value.bool (by simp<;>omega)|exact congrArg Value.bool (by simp)|(simp;done)⟩
end Go.Proofs.YtbbhahigofeacaaDoor.Gen
