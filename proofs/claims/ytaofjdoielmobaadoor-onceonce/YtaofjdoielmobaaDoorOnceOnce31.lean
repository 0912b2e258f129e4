/- Of the proof of OnceOnce. Part 31 of 35. (Joined, by program, and written short, of: S13P.) -/
import Derived.Test.YtaofjdoielmobaaDoorOnceOnce04
import Derived.Test.YtaofjdoielmobaaDoorOnceOnce21
import Derived.Test.YtaofjdoielmobaaDoorOnceOnce23
import Derived.Deep.RegionLaw
set_option linter.unusedSimpArgs false
set_option linter.unusedVariables false
set_option maxHeartbeats 4000000
set_option maxRecDepth 100000
namespace Go.Proofs.YtaofjdoielmobaaDoor.Gen
open Go Go.Lift Go.Conc Go.RowKit
noncomputable def C13:Code:=Tryd.f13.body.getD .skip
noncomputable def q13_0:Code:=(seq1 C13)
noncomputable def q13_1:Code:=(seq1 (seq2 C13))
noncomputable def q13_2:Code:=(seq1 (seq2 (seq2 C13)))
noncomputable def q13_3:Code:=(seq1 (seq2 (seq2 (seq2 C13))))
noncomputable def q13_4:Code:=(seq1 (seq2 (seq2 (seq2 (seq2 C13)))))
noncomputable def q13_5:Code:=(seq1 (seq2 (seq2 (seq2 (seq2 (seq2 C13))))))
noncomputable def q13_6:Code:=(seq1 (seq1 (seq2 (seq2 (seq2 (seq2 (seq2 (seq2 C13))))))))
noncomputable def q13_7:Code:=(seq1 (seq1 (loopC (blockC (seq2 (seq1 (seq2 (seq2 (seq2 (seq2 (seq2 (seq2 C13))))))))))))
noncomputable def q13_9:Code:=(seq1 (blockC (seq1 (seq2 (loopC (blockC (seq2 (seq1 (seq2 (seq2 (seq2 (seq2 (seq2 (seq2 C13))))))))))))))
noncomputable def q13_10:Code:=(seq1 (seq1 (seq2 (blockC (seq1 (seq2 (loopC (blockC (seq2 (seq1 (seq2 (seq2 (seq2 (seq2 (seq2 (seq2 C13))))))))))))))))
noncomputable def q13_11:Code:=(seq1 (condA (seq2 (seq1 (seq2 (blockC (seq1 (seq2 (loopC (blockC (seq2 (seq1 (seq2 (seq2 (seq2 (seq2 (seq2 (seq2 C13))))))))))))))))))
noncomputable def q13_12:Code:=(seq1 (seq2 (seq2 (blockC (seq1 (seq2 (loopC (blockC (seq2 (seq1 (seq2 (seq2 (seq2 (seq2 (seq2 (seq2 C13))))))))))))))))
noncomputable def q13_13:Code:=(seq1 (seq2 (seq2 (seq2 (blockC (seq1 (seq2 (loopC (blockC (seq2 (seq1 (seq2 (seq2 (seq2 (seq2 (seq2 (seq2 C13)))))))))))))))))
noncomputable def q13_21:Code:=(seq1 (seq1 (blockC (seq2 (seq2 (seq2 (seq2 (blockC (seq1 (seq2 (loopC (blockC (seq2 (seq1 (seq2 (seq2 (seq2 (seq2 (seq2 (seq2 C13))))))))))))))))))))
noncomputable def q13_22:Code:=(condB (seq2 (seq1 (blockC (seq2 (seq2 (seq2 (seq2 (blockC (seq1 (seq2 (loopC (blockC (seq2 (seq1 (seq2 (seq2 (seq2 (seq2 (seq2 (seq2 C13)))))))))))))))))))))
noncomputable def q13_23:Code:=(seq1 (seq1 (condA (seq2 (blockC (seq2 (seq2 (seq2 (seq2 (blockC (seq1 (seq2 (loopC (blockC (seq2 (seq1 (seq2 (seq2 (seq2 (seq2 (seq2 (seq2 C13))))))))))))))))))))))
noncomputable def q13_24:Code:=(seq1 (condA (seq2 (seq1 (condA (seq2 (blockC (seq2 (seq2 (seq2 (seq2 (blockC (seq1 (seq2 (loopC (blockC (seq2 (seq1 (seq2 (seq2 (seq2 (seq2 (seq2 (seq2 C13))))))))))))))))))))))))
noncomputable def q13_25:Code:=(seq1 (seq2 (condA (seq2 (blockC (seq2 (seq2 (seq2 (seq2 (blockC (seq1 (seq2 (loopC (blockC (seq2 (seq1 (seq2 (seq2 (seq2 (seq2 (seq2 (seq2 C13))))))))))))))))))))))
noncomputable def q13_26:Code:=(seq1 (seq1 (seq2 (seq2 (condA (seq2 (blockC (seq2 (seq2 (seq2 (seq2 (blockC (seq1 (seq2 (loopC (blockC (seq2 (seq1 (seq2 (seq2 (seq2 (seq2 (seq2 (seq2 C13))))))))))))))))))))))))
noncomputable def q13_27:Code:=(seq1 (seq2 (seq2 (seq2 (condA (seq2 (blockC (seq2 (seq2 (seq2 (seq2 (blockC (seq1 (seq2 (loopC (blockC (seq2 (seq1 (seq2 (seq2 (seq2 (seq2 (seq2 (seq2 C13))))))))))))))))))))))))
noncomputable def q13_28:Code:=(seq1 (seq1 (seq2 (seq2 (seq2 (seq2 (condA (seq2 (blockC (seq2 (seq2 (seq2 (seq2 (blockC (seq1 (seq2 (loopC (blockC (seq2 (seq1 (seq2 (seq2 (seq2 (seq2 (seq2 (seq2 C13))))))))))))))))))))))))))
noncomputable def q13_29:Code:=(seq1 (condA (seq2 (seq1 (seq2 (seq2 (seq2 (seq2 (condA (seq2 (blockC (seq2 (seq2 (seq2 (seq2 (blockC (seq1 (seq2 (loopC (blockC (seq2 (seq1 (seq2 (seq2 (seq2 (seq2 (seq2 (seq2 C13))))))))))))))))))))))))))))
noncomputable def q13_30:Code:=(seq1 (seq2 (condA (seq2 (seq1 (seq2 (seq2 (seq2 (seq2 (condA (seq2 (blockC (seq2 (seq2 (seq2 (seq2 (blockC (seq1 (seq2 (loopC (blockC (seq2 (seq1 (seq2 (seq2 (seq2 (seq2 (seq2 (seq2 C13)))))))))))))))))))))))))))))
noncomputable def q13_31:Code:=(seq1 (seq2 (seq2 (condA (seq2 (seq1 (seq2 (seq2 (seq2 (seq2 (condA (seq2 (blockC (seq2 (seq2 (seq2 (seq2 (blockC (seq1 (seq2 (loopC (blockC (seq2 (seq1 (seq2 (seq2 (seq2 (seq2 (seq2 (seq2 C13))))))))))))))))))))))))))))))
noncomputable def q13_32:Code:=(seq1 (seq2 (seq2 (seq2 (seq2 (seq2 (condA (seq2 (blockC (seq2 (seq2 (seq2 (seq2 (blockC (seq1 (seq2 (loopC (blockC (seq2 (seq1 (seq2 (seq2 (seq2 (seq2 (seq2 (seq2 C13))))))))))))))))))))))))))
noncomputable def q13_33:Code:=(seq1 (seq2 (seq2 (seq2 (seq2 (seq2 (seq2 (condA (seq2 (blockC (seq2 (seq2 (seq2 (seq2 (blockC (seq1 (seq2 (loopC (blockC (seq2 (seq1 (seq2 (seq2 (seq2 (seq2 (seq2 (seq2 C13)))))))))))))))))))))))))))
noncomputable def q13_34:Code:=(seq1 (condA (seq2 (seq2 (seq2 (seq2 (seq2 (seq2 (seq2 (condA (seq2 (blockC (seq2 (seq2 (seq2 (seq2 (blockC (seq1 (seq2 (loopC (blockC (seq2 (seq1 (seq2 (seq2 (seq2 (seq2 (seq2 (seq2 C13)))))))))))))))))))))))))))))
noncomputable def q13_14:Code:=(seq1 (condB (seq2 (blockC (seq2 (seq2 (seq2 (seq2 (blockC (seq1 (seq2 (loopC (blockC (seq2 (seq1 (seq2 (seq2 (seq2 (seq2 (seq2 (seq2 C13)))))))))))))))))))))
noncomputable def q13_15:Code:=(seq1 (seq1 (seq2 (condB (seq2 (blockC (seq2 (seq2 (seq2 (seq2 (blockC (seq1 (seq2 (loopC (blockC (seq2 (seq1 (seq2 (seq2 (seq2 (seq2 (seq2 (seq2 C13)))))))))))))))))))))))
noncomputable def q13_16:Code:=(condA (seq2 (seq1 (seq2 (condB (seq2 (blockC (seq2 (seq2 (seq2 (seq2 (blockC (seq1 (seq2 (loopC (blockC (seq2 (seq1 (seq2 (seq2 (seq2 (seq2 (seq2 (seq2 C13))))))))))))))))))))))))
noncomputable def q13_17:Code:=(seq1 (seq2 (seq2 (condB (seq2 (blockC (seq2 (seq2 (seq2 (seq2 (blockC (seq1 (seq2 (loopC (blockC (seq2 (seq1 (seq2 (seq2 (seq2 (seq2 (seq2 (seq2 C13)))))))))))))))))))))))
noncomputable def q13_18:Code:=(seq1 (condA (seq2 (seq2 (seq2 (condB (seq2 (blockC (seq2 (seq2 (seq2 (seq2 (blockC (seq1 (seq2 (loopC (blockC (seq2 (seq1 (seq2 (seq2 (seq2 (seq2 (seq2 (seq2 C13)))))))))))))))))))))))))
noncomputable def q13_19:Code:=(seq1 (seq2 (condA (seq2 (seq2 (seq2 (condB (seq2 (blockC (seq2 (seq2 (seq2 (seq2 (blockC (seq1 (seq2 (loopC (blockC (seq2 (seq1 (seq2 (seq2 (seq2 (seq2 (seq2 (seq2 C13))))))))))))))))))))))))))
noncomputable def q13_20:Code:=(seq1 (condA (seq2 (seq2 (condA (seq2 (seq2 (seq2 (condB (seq2 (blockC (seq2 (seq2 (seq2 (seq2 (blockC (seq1 (seq2 (loopC (blockC (seq2 (seq1 (seq2 (seq2 (seq2 (seq2 (seq2 (seq2 C13))))))))))))))))))))))))))))
noncomputable def q13_8:Code:=(seq2 (seq2 (loopC (blockC (seq2 (seq1 (seq2 (seq2 (seq2 (seq2 (seq2 (seq2 C13))))))))))))
noncomputable def q13_35:Code:=(seq1 (seq2 (seq2 (seq2 (seq2 (seq2 (seq2 (seq2 C13))))))))
noncomputable def K13_2:Code:=(.seq (.seq q13_21 (.cond ( .tmp 100 ) .skip q13_22)) (.cond ( .tmp 100 ) (.seq (.seq q13_23 (.cond ( .tmp 115 ) (.seq q13_24 .ret) .skip)) (.seq q13_25 (.seq (.seq q13_26 (.cond ( .tmp 131 ) (.exit 1) .skip)) (.seq q13_27 (.seq (.seq q13_28 (.cond ( .tmp 138 ) (.seq q13_29 (.seq q13_30 (.seq q13_31 (.exit 1)))) .skip)) (.seq q13_32 (.seq q13_33 (.cond ( .tmp 172 ) (.seq q13_34 .ret) .skip)))))))) (.seq q13_14 (.seq (.seq q13_15 (.cond ( .tmp 62 ) q13_16 .skip)) (.seq q13_17 (.cond ( .tmp 84 ) (.seq q13_18 (.seq q13_19 (.cond ( .tmp 99 ) (.seq q13_20 .ret) .skip))) .skip))))))
noncomputable def K13_1:Code:=(.seq q13_9 (.seq (.seq q13_10 (.cond ( .tmp 49 ) (.seq q13_11 .ret) .skip)) (.seq q13_12 (.seq q13_13 (.block 2 K13_2)))))
noncomputable def K13_0:Code:=(.loop (.seq (.seq q13_7 (.cond ( .tmp 33 ) .skip (.exit 0))) (.seq (.block 1 K13_1) q13_8)))
theorem e13:C13=(.seq q13_0 (.seq q13_1 (.seq q13_2 (.seq q13_3 (.seq q13_4 (.seq q13_5 (.seq (.seq q13_6 (.block 0 K13_0)) (.seq q13_35 .ret)))))))):=by kernel_rfl
theorem p13_0 {v:World} {a:Act} {p:Option Addr} {T ct m b o N cap:Nat}  (hA:Fl 173 [(0,.slice p T ct),(1,I (m:Nat)),(2,.slice (some ⟨b,o,none⟩) N cap)] a) :
 q13_0.wp Tryd.prog (fun e a' w'=>e=.normal∧(Fl 173 [(0,.slice p T ct),(1,I (m:Nat)),(2,.slice (some ⟨b,o,none⟩) N cap),(6,.bool false)] a'∧w'=v)) a v:=by
 obtain ⟨u,rfl,hp⟩:=litF hA
 simp only [Fls] at hp
 clear hA
 unfold q13_0 C13 Tryd.f13 seq1
 simp only [Option.getD_some,lits,Nat.reduceAdd,hp]
 clear hp
 go_wp2_with fail
 first
  |refine ⟨?_,rfl⟩
  |refine ⟨rfl,?_,rfl⟩
  |skip
 exact ⟨rfl,rfl,by
  intro p hp
  simp only [List.mem_cons,List.not_mem_nil,or_false] at hp
  rcases hp with rfl|rfl|rfl|rfl<;>first|rfl|exact congrArg I (by omega)|exact congrArg Value.bool (by simp<;>omega)|exact congrArg Value.bool (by simp)|(simp;done)⟩
theorem p13_1 {v:World} {a:Act} {p:Option Addr} {T ct m b o N cap:Nat} (hm:m≤1000) (hA:Fl 173 [(0,.slice p T ct),(1,I (m:Nat)),(2,.slice (some ⟨b,o,none⟩) N cap)] a) :
 q13_1.wp Tryd.prog (fun e a' w'=>e=.normal∧(Fl 173 [(0,.slice p T ct),(1,I (m:Nat)),(2,.slice (some ⟨b,o,none⟩) N cap),(7,.slice (some ⟨v.heap.size,0,none⟩) m m)] a'∧w'=v.alloc (.cells (madeCells #[I 0] m) 3))) a v:=by
 have hmk:=make_3 m (by omega)
 obtain ⟨u,rfl,hp⟩:=litF hA
 simp only [Fls] at hp
 clear hA
 unfold q13_1 C13 Tryd.f13 seq1 seq2
 simp only [Option.getD_some,lits,Nat.reduceAdd,hp]
 clear hp
 go_wp2_with fail
 first
  |refine ⟨?_,rfl⟩
  |refine ⟨rfl,?_,rfl⟩
  |skip
 exact ⟨rfl,rfl,by
  intro p hp
  simp only [List.mem_cons,List.not_mem_nil,or_false] at hp
  rcases hp with rfl|rfl|rfl|rfl<;>first|rfl|exact congrArg I (by omega)|exact congrArg Value.bool (by simp<;>omega)|exact congrArg Value.bool (by simp)|(simp;done)⟩
theorem p13_2 {v:World} {a:Act} {p:Option Addr} {T ct m b o N cap:Nat} {Sb:Nat} (hm:m≤1000) (hA:Fl 173 [(0,.slice p T ct),(1,I (m:Nat)),(2,.slice (some ⟨b,o,none⟩) N cap),(7,.slice (some ⟨Sb,0,none⟩) m m)] a) :
 q13_2.wp Tryd.prog (fun e a' w'=>e=.normal∧(Fl 173 [(0,.slice p T ct),(1,I (m:Nat)),(2,.slice (some ⟨b,o,none⟩) N cap),(7,.slice (some ⟨Sb,0,none⟩) m m),(8,.slice (some ⟨v.heap.size,0,none⟩) m m)] a'∧w'=v.alloc (.cells (madeCells #[.bool false] m) 4))) a v:=by
 have hmk:=make_4 m (by omega)
 obtain ⟨u,rfl,hp⟩:=litF hA
 simp only [Fls] at hp
 clear hA
 unfold q13_2 C13 Tryd.f13 seq1 seq2
 simp only [Option.getD_some,lits,Nat.reduceAdd,hp]
 clear hp
 go_wp2_with fail
 first
  |refine ⟨?_,rfl⟩
  |refine ⟨rfl,?_,rfl⟩
  |skip
 exact ⟨rfl,rfl,by
  intro p hp
  simp only [List.mem_cons,List.not_mem_nil,or_false] at hp
  rcases hp with rfl|rfl|rfl|rfl|rfl<;>first|rfl|exact congrArg I (by omega)|exact congrArg Value.bool (by simp<;>omega)|exact congrArg Value.bool (by simp)|(simp;done)⟩
theorem p13_3 {v:World} {a:Act} {p:Option Addr} {T ct m b o N cap:Nat} {Sb Eb:Nat} (hm:N≤8) (hA:Fl 173 [(0,.slice p T ct),(1,I (m:Nat)),(2,.slice (some ⟨b,o,none⟩) N cap),(7,.slice (some ⟨Sb,0,none⟩) m m),(8,.slice (some ⟨Eb,0,none⟩) m m)] a) :
 q13_3.wp Tryd.prog (fun e a' w'=>e=.normal∧(Fl 173 [(0,.slice p T ct),(1,I (m:Nat)),(2,.slice (some ⟨b,o,none⟩) N cap),(7,.slice (some ⟨Sb,0,none⟩) m m),(8,.slice (some ⟨Eb,0,none⟩) m m),(9,.slice (some ⟨v.heap.size,0,none⟩) N N)] a'∧w'=v.alloc (.cells (madeCells #[.bool false] N) 4))) a v:=by
 have hmk:=make_4 N (by omega)
 obtain ⟨u,rfl,hp⟩:=litF hA
 simp only [Fls] at hp
 clear hA
 unfold q13_3 C13 Tryd.f13 seq1 seq2
 simp only [Option.getD_some,lits,Nat.reduceAdd,hp]
 clear hp
 go_wp2_with fail
 first
  |refine ⟨?_,rfl⟩
  |refine ⟨rfl,?_,rfl⟩
  |skip
 exact ⟨rfl,rfl,by
  intro p hp
  simp only [List.mem_cons,List.not_mem_nil,or_false] at hp
  rcases hp with rfl|rfl|rfl|rfl|rfl|rfl<;>first|rfl|exact congrArg I (by omega)|exact congrArg Value.bool (by simp<;>omega)|exact congrArg Value.bool (by simp)|(simp;done)⟩
theorem p13_4 {v:World} {a:Act} {p:Option Addr} {T ct m b o N cap:Nat} {Sb Eb Lb:Nat} (hm:N≤8) (hA:Fl 173 [(0,.slice p T ct),(1,I (m:Nat)),(2,.slice (some ⟨b,o,none⟩) N cap),(7,.slice (some ⟨Sb,0,none⟩) m m),(8,.slice (some ⟨Eb,0,none⟩) m m),(9,.slice (some ⟨Lb,0,none⟩) N N)] a) :
 q13_4.wp Tryd.prog (fun e a' w'=>e=.normal∧(Fl 173 [(0,.slice p T ct),(1,I (m:Nat)),(2,.slice (some ⟨b,o,none⟩) N cap),(7,.slice (some ⟨Sb,0,none⟩) m m),(8,.slice (some ⟨Eb,0,none⟩) m m),(9,.slice (some ⟨Lb,0,none⟩) N N),(10,.slice (some ⟨v.heap.size,0,none⟩) N N)] a'∧w'=v.alloc (.cells (madeCells #[I 0] N) 3))) a v:=by
 have hmk:=make_3 N (by omega)
 obtain ⟨u,rfl,hp⟩:=litF hA
 simp only [Fls] at hp
 clear hA
 unfold q13_4 C13 Tryd.f13 seq1 seq2
 simp only [Option.getD_some,lits,Nat.reduceAdd,hp]
 clear hp
 go_wp2_with fail
 first
  |refine ⟨?_,rfl⟩
  |refine ⟨rfl,?_,rfl⟩
  |skip
 exact ⟨rfl,rfl,by
  intro p hp
  simp only [List.mem_cons,List.not_mem_nil,or_false] at hp
  rcases hp with rfl|rfl|rfl|rfl|rfl|rfl|rfl<;>first|rfl|exact congrArg I (by omega)|exact congrArg Value.bool (by simp<;>omega)|exact congrArg Value.bool (by simp)|(simp;done)⟩
theorem p13_5 {v:World} {a:Act} {p:Option Addr} {T ct m b o N cap:Nat} {Sb Eb Lb Cb:Nat} (hm:N≤8) (hA:Fl 173 [(0,.slice p T ct),(1,I (m:Nat)),(2,.slice (some ⟨b,o,none⟩) N cap),(7,.slice (some ⟨Sb,0,none⟩) m m),(8,.slice (some ⟨Eb,0,none⟩) m m),(9,.slice (some ⟨Lb,0,none⟩) N N),(10,.slice (some ⟨Cb,0,none⟩) N N)] a) :
 q13_5.wp Tryd.prog (fun e a' w'=>e=.normal∧(Fl 173 [(0,.slice p T ct),(1,I (m:Nat)),(2,.slice (some ⟨b,o,none⟩) N cap),(7,.slice (some ⟨Sb,0,none⟩) m m),(8,.slice (some ⟨Eb,0,none⟩) m m),(9,.slice (some ⟨Lb,0,none⟩) N N),(10,.slice (some ⟨Cb,0,none⟩) N N),(11,.slice (some ⟨v.heap.size,0,none⟩) N N)] a'∧w'=v.alloc (.cells (madeCells #[I 0] N) 3))) a v:=by
 have hmk:=make_3 N (by omega)
 obtain ⟨u,rfl,hp⟩:=litF hA
 simp only [Fls] at hp
 clear hA
 unfold q13_5 C13 Tryd.f13 seq1 seq2
 simp only [Option.getD_some,lits,Nat.reduceAdd,hp]
 clear hp
 go_wp2_with fail
 first
  |refine ⟨?_,rfl⟩
  |refine ⟨rfl,?_,rfl⟩
  |skip
 exact ⟨rfl,rfl,by
  intro p hp
  simp only [List.mem_cons,List.not_mem_nil,or_false] at hp
  rcases hp with rfl|rfl|rfl|rfl|rfl|rfl|rfl|rfl<;>first|rfl|exact congrArg I (by omega)|exact congrArg Value.bool (by simp<;>omega)|exact congrArg Value.bool (by simp)|(simp;done)⟩
theorem p13_6 {v:World} {a:Act} {p:Option Addr} {T ct m b o N cap Sb Eb Lb Cb Wb:Nat}  (hA:Fl 173 [(0,.slice p T ct),(1,I (m:Nat)),(2,.slice (some ⟨b,o,none⟩) N cap),(7,.slice (some ⟨Sb,0,none⟩) m m),(8,.slice (some ⟨Eb,0,none⟩) m m),(9,.slice (some ⟨Lb,0,none⟩) N N),(10,.slice (some ⟨Cb,0,none⟩) N N),(11,.slice (some ⟨Wb,0,none⟩) N N)] a) :
 q13_6.wp Tryd.prog (fun e a' w'=>e=.normal∧(Fl 173 [(0,.slice p T ct),(1,I (m:Nat)),(2,.slice (some ⟨b,o,none⟩) N cap),(7,.slice (some ⟨Sb,0,none⟩) m m),(8,.slice (some ⟨Eb,0,none⟩) m m),(9,.slice (some ⟨Lb,0,none⟩) N N),(10,.slice (some ⟨Cb,0,none⟩) N N),(11,.slice (some ⟨Wb,0,none⟩) N N),(12,I ((0:Nat):Int))] a'∧w'=v)) a v:=by
 obtain ⟨u,rfl,hp⟩:=litF hA
 simp only [Fls] at hp
 clear hA
 unfold q13_6 C13 Tryd.f13 seq1 seq2
 simp only [Option.getD_some,lits,Nat.reduceAdd,hp]
 clear hp
 go_wp2_with fail
 first
  |refine ⟨?_,rfl⟩
  |refine ⟨rfl,?_,rfl⟩
  |skip
 exact ⟨rfl,rfl,by
  intro p hp
  simp only [List.mem_cons,List.not_mem_nil,or_false] at hp
  rcases hp with rfl|rfl|rfl|rfl|rfl|rfl|rfl|rfl|rfl<;>first|rfl|exact congrArg I (by omega)|exact congrArg Value.bool (by simp<;>omega)|exact congrArg Value.bool (by simp)|(simp;done)⟩
theorem p13_7 {v:World} {a:Act} {p:Option Addr} {T ct m b o N cap Sb Eb Lb Cb Wb:Nat} {i:Nat}  (hA:Fl 173 [(0,.slice p T ct),(1,I (m:Nat)),(2,.slice (some ⟨b,o,none⟩) N cap),(7,.slice (some ⟨Sb,0,none⟩) m m),(8,.slice (some ⟨Eb,0,none⟩) m m),(9,.slice (some ⟨Lb,0,none⟩) N N),(10,.slice (some ⟨Cb,0,none⟩) N N),(11,.slice (some ⟨Wb,0,none⟩) N N),(12,I (i:Nat))] a) :
 q13_7.wp Tryd.prog (fun e a' w'=>e=.normal∧(Fl 173 [(33,.bool (decide (i<T))),(0,.slice p T ct),(1,I (m:Nat)),(2,.slice (some ⟨b,o,none⟩) N cap),(7,.slice (some ⟨Sb,0,none⟩) m m),(8,.slice (some ⟨Eb,0,none⟩) m m),(9,.slice (some ⟨Lb,0,none⟩) N N),(10,.slice (some ⟨Cb,0,none⟩) N N),(11,.slice (some ⟨Wb,0,none⟩) N N),(12,I (i:Nat))] a'∧w'=v)) a v:=by
 obtain ⟨u,rfl,hp⟩:=litF hA
 simp only [Fls] at hp
 clear hA
 unfold q13_7 C13 Tryd.f13 seq1 seq2 blockC loopC
 simp only [Option.getD_some,lits,Nat.reduceAdd,hp]
 clear hp
 go_wp2_with fail
 first
  |refine ⟨?_,rfl⟩
  |refine ⟨rfl,?_,rfl⟩
  |skip
 exact ⟨rfl,rfl,by
  intro p hp
  simp only [List.mem_cons,List.not_mem_nil,or_false] at hp
  rcases hp with rfl|rfl|rfl|rfl|rfl|rfl|rfl|rfl|rfl|rfl<;>first|rfl|exact congrArg I (by omega)|exact congrArg Value.bool (by simp<;>omega)|exact congrArg Value.bool (by simp)|(simp;done)⟩
theorem p13_8 {v:World} {a:Act} {p:Option Addr} {T ct m b o N cap Sb Eb Lb Cb Wb:Nat} {i:Nat} (hq:i<1000000000) (hA:Fl 173 [(0,.slice p T ct),(1,I (m:Nat)),(2,.slice (some ⟨b,o,none⟩) N cap),(7,.slice (some ⟨Sb,0,none⟩) m m),(8,.slice (some ⟨Eb,0,none⟩) m m),(9,.slice (some ⟨Lb,0,none⟩) N N),(10,.slice (some ⟨Cb,0,none⟩) N N),(11,.slice (some ⟨Wb,0,none⟩) N N),(12,I (i:Nat))] a) :
 q13_8.wp Tryd.prog (fun e a' w'=>e=.normal∧(Fl 173 [(0,.slice p T ct),(1,I (m:Nat)),(2,.slice (some ⟨b,o,none⟩) N cap),(7,.slice (some ⟨Sb,0,none⟩) m m),(8,.slice (some ⟨Eb,0,none⟩) m m),(9,.slice (some ⟨Lb,0,none⟩) N N),(10,.slice (some ⟨Cb,0,none⟩) N N),(11,.slice (some ⟨Wb,0,none⟩) N N),(12,I ((i+1:Nat):Int))] a'∧w'=v)) a v:=by
 have h9:wrap64 ((i:Int)+1)=((i+1:Nat):Int):=by unfold wrap64;omega
 obtain ⟨u,rfl,hp⟩:=litF hA
 simp only [Fls] at hp
 clear hA
 unfold q13_8 C13 Tryd.f13 seq1 seq2 blockC loopC
 simp only [Option.getD_some,lits,Nat.reduceAdd,hp]
 clear hp
 go_wp2_with fail
 first
  |refine ⟨?_,rfl⟩
  |refine ⟨rfl,?_,rfl⟩
  |skip
 exact ⟨rfl,rfl,by
  intro p hp
  simp only [List.mem_cons,List.not_mem_nil,or_false] at hp
  rcases hp with rfl|rfl|rfl|rfl|rfl|rfl|rfl|rfl|rfl<;>first|rfl|exact congrArg I (by omega)|exact congrArg Value.bool (by simp<;>omega)|exact congrArg Value.bool (by simp)|(simp;done)⟩
theorem p13_9 {v:World} {a:Act} {g T ct m b o N cap Sb Eb Lb Cb Wb i:Nat} {th ce op ol ne:Int} (hk:i<T) (d0:v.cell? ⟨g,i*5,none⟩=some (I th)) (d1:v.cell? ⟨g,i*5+1,none⟩=some (I ce)) (d2:v.cell? ⟨g,i*5+2,none⟩=some (I op)) (d3:v.cell? ⟨g,i*5+3,none⟩=some (I ol)) (d4:v.cell? ⟨g,i*5+4,none⟩=some (I ne)) (hA:Fl 173 [(0,.slice (some ⟨g,0,none⟩) T ct),(1,I (m:Nat)),(2,.slice (some ⟨b,o,none⟩) N cap),(7,.slice (some ⟨Sb,0,none⟩) m m),(8,.slice (some ⟨Eb,0,none⟩) m m),(9,.slice (some ⟨Lb,0,none⟩) N N),(10,.slice (some ⟨Cb,0,none⟩) N N),(11,.slice (some ⟨Wb,0,none⟩) N N),(12,I (i:Nat))] a) :
 q13_9.wp Tryd.prog (fun e a' w'=>e=.normal∧(Fl 173 [(0,.slice (some ⟨g,0,none⟩) T ct),(1,I (m:Nat)),(2,.slice (some ⟨b,o,none⟩) N cap),(7,.slice (some ⟨Sb,0,none⟩) m m),(8,.slice (some ⟨Eb,0,none⟩) m m),(9,.slice (some ⟨Lb,0,none⟩) N N),(10,.slice (some ⟨Cb,0,none⟩) N N),(11,.slice (some ⟨Wb,0,none⟩) N N),(12,I (i:Nat)),(13,Pt v.heap.size 0)] a'∧w'=v.alloc (.cells #[I th,I ce,I op,I ol,I ne] 58))) a v:=by
 have hk':(i:Int)<(T:Int):=by omega
 obtain ⟨u,rfl,hp⟩:=litF hA
 simp only [Fls] at hp
 clear hA
 unfold q13_9 C13 Tryd.f13 seq1 seq2 blockC loopC
 simp only [Option.getD_some,lits,Nat.reduceAdd,hp]
 clear hp
 go_wp2_with fail
 first
  |refine ⟨?_,rfl⟩
  |refine ⟨rfl,?_,rfl⟩
  |skip
 exact ⟨rfl,rfl,by
  intro p hp
  simp only [List.mem_cons,List.not_mem_nil,or_false] at hp
  rcases hp with rfl|rfl|rfl|rfl|rfl|rfl|rfl|rfl|rfl|rfl<;>first|rfl|exact congrArg I (by omega)|exact congrArg Value.bool (by simp<;>omega)|exact congrArg Value.bool (by simp)|(simp;done)⟩
theorem p13_10 {v:World} {a:Act} {g T ct m b o N cap Sb Eb Lb Cb Wb i:Nat} {x:Nat} {t:Nat} (c0:v.cell? ⟨x,0,none⟩=some (I (t:Nat))) (ht:t<N) (hA:Fl 173 [(0,.slice (some ⟨g,0,none⟩) T ct),(1,I (m:Nat)),(2,.slice (some ⟨b,o,none⟩) N cap),(7,.slice (some ⟨Sb,0,none⟩) m m),(8,.slice (some ⟨Eb,0,none⟩) m m),(9,.slice (some ⟨Lb,0,none⟩) N N),(10,.slice (some ⟨Cb,0,none⟩) N N),(11,.slice (some ⟨Wb,0,none⟩) N N),(12,I (i:Nat)),(13,Pt x 0)] a) :
 q13_10.wp Tryd.prog (fun e a' w'=>e=.normal∧(Fl 173 [(49,.bool false),(0,.slice (some ⟨g,0,none⟩) T ct),(1,I (m:Nat)),(2,.slice (some ⟨b,o,none⟩) N cap),(7,.slice (some ⟨Sb,0,none⟩) m m),(8,.slice (some ⟨Eb,0,none⟩) m m),(9,.slice (some ⟨Lb,0,none⟩) N N),(10,.slice (some ⟨Cb,0,none⟩) N N),(11,.slice (some ⟨Wb,0,none⟩) N N),(12,I (i:Nat)),(13,Pt x 0)] a'∧w'=v)) a v:=by
 have h1:¬ (t:Int)<0:=by omega
 have h2:¬ (t:Int)≥(N:Int):=by omega
 obtain ⟨u,rfl,hp⟩:=litF hA
 simp only [Fls] at hp
 clear hA
 unfold q13_10 C13 Tryd.f13 seq1 seq2 blockC loopC
 simp only [Option.getD_some,lits,Nat.reduceAdd,hp]
 clear hp
 go_wp2_with fail
 first
  |refine ⟨?_,rfl⟩
  |refine ⟨rfl,?_,rfl⟩
  |skip
 exact ⟨rfl,rfl,by
  intro p hp
  simp only [List.mem_cons,List.not_mem_nil,or_false] at hp
  rcases hp with rfl|rfl|rfl|rfl|rfl|rfl|rfl|rfl|rfl|rfl|rfl<;>first|rfl|exact congrArg I (by omega)|exact congrArg Value.bool (by simp<;>omega)|exact congrArg Value.bool (by simp)|(simp;done)⟩
theorem p13_12 {v:World} {a:Act} {g T ct m b o N cap Sb Eb Lb Cb Wb i:Nat} {x:Nat} {t:Nat} (c0:v.cell? ⟨x,0,none⟩=some (I (t:Nat))) (hA:Fl 173 [(0,.slice (some ⟨g,0,none⟩) T ct),(1,I (m:Nat)),(2,.slice (some ⟨b,o,none⟩) N cap),(7,.slice (some ⟨Sb,0,none⟩) m m),(8,.slice (some ⟨Eb,0,none⟩) m m),(9,.slice (some ⟨Lb,0,none⟩) N N),(10,.slice (some ⟨Cb,0,none⟩) N N),(11,.slice (some ⟨Wb,0,none⟩) N N),(12,I (i:Nat)),(13,Pt x 0)] a) :
 q13_12.wp Tryd.prog (fun e a' w'=>e=.normal∧(Fl 173 [(0,.slice (some ⟨g,0,none⟩) T ct),(1,I (m:Nat)),(2,.slice (some ⟨b,o,none⟩) N cap),(7,.slice (some ⟨Sb,0,none⟩) m m),(8,.slice (some ⟨Eb,0,none⟩) m m),(9,.slice (some ⟨Lb,0,none⟩) N N),(10,.slice (some ⟨Cb,0,none⟩) N N),(11,.slice (some ⟨Wb,0,none⟩) N N),(12,I (i:Nat)),(13,Pt x 0),(14,I (t:Nat))] a'∧w'=v)) a v:=by
 obtain ⟨u,rfl,hp⟩:=litF hA
 simp only [Fls] at hp
 clear hA
 unfold q13_12 C13 Tryd.f13 seq1 seq2 blockC loopC
 simp only [Option.getD_some,lits,Nat.reduceAdd,hp]
 clear hp
 go_wp2_with fail
 first
  |refine ⟨?_,rfl⟩
  |refine ⟨rfl,?_,rfl⟩
  |skip
 exact ⟨rfl,rfl,by
  intro p hp
  simp only [List.mem_cons,List.not_mem_nil,or_false] at hp
  rcases hp with rfl|rfl|rfl|rfl|rfl|rfl|rfl|rfl|rfl|rfl|rfl<;>first|rfl|exact congrArg I (by omega)|exact congrArg Value.bool (by simp<;>omega)|exact congrArg Value.bool (by simp)|(simp;done)⟩
theorem p13_13 {v:World} {a:Act} {g T ct m b o N cap Sb Eb Lb Cb Wb i:Nat} {x:Nat} {t:Nat} {op:Int} (c2:v.cell? ⟨x,2,none⟩=some (I op)) (hA:Fl 173 [(0,.slice (some ⟨g,0,none⟩) T ct),(1,I (m:Nat)),(2,.slice (some ⟨b,o,none⟩) N cap),(7,.slice (some ⟨Sb,0,none⟩) m m),(8,.slice (some ⟨Eb,0,none⟩) m m),(9,.slice (some ⟨Lb,0,none⟩) N N),(10,.slice (some ⟨Cb,0,none⟩) N N),(11,.slice (some ⟨Wb,0,none⟩) N N),(12,I (i:Nat)),(13,Pt x 0),(14,I (t:Nat))] a) :
 q13_13.wp Tryd.prog (fun e a' w'=>e=.normal∧(Fl 173 [(0,.slice (some ⟨g,0,none⟩) T ct),(1,I (m:Nat)),(2,.slice (some ⟨b,o,none⟩) N cap),(7,.slice (some ⟨Sb,0,none⟩) m m),(8,.slice (some ⟨Eb,0,none⟩) m m),(9,.slice (some ⟨Lb,0,none⟩) N N),(10,.slice (some ⟨Cb,0,none⟩) N N),(11,.slice (some ⟨Wb,0,none⟩) N N),(12,I (i:Nat)),(13,Pt x 0),(14,I (t:Nat)),(53,I op)] a'∧w'=v)) a v:=by
 obtain ⟨u,rfl,hp⟩:=litF hA
 simp only [Fls] at hp
 clear hA
 unfold q13_13 C13 Tryd.f13 seq1 seq2 blockC loopC
 simp only [Option.getD_some,lits,Nat.reduceAdd,hp]
 clear hp
 go_wp2_with fail
 first
  |refine ⟨?_,rfl⟩
  |refine ⟨rfl,?_,rfl⟩
  |skip
 exact ⟨rfl,rfl,by
  intro p hp
  simp only [List.mem_cons,List.not_mem_nil,or_false] at hp
  rcases hp with rfl|rfl|rfl|rfl|rfl|rfl|rfl|rfl|rfl|rfl|rfl|rfl<;>first|rfl|exact congrArg I (by omega)|exact congrArg Value.bool (by simp<;>omega)|exact congrArg Value.bool (by simp)|(simp;done)⟩
theorem p13_21 {v:World} {a:Act} {g T ct m b o N cap Sb Eb Lb Cb Wb i:Nat} {x:Nat} {t:Nat} {op:Int}  (hA:Fl 173 [(0,.slice (some ⟨g,0,none⟩) T ct),(1,I (m:Nat)),(2,.slice (some ⟨b,o,none⟩) N cap),(7,.slice (some ⟨Sb,0,none⟩) m m),(8,.slice (some ⟨Eb,0,none⟩) m m),(9,.slice (some ⟨Lb,0,none⟩) N N),(10,.slice (some ⟨Cb,0,none⟩) N N),(11,.slice (some ⟨Wb,0,none⟩) N N),(12,I (i:Nat)),(13,Pt x 0),(14,I (t:Nat)),(53,I op)] a) :
 q13_21.wp Tryd.prog (fun e a' w'=>e=.normal∧(Fl 173 [(100,.bool (op==9)),(0,.slice (some ⟨g,0,none⟩) T ct),(1,I (m:Nat)),(2,.slice (some ⟨b,o,none⟩) N cap),(7,.slice (some ⟨Sb,0,none⟩) m m),(8,.slice (some ⟨Eb,0,none⟩) m m),(9,.slice (some ⟨Lb,0,none⟩) N N),(10,.slice (some ⟨Cb,0,none⟩) N N),(11,.slice (some ⟨Wb,0,none⟩) N N),(12,I (i:Nat)),(13,Pt x 0),(14,I (t:Nat)),(53,I op)] a'∧w'=v)) a v:=by
 obtain ⟨u,rfl,hp⟩:=litF hA
 simp only [Fls] at hp
 clear hA
 unfold q13_21 C13 Tryd.f13 seq1 seq2 blockC loopC
 simp only [Option.getD_some,lits,Nat.reduceAdd,hp]
 clear hp
 go_wp2_with fail
 first
  |refine ⟨?_,rfl⟩
  |refine ⟨rfl,?_,rfl⟩
  |skip
 exact ⟨rfl,rfl,by
  intro p hp
  simp only [List.mem_cons,List.not_mem_nil,or_false] at hp
  rcases hp with rfl|rfl|rfl|rfl|rfl|rfl|rfl|rfl|rfl|rfl|rfl|rfl|rfl<;>first|rfl|exact congrArg I (by omega)|exact congrArg Value.bool (by simp<;>omega)|exact congrArg Value.bool (by simp)|(simp;done)⟩
theorem p13_22 {v:World} {a:Act} {g T ct m b o N cap Sb Eb Lb Cb Wb i:Nat} {x:Nat} {t:Nat} {op:Int}  (hA:Fl 173 [(0,.slice (some ⟨g,0,none⟩) T ct),(1,I (m:Nat)),(2,.slice (some ⟨b,o,none⟩) N cap),(7,.slice (some ⟨Sb,0,none⟩) m m),(8,.slice (some ⟨Eb,0,none⟩) m m),(9,.slice (some ⟨Lb,0,none⟩) N N),(10,.slice (some ⟨Cb,0,none⟩) N N),(11,.slice (some ⟨Wb,0,none⟩) N N),(12,I (i:Nat)),(13,Pt x 0),(14,I (t:Nat)),(53,I op)] a) :
 q13_22.wp Tryd.prog (fun e a' w'=>e=.normal∧(Fl 173 [(100,.bool (op==10)),(0,.slice (some ⟨g,0,none⟩) T ct),(1,I (m:Nat)),(2,.slice (some ⟨b,o,none⟩) N cap),(7,.slice (some ⟨Sb,0,none⟩) m m),(8,.slice (some ⟨Eb,0,none⟩) m m),(9,.slice (some ⟨Lb,0,none⟩) N N),(10,.slice (some ⟨Cb,0,none⟩) N N),(11,.slice (some ⟨Wb,0,none⟩) N N),(12,I (i:Nat)),(13,Pt x 0),(14,I (t:Nat)),(53,I op)] a'∧w'=v)) a v:=by
 obtain ⟨u,rfl,hp⟩:=litF hA
 simp only [Fls] at hp
 clear hA
 unfold q13_22 C13 Tryd.f13 seq1 seq2 condB blockC loopC
 simp only [Option.getD_some,lits,Nat.reduceAdd,hp]
 clear hp
 go_wp2_with fail
 first
  |refine ⟨?_,rfl⟩
  |refine ⟨rfl,?_,rfl⟩
  |skip
 exact ⟨rfl,rfl,by
  intro p hp
  simp only [List.mem_cons,List.not_mem_nil,or_false] at hp
  rcases hp with rfl|rfl|rfl|rfl|rfl|rfl|rfl|rfl|rfl|rfl|rfl|rfl|rfl<;>first|rfl|exact congrArg I (by omega)|exact congrArg Value.bool (by simp<;>omega)|exact congrArg Value.bool (by simp)|(simp;done)⟩
theorem p13_14 {v:World} {a:Act} {g T ct m b o N cap Sb Eb Lb Cb Wb i:Nat} {x:Nat} {t:Nat} {op:Int} {c:Nat} (ht:t<N) (hc:c<1000000000) (c1:v.cell? ⟨Cb,t,none⟩=some (I (c:Nat))) (f1:v.frozen? ⟨Cb,t,none⟩=false) (hA:Fl 173 [(0,.slice (some ⟨g,0,none⟩) T ct),(1,I (m:Nat)),(2,.slice (some ⟨b,o,none⟩) N cap),(7,.slice (some ⟨Sb,0,none⟩) m m),(8,.slice (some ⟨Eb,0,none⟩) m m),(9,.slice (some ⟨Lb,0,none⟩) N N),(10,.slice (some ⟨Cb,0,none⟩) N N),(11,.slice (some ⟨Wb,0,none⟩) N N),(12,I (i:Nat)),(13,Pt x 0),(14,I (t:Nat)),(53,I op)] a) :
 q13_14.wp Tryd.prog (fun e a' w'=>e=.normal∧(Fl 173 [(0,.slice (some ⟨g,0,none⟩) T ct),(1,I (m:Nat)),(2,.slice (some ⟨b,o,none⟩) N cap),(7,.slice (some ⟨Sb,0,none⟩) m m),(8,.slice (some ⟨Eb,0,none⟩) m m),(9,.slice (some ⟨Lb,0,none⟩) N N),(10,.slice (some ⟨Cb,0,none⟩) N N),(11,.slice (some ⟨Wb,0,none⟩) N N),(12,I (i:Nat)),(13,Pt x 0),(14,I (t:Nat)),(53,I op)] a'∧w'=v.setCell ⟨Cb,t,none⟩ (I ((c+1:Nat):Int)))) a v:=by
 have ht':(t:Int)<(N:Int):=by omega
 have h9:wrap64 ((c:Int)+1)=((c+1:Nat):Int):=by unfold wrap64;omega
 obtain ⟨u,rfl,hp⟩:=litF hA
 simp only [Fls] at hp
 clear hA
 unfold q13_14 C13 Tryd.f13 seq1 seq2 condB blockC loopC
 simp only [Option.getD_some,lits,Nat.reduceAdd,hp]
 clear hp
 go_wp2_with fail
 first
  |refine ⟨?_,rfl⟩
  |refine ⟨rfl,?_,rfl⟩
  |skip
 exact ⟨rfl,rfl,by
  intro p hp
  simp only [List.mem_cons,List.not_mem_nil,or_false] at hp
  rcases hp with rfl|rfl|rfl|rfl|rfl|rfl|rfl|rfl|rfl|rfl|rfl|rfl<;>first|rfl|exact congrArg I (by omega)|exact congrArg Value.bool (by simp<;>omega)|exact congrArg Value.bool (by simp)|(simp;done)⟩
theorem p13_15 {v:World} {a:Act} {g T ct m b o N cap Sb Eb Lb Cb Wb i:Nat} {x:Nat} {t:Nat} {op:Int} (c2:v.cell? ⟨x,2,none⟩=some (I op)) (hA:Fl 173 [(0,.slice (some ⟨g,0,none⟩) T ct),(1,I (m:Nat)),(2,.slice (some ⟨b,o,none⟩) N cap),(7,.slice (some ⟨Sb,0,none⟩) m m),(8,.slice (some ⟨Eb,0,none⟩) m m),(9,.slice (some ⟨Lb,0,none⟩) N N),(10,.slice (some ⟨Cb,0,none⟩) N N),(11,.slice (some ⟨Wb,0,none⟩) N N),(12,I (i:Nat)),(13,Pt x 0),(14,I (t:Nat)),(53,I op)] a) :
 q13_15.wp Tryd.prog (fun e a' w'=>e=.normal∧(Fl 173 [(62,.bool (op != 1)),(0,.slice (some ⟨g,0,none⟩) T ct),(1,I (m:Nat)),(2,.slice (some ⟨b,o,none⟩) N cap),(7,.slice (some ⟨Sb,0,none⟩) m m),(8,.slice (some ⟨Eb,0,none⟩) m m),(9,.slice (some ⟨Lb,0,none⟩) N N),(10,.slice (some ⟨Cb,0,none⟩) N N),(11,.slice (some ⟨Wb,0,none⟩) N N),(12,I (i:Nat)),(13,Pt x 0),(14,I (t:Nat)),(53,I op)] a'∧w'=v)) a v:=by
 obtain ⟨u,rfl,hp⟩:=litF hA
 simp only [Fls] at hp
 clear hA
 unfold q13_15 C13 Tryd.f13 seq1 seq2 condB blockC loopC
 simp only [Option.getD_some,lits,Nat.reduceAdd,hp]
 clear hp
 go_wp2_with fail
 first
  |refine ⟨?_,rfl⟩
  |refine ⟨rfl,?_,rfl⟩
  |skip
 exact ⟨rfl,rfl,by
  intro p hp
  simp only [List.mem_cons,List.not_mem_nil,or_false] at hp
  rcases hp with rfl|rfl|rfl|rfl|rfl|rfl|rfl|rfl|rfl|rfl|rfl|rfl|rfl<;>first|rfl|exact congrArg I (by omega)|exact congrArg Value.bool (by simp<;>omega)|exact congrArg Value.bool (by simp)|(simp;done)⟩
theorem p13_16 {v:World} {a:Act} {g T ct m b o N cap Sb Eb Lb Cb Wb i:Nat} {x:Nat} {t:Nat} {op:Int} {c:Nat} (ht:t<N) (hc:c<1000000000) (c1:v.cell? ⟨Wb,t,none⟩=some (I (c:Nat))) (f1:v.frozen? ⟨Wb,t,none⟩=false) (hA:Fl 173 [(0,.slice (some ⟨g,0,none⟩) T ct),(1,I (m:Nat)),(2,.slice (some ⟨b,o,none⟩) N cap),(7,.slice (some ⟨Sb,0,none⟩) m m),(8,.slice (some ⟨Eb,0,none⟩) m m),(9,.slice (some ⟨Lb,0,none⟩) N N),(10,.slice (some ⟨Cb,0,none⟩) N N),(11,.slice (some ⟨Wb,0,none⟩) N N),(12,I (i:Nat)),(13,Pt x 0),(14,I (t:Nat)),(53,I op)] a) :
 q13_16.wp Tryd.prog (fun e a' w'=>e=.normal∧(Fl 173 [(0,.slice (some ⟨g,0,none⟩) T ct),(1,I (m:Nat)),(2,.slice (some ⟨b,o,none⟩) N cap),(7,.slice (some ⟨Sb,0,none⟩) m m),(8,.slice (some ⟨Eb,0,none⟩) m m),(9,.slice (some ⟨Lb,0,none⟩) N N),(10,.slice (some ⟨Cb,0,none⟩) N N),(11,.slice (some ⟨Wb,0,none⟩) N N),(12,I (i:Nat)),(13,Pt x 0),(14,I (t:Nat)),(53,I op)] a'∧w'=v.setCell ⟨Wb,t,none⟩ (I ((c+1:Nat):Int)))) a v:=by
 have ht':(t:Int)<(N:Int):=by omega
 have h9:wrap64 ((c:Int)+1)=((c+1:Nat):Int):=by unfold wrap64;omega
 obtain ⟨u,rfl,hp⟩:=litF hA
 simp only [Fls] at hp
 clear hA
 unfold q13_16 C13 Tryd.f13 seq1 seq2 condA condB blockC loopC
 simp only [Option.getD_some,lits,Nat.reduceAdd,hp]
 clear hp
 go_wp2_with fail
 first
  |refine ⟨?_,rfl⟩
  |refine ⟨rfl,?_,rfl⟩
  |skip
 exact ⟨rfl,rfl,by
  intro p hp
  simp only [List.mem_cons,List.not_mem_nil,or_false] at hp
  rcases hp with rfl|rfl|rfl|rfl|rfl|rfl|rfl|rfl|rfl|rfl|rfl|rfl<;>first|rfl|exact congrArg I (by omega)|exact congrArg Value.bool (by simp<;>omega)|exact congrArg Value.bool (by simp)|(simp;done)⟩
theorem p13_17a {v:World} {a:Act} {g T ct m b o N cap Sb Eb Lb Cb Wb i:Nat} {x:Nat} {t:Nat} {op:Int} (c2:v.cell? ⟨x,2,none⟩=some (I op)) (h2:¬ op=2) (hA:Fl 173 [(0,.slice (some ⟨g,0,none⟩) T ct),(1,I (m:Nat)),(2,.slice (some ⟨b,o,none⟩) N cap),(7,.slice (some ⟨Sb,0,none⟩) m m),(8,.slice (some ⟨Eb,0,none⟩) m m),(9,.slice (some ⟨Lb,0,none⟩) N N),(10,.slice (some ⟨Cb,0,none⟩) N N),(11,.slice (some ⟨Wb,0,none⟩) N N),(12,I (i:Nat)),(13,Pt x 0),(14,I (t:Nat)),(53,I op)] a) :
 q13_17.wp Tryd.prog (fun e a' w'=>e=.normal∧(Fl 173 [(84,.bool false),(0,.slice (some ⟨g,0,none⟩) T ct),(1,I (m:Nat)),(2,.slice (some ⟨b,o,none⟩) N cap),(7,.slice (some ⟨Sb,0,none⟩) m m),(8,.slice (some ⟨Eb,0,none⟩) m m),(9,.slice (some ⟨Lb,0,none⟩) N N),(10,.slice (some ⟨Cb,0,none⟩) N N),(11,.slice (some ⟨Wb,0,none⟩) N N),(12,I (i:Nat)),(13,Pt x 0),(14,I (t:Nat)),(53,I op)] a'∧w'=v)) a v:=by
 have g2:(op==2)=false:=by simp [h2]
 obtain ⟨u,rfl,hp⟩:=litF hA
 simp only [Fls] at hp
 clear hA
 unfold q13_17 C13 Tryd.f13 seq1 seq2 condB blockC loopC
 simp only [Option.getD_some,lits,Nat.reduceAdd,hp]
 clear hp
 go_wp2_with fail
 first
  |refine ⟨?_,rfl⟩
  |refine ⟨rfl,?_,rfl⟩
  |skip
 exact ⟨rfl,rfl,by
  intro p hp
  simp only [List.mem_cons,List.not_mem_nil,or_false] at hp
  rcases hp with rfl|rfl|rfl|rfl|rfl|rfl|rfl|rfl|rfl|rfl|rfl|rfl|rfl<;>first|rfl|exact congrArg I (by omega)|exact congrArg Value.bool (by simp<;>omega)|exact congrArg Value.bool (by simp)|(simp;done)⟩
theorem p13_17b {v:World} {a:Act} {g T ct m b o N cap Sb Eb Lb Cb Wb i:Nat} {x:Nat} {t:Nat} {ce:Int} (c2:v.cell? ⟨x,2,none⟩=some (I 2)) (c1:v.cell? ⟨x,1,none⟩=some (I ce)) (g2:(ce.tmod 2==1)=false) (hA:Fl 173 [(0,.slice (some ⟨g,0,none⟩) T ct),(1,I (m:Nat)),(2,.slice (some ⟨b,o,none⟩) N cap),(7,.slice (some ⟨Sb,0,none⟩) m m),(8,.slice (some ⟨Eb,0,none⟩) m m),(9,.slice (some ⟨Lb,0,none⟩) N N),(10,.slice (some ⟨Cb,0,none⟩) N N),(11,.slice (some ⟨Wb,0,none⟩) N N),(12,I (i:Nat)),(13,Pt x 0),(14,I (t:Nat)),(53,I 2)] a) :
 q13_17.wp Tryd.prog (fun e a' w'=>e=.normal∧(Fl 173 [(84,.bool false),(0,.slice (some ⟨g,0,none⟩) T ct),(1,I (m:Nat)),(2,.slice (some ⟨b,o,none⟩) N cap),(7,.slice (some ⟨Sb,0,none⟩) m m),(8,.slice (some ⟨Eb,0,none⟩) m m),(9,.slice (some ⟨Lb,0,none⟩) N N),(10,.slice (some ⟨Cb,0,none⟩) N N),(11,.slice (some ⟨Wb,0,none⟩) N N),(12,I (i:Nat)),(13,Pt x 0),(14,I (t:Nat)),(53,I 2)] a'∧w'=v)) a v:=by
 obtain ⟨u,rfl,hp⟩:=litF hA
 simp only [Fls] at hp
 clear hA
 unfold q13_17 C13 Tryd.f13 seq1 seq2 condB blockC loopC
 simp only [Option.getD_some,lits,Nat.reduceAdd,hp]
 clear hp
 go_wp2_with fail
 first
  |refine ⟨?_,rfl⟩
  |refine ⟨rfl,?_,rfl⟩
  |skip
 exact ⟨rfl,rfl,by
  intro p hp
  simp only [List.mem_cons,List.not_mem_nil,or_false] at hp
  rcases hp with rfl|rfl|rfl|rfl|rfl|rfl|rfl|rfl|rfl|rfl|rfl|rfl|rfl<;>first|rfl|exact congrArg I (by omega)|exact congrArg Value.bool (by simp<;>omega)|exact congrArg Value.bool (by simp)|(simp;done)⟩
theorem p13_17c {v:World} {a:Act} {g T ct m b o N cap Sb Eb Lb Cb Wb i:Nat} {x:Nat} {t:Nat} {ce:Int} {k:Nat} (hk:k<m) (c1:v.cell? ⟨x,1,none⟩=some (I ce)) (g3:wrap64 (ce.tdiv 2)=(k:Int)) (c2:v.cell? ⟨x,2,none⟩=some (I 2)) (g2:(ce.tmod 2==1)=true) (hA:Fl 173 [(0,.slice (some ⟨g,0,none⟩) T ct),(1,I (m:Nat)),(2,.slice (some ⟨b,o,none⟩) N cap),(7,.slice (some ⟨Sb,0,none⟩) m m),(8,.slice (some ⟨Eb,0,none⟩) m m),(9,.slice (some ⟨Lb,0,none⟩) N N),(10,.slice (some ⟨Cb,0,none⟩) N N),(11,.slice (some ⟨Wb,0,none⟩) N N),(12,I (i:Nat)),(13,Pt x 0),(14,I (t:Nat)),(53,I 2)] a) :
 q13_17.wp Tryd.prog (fun e a' w'=>e=.normal∧(Fl 173 [(84,.bool true),(0,.slice (some ⟨g,0,none⟩) T ct),(1,I (m:Nat)),(2,.slice (some ⟨b,o,none⟩) N cap),(7,.slice (some ⟨Sb,0,none⟩) m m),(8,.slice (some ⟨Eb,0,none⟩) m m),(9,.slice (some ⟨Lb,0,none⟩) N N),(10,.slice (some ⟨Cb,0,none⟩) N N),(11,.slice (some ⟨Wb,0,none⟩) N N),(12,I (i:Nat)),(13,Pt x 0),(14,I (t:Nat)),(53,I 2)] a'∧w'=v)) a v:=by
 have hk':(k:Int)<(m:Int):=by omega
 have hk0:¬ (k:Int)<0:=by omega
 obtain ⟨u,rfl,hp⟩:=litF hA
 simp only [Fls] at hp
 clear hA
 unfold q13_17 C13 Tryd.f13 seq1 seq2 condB blockC loopC
 simp only [Option.getD_some,lits,Nat.reduceAdd,hp]
 clear hp
 go_wp2_with fail
 first
  |refine ⟨?_,rfl⟩
  |refine ⟨rfl,?_,rfl⟩
  |skip
 exact ⟨rfl,rfl,by
  intro p hp
  simp only [List.mem_cons,List.not_mem_nil,or_false] at hp
  rcases hp with rfl|rfl|rfl|rfl|rfl|rfl|rfl|rfl|rfl|rfl|rfl|rfl|rfl<;>first|rfl|exact congrArg I (by omega)|exact congrArg Value.bool (by simp<;>omega)|exact congrArg Value.bool (by simp)|(simp;done)⟩
theorem p13_18 {v:World} {a:Act} {g T ct m b o N cap Sb Eb Lb Cb Wb i:Nat} {x:Nat} {t:Nat} {ce:Int} {k c:Nat} (hk:k<m) (c1:v.cell? ⟨x,1,none⟩=some (I ce)) (g3:wrap64 (ce.tdiv 2)=(k:Int)) (hc:c<1000000000) (d1:v.cell? ⟨Sb,k,none⟩=some (I (c:Nat))) (f1:v.frozen? ⟨Sb,k,none⟩=false) (hA:Fl 173 [(0,.slice (some ⟨g,0,none⟩) T ct),(1,I (m:Nat)),(2,.slice (some ⟨b,o,none⟩) N cap),(7,.slice (some ⟨Sb,0,none⟩) m m),(8,.slice (some ⟨Eb,0,none⟩) m m),(9,.slice (some ⟨Lb,0,none⟩) N N),(10,.slice (some ⟨Cb,0,none⟩) N N),(11,.slice (some ⟨Wb,0,none⟩) N N),(12,I (i:Nat)),(13,Pt x 0),(14,I (t:Nat)),(53,I 2)] a) :
 q13_18.wp Tryd.prog (fun e a' w'=>e=.normal∧(Fl 173 [(0,.slice (some ⟨g,0,none⟩) T ct),(1,I (m:Nat)),(2,.slice (some ⟨b,o,none⟩) N cap),(7,.slice (some ⟨Sb,0,none⟩) m m),(8,.slice (some ⟨Eb,0,none⟩) m m),(9,.slice (some ⟨Lb,0,none⟩) N N),(10,.slice (some ⟨Cb,0,none⟩) N N),(11,.slice (some ⟨Wb,0,none⟩) N N),(12,I (i:Nat)),(13,Pt x 0),(14,I (t:Nat)),(53,I 2)] a'∧w'=v.setCell ⟨Sb,k,none⟩ (I ((c+1:Nat):Int)))) a v:=by
 have hk':(k:Int)<(m:Int):=by omega
 have hk0:¬ (k:Int)<0:=by omega
 have h9:wrap64 ((c:Int)+1)=((c+1:Nat):Int):=by unfold wrap64;omega
 obtain ⟨u,rfl,hp⟩:=litF hA
 simp only [Fls] at hp
 clear hA
 unfold q13_18 C13 Tryd.f13 seq1 seq2 condA condB blockC loopC
 simp only [Option.getD_some,lits,Nat.reduceAdd,hp]
 clear hp
 go_wp2_with fail
 first
  |refine ⟨?_,rfl⟩
  |refine ⟨rfl,?_,rfl⟩
  |skip
 exact ⟨rfl,rfl,by
  intro p hp
  simp only [List.mem_cons,List.not_mem_nil,or_false] at hp
  rcases hp with rfl|rfl|rfl|rfl|rfl|rfl|rfl|rfl|rfl|rfl|rfl|rfl<;>first|rfl|exact congrArg I (by omega)|exact congrArg Value.bool (by simp<;>omega)|exact congrArg Value.bool (by simp)|(simp;done)⟩
theorem p13_19 {v:World} {a:Act} {g T ct m b o N cap Sb Eb Lb Cb Wb i:Nat} {x:Nat} {t:Nat} {ce:Int} {k:Nat} {c:Int} (hk:k<m) (c1:v.cell? ⟨x,1,none⟩=some (I ce)) (g3:wrap64 (ce.tdiv 2)=(k:Int)) (d1:v.cell? ⟨Sb,k,none⟩=some (I c)) (hc:c≤1) (hA:Fl 173 [(0,.slice (some ⟨g,0,none⟩) T ct),(1,I (m:Nat)),(2,.slice (some ⟨b,o,none⟩) N cap),(7,.slice (some ⟨Sb,0,none⟩) m m),(8,.slice (some ⟨Eb,0,none⟩) m m),(9,.slice (some ⟨Lb,0,none⟩) N N),(10,.slice (some ⟨Cb,0,none⟩) N N),(11,.slice (some ⟨Wb,0,none⟩) N N),(12,I (i:Nat)),(13,Pt x 0),(14,I (t:Nat)),(53,I 2)] a) :
 q13_19.wp Tryd.prog (fun e a' w'=>e=.normal∧(Fl 173 [(99,.bool false),(0,.slice (some ⟨g,0,none⟩) T ct),(1,I (m:Nat)),(2,.slice (some ⟨b,o,none⟩) N cap),(7,.slice (some ⟨Sb,0,none⟩) m m),(8,.slice (some ⟨Eb,0,none⟩) m m),(9,.slice (some ⟨Lb,0,none⟩) N N),(10,.slice (some ⟨Cb,0,none⟩) N N),(11,.slice (some ⟨Wb,0,none⟩) N N),(12,I (i:Nat)),(13,Pt x 0),(14,I (t:Nat)),(53,I 2)] a'∧w'=v)) a v:=by
 have hk':(k:Int)<(m:Int):=by omega
 have hk0:¬ (k:Int)<0:=by omega
 have h9:¬ c > 1:=by omega
 obtain ⟨u,rfl,hp⟩:=litF hA
 simp only [Fls] at hp
 clear hA
 unfold q13_19 C13 Tryd.f13 seq1 seq2 condA condB blockC loopC
 simp only [Option.getD_some,lits,Nat.reduceAdd,hp]
 clear hp
 go_wp2_with fail
 first
  |refine ⟨?_,rfl⟩
  |refine ⟨rfl,?_,rfl⟩
  |skip
 exact ⟨rfl,rfl,by
  intro p hp
  simp only [List.mem_cons,List.not_mem_nil,or_false] at hp
  rcases hp with rfl|rfl|rfl|rfl|rfl|rfl|rfl|rfl|rfl|rfl|rfl|rfl|rfl<;>first|rfl|exact congrArg I (by omega)|exact congrArg Value.bool (by simp<;>omega)|exact congrArg Value.bool (by simp)|(simp;done)⟩
theorem p13_27 {v:World} {a:Act} {g T ct m b o N cap Sb Eb Lb Cb Wb i:Nat} {x:Nat} {t:Nat} {op:Int} {y:Nat} {ca:Int} (hm0:0<m) (hm:m≤1000) (c1:v.cell? ⟨y,1,none⟩=some (I ca)) (hA:Fl 173 [(0,.slice (some ⟨g,0,none⟩) T ct),(1,I (m:Nat)),(2,.slice (some ⟨b,o,none⟩) N cap),(7,.slice (some ⟨Sb,0,none⟩) m m),(8,.slice (some ⟨Eb,0,none⟩) m m),(9,.slice (some ⟨Lb,0,none⟩) N N),(10,.slice (some ⟨Cb,0,none⟩) N N),(11,.slice (some ⟨Wb,0,none⟩) N N),(12,I (i:Nat)),(13,Pt x 0),(14,I (t:Nat)),(53,I op),(15,Pt y 0)] a) :
 q13_27.wp Tryd.prog (fun e a' w'=>e=.normal∧(Fl 173 [(0,.slice (some ⟨g,0,none⟩) T ct),(1,I (m:Nat)),(2,.slice (some ⟨b,o,none⟩) N cap),(7,.slice (some ⟨Sb,0,none⟩) m m),(8,.slice (some ⟨Eb,0,none⟩) m m),(9,.slice (some ⟨Lb,0,none⟩) N N),(10,.slice (some ⟨Cb,0,none⟩) N N),(11,.slice (some ⟨Wb,0,none⟩) N N),(12,I (i:Nat)),(13,Pt x 0),(14,I (t:Nat)),(53,I op),(15,Pt y 0),(16,I (which ca m:Nat))] a'∧w'=v)) a v:=by
 have H3:=Hid.mk ((place_body ca m hm0 (by omega) v).calls Tryd.func11 rfl)
 clear hm0 hm
 obtain ⟨u,rfl,hp⟩:=litF hA
 simp only [Fls] at hp
 clear hA
 unfold q13_27 C13 Tryd.f13 seq1 seq2 condA blockC loopC
 simp only [Option.getD_some,lits,Nat.reduceAdd,hp]
 clear hp
 go_wp2_with (first|(go_at_call 11;refine H3.out.mono ?_;rintro e w1 ⟨_,rfl,rfl,rfl⟩))
 first
  |refine ⟨?_,rfl⟩
  |refine ⟨rfl,?_,rfl⟩
  |skip
 exact ⟨rfl,rfl,by
  intro p hp
  simp only [List.mem_cons,List.not_mem_nil,or_false] at hp
  rcases hp with rfl|rfl|rfl|rfl|rfl|rfl|rfl|rfl|rfl|rfl|rfl|rfl|rfl|rfl<;>first|rfl|exact congrArg I (by omega)|exact congrArg Value.bool (by simp<;>omega)|exact congrArg Value.bool (by simp)|(simp;done)⟩
theorem p13_26y {v:World} {a:Act} {g T ct m b o N cap Sb Eb Lb Cb Wb i:Nat} {x:Nat} {t:Nat} {op:Int} {y:Nat} {po:Int} (c0:v.cell? ⟨y,0,none⟩=some (I po)) (h1:1≤po) (h2:po≤4) (hA:Fl 173 [(0,.slice (some ⟨g,0,none⟩) T ct),(1,I (m:Nat)),(2,.slice (some ⟨b,o,none⟩) N cap),(7,.slice (some ⟨Sb,0,none⟩) m m),(8,.slice (some ⟨Eb,0,none⟩) m m),(9,.slice (some ⟨Lb,0,none⟩) N N),(10,.slice (some ⟨Cb,0,none⟩) N N),(11,.slice (some ⟨Wb,0,none⟩) N N),(12,I (i:Nat)),(13,Pt x 0),(14,I (t:Nat)),(53,I op),(15,Pt y 0)] a) :
 q13_26.wp Tryd.prog (fun e a' w'=>e=.normal∧(Fl 173 [(131,.bool false),(0,.slice (some ⟨g,0,none⟩) T ct),(1,I (m:Nat)),(2,.slice (some ⟨b,o,none⟩) N cap),(7,.slice (some ⟨Sb,0,none⟩) m m),(8,.slice (some ⟨Eb,0,none⟩) m m),(9,.slice (some ⟨Lb,0,none⟩) N N),(10,.slice (some ⟨Cb,0,none⟩) N N),(11,.slice (some ⟨Wb,0,none⟩) N N),(12,I (i:Nat)),(13,Pt x 0),(14,I (t:Nat)),(53,I op),(15,Pt y 0)] a'∧w'=v)) a v:=by
 have g1:¬ po<1:=by omega
 have g2:¬ po > 4:=by omega
 obtain ⟨u,rfl,hp⟩:=litF hA
 simp only [Fls] at hp
 clear hA
 unfold q13_26 C13 Tryd.f13 seq1 seq2 condA blockC loopC
 simp only [Option.getD_some,lits,Nat.reduceAdd,hp]
 clear hp
 go_wp2_with fail
 first
  |refine ⟨?_,rfl⟩
  |refine ⟨rfl,?_,rfl⟩
  |skip
 exact ⟨rfl,rfl,by
  intro p hp
  simp only [List.mem_cons,List.not_mem_nil,or_false] at hp
  rcases hp with rfl|rfl|rfl|rfl|rfl|rfl|rfl|rfl|rfl|rfl|rfl|rfl|rfl|rfl<;>first|rfl|exact congrArg I (by omega)|exact congrArg Value.bool (by simp<;>omega)|exact congrArg Value.bool (by simp)|(simp;done)⟩
theorem p13_26a {v:World} {a:Act} {g T ct m b o N cap Sb Eb Lb Cb Wb i:Nat} {x:Nat} {t:Nat} {op:Int} {y:Nat} {po:Int} (c0:v.cell? ⟨y,0,none⟩=some (I po)) (h1:po<1) (hA:Fl 173 [(0,.slice (some ⟨g,0,none⟩) T ct),(1,I (m:Nat)),(2,.slice (some ⟨b,o,none⟩) N cap),(7,.slice (some ⟨Sb,0,none⟩) m m),(8,.slice (some ⟨Eb,0,none⟩) m m),(9,.slice (some ⟨Lb,0,none⟩) N N),(10,.slice (some ⟨Cb,0,none⟩) N N),(11,.slice (some ⟨Wb,0,none⟩) N N),(12,I (i:Nat)),(13,Pt x 0),(14,I (t:Nat)),(53,I op),(15,Pt y 0)] a) :
 q13_26.wp Tryd.prog (fun e a' w'=>e=.normal∧(Fl 173 [(131,.bool true),(0,.slice (some ⟨g,0,none⟩) T ct),(1,I (m:Nat)),(2,.slice (some ⟨b,o,none⟩) N cap),(7,.slice (some ⟨Sb,0,none⟩) m m),(8,.slice (some ⟨Eb,0,none⟩) m m),(9,.slice (some ⟨Lb,0,none⟩) N N),(10,.slice (some ⟨Cb,0,none⟩) N N),(11,.slice (some ⟨Wb,0,none⟩) N N),(12,I (i:Nat)),(13,Pt x 0),(14,I (t:Nat)),(53,I op),(15,Pt y 0)] a'∧w'=v)) a v:=by
 obtain ⟨u,rfl,hp⟩:=litF hA
 simp only [Fls] at hp
 clear hA
 unfold q13_26 C13 Tryd.f13 seq1 seq2 condA blockC loopC
 simp only [Option.getD_some,lits,Nat.reduceAdd,hp]
 clear hp
 go_wp2_with fail
 first
  |refine ⟨?_,rfl⟩
  |refine ⟨rfl,?_,rfl⟩
  |skip
 exact ⟨rfl,rfl,by
  intro p hp
  simp only [List.mem_cons,List.not_mem_nil,or_false] at hp
  rcases hp with rfl|rfl|rfl|rfl|rfl|rfl|rfl|rfl|rfl|rfl|rfl|rfl|rfl|rfl<;>first|rfl|exact congrArg I (by omega)|exact congrArg Value.bool (by simp<;>omega)|exact congrArg Value.bool (by simp)|(simp;done)⟩
theorem p13_26b {v:World} {a:Act} {g T ct m b o N cap Sb Eb Lb Cb Wb i:Nat} {x:Nat} {t:Nat} {op:Int} {y:Nat} {po:Int} (c0:v.cell? ⟨y,0,none⟩=some (I po)) (h1:4<po) (hA:Fl 173 [(0,.slice (some ⟨g,0,none⟩) T ct),(1,I (m:Nat)),(2,.slice (some ⟨b,o,none⟩) N cap),(7,.slice (some ⟨Sb,0,none⟩) m m),(8,.slice (some ⟨Eb,0,none⟩) m m),(9,.slice (some ⟨Lb,0,none⟩) N N),(10,.slice (some ⟨Cb,0,none⟩) N N),(11,.slice (some ⟨Wb,0,none⟩) N N),(12,I (i:Nat)),(13,Pt x 0),(14,I (t:Nat)),(53,I op),(15,Pt y 0)] a) :
 q13_26.wp Tryd.prog (fun e a' w'=>e=.normal∧(Fl 173 [(131,.bool true),(0,.slice (some ⟨g,0,none⟩) T ct),(1,I (m:Nat)),(2,.slice (some ⟨b,o,none⟩) N cap),(7,.slice (some ⟨Sb,0,none⟩) m m),(8,.slice (some ⟨Eb,0,none⟩) m m),(9,.slice (some ⟨Lb,0,none⟩) N N),(10,.slice (some ⟨Cb,0,none⟩) N N),(11,.slice (some ⟨Wb,0,none⟩) N N),(12,I (i:Nat)),(13,Pt x 0),(14,I (t:Nat)),(53,I op),(15,Pt y 0)] a'∧w'=v)) a v:=by
 have g1:¬ po<1:=by omega
 have g2:po > 4:=by omega
 obtain ⟨u,rfl,hp⟩:=litF hA
 simp only [Fls] at hp
 clear hA
 unfold q13_26 C13 Tryd.f13 seq1 seq2 condA blockC loopC
 simp only [Option.getD_some,lits,Nat.reduceAdd,hp]
 clear hp
 go_wp2_with fail
 first
  |refine ⟨?_,rfl⟩
  |refine ⟨rfl,?_,rfl⟩
  |skip
 exact ⟨rfl,rfl,by
  intro p hp
  simp only [List.mem_cons,List.not_mem_nil,or_false] at hp
  rcases hp with rfl|rfl|rfl|rfl|rfl|rfl|rfl|rfl|rfl|rfl|rfl|rfl|rfl|rfl<;>first|rfl|exact congrArg I (by omega)|exact congrArg Value.bool (by simp<;>omega)|exact congrArg Value.bool (by simp)|(simp;done)⟩
theorem p13_28 {v:World} {a:Act} {g T ct m b o N cap Sb Eb Lb Cb Wb i:Nat} {x:Nat} {t:Nat} {op:Int} {y:Nat} {w:Nat} (c2:v.cell? ⟨x,2,none⟩=some (I op)) (hA:Fl 173 [(0,.slice (some ⟨g,0,none⟩) T ct),(1,I (m:Nat)),(2,.slice (some ⟨b,o,none⟩) N cap),(7,.slice (some ⟨Sb,0,none⟩) m m),(8,.slice (some ⟨Eb,0,none⟩) m m),(9,.slice (some ⟨Lb,0,none⟩) N N),(10,.slice (some ⟨Cb,0,none⟩) N N),(11,.slice (some ⟨Wb,0,none⟩) N N),(12,I (i:Nat)),(13,Pt x 0),(14,I (t:Nat)),(53,I op),(15,Pt y 0),(16,I (w:Nat))] a) :
 q13_28.wp Tryd.prog (fun e a' w'=>e=.normal∧(Fl 173 [(138,.bool (op==9)),(0,.slice (some ⟨g,0,none⟩) T ct),(1,I (m:Nat)),(2,.slice (some ⟨b,o,none⟩) N cap),(7,.slice (some ⟨Sb,0,none⟩) m m),(8,.slice (some ⟨Eb,0,none⟩) m m),(9,.slice (some ⟨Lb,0,none⟩) N N),(10,.slice (some ⟨Cb,0,none⟩) N N),(11,.slice (some ⟨Wb,0,none⟩) N N),(12,I (i:Nat)),(13,Pt x 0),(14,I (t:Nat)),(53,I op),(15,Pt y 0),(16,I (w:Nat))] a'∧w'=v)) a v:=by
 obtain ⟨u,rfl,hp⟩:=litF hA
 simp only [Fls] at hp
 clear hA
 unfold q13_28 C13 Tryd.f13 seq1 seq2 condA blockC loopC
 simp only [Option.getD_some,lits,Nat.reduceAdd,hp]
 clear hp
 go_wp2_with fail
 first
  |refine ⟨?_,rfl⟩
  |refine ⟨rfl,?_,rfl⟩
  |skip
 exact ⟨rfl,rfl,by
  intro p hp
  simp only [List.mem_cons,List.not_mem_nil,or_false] at hp
  rcases hp with rfl|rfl|rfl|rfl|rfl|rfl|rfl|rfl|rfl|rfl|rfl|rfl|rfl|rfl|rfl<;>first|rfl|exact congrArg I (by omega)|exact congrArg Value.bool (by simp<;>omega)|exact congrArg Value.bool (by simp)|(simp;done)⟩
theorem p13_29 {v:World} {a:Act} {g T ct m b o N cap Sb Eb Lb Cb Wb i:Nat} {x:Nat} {t:Nat} {op:Int} {y:Nat} {w:Nat} {q q0:Bool} (ht:t<N) (hw:w<m) (c1:v.cell? ⟨Eb,w,none⟩=some (.bool q)) (c2:v.cell? ⟨Lb,t,none⟩=some (.bool q0)) (f1:v.frozen? ⟨Lb,t,none⟩=false) (hA:Fl 173 [(0,.slice (some ⟨g,0,none⟩) T ct),(1,I (m:Nat)),(2,.slice (some ⟨b,o,none⟩) N cap),(7,.slice (some ⟨Sb,0,none⟩) m m),(8,.slice (some ⟨Eb,0,none⟩) m m),(9,.slice (some ⟨Lb,0,none⟩) N N),(10,.slice (some ⟨Cb,0,none⟩) N N),(11,.slice (some ⟨Wb,0,none⟩) N N),(12,I (i:Nat)),(13,Pt x 0),(14,I (t:Nat)),(53,I op),(15,Pt y 0),(16,I (w:Nat))] a) :
 q13_29.wp Tryd.prog (fun e a' w'=>e=.normal∧(Fl 173 [(0,.slice (some ⟨g,0,none⟩) T ct),(1,I (m:Nat)),(2,.slice (some ⟨b,o,none⟩) N cap),(7,.slice (some ⟨Sb,0,none⟩) m m),(8,.slice (some ⟨Eb,0,none⟩) m m),(9,.slice (some ⟨Lb,0,none⟩) N N),(10,.slice (some ⟨Cb,0,none⟩) N N),(11,.slice (some ⟨Wb,0,none⟩) N N),(12,I (i:Nat)),(13,Pt x 0),(14,I (t:Nat)),(53,I op),(15,Pt y 0),(16,I (w:Nat))] a'∧w'=v.setCell ⟨Lb,t,none⟩ (.bool q))) a v:=by
 have ht':(t:Int)<(N:Int):=by omega
 have hw':(w:Int)<(m:Int):=by omega
 obtain ⟨u,rfl,hp⟩:=litF hA
 simp only [Fls] at hp
 clear hA
 unfold q13_29 C13 Tryd.f13 seq1 seq2 condA blockC loopC
 simp only [Option.getD_some,lits,Nat.reduceAdd,hp]
 clear hp
 go_wp2_with fail
 first
  |refine ⟨?_,rfl⟩
  |refine ⟨rfl,?_,rfl⟩
  |skip
 exact ⟨rfl,rfl,by
  intro p hp
  simp only [List.mem_cons,List.not_mem_nil,or_false] at hp
  rcases hp with rfl|rfl|rfl|rfl|rfl|rfl|rfl|rfl|rfl|rfl|rfl|rfl|rfl|rfl<;>first|rfl|exact congrArg I (by omega)|exact congrArg Value.bool (by simp<;>omega)|exact congrArg Value.bool (by simp)|(simp;done)⟩
theorem p13_30 {v:World} {a:Act} {g T ct m b o N cap Sb Eb Lb Cb Wb i:Nat} {x:Nat} {t:Nat} {op:Int} {y:Nat} {w:Nat} {c:Int} (ht:t<N) (c1:v.cell? ⟨Cb,t,none⟩=some (I c)) (f1:v.frozen? ⟨Cb,t,none⟩=false) (hA:Fl 173 [(0,.slice (some ⟨g,0,none⟩) T ct),(1,I (m:Nat)),(2,.slice (some ⟨b,o,none⟩) N cap),(7,.slice (some ⟨Sb,0,none⟩) m m),(8,.slice (some ⟨Eb,0,none⟩) m m),(9,.slice (some ⟨Lb,0,none⟩) N N),(10,.slice (some ⟨Cb,0,none⟩) N N),(11,.slice (some ⟨Wb,0,none⟩) N N),(12,I (i:Nat)),(13,Pt x 0),(14,I (t:Nat)),(53,I op),(15,Pt y 0),(16,I (w:Nat))] a) :
 q13_30.wp Tryd.prog (fun e a' w'=>e=.normal∧(Fl 173 [(0,.slice (some ⟨g,0,none⟩) T ct),(1,I (m:Nat)),(2,.slice (some ⟨b,o,none⟩) N cap),(7,.slice (some ⟨Sb,0,none⟩) m m),(8,.slice (some ⟨Eb,0,none⟩) m m),(9,.slice (some ⟨Lb,0,none⟩) N N),(10,.slice (some ⟨Cb,0,none⟩) N N),(11,.slice (some ⟨Wb,0,none⟩) N N),(12,I (i:Nat)),(13,Pt x 0),(14,I (t:Nat)),(53,I op),(15,Pt y 0),(16,I (w:Nat))] a'∧w'=v.setCell ⟨Cb,t,none⟩ (I ((0:Nat):Int)))) a v:=by
 have ht':(t:Int)<(N:Int):=by omega
 obtain ⟨u,rfl,hp⟩:=litF hA
 simp only [Fls] at hp
 clear hA
 unfold q13_30 C13 Tryd.f13 seq1 seq2 condA blockC loopC
 simp only [Option.getD_some,lits,Nat.reduceAdd,hp]
 clear hp
 go_wp2_with fail
 first
  |refine ⟨?_,rfl⟩
  |refine ⟨rfl,?_,rfl⟩
  |skip
 exact ⟨rfl,rfl,by
  intro p hp
  simp only [List.mem_cons,List.not_mem_nil,or_false] at hp
  rcases hp with rfl|rfl|rfl|rfl|rfl|rfl|rfl|rfl|rfl|rfl|rfl|rfl|rfl|rfl<;>first|rfl|exact congrArg I (by omega)|exact congrArg Value.bool (by simp<;>omega)|exact congrArg Value.bool (by simp)|(simp;done)⟩
theorem p13_31 {v:World} {a:Act} {g T ct m b o N cap Sb Eb Lb Cb Wb i:Nat} {x:Nat} {t:Nat} {op:Int} {y:Nat} {w:Nat} {c:Int} (ht:t<N) (c1:v.cell? ⟨Wb,t,none⟩=some (I c)) (f1:v.frozen? ⟨Wb,t,none⟩=false) (hA:Fl 173 [(0,.slice (some ⟨g,0,none⟩) T ct),(1,I (m:Nat)),(2,.slice (some ⟨b,o,none⟩) N cap),(7,.slice (some ⟨Sb,0,none⟩) m m),(8,.slice (some ⟨Eb,0,none⟩) m m),(9,.slice (some ⟨Lb,0,none⟩) N N),(10,.slice (some ⟨Cb,0,none⟩) N N),(11,.slice (some ⟨Wb,0,none⟩) N N),(12,I (i:Nat)),(13,Pt x 0),(14,I (t:Nat)),(53,I op),(15,Pt y 0),(16,I (w:Nat))] a) :
 q13_31.wp Tryd.prog (fun e a' w'=>e=.normal∧(Fl 173 [(0,.slice (some ⟨g,0,none⟩) T ct),(1,I (m:Nat)),(2,.slice (some ⟨b,o,none⟩) N cap),(7,.slice (some ⟨Sb,0,none⟩) m m),(8,.slice (some ⟨Eb,0,none⟩) m m),(9,.slice (some ⟨Lb,0,none⟩) N N),(10,.slice (some ⟨Cb,0,none⟩) N N),(11,.slice (some ⟨Wb,0,none⟩) N N),(12,I (i:Nat)),(13,Pt x 0),(14,I (t:Nat)),(53,I op),(15,Pt y 0),(16,I (w:Nat))] a'∧w'=v.setCell ⟨Wb,t,none⟩ (I ((0:Nat):Int)))) a v:=by
 have ht':(t:Int)<(N:Int):=by omega
 obtain ⟨u,rfl,hp⟩:=litF hA
 simp only [Fls] at hp
 clear hA
 unfold q13_31 C13 Tryd.f13 seq1 seq2 condA blockC loopC
 simp only [Option.getD_some,lits,Nat.reduceAdd,hp]
 clear hp
 go_wp2_with fail
 first
  |refine ⟨?_,rfl⟩
  |refine ⟨rfl,?_,rfl⟩
  |skip
 exact ⟨rfl,rfl,by
  intro p hp
  simp only [List.mem_cons,List.not_mem_nil,or_false] at hp
  rcases hp with rfl|rfl|rfl|rfl|rfl|rfl|rfl|rfl|rfl|rfl|rfl|rfl|rfl|rfl<;>first|rfl|exact congrArg I (by omega)|exact congrArg Value.bool (by simp<;>omega)|exact congrArg Value.bool (by simp)|(simp;done)⟩
theorem p13_32 {v:World} {a:Act} {g T ct m b o N cap Sb Eb Lb Cb Wb i:Nat} {x:Nat} {t:Nat} {op:Int} {y:Nat} {w:Nat} {q:Bool} (hw:w<m) (c1:v.cell? ⟨Eb,w,none⟩=some (.bool q)) (f1:v.frozen? ⟨Eb,w,none⟩=false) (hA:Fl 173 [(0,.slice (some ⟨g,0,none⟩) T ct),(1,I (m:Nat)),(2,.slice (some ⟨b,o,none⟩) N cap),(7,.slice (some ⟨Sb,0,none⟩) m m),(8,.slice (some ⟨Eb,0,none⟩) m m),(9,.slice (some ⟨Lb,0,none⟩) N N),(10,.slice (some ⟨Cb,0,none⟩) N N),(11,.slice (some ⟨Wb,0,none⟩) N N),(12,I (i:Nat)),(13,Pt x 0),(14,I (t:Nat)),(53,I op),(15,Pt y 0),(16,I (w:Nat))] a) :
 q13_32.wp Tryd.prog (fun e a' w'=>e=.normal∧(Fl 173 [(0,.slice (some ⟨g,0,none⟩) T ct),(1,I (m:Nat)),(2,.slice (some ⟨b,o,none⟩) N cap),(7,.slice (some ⟨Sb,0,none⟩) m m),(8,.slice (some ⟨Eb,0,none⟩) m m),(9,.slice (some ⟨Lb,0,none⟩) N N),(10,.slice (some ⟨Cb,0,none⟩) N N),(11,.slice (some ⟨Wb,0,none⟩) N N),(12,I (i:Nat)),(13,Pt x 0),(14,I (t:Nat)),(53,I op),(15,Pt y 0),(16,I (w:Nat))] a'∧w'=v.setCell ⟨Eb,w,none⟩ (.bool true))) a v:=by
 have hw':(w:Int)<(m:Int):=by omega
 obtain ⟨u,rfl,hp⟩:=litF hA
 simp only [Fls] at hp
 clear hA
 unfold q13_32 C13 Tryd.f13 seq1 seq2 condA blockC loopC
 simp only [Option.getD_some,lits,Nat.reduceAdd,hp]
 clear hp
 go_wp2_with fail
 first
  |refine ⟨?_,rfl⟩
  |refine ⟨rfl,?_,rfl⟩
  |skip
 exact ⟨rfl,rfl,by
  intro p hp
  simp only [List.mem_cons,List.not_mem_nil,or_false] at hp
  rcases hp with rfl|rfl|rfl|rfl|rfl|rfl|rfl|rfl|rfl|rfl|rfl|rfl|rfl|rfl<;>first|rfl|exact congrArg I (by omega)|exact congrArg Value.bool (by simp<;>omega)|exact congrArg Value.bool (by simp)|(simp;done)⟩
theorem p13_33n {v:World} {a:Act} {g T ct m b o N cap Sb Eb Lb Cb Wb i:Nat} {x:Nat} {t:Nat} {op:Int} {y:Nat} {w:Nat} (ht:t<N) (c1:v.cell? ⟨Lb,t,none⟩=some (.bool false)) (hA:Fl 173 [(0,.slice (some ⟨g,0,none⟩) T ct),(1,I (m:Nat)),(2,.slice (some ⟨b,o,none⟩) N cap),(7,.slice (some ⟨Sb,0,none⟩) m m),(8,.slice (some ⟨Eb,0,none⟩) m m),(9,.slice (some ⟨Lb,0,none⟩) N N),(10,.slice (some ⟨Cb,0,none⟩) N N),(11,.slice (some ⟨Wb,0,none⟩) N N),(12,I (i:Nat)),(13,Pt x 0),(14,I (t:Nat)),(53,I op),(15,Pt y 0),(16,I (w:Nat))] a) :
 q13_33.wp Tryd.prog (fun e a' w'=>e=.normal∧(Fl 173 [(172,.bool false),(0,.slice (some ⟨g,0,none⟩) T ct),(1,I (m:Nat)),(2,.slice (some ⟨b,o,none⟩) N cap),(7,.slice (some ⟨Sb,0,none⟩) m m),(8,.slice (some ⟨Eb,0,none⟩) m m),(9,.slice (some ⟨Lb,0,none⟩) N N),(10,.slice (some ⟨Cb,0,none⟩) N N),(11,.slice (some ⟨Wb,0,none⟩) N N),(12,I (i:Nat)),(13,Pt x 0),(14,I (t:Nat)),(53,I op),(15,Pt y 0),(16,I (w:Nat))] a'∧w'=v)) a v:=by
 have ht':(t:Int)<(N:Int):=by omega
 obtain ⟨u,rfl,hp⟩:=litF hA
 simp only [Fls] at hp
 clear hA
 unfold q13_33 C13 Tryd.f13 seq1 seq2 condA blockC loopC
 simp only [Option.getD_some,lits,Nat.reduceAdd,hp]
 clear hp
 go_wp2_with fail
 first
  |refine ⟨?_,rfl⟩
  |refine ⟨rfl,?_,rfl⟩
  |skip
 exact ⟨rfl,rfl,by
  intro p hp
  simp only [List.mem_cons,List.not_mem_nil,or_false] at hp
  rcases hp with rfl|rfl|rfl|rfl|rfl|rfl|rfl|rfl|rfl|rfl|rfl|rfl|rfl|rfl|rfl<;>first|rfl|exact congrArg I (by omega)|exact congrArg Value.bool (by simp<;>omega)|exact congrArg Value.bool (by simp)|(simp;done)⟩
theorem p13_33y {v:World} {a:Act} {g T ct m b o N cap Sb Eb Lb Cb Wb i:Nat} {x:Nat} {t:Nat} {op:Int} {y:Nat} {w:Nat} (ht:t<N) (c1:v.cell? ⟨Lb,t,none⟩=some (.bool true)) (c2:v.cell? ⟨Cb,t,none⟩=some (I 2)) (c3:v.cell? ⟨Wb,t,none⟩=some (I 0)) (hA:Fl 173 [(0,.slice (some ⟨g,0,none⟩) T ct),(1,I (m:Nat)),(2,.slice (some ⟨b,o,none⟩) N cap),(7,.slice (some ⟨Sb,0,none⟩) m m),(8,.slice (some ⟨Eb,0,none⟩) m m),(9,.slice (some ⟨Lb,0,none⟩) N N),(10,.slice (some ⟨Cb,0,none⟩) N N),(11,.slice (some ⟨Wb,0,none⟩) N N),(12,I (i:Nat)),(13,Pt x 0),(14,I (t:Nat)),(53,I op),(15,Pt y 0),(16,I (w:Nat))] a) :
 q13_33.wp Tryd.prog (fun e a' w'=>e=.normal∧(Fl 173 [(172,.bool false),(0,.slice (some ⟨g,0,none⟩) T ct),(1,I (m:Nat)),(2,.slice (some ⟨b,o,none⟩) N cap),(7,.slice (some ⟨Sb,0,none⟩) m m),(8,.slice (some ⟨Eb,0,none⟩) m m),(9,.slice (some ⟨Lb,0,none⟩) N N),(10,.slice (some ⟨Cb,0,none⟩) N N),(11,.slice (some ⟨Wb,0,none⟩) N N),(12,I (i:Nat)),(13,Pt x 0),(14,I (t:Nat)),(53,I op),(15,Pt y 0),(16,I (w:Nat))] a'∧w'=v)) a v:=by
 have ht':(t:Int)<(N:Int):=by omega
 obtain ⟨u,rfl,hp⟩:=litF hA
 simp only [Fls] at hp
 clear hA
 unfold q13_33 C13 Tryd.f13 seq1 seq2 condA blockC loopC
 simp only [Option.getD_some,lits,Nat.reduceAdd,hp]
 clear hp
 go_wp2_with fail
 first
  |refine ⟨?_,rfl⟩
  |refine ⟨rfl,?_,rfl⟩
  |skip
 exact ⟨rfl,rfl,by
  intro p hp
  simp only [List.mem_cons,List.not_mem_nil,or_false] at hp
  rcases hp with rfl|rfl|rfl|rfl|rfl|rfl|rfl|rfl|rfl|rfl|rfl|rfl|rfl|rfl|rfl<;>first|rfl|exact congrArg I (by omega)|exact congrArg Value.bool (by simp<;>omega)|exact congrArg Value.bool (by simp)|(simp;done)⟩
theorem p13_35 {v:World} {a:Act}   (hA:Fl 173 [] a) :
 q13_35.wp Tryd.prog (fun e a' w'=>e=.normal∧(Fl 173 [(6,.bool true)] a'∧w'=v)) a v:=by
 obtain ⟨u,rfl,-⟩:=litF hA
 clear hA
 unfold q13_35 C13 Tryd.f13 seq1 seq2
 simp only [Option.getD_some,lits,Nat.reduceAdd]
 go_wp2_with fail
 first
  |refine ⟨?_,rfl⟩
  |refine ⟨rfl,?_,rfl⟩
  |skip
 exact ⟨rfl,rfl,by
  intro p hp
  simp only [List.mem_cons,List.not_mem_nil,or_false] at hp
  rcases hp with rfl<;>first|rfl|exact congrArg I (by omega)|exact congrArg Value.bool (by simp<;>omega)|exact congrArg Value.bool (by simp)|(simp;done)⟩
end Go.Proofs.YtaofjdoielmobaaDoor.Gen
