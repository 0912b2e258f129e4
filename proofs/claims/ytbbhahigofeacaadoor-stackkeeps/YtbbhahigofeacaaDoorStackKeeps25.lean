/- Of the proof of StackKeeps. Part 25 of 33. (Joined, by program, and written short, of: La7P.) -/
import Derived.Test.YtbbhahigofeacaaDoorStackKeeps24
set_option linter.unusedSimpArgs false
set_option linter.unusedVariables false
set_option maxHeartbeats 4000000
set_option maxRecDepth 100000
namespace Go.Proofs.YtbbhahigofeacaaDoor.Gen
open Go Go.Lift Go.Conc Go.RowKit
noncomputable def C7:Code:=Tryd.f7.body.getD .skip
noncomputable def q7_0:Code:=(seq1 C7)
noncomputable def q7_1:Code:=(seq1 (seq2 C7))
noncomputable def q7_2:Code:=(seq1 (seq2 (seq2 C7)))
noncomputable def q7_3:Code:=(seq1 (seq2 (seq2 (seq2 C7))))
noncomputable def q7_4:Code:=(seq1 (seq1 (seq2 (seq2 (seq2 (seq2 C7))))))
noncomputable def q7_5:Code:=(seq1 (condA (seq2 (seq1 (seq2 (seq2 (seq2 (seq2 C7))))))))
noncomputable def q7_6:Code:=(seq1 (seq1 (seq2 (seq2 (seq2 (seq2 (seq2 C7)))))))
noncomputable def q7_7:Code:=(seq1 (condA (seq2 (seq1 (seq2 (seq2 (seq2 (seq2 (seq2 C7)))))))))
noncomputable def q7_8:Code:=(seq1 (seq2 (seq2 (seq2 (seq2 (seq2 (seq2 C7)))))))
noncomputable def q7_9:Code:=(seq1 (seq2 (seq2 (seq2 (seq2 (seq2 (seq2 (seq2 C7))))))))
noncomputable def q7_10:Code:=(seq1 (seq1 (seq2 (seq2 (seq2 (seq2 (seq2 (seq2 (seq2 (seq2 C7))))))))))
noncomputable def q7_11:Code:=(seq1 (seq1 (Ar (Ak (seq2 (seq1 (seq2 (seq2 (seq2 (seq2 (seq2 (seq2 (seq2 (seq2 C7))))))))))))))
noncomputable def q7_13:Code:=(seq1 (seq1 (Ak (seq1 (seq2 (Ar (Ak (seq2 (seq1 (seq2 (seq2 (seq2 (seq2 (seq2 (seq2 (seq2 (seq2 C7)))))))))))))))))
noncomputable def q7_14:Code:=(seq1 (condA (seq2 (seq1 (Ak (seq1 (seq2 (Ar (Ak (seq2 (seq1 (seq2 (seq2 (seq2 (seq2 (seq2 (seq2 (seq2 (seq2 C7)))))))))))))))))))
noncomputable def q7_15:Code:=(seq1 (seq2 (Ak (seq1 (seq2 (Ar (Ak (seq2 (seq1 (seq2 (seq2 (seq2 (seq2 (seq2 (seq2 (seq2 (seq2 C7)))))))))))))))))
noncomputable def q7_16:Code:=(seq1 (seq1 (Ar (Ak (seq2 (seq2 (Ak (seq1 (seq2 (Ar (Ak (seq2 (seq1 (seq2 (seq2 (seq2 (seq2 (seq2 (seq2 (seq2 (seq2 C7)))))))))))))))))))))
noncomputable def q7_18:Code:=(seq1 (Ak (seq1 (seq2 (Ar (Ak (seq2 (seq2 (Ak (seq1 (seq2 (Ar (Ak (seq2 (seq1 (seq2 (seq2 (seq2 (seq2 (seq2 (seq2 (seq2 (seq2 C7)))))))))))))))))))))))
noncomputable def q7_19:Code:=(seq1 (seq1 (seq2 (Ak (seq1 (seq2 (Ar (Ak (seq2 (seq2 (Ak (seq1 (seq2 (Ar (Ak (seq2 (seq1 (seq2 (seq2 (seq2 (seq2 (seq2 (seq2 (seq2 (seq2 C7)))))))))))))))))))))))))
noncomputable def q7_20:Code:=(condA (seq2 (seq1 (seq2 (Ak (seq1 (seq2 (Ar (Ak (seq2 (seq2 (Ak (seq1 (seq2 (Ar (Ak (seq2 (seq1 (seq2 (seq2 (seq2 (seq2 (seq2 (seq2 (seq2 (seq2 C7))))))))))))))))))))))))))
noncomputable def q7_21:Code:=(seq1 (seq2 (seq2 (Ak (seq1 (seq2 (Ar (Ak (seq2 (seq2 (Ak (seq1 (seq2 (Ar (Ak (seq2 (seq1 (seq2 (seq2 (seq2 (seq2 (seq2 (seq2 (seq2 (seq2 C7)))))))))))))))))))))))))
noncomputable def q7_22:Code:=(condA (seq2 (seq2 (seq2 (Ak (seq1 (seq2 (Ar (Ak (seq2 (seq2 (Ak (seq1 (seq2 (Ar (Ak (seq2 (seq1 (seq2 (seq2 (seq2 (seq2 (seq2 (seq2 (seq2 (seq2 C7))))))))))))))))))))))))))
noncomputable def q7_17:Code:=(seq2 (seq2 (Ar (Ak (seq2 (seq2 (Ak (seq1 (seq2 (Ar (Ak (seq2 (seq1 (seq2 (seq2 (seq2 (seq2 (seq2 (seq2 (seq2 (seq2 C7)))))))))))))))))))))
noncomputable def q7_12:Code:=(seq2 (seq2 (Ar (Ak (seq2 (seq1 (seq2 (seq2 (seq2 (seq2 (seq2 (seq2 (seq2 (seq2 C7))))))))))))))
noncomputable def q7_23:Code:=(seq1 (seq2 (seq2 (seq2 (seq2 (seq2 (seq2 (seq2 (seq2 (seq2 C7))))))))))
noncomputable def q7_24:Code:=(seq1 (seq2 (seq2 (seq2 (seq2 (seq2 (seq2 (seq2 (seq2 (seq2 (seq2 C7)))))))))))
noncomputable def q7_25:Code:=(seq1 (seq1 (seq2 (seq2 (seq2 (seq2 (seq2 (seq2 (seq2 (seq2 (seq2 (seq2 (seq2 C7)))))))))))))
noncomputable def q7_26:Code:=(seq1 (seq1 (Ar (Ak (seq2 (seq1 (seq2 (seq2 (seq2 (seq2 (seq2 (seq2 (seq2 (seq2 (seq2 (seq2 (seq2 C7)))))))))))))))))
noncomputable def q7_28:Code:=(seq1 (seq1 (Ak (seq1 (seq2 (Ar (Ak (seq2 (seq1 (seq2 (seq2 (seq2 (seq2 (seq2 (seq2 (seq2 (seq2 (seq2 (seq2 (seq2 C7))))))))))))))))))))
noncomputable def q7_29:Code:=(seq1 (condA (seq2 (seq1 (Ak (seq1 (seq2 (Ar (Ak (seq2 (seq1 (seq2 (seq2 (seq2 (seq2 (seq2 (seq2 (seq2 (seq2 (seq2 (seq2 (seq2 C7))))))))))))))))))))))
noncomputable def q7_30:Code:=(seq1 (seq2 (Ak (seq1 (seq2 (Ar (Ak (seq2 (seq1 (seq2 (seq2 (seq2 (seq2 (seq2 (seq2 (seq2 (seq2 (seq2 (seq2 (seq2 C7))))))))))))))))))))
noncomputable def q7_31:Code:=(seq2 (seq2 (Ak (seq1 (seq2 (Ar (Ak (seq2 (seq1 (seq2 (seq2 (seq2 (seq2 (seq2 (seq2 (seq2 (seq2 (seq2 (seq2 (seq2 C7))))))))))))))))))))
noncomputable def q7_27:Code:=(seq2 (seq2 (Ar (Ak (seq2 (seq1 (seq2 (seq2 (seq2 (seq2 (seq2 (seq2 (seq2 (seq2 (seq2 (seq2 (seq2 C7)))))))))))))))))
noncomputable def q7_32:Code:=(seq1 (seq1 (seq2 (seq2 (seq2 (seq2 (seq2 (seq2 (seq2 (seq2 (seq2 (seq2 (seq2 (seq2 C7))))))))))))))
noncomputable def q7_33:Code:=(seq1 (condA (seq2 (seq1 (seq2 (seq2 (seq2 (seq2 (seq2 (seq2 (seq2 (seq2 (seq2 (seq2 (seq2 (seq2 C7))))))))))))))))
noncomputable def q7_34:Code:=(seq1 (seq1 (seq2 (seq2 (seq2 (seq2 (seq2 (seq2 (seq2 (seq2 (seq2 (seq2 (seq2 (seq2 (seq2 C7)))))))))))))))
noncomputable def q7_35:Code:=(seq1 (seq1 (Ar (Ak (seq2 (seq1 (seq2 (seq2 (seq2 (seq2 (seq2 (seq2 (seq2 (seq2 (seq2 (seq2 (seq2 (seq2 (seq2 C7)))))))))))))))))))
noncomputable def q7_37:Code:=(seq1 (Ak (seq1 (seq2 (Ar (Ak (seq2 (seq1 (seq2 (seq2 (seq2 (seq2 (seq2 (seq2 (seq2 (seq2 (seq2 (seq2 (seq2 (seq2 (seq2 C7)))))))))))))))))))))
noncomputable def q7_38:Code:=(seq1 (condA (seq2 (Ak (seq1 (seq2 (Ar (Ak (seq2 (seq1 (seq2 (seq2 (seq2 (seq2 (seq2 (seq2 (seq2 (seq2 (seq2 (seq2 (seq2 (seq2 (seq2 C7)))))))))))))))))))))))
noncomputable def q7_36:Code:=(seq2 (seq2 (Ar (Ak (seq2 (seq1 (seq2 (seq2 (seq2 (seq2 (seq2 (seq2 (seq2 (seq2 (seq2 (seq2 (seq2 (seq2 (seq2 C7)))))))))))))))))))
noncomputable def q7_39:Code:=(seq1 (seq2 (seq2 (seq2 (seq2 (seq2 (seq2 (seq2 (seq2 (seq2 (seq2 (seq2 (seq2 (seq2 (seq2 C7)))))))))))))))
noncomputable def K7_3:Code:=(.seq q7_18 (.seq (.seq q7_19 (.cond ( .tmp 100 ) q7_20 .skip)) (.seq q7_21 (.cond ( .tmp 119 ) q7_22 .skip))))
noncomputable def K7_2:Code:=(.loop (.seq (.seq q7_16 (.cond ( .tmp 77 ) .skip (.exit 2))) (.seq (.block 3 K7_3) q7_17)))
noncomputable def K7_1:Code:=(.seq (.seq q7_13 (.cond ( .tmp 70 ) (.seq q7_14 .ret) .skip)) (.seq q7_15 (.block 2 K7_2)))
noncomputable def K7_0:Code:=(.loop (.seq (.seq q7_11 (.cond ( .tmp 57 ) .skip (.exit 0))) (.seq (.block 1 K7_1) q7_12)))
noncomputable def K7_5:Code:=(.seq (.seq q7_28 (.cond ( .tmp 149 ) (.seq q7_29 .ret) .skip)) (.seq q7_30 q7_31))
noncomputable def K7_4:Code:=(.loop (.seq (.seq q7_26 (.cond ( .tmp 139 ) .skip (.exit 4))) (.seq (.block 5 K7_5) q7_27)))
noncomputable def K7_7:Code:=(.seq q7_37 (.cond ( .tmp 188 ) (.seq q7_38 .ret) .skip))
noncomputable def K7_6:Code:=(.loop (.seq (.seq q7_35 (.cond ( .tmp 173 ) .skip (.exit 6))) (.seq (.block 7 K7_7) q7_36)))
theorem e7:C7=(.seq q7_0 (.seq q7_1 (.seq q7_2 (.seq q7_3 (.seq (.seq q7_4 (.cond ( .tmp 35 ) (.seq q7_5 .ret) .skip)) (.seq (.seq q7_6 (.cond ( .tmp 53 ) (.seq q7_7 .ret) .skip)) (.seq q7_8 (.seq q7_9 (.seq (.seq q7_10 (.block 0 K7_0)) (.seq q7_23 (.seq q7_24 (.seq (.seq q7_25 (.block 4 K7_4)) (.seq (.seq q7_32 (.cond ( .tmp 169 ) (.seq q7_33 .ret) .skip)) (.seq (.seq q7_34 (.block 6 K7_6)) (.seq q7_39 .ret))))))))))))))):=by kernel_rfl
theorem p7_4n {v:World}{a:Act}{E:Int}(hE:E≠0) (hA:Fl 189 [(7,.bool true),(10,I E)] a) :
 q7_4.wp Tryd.prog (fun e a' w'=>e=.normal∧(Fl 189 [(35,.bool true),(7,.bool true),(10,I E)] a'∧w'=v)) a v:=by
 obtain ⟨u,rfl,hp⟩:=litF hA
 simp only[Fls] at hp
 clear hA
 unfold q7_4 C7 Tryd.f7 seq1 seq2
 simp only[Option.getD_some,lits,Nat.reduceAdd,hp]
 clear hp
 go_wp2_with fail
 first
  |refine ⟨?_,rfl⟩
  |refine ⟨rfl,?_,rfl⟩
  |skip
 exact ⟨rfl,rfl,by
  intro p hp
  simp only[List.mem_cons,List.not_mem_nil,or_false] at hp
  rcases hp with rfl|rfl|rfl<;>first|rfl|exact congrArg I (by omega)|exact congrArg Value.bool (by simp<;>omega)|exact congrArg Value.bool (by simp)|(simp;done)⟩
theorem p7_4y {v:World}{a:Act}{n N b o cap M wb:Nat}  (hA:Fl 189 [(7,.bool true),(10,I 0),(1,I (n:Nat)),(2,.slice (some ⟨b,o,none⟩) N cap),(8,Pt wb 0),(9,.slice (some ⟨M,0,none⟩) N N)] a) :
 q7_4.wp Tryd.prog (fun e a' w'=>e=.normal∧(Fl 189 [(35,.bool false),(1,I (n:Nat)),(2,.slice (some ⟨b,o,none⟩) N cap),(8,Pt wb 0),(9,.slice (some ⟨M,0,none⟩) N N)] a'∧w'=v)) a v:=by
 obtain ⟨u,rfl,hp⟩:=litF hA
 simp only[Fls] at hp
 clear hA
 unfold q7_4 C7 Tryd.f7 seq1 seq2
 simp only[Option.getD_some,lits,Nat.reduceAdd,hp]
 clear hp
 go_wp2_with fail
 first
  |refine ⟨?_,rfl⟩
  |refine ⟨rfl,?_,rfl⟩
  |skip
 exact ⟨rfl,rfl,by
  intro p hp
  simp only[List.mem_cons,List.not_mem_nil,or_false] at hp
  rcases hp with rfl|rfl|rfl|rfl|rfl<;>first|rfl|exact congrArg I (by omega)|exact congrArg Value.bool (by simp<;>omega)|exact congrArg Value.bool (by simp)|(simp;done)⟩
theorem p7_5 {v:World}{a:Act}{E:Int}  (hA:Fl 189 [(7,.bool true),(10,I E)] a) :
 q7_5.wp Tryd.prog (fun e a' w'=>e=.normal∧(Fl 189 [(6,.bool true)] a'∧w'=v)) a v:=by
 obtain ⟨u,rfl,hp⟩:=litF hA
 simp only[Fls] at hp
 clear hA
 unfold q7_5 C7 Tryd.f7 seq1 seq2 condA
 simp only[Option.getD_some,lits,Nat.reduceAdd,hp]
 clear hp
 go_wp2_with fail
 first
  |refine ⟨?_,rfl⟩
  |refine ⟨rfl,?_,rfl⟩
  |skip
 exact ⟨rfl,rfl,by
  intro p hp
  simp only[List.mem_cons,List.not_mem_nil,or_false] at hp
  rcases hp with rfl<;>first|rfl|exact congrArg I (by omega)|exact congrArg Value.bool (by simp<;>omega)|exact congrArg Value.bool (by simp)|(simp;done)⟩
theorem p7_8 {v:World}{a:Act}{n N b o cap M wb:Nat}  (hA:Fl 189 [(1,I (n:Nat)),(2,.slice (some ⟨b,o,none⟩) N cap),(8,Pt wb 0),(9,.slice (some ⟨M,0,none⟩) N N)] a) :
 q7_8.wp Tryd.prog (fun e a' w'=>e=.normal∧(Fl 189 [(1,I (n:Nat)),(2,.slice (some ⟨b,o,none⟩) N cap),(8,Pt wb 0),(9,.slice (some ⟨M,0,none⟩) N N),(11,.slice none 0 0)] a'∧w'=v)) a v:=by
 obtain ⟨u,rfl,hp⟩:=litF hA
 simp only[Fls] at hp
 clear hA
 unfold q7_8 C7 Tryd.f7 seq1 seq2
 simp only[Option.getD_some,lits,Nat.reduceAdd,hp]
 clear hp
 go_wp2_with fail
 first
  |refine ⟨?_,rfl⟩
  |refine ⟨rfl,?_,rfl⟩
  |skip
 exact ⟨rfl,rfl,by
  intro p hp
  simp only[List.mem_cons,List.not_mem_nil,or_false] at hp
  rcases hp with rfl|rfl|rfl|rfl|rfl<;>first|rfl|exact congrArg I (by omega)|exact congrArg Value.bool (by simp<;>omega)|exact congrArg Value.bool (by simp)|(simp;done)⟩
theorem p7_9 {v:World}{a:Act}{n N b o cap M wb:Nat}{pp:Option Addr}{P pc:Nat}  (hA:Fl 189 [(1,I (n:Nat)),(2,.slice (some ⟨b,o,none⟩) N cap),(8,Pt wb 0),(9,.slice (some ⟨M,0,none⟩) N N),(11,.slice pp P pc)] a) :
 q7_9.wp Tryd.prog (fun e a' w'=>e=.normal∧(Fl 189 [(1,I (n:Nat)),(2,.slice (some ⟨b,o,none⟩) N cap),(8,Pt wb 0),(9,.slice (some ⟨M,0,none⟩) N N),(11,.slice pp P pc),(12,.slice none 0 0)] a'∧w'=v)) a v:=by
 obtain ⟨u,rfl,hp⟩:=litF hA
 simp only[Fls] at hp
 clear hA
 unfold q7_9 C7 Tryd.f7 seq1 seq2
 simp only[Option.getD_some,lits,Nat.reduceAdd,hp]
 clear hp
 go_wp2_with fail
 first
  |refine ⟨?_,rfl⟩
  |refine ⟨rfl,?_,rfl⟩
  |skip
 exact ⟨rfl,rfl,by
  intro p hp
  simp only[List.mem_cons,List.not_mem_nil,or_false] at hp
  rcases hp with rfl|rfl|rfl|rfl|rfl|rfl<;>first|rfl|exact congrArg I (by omega)|exact congrArg Value.bool (by simp<;>omega)|exact congrArg Value.bool (by simp)|(simp;done)⟩
theorem p7_10 {v:World}{a:Act}{n N b o cap M wb:Nat}{pp tp:Option Addr}{P pc Q tc:Nat}  (hA:Fl 189 [(1,I (n:Nat)),(2,.slice (some ⟨b,o,none⟩) N cap),(8,Pt wb 0),(9,.slice (some ⟨M,0,none⟩) N N),(11,.slice pp P pc),(12,.slice tp Q tc)] a) :
 q7_10.wp Tryd.prog (fun e a' w'=>e=.normal∧(Fl 189 [(1,I (n:Nat)),(2,.slice (some ⟨b,o,none⟩) N cap),(8,Pt wb 0),(9,.slice (some ⟨M,0,none⟩) N N),(11,.slice pp P pc),(12,.slice tp Q tc),(13,I 0)] a'∧w'=v)) a v:=by
 obtain ⟨u,rfl,hp⟩:=litF hA
 simp only[Fls] at hp
 clear hA
 unfold q7_10 C7 Tryd.f7 seq1 seq2
 simp only[Option.getD_some,lits,Nat.reduceAdd,hp]
 clear hp
 go_wp2_with fail
 first
  |refine ⟨?_,rfl⟩
  |refine ⟨rfl,?_,rfl⟩
  |skip
 exact ⟨rfl,rfl,by
  intro p hp
  simp only[List.mem_cons,List.not_mem_nil,or_false] at hp
  rcases hp with rfl|rfl|rfl|rfl|rfl|rfl|rfl<;>first|rfl|exact congrArg I (by omega)|exact congrArg Value.bool (by simp<;>omega)|exact congrArg Value.bool (by simp)|(simp;done)⟩
theorem p7_11 {v:World}{a:Act}{n N b o cap M wb:Nat}{pp tp:Option Addr}{P pc Q tc:Nat}{i:Nat}  (hA:Fl 189 [(1,I (n:Nat)),(2,.slice (some ⟨b,o,none⟩) N cap),(8,Pt wb 0),(9,.slice (some ⟨M,0,none⟩) N N),(11,.slice pp P pc),(12,.slice tp Q tc),(13,I (i:Nat))] a) :
 q7_11.wp Tryd.prog (fun e a' w'=>e=.normal∧(Fl 189 [(57,.bool (decide (i<N))),(1,I (n:Nat)),(2,.slice (some ⟨b,o,none⟩) N cap),(8,Pt wb 0),(9,.slice (some ⟨M,0,none⟩) N N),(11,.slice pp P pc),(12,.slice tp Q tc),(13,I (i:Nat))] a'∧w'=v)) a v:=by
 obtain ⟨u,rfl,hp⟩:=litF hA
 simp only[Fls] at hp
 clear hA
 unfold q7_11 C7 Tryd.f7 seq1 seq2 Ak Ar
 simp only[Option.getD_some,lits,Nat.reduceAdd,hp]
 clear hp
 go_wp2_with fail
 first
  |refine ⟨?_,rfl⟩
  |refine ⟨rfl,?_,rfl⟩
  |skip
 exact ⟨rfl,rfl,by
  intro p hp
  simp only[List.mem_cons,List.not_mem_nil,or_false] at hp
  rcases hp with rfl|rfl|rfl|rfl|rfl|rfl|rfl|rfl<;>first|rfl|exact congrArg I (by omega)|exact congrArg Value.bool (by simp<;>omega)|exact congrArg Value.bool (by simp)|(simp;done)⟩
theorem p7_12 {v:World}{a:Act}{n N b o cap M wb:Nat}{pp tp:Option Addr}{P pc Q tc:Nat}{i:Nat}(hq:i<1000000000) (hA:Fl 189 [(1,I (n:Nat)),(2,.slice (some ⟨b,o,none⟩) N cap),(8,Pt wb 0),(9,.slice (some ⟨M,0,none⟩) N N),(11,.slice pp P pc),(12,.slice tp Q tc),(13,I (i:Nat))] a) :
 q7_12.wp Tryd.prog (fun e a' w'=>e=.normal∧(Fl 189 [(1,I (n:Nat)),(2,.slice (some ⟨b,o,none⟩) N cap),(8,Pt wb 0),(9,.slice (some ⟨M,0,none⟩) N N),(11,.slice pp P pc),(12,.slice tp Q tc),(13,I ((i+1:Nat):Int))] a'∧w'=v)) a v:=by
 have h9:IntKind.i64.wrap ((i:Int)+1)=((i+1:Nat):Int):=by rw[IntKind.wrap_i64];omega
 obtain ⟨u,rfl,hp⟩:=litF hA
 simp only[Fls] at hp
 clear hA
 unfold q7_12 C7 Tryd.f7 seq1 seq2 Ak Ar
 simp only[Option.getD_some,lits,Nat.reduceAdd,hp]
 clear hp
 go_wp2_with fail
 first
  |refine ⟨?_,rfl⟩
  |refine ⟨rfl,?_,rfl⟩
  |skip
 exact ⟨rfl,rfl,by
  intro p hp
  simp only[List.mem_cons,List.not_mem_nil,or_false] at hp
  rcases hp with rfl|rfl|rfl|rfl|rfl|rfl|rfl<;>first|rfl|exact congrArg I (by omega)|exact congrArg Value.bool (by simp<;>omega)|exact congrArg Value.bool (by simp)|(simp;done)⟩
theorem p7_15 {v:World}{a:Act}{n N b o cap M wb:Nat}{pp tp:Option Addr}{P pc Q tc:Nat}{i:Nat}  (hA:Fl 189 [(1,I (n:Nat)),(2,.slice (some ⟨b,o,none⟩) N cap),(8,Pt wb 0),(9,.slice (some ⟨M,0,none⟩) N N),(11,.slice pp P pc),(12,.slice tp Q tc),(13,I (i:Nat))] a) :
 q7_15.wp Tryd.prog (fun e a' w'=>e=.normal∧(Fl 189 [(1,I (n:Nat)),(2,.slice (some ⟨b,o,none⟩) N cap),(8,Pt wb 0),(9,.slice (some ⟨M,0,none⟩) N N),(11,.slice pp P pc),(12,.slice tp Q tc),(13,I (i:Nat)),(14,I 0)] a'∧w'=v)) a v:=by
 obtain ⟨u,rfl,hp⟩:=litF hA
 simp only[Fls] at hp
 clear hA
 unfold q7_15 C7 Tryd.f7 seq1 seq2 Ak Ar
 simp only[Option.getD_some,lits,Nat.reduceAdd,hp]
 clear hp
 go_wp2_with fail
 first
  |refine ⟨?_,rfl⟩
  |refine ⟨rfl,?_,rfl⟩
  |skip
 exact ⟨rfl,rfl,by
  intro p hp
  simp only[List.mem_cons,List.not_mem_nil,or_false] at hp
  rcases hp with rfl|rfl|rfl|rfl|rfl|rfl|rfl|rfl<;>first|rfl|exact congrArg I (by omega)|exact congrArg Value.bool (by simp<;>omega)|exact congrArg Value.bool (by simp)|(simp;done)⟩
theorem p7_16 {v:World}{a:Act}{n N b o cap M wb:Nat}{pp tp:Option Addr}{P pc Q tc:Nat}{i k:Nat}{L cc:Nat}{ap:Option Addr}(hi:i<N) (d:v.cell? ⟨M,i,none⟩=some (.slice ap L cc)) (hA:Fl 189 [(1,I (n:Nat)),(2,.slice (some ⟨b,o,none⟩) N cap),(8,Pt wb 0),(9,.slice (some ⟨M,0,none⟩) N N),(11,.slice pp P pc),(12,.slice tp Q tc),(13,I (i:Nat)),(14,I (k:Nat))] a) :
 q7_16.wp Tryd.prog (fun e a' w'=>e=.normal∧(Fl 189 [(77,.bool (decide (k<L))),(1,I (n:Nat)),(2,.slice (some ⟨b,o,none⟩) N cap),(8,Pt wb 0),(9,.slice (some ⟨M,0,none⟩) N N),(11,.slice pp P pc),(12,.slice tp Q tc),(13,I (i:Nat)),(14,I (k:Nat))] a'∧w'=v)) a v:=by
 have hi':(i:Int)<(N:Int):=by omega
 obtain ⟨u,rfl,hp⟩:=litF hA
 simp only[Fls] at hp
 clear hA
 unfold q7_16 C7 Tryd.f7 seq1 seq2 Ak Ar
 simp only[Option.getD_some,lits,Nat.reduceAdd,hp]
 clear hp
 go_wp2_with fail
 first
  |refine ⟨?_,rfl⟩
  |refine ⟨rfl,?_,rfl⟩
  |skip
 exact ⟨rfl,rfl,by
  intro p hp
  simp only[List.mem_cons,List.not_mem_nil,or_false] at hp
  rcases hp with rfl|rfl|rfl|rfl|rfl|rfl|rfl|rfl|rfl<;>first|rfl|exact congrArg I (by omega)|exact congrArg Value.bool (by simp<;>omega)|exact congrArg Value.bool (by simp)|(simp;done)⟩
theorem p7_17 {v:World}{a:Act}{n N b o cap M wb:Nat}{pp tp:Option Addr}{P pc Q tc:Nat}{i:Nat}{k:Nat}(hq:k<1000000000) (hA:Fl 189 [(1,I (n:Nat)),(2,.slice (some ⟨b,o,none⟩) N cap),(8,Pt wb 0),(9,.slice (some ⟨M,0,none⟩) N N),(11,.slice pp P pc),(12,.slice tp Q tc),(13,I (i:Nat)),(14,I (k:Nat))] a) :
 q7_17.wp Tryd.prog (fun e a' w'=>e=.normal∧(Fl 189 [(1,I (n:Nat)),(2,.slice (some ⟨b,o,none⟩) N cap),(8,Pt wb 0),(9,.slice (some ⟨M,0,none⟩) N N),(11,.slice pp P pc),(12,.slice tp Q tc),(13,I (i:Nat)),(14,I ((k+1:Nat):Int))] a'∧w'=v)) a v:=by
 have h9:IntKind.i64.wrap ((k:Int)+1)=((k+1:Nat):Int):=by rw[IntKind.wrap_i64];omega
 obtain ⟨u,rfl,hp⟩:=litF hA
 simp only[Fls] at hp
 clear hA
 unfold q7_17 C7 Tryd.f7 seq1 seq2 Ak Ar
 simp only[Option.getD_some,lits,Nat.reduceAdd,hp]
 clear hp
 go_wp2_with fail
 first
  |refine ⟨?_,rfl⟩
  |refine ⟨rfl,?_,rfl⟩
  |skip
 exact ⟨rfl,rfl,by
  intro p hp
  simp only[List.mem_cons,List.not_mem_nil,or_false] at hp
  rcases hp with rfl|rfl|rfl|rfl|rfl|rfl|rfl|rfl<;>first|rfl|exact congrArg I (by omega)|exact congrArg Value.bool (by simp<;>omega)|exact congrArg Value.bool (by simp)|(simp;done)⟩
theorem p7_18 {v:World}{a:Act}{n N b o cap M wb:Nat}{pp tp:Option Addr}{P pc Q tc:Nat}{i k:Nat}{L cc rb ro:Nat}{po ca cb c4:Int}(hi:i<N) (hk:k<L) (d:v.cell? ⟨b,o+i,none⟩=some (.slice (some ⟨rb,ro,none⟩) L cc)) (d0:v.cell? ⟨rb,ro+k*4,none⟩=some (I po)) (d1:v.cell? ⟨rb,ro+k*4+1,none⟩=some (I ca)) (d2:v.cell? ⟨rb,ro+k*4+2,none⟩=some (I cb)) (d3:v.cell? ⟨rb,ro+k*4+3,none⟩=some (I c4)) (hA:Fl 189 [(1,I (n:Nat)),(2,.slice (some ⟨b,o,none⟩) N cap),(8,Pt wb 0),(9,.slice (some ⟨M,0,none⟩) N N),(11,.slice pp P pc),(12,.slice tp Q tc),(13,I (i:Nat)),(14,I (k:Nat))] a) :
 q7_18.wp Tryd.prog (fun e a' w'=>e=.normal∧(Fl 189 [(1,I (n:Nat)),(2,.slice (some ⟨b,o,none⟩) N cap),(8,Pt wb 0),(9,.slice (some ⟨M,0,none⟩) N N),(11,.slice pp P pc),(12,.slice tp Q tc),(13,I (i:Nat)),(14,I (k:Nat)),(15,Pt v.heap.size 0)] a'∧w'=v.alloc (.cells #[I po,I ca,I cb,I c4] 50))) a v:=by
 have hi':(i:Int)<(N:Int):=by omega
 have hk':(k:Int)<(L:Int):=by omega
 obtain ⟨u,rfl,hp⟩:=litF hA
 simp only[Fls] at hp
 clear hA
 unfold q7_18 C7 Tryd.f7 seq1 seq2 Ak Ar
 simp only[Option.getD_some,lits,Nat.reduceAdd,hp]
 clear hp
 go_wp2_with fail
 first
  |refine ⟨?_,rfl⟩
  |refine ⟨rfl,?_,rfl⟩
  |skip
 exact ⟨rfl,rfl,by
  intro p hp
  simp only[List.mem_cons,List.not_mem_nil,or_false] at hp
  rcases hp with rfl|rfl|rfl|rfl|rfl|rfl|rfl|rfl|rfl<;>first|rfl|exact congrArg I (by omega)|exact congrArg Value.bool (by simp<;>omega)|exact congrArg Value.bool (by simp)|(simp;done)⟩
theorem p7_19y {v:World}{a:Act}{n N b o cap M wb:Nat}{pp tp:Option Addr}{P pc Q tc:Nat}{i k x:Nat}{po e:Int}{L cc A:Nat}(c0:v.cell? ⟨x,0,none⟩=some (I po)) (hi:i<N) (hk:k<L) (d:v.cell? ⟨M,i,none⟩=some (.slice (some ⟨A,0,none⟩) L cc)) (d0:v.cell? ⟨A,k*2,none⟩=some (I e)) (h1:po=1) (h2:e=0) (hA:Fl 189 [(1,I (n:Nat)),(2,.slice (some ⟨b,o,none⟩) N cap),(8,Pt wb 0),(9,.slice (some ⟨M,0,none⟩) N N),(11,.slice pp P pc),(12,.slice tp Q tc),(13,I (i:Nat)),(14,I (k:Nat)),(15,Pt x 0)] a) :
 q7_19.wp Tryd.prog (fun e a' w'=>e=.normal∧(Fl 189 [(100,.bool true),(1,I (n:Nat)),(2,.slice (some ⟨b,o,none⟩) N cap),(8,Pt wb 0),(9,.slice (some ⟨M,0,none⟩) N N),(11,.slice pp P pc),(12,.slice tp Q tc),(13,I (i:Nat)),(14,I (k:Nat)),(15,Pt x 0)] a'∧w'=v)) a v:=by
 have hi':(i:Int)<(N:Int):=by omega
 have hk':(k:Int)<(L:Int):=by omega
 subst h1 h2
 obtain ⟨u,rfl,hp⟩:=litF hA
 simp only[Fls] at hp
 clear hA
 unfold q7_19 C7 Tryd.f7 seq1 seq2 Ak Ar
 simp only[Option.getD_some,lits,Nat.reduceAdd,hp]
 clear hp
 go_wp2_with fail
 first
  |refine ⟨?_,rfl⟩
  |refine ⟨rfl,?_,rfl⟩
  |skip
 exact ⟨rfl,rfl,by
  intro p hp
  simp only[List.mem_cons,List.not_mem_nil,or_false] at hp
  rcases hp with rfl|rfl|rfl|rfl|rfl|rfl|rfl|rfl|rfl|rfl<;>first|rfl|exact congrArg I (by omega)|exact congrArg Value.bool (by simp<;>omega)|exact congrArg Value.bool (by simp)|(simp;done)⟩
theorem p7_19a {v:World}{a:Act}{n N b o cap M wb:Nat}{pp tp:Option Addr}{P pc Q tc:Nat}{i k x:Nat}{po:Int}(c0:v.cell? ⟨x,0,none⟩=some (I po)) (h1:¬ po=1) (hA:Fl 189 [(1,I (n:Nat)),(2,.slice (some ⟨b,o,none⟩) N cap),(8,Pt wb 0),(9,.slice (some ⟨M,0,none⟩) N N),(11,.slice pp P pc),(12,.slice tp Q tc),(13,I (i:Nat)),(14,I (k:Nat)),(15,Pt x 0)] a) :
 q7_19.wp Tryd.prog (fun e a' w'=>e=.normal∧(Fl 189 [(100,.bool false),(1,I (n:Nat)),(2,.slice (some ⟨b,o,none⟩) N cap),(8,Pt wb 0),(9,.slice (some ⟨M,0,none⟩) N N),(11,.slice pp P pc),(12,.slice tp Q tc),(13,I (i:Nat)),(14,I (k:Nat)),(15,Pt x 0)] a'∧w'=v)) a v:=by
 obtain ⟨u,rfl,hp⟩:=litF hA
 simp only[Fls] at hp
 clear hA
 unfold q7_19 C7 Tryd.f7 seq1 seq2 Ak Ar
 simp only[Option.getD_some,lits,Nat.reduceAdd,hp]
 clear hp
 go_wp2_with fail
 first
  |refine ⟨?_,rfl⟩
  |refine ⟨rfl,?_,rfl⟩
  |skip
 exact ⟨rfl,rfl,by
  intro p hp
  simp only[List.mem_cons,List.not_mem_nil,or_false] at hp
  rcases hp with rfl|rfl|rfl|rfl|rfl|rfl|rfl|rfl|rfl|rfl<;>first|rfl|exact congrArg I (by omega)|exact congrArg Value.bool (by simp<;>omega)|exact congrArg Value.bool (by simp)|(simp;done)⟩
theorem p7_19b {v:World}{a:Act}{n N b o cap M wb:Nat}{pp tp:Option Addr}{P pc Q tc:Nat}{i k x:Nat}{po e:Int}{L cc A:Nat}(c0:v.cell? ⟨x,0,none⟩=some (I po)) (hi:i<N) (hk:k<L) (d:v.cell? ⟨M,i,none⟩=some (.slice (some ⟨A,0,none⟩) L cc)) (d0:v.cell? ⟨A,k*2,none⟩=some (I e)) (h1:po=1) (h2:¬ e=0) (hA:Fl 189 [(1,I (n:Nat)),(2,.slice (some ⟨b,o,none⟩) N cap),(8,Pt wb 0),(9,.slice (some ⟨M,0,none⟩) N N),(11,.slice pp P pc),(12,.slice tp Q tc),(13,I (i:Nat)),(14,I (k:Nat)),(15,Pt x 0)] a) :
 q7_19.wp Tryd.prog (fun e a' w'=>e=.normal∧(Fl 189 [(100,.bool false),(1,I (n:Nat)),(2,.slice (some ⟨b,o,none⟩) N cap),(8,Pt wb 0),(9,.slice (some ⟨M,0,none⟩) N N),(11,.slice pp P pc),(12,.slice tp Q tc),(13,I (i:Nat)),(14,I (k:Nat)),(15,Pt x 0)] a'∧w'=v)) a v:=by
 have hi':(i:Int)<(N:Int):=by omega
 have hk':(k:Int)<(L:Int):=by omega
 subst h1
 obtain ⟨u,rfl,hp⟩:=litF hA
 simp only[Fls] at hp
 clear hA
 unfold q7_19 C7 Tryd.f7 seq1 seq2 Ak Ar
 simp only[Option.getD_some,lits,Nat.reduceAdd,hp]
 clear hp
 go_wp2_with fail
 first
  |refine ⟨?_,rfl⟩
  |refine ⟨rfl,?_,rfl⟩
  |skip
 exact ⟨rfl,rfl,by
  intro p hp
  simp only[List.mem_cons,List.not_mem_nil,or_false] at hp
  rcases hp with rfl|rfl|rfl|rfl|rfl|rfl|rfl|rfl|rfl|rfl<;>first|rfl|exact congrArg I (by omega)|exact congrArg Value.bool (by simp<;>omega)|exact congrArg Value.bool (by simp)|(simp;done)⟩
theorem p7_21y {v:World}{a:Act}{n N b o cap M wb:Nat}{pp tp:Option Addr}{P pc Q tc:Nat}{i k x:Nat}{po e:Int}{L cc A:Nat}(c0:v.cell? ⟨x,0,none⟩=some (I po)) (hi:i<N) (hk:k<L) (d:v.cell? ⟨M,i,none⟩=some (.slice (some ⟨A,0,none⟩) L cc)) (d0:v.cell? ⟨A,k*2,none⟩=some (I e)) (h1:po=2) (h2:e=0) (hA:Fl 189 [(1,I (n:Nat)),(2,.slice (some ⟨b,o,none⟩) N cap),(8,Pt wb 0),(9,.slice (some ⟨M,0,none⟩) N N),(11,.slice pp P pc),(12,.slice tp Q tc),(13,I (i:Nat)),(14,I (k:Nat)),(15,Pt x 0)] a) :
 q7_21.wp Tryd.prog (fun e a' w'=>e=.normal∧(Fl 189 [(119,.bool true),(1,I (n:Nat)),(2,.slice (some ⟨b,o,none⟩) N cap),(8,Pt wb 0),(9,.slice (some ⟨M,0,none⟩) N N),(11,.slice pp P pc),(12,.slice tp Q tc),(13,I (i:Nat)),(14,I (k:Nat)),(15,Pt x 0)] a'∧w'=v)) a v:=by
 have hi':(i:Int)<(N:Int):=by omega
 have hk':(k:Int)<(L:Int):=by omega
 subst h1 h2
 obtain ⟨u,rfl,hp⟩:=litF hA
 simp only[Fls] at hp
 clear hA
 unfold q7_21 C7 Tryd.f7 seq1 seq2 Ak Ar
 simp only[Option.getD_some,lits,Nat.reduceAdd,hp]
 clear hp
 go_wp2_with fail
 first
  |refine ⟨?_,rfl⟩
  |refine ⟨rfl,?_,rfl⟩
  |skip
 exact ⟨rfl,rfl,by
  intro p hp
  simp only[List.mem_cons,List.not_mem_nil,or_false] at hp
  rcases hp with rfl|rfl|rfl|rfl|rfl|rfl|rfl|rfl|rfl|rfl<;>first|rfl|exact congrArg I (by omega)|exact congrArg Value.bool (by simp<;>omega)|exact congrArg Value.bool (by simp)|(simp;done)⟩
theorem p7_21a {v:World}{a:Act}{n N b o cap M wb:Nat}{pp tp:Option Addr}{P pc Q tc:Nat}{i k x:Nat}{po:Int}(c0:v.cell? ⟨x,0,none⟩=some (I po)) (h1:¬ po=2) (hA:Fl 189 [(1,I (n:Nat)),(2,.slice (some ⟨b,o,none⟩) N cap),(8,Pt wb 0),(9,.slice (some ⟨M,0,none⟩) N N),(11,.slice pp P pc),(12,.slice tp Q tc),(13,I (i:Nat)),(14,I (k:Nat)),(15,Pt x 0)] a) :
 q7_21.wp Tryd.prog (fun e a' w'=>e=.normal∧(Fl 189 [(119,.bool false),(1,I (n:Nat)),(2,.slice (some ⟨b,o,none⟩) N cap),(8,Pt wb 0),(9,.slice (some ⟨M,0,none⟩) N N),(11,.slice pp P pc),(12,.slice tp Q tc),(13,I (i:Nat)),(14,I (k:Nat)),(15,Pt x 0)] a'∧w'=v)) a v:=by
 obtain ⟨u,rfl,hp⟩:=litF hA
 simp only[Fls] at hp
 clear hA
 unfold q7_21 C7 Tryd.f7 seq1 seq2 Ak Ar
 simp only[Option.getD_some,lits,Nat.reduceAdd,hp]
 clear hp
 go_wp2_with fail
 first
  |refine ⟨?_,rfl⟩
  |refine ⟨rfl,?_,rfl⟩
  |skip
 exact ⟨rfl,rfl,by
  intro p hp
  simp only[List.mem_cons,List.not_mem_nil,or_false] at hp
  rcases hp with rfl|rfl|rfl|rfl|rfl|rfl|rfl|rfl|rfl|rfl<;>first|rfl|exact congrArg I (by omega)|exact congrArg Value.bool (by simp<;>omega)|exact congrArg Value.bool (by simp)|(simp;done)⟩
theorem p7_21b {v:World}{a:Act}{n N b o cap M wb:Nat}{pp tp:Option Addr}{P pc Q tc:Nat}{i k x:Nat}{po e:Int}{L cc A:Nat}(c0:v.cell? ⟨x,0,none⟩=some (I po)) (hi:i<N) (hk:k<L) (d:v.cell? ⟨M,i,none⟩=some (.slice (some ⟨A,0,none⟩) L cc)) (d0:v.cell? ⟨A,k*2,none⟩=some (I e)) (h1:po=2) (h2:¬ e=0) (hA:Fl 189 [(1,I (n:Nat)),(2,.slice (some ⟨b,o,none⟩) N cap),(8,Pt wb 0),(9,.slice (some ⟨M,0,none⟩) N N),(11,.slice pp P pc),(12,.slice tp Q tc),(13,I (i:Nat)),(14,I (k:Nat)),(15,Pt x 0)] a) :
 q7_21.wp Tryd.prog (fun e a' w'=>e=.normal∧(Fl 189 [(119,.bool false),(1,I (n:Nat)),(2,.slice (some ⟨b,o,none⟩) N cap),(8,Pt wb 0),(9,.slice (some ⟨M,0,none⟩) N N),(11,.slice pp P pc),(12,.slice tp Q tc),(13,I (i:Nat)),(14,I (k:Nat)),(15,Pt x 0)] a'∧w'=v)) a v:=by
 have hi':(i:Int)<(N:Int):=by omega
 have hk':(k:Int)<(L:Int):=by omega
 subst h1
 obtain ⟨u,rfl,hp⟩:=litF hA
 simp only[Fls] at hp
 clear hA
 unfold q7_21 C7 Tryd.f7 seq1 seq2 Ak Ar
 simp only[Option.getD_some,lits,Nat.reduceAdd,hp]
 clear hp
 go_wp2_with fail
 first
  |refine ⟨?_,rfl⟩
  |refine ⟨rfl,?_,rfl⟩
  |skip
 exact ⟨rfl,rfl,by
  intro p hp
  simp only[List.mem_cons,List.not_mem_nil,or_false] at hp
  rcases hp with rfl|rfl|rfl|rfl|rfl|rfl|rfl|rfl|rfl|rfl<;>first|rfl|exact congrArg I (by omega)|exact congrArg Value.bool (by simp<;>omega)|exact congrArg Value.bool (by simp)|(simp;done)⟩
end Go.Proofs.YtbbhahigofeacaaDoor.Gen
