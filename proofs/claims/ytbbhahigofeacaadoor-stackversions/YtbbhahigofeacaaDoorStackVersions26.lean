/- Of the proof of StackVersions. Part 26 of 34. (Joined, by program, and written short, of: La9P.) -/
import Derived.Test.YtbbhahigofeacaaDoorStackVersions18
import Derived.Test.YtbbhahigofeacaaDoorStackVersions25
import Derived.BigQuiet
set_option linter.unusedSimpArgs false
set_option linter.unusedVariables false
set_option maxHeartbeats 4000000
set_option maxRecDepth 100000
namespace Go.Proofs.YtbbhahigofeacaaDoor.Gen
open Go Go.Lift Go.Conc Go.RowKit
noncomputable def C9:Code:=Tryd.f9.body.getD .skip
noncomputable def q9_0:Code:=(seq1 C9)
noncomputable def q9_1:Code:=(seq1 (seq2 C9))
noncomputable def q9_2:Code:=(seq1 (seq2 (seq2 C9)))
noncomputable def q9_3:Code:=(seq1 (seq2 (seq2 (seq2 C9))))
noncomputable def q9_4:Code:=(seq1 (seq1 (seq2 (seq2 (seq2 (seq2 C9))))))
noncomputable def q9_5:Code:=(seq1 (condA (seq2 (seq1 (seq2 (seq2 (seq2 (seq2 C9))))))))
noncomputable def q9_6:Code:=(seq1 (seq2 (seq2 (seq2 (seq2 (seq2 C9))))))
noncomputable def q9_7:Code:=(seq1 (seq2 (seq2 (seq2 (seq2 (seq2 (seq2 C9)))))))
noncomputable def q9_8:Code:=(seq1 (seq2 (seq2 (seq2 (seq2 (seq2 (seq2 (seq2 C9))))))))
noncomputable def q9_9:Code:=(seq1 (seq2 (seq2 (seq2 (seq2 (seq2 (seq2 (seq2 (seq2 C9)))))))))
noncomputable def q9_10:Code:=(seq1 (seq2 (seq2 (seq2 (seq2 (seq2 (seq2 (seq2 (seq2 (seq2 C9))))))))))
noncomputable def q9_11:Code:=(seq1 (seq2 (seq2 (seq2 (seq2 (seq2 (seq2 (seq2 (seq2 (seq2 (seq2 C9)))))))))))
noncomputable def q9_12:Code:=(seq1 (seq1 (seq2 (seq2 (seq2 (seq2 (seq2 (seq2 (seq2 (seq2 (seq2 (seq2 (seq2 C9)))))))))))))
noncomputable def q9_13:Code:=(seq1 (seq1 (loopC (blockC (seq2 (seq1 (seq2 (seq2 (seq2 (seq2 (seq2 (seq2 (seq2 (seq2 (seq2 (seq2 (seq2 C9)))))))))))))))))
noncomputable def q9_15:Code:=(seq1 (blockC (seq1 (seq2 (loopC (blockC (seq2 (seq1 (seq2 (seq2 (seq2 (seq2 (seq2 (seq2 (seq2 (seq2 (seq2 (seq2 (seq2 C9)))))))))))))))))))
noncomputable def q9_16:Code:=(seq1 (seq1 (seq2 (blockC (seq1 (seq2 (loopC (blockC (seq2 (seq1 (seq2 (seq2 (seq2 (seq2 (seq2 (seq2 (seq2 (seq2 (seq2 (seq2 (seq2 C9)))))))))))))))))))))
noncomputable def q9_17:Code:=(seq1 (seq1 (seq2 (seq2 (blockC (seq1 (seq2 (loopC (blockC (seq2 (seq1 (seq2 (seq2 (seq2 (seq2 (seq2 (seq2 (seq2 (seq2 (seq2 (seq2 (seq2 C9))))))))))))))))))))))
noncomputable def q9_18:Code:=(seq1 (condA (seq2 (seq1 (seq2 (seq2 (blockC (seq1 (seq2 (loopC (blockC (seq2 (seq1 (seq2 (seq2 (seq2 (seq2 (seq2 (seq2 (seq2 (seq2 (seq2 (seq2 (seq2 C9))))))))))))))))))))))))
noncomputable def q9_19:Code:=(seq1 (seq1 (seq2 (seq2 (seq2 (blockC (seq1 (seq2 (loopC (blockC (seq2 (seq1 (seq2 (seq2 (seq2 (seq2 (seq2 (seq2 (seq2 (seq2 (seq2 (seq2 (seq2 C9)))))))))))))))))))))))
noncomputable def q9_20:Code:=(seq1 (condA (seq2 (seq1 (seq2 (seq2 (seq2 (blockC (seq1 (seq2 (loopC (blockC (seq2 (seq1 (seq2 (seq2 (seq2 (seq2 (seq2 (seq2 (seq2 (seq2 (seq2 (seq2 (seq2 C9)))))))))))))))))))))))))
noncomputable def q9_21:Code:=(seq1 (seq2 (condA (seq2 (seq1 (seq2 (seq2 (seq2 (blockC (seq1 (seq2 (loopC (blockC (seq2 (seq1 (seq2 (seq2 (seq2 (seq2 (seq2 (seq2 (seq2 (seq2 (seq2 (seq2 (seq2 C9))))))))))))))))))))))))))
noncomputable def q9_22:Code:=(seq1 (seq2 (seq2 (seq2 (seq2 (blockC (seq1 (seq2 (loopC (blockC (seq2 (seq1 (seq2 (seq2 (seq2 (seq2 (seq2 (seq2 (seq2 (seq2 (seq2 (seq2 (seq2 C9)))))))))))))))))))))))
noncomputable def q9_23:Code:=(seq1 (seq1 (seq2 (seq2 (seq2 (seq2 (seq2 (blockC (seq1 (seq2 (loopC (blockC (seq2 (seq1 (seq2 (seq2 (seq2 (seq2 (seq2 (seq2 (seq2 (seq2 (seq2 (seq2 (seq2 C9)))))))))))))))))))))))))
noncomputable def q9_24:Code:=(seq1 (condA (seq2 (seq1 (seq2 (seq2 (seq2 (seq2 (seq2 (blockC (seq1 (seq2 (loopC (blockC (seq2 (seq1 (seq2 (seq2 (seq2 (seq2 (seq2 (seq2 (seq2 (seq2 (seq2 (seq2 (seq2 C9)))))))))))))))))))))))))))
noncomputable def q9_25:Code:=(seq1 (seq1 (seq2 (seq2 (seq2 (seq2 (seq2 (seq2 (blockC (seq1 (seq2 (loopC (blockC (seq2 (seq1 (seq2 (seq2 (seq2 (seq2 (seq2 (seq2 (seq2 (seq2 (seq2 (seq2 (seq2 C9))))))))))))))))))))))))))
noncomputable def q9_26:Code:=(condA (seq2 (seq1 (seq2 (seq2 (seq2 (seq2 (seq2 (seq2 (blockC (seq1 (seq2 (loopC (blockC (seq2 (seq1 (seq2 (seq2 (seq2 (seq2 (seq2 (seq2 (seq2 (seq2 (seq2 (seq2 (seq2 C9)))))))))))))))))))))))))))
noncomputable def q9_27:Code:=(seq2 (seq2 (seq2 (seq2 (seq2 (seq2 (seq2 (blockC (seq1 (seq2 (loopC (blockC (seq2 (seq1 (seq2 (seq2 (seq2 (seq2 (seq2 (seq2 (seq2 (seq2 (seq2 (seq2 (seq2 C9)))))))))))))))))))))))))
noncomputable def q9_14:Code:=(seq2 (seq2 (loopC (blockC (seq2 (seq1 (seq2 (seq2 (seq2 (seq2 (seq2 (seq2 (seq2 (seq2 (seq2 (seq2 (seq2 C9)))))))))))))))))
noncomputable def q9_28:Code:=(seq1 (seq2 (seq2 (seq2 (seq2 (seq2 (seq2 (seq2 (seq2 (seq2 (seq2 (seq2 (seq2 C9)))))))))))))
noncomputable def K9_1:Code:=(.seq q9_15 (.seq (.seq q9_16 (.cond ( .tmp 65 ) (.exit 1) .skip)) (.seq (.seq q9_17 (.cond ( .tmp 96 ) (.seq q9_18 .ret) .skip)) (.seq (.seq q9_19 (.cond ( .tmp 99 ) (.seq q9_20 (.seq q9_21 (.exit 1))) .skip)) (.seq q9_22 (.seq (.seq q9_23 (.cond ( .tmp 150 ) (.seq q9_24 .ret) .skip)) (.seq (.seq q9_25 (.cond ( .tmp 151 ) q9_26 .skip)) q9_27)))))))
noncomputable def K9_0:Code:=(.loop (.seq (.seq q9_13 (.cond ( .tmp 50 ) .skip (.exit 0))) (.seq (.block 1 K9_1) q9_14)))
theorem e9:C9=(.seq q9_0 (.seq q9_1 (.seq q9_2 (.seq q9_3 (.seq (.seq q9_4 (.cond ( .tmp 35 ) (.seq q9_5 .ret) .skip)) (.seq q9_6 (.seq q9_7 (.seq q9_8 (.seq q9_9 (.seq q9_10 (.seq q9_11 (.seq (.seq q9_12 (.block 0 K9_0)) (.seq q9_28 .ret))))))))))))):=by kernel_rfl
theorem p9_4n {v:World} {a:Act} {E:Int} (hE:E≠0) (hA:Fl 156 [(7,.bool true),(10,I E)] a) :
 q9_4.wp Tryd.prog (fun e a' w'=>e=.normal∧(Fl 156 [(35,.bool true),(7,.bool true),(10,I E)] a'∧w'=v)) a v:=by
 obtain ⟨u,rfl,hp⟩:=litF hA
 simp only [Fls] at hp
 clear hA
 unfold q9_4 C9 Tryd.f9 seq1 seq2
 simp only [Option.getD_some,lits,Nat.reduceAdd,hp]
 clear hp
 go_wp2_with fail
 first
  |refine ⟨?_,rfl⟩
  |refine ⟨rfl,?_,rfl⟩
  |skip
 exact ⟨rfl,rfl,by
  intro p hp
  simp only [List.mem_cons,List.not_mem_nil,or_false] at hp
  rcases hp with rfl|rfl|rfl<;>first|rfl|exact congrArg I (by omega)|exact congrArg Value.bool (by simp<;>omega)|exact congrArg Value.bool (by simp)|(simp;done)⟩
theorem p9_4y {v:World} {a:Act} {n b o N cap wb:Nat}  (hA:Fl 156 [(7,.bool true),(10,I 0),(1,I (n:Nat)),(2,.slice (some ⟨b,o,none⟩) N cap),(8,Pt wb 0)] a) :
 q9_4.wp Tryd.prog (fun e a' w'=>e=.normal∧(Fl 156 [(35,.bool false),(1,I (n:Nat)),(2,.slice (some ⟨b,o,none⟩) N cap),(8,Pt wb 0)] a'∧w'=v)) a v:=by
 obtain ⟨u,rfl,hp⟩:=litF hA
 simp only [Fls] at hp
 clear hA
 unfold q9_4 C9 Tryd.f9 seq1 seq2
 simp only [Option.getD_some,lits,Nat.reduceAdd,hp]
 clear hp
 go_wp2_with fail
 first
  |refine ⟨?_,rfl⟩
  |refine ⟨rfl,?_,rfl⟩
  |skip
 exact ⟨rfl,rfl,by
  intro p hp
  simp only [List.mem_cons,List.not_mem_nil,or_false] at hp
  rcases hp with rfl|rfl|rfl|rfl<;>first|rfl|exact congrArg I (by omega)|exact congrArg Value.bool (by simp<;>omega)|exact congrArg Value.bool (by simp)|(simp;done)⟩
theorem p9_5 {v:World} {a:Act} {E:Int}  (hA:Fl 156 [(7,.bool true),(10,I E)] a) :
 q9_5.wp Tryd.prog (fun e a' w'=>e=.normal∧(Fl 156 [(6,.bool true)] a'∧w'=v)) a v:=by
 obtain ⟨u,rfl,hp⟩:=litF hA
 simp only [Fls] at hp
 clear hA
 unfold q9_5 C9 Tryd.f9 seq1 seq2 condA
 simp only [Option.getD_some,lits,Nat.reduceAdd,hp]
 clear hp
 go_wp2_with fail
 first
  |refine ⟨?_,rfl⟩
  |refine ⟨rfl,?_,rfl⟩
  |skip
 exact ⟨rfl,rfl,by
  intro p hp
  simp only [List.mem_cons,List.not_mem_nil,or_false] at hp
  rcases hp with rfl<;>first|rfl|exact congrArg I (by omega)|exact congrArg Value.bool (by simp<;>omega)|exact congrArg Value.bool (by simp)|(simp;done)⟩
theorem p9_6 {v:World} {a:Act} {n b o N cap wb:Nat} {S:TS} {L:List Stp} (hR:Rep zn S v) (hwb:wb=S.wb) (htr:S.tr=flat L) (hs4:S.n≤400000) (hA:Fl 156 [(1,I (n:Nat)),(2,.slice (some ⟨b,o,none⟩) N cap),(8,Pt wb 0)] a) :
 q9_6.wp Tryd.prog (fun e a' w'=>e=.normal∧∃ (p:Option Addr) (g ct:Nat),Fl 156 [(1,I (n:Nat)),(2,.slice (some ⟨b,o,none⟩) N cap),(11,.slice p S.n ct)] a'∧(0<S.n→p=some ⟨g,0,none⟩∧v.heap.size≤g)∧(∀ j x,(flat L)[j]? = some x→w'.cell? ⟨g,j,none⟩=some x)∧Grows v w') a v:=by
 subst hwb
 have H3:Hid (Calls Tryd.prog 16 #[Pt S.wb 0] v _):=⟨(body9A hR (by omega) (by rw [htr];exact flat_one L)).calls Tryd.func16 rfl⟩
 rw [htr] at H3
 clear hR htr hs4
 obtain ⟨u,rfl,hp⟩:=litF hA
 simp only [Fls] at hp
 clear hA
 unfold q9_6 C9 Tryd.f9 seq1 seq2
 simp only [Option.getD_some,lits,Nat.reduceAdd,hp]
 clear hp
 go_wp2_with (first
  |(go_at_call 16;refine H3.out.mono ?_;rintro e w1 ⟨_,rfl,p,g,ct,rfl,k1,k2,k3⟩))
 first
  |exact ⟨p,⟨ct,⟨rfl,rfl,by
  intro p hp
  simp only [List.mem_cons,List.not_mem_nil,or_false] at hp
  rcases hp with rfl|rfl|rfl<;>first|rfl|exact congrArg I (by omega)|exact congrArg Value.bool (by simp<;>omega)|exact congrArg Value.bool (by simp)|(simp;done)⟩⟩,g,k1,k2,k3⟩
  |exact ⟨p,⟨ct,⟨rfl,rfl,by
  intro p hp
  simp only [List.mem_cons,List.not_mem_nil,or_false] at hp
  rcases hp with rfl|rfl|rfl<;>first|rfl|exact congrArg I (by omega)|exact congrArg Value.bool (by simp<;>omega)|exact congrArg Value.bool (by simp)|(simp;done)⟩⟩,g,k1,k2⟩
  |exact ⟨p,⟨ct,⟨rfl,rfl,by
  intro p hp
  simp only [List.mem_cons,List.not_mem_nil,or_false] at hp
  rcases hp with rfl|rfl|rfl<;>first|rfl|exact congrArg I (by omega)|exact congrArg Value.bool (by simp<;>omega)|exact congrArg Value.bool (by simp)|(simp;done)⟩⟩,⟨g,k1,k2⟩,k3⟩
theorem head_any (n:Nat) (hn:n≤1000) (w:World):Calls Tryd.prog 30 #[I 0,I n] w fun e w'=>e=.returned (I (hdJ n:Nat))∧w'=w:=by
 have h1:IntKind.i64.wrap (2*(n:Int))=2*(n:Int):=by rw [IntKind.wrap_i64];omega
 have h2:IntKind.i64.wrap (1+2*(n:Int))=1+2*(n:Int):=by rw [IntKind.wrap_i64];omega
 have h3:IntKind.i64.wrap (2*(n:Int)+1)=2*(n:Int)+1:=by rw [IntKind.wrap_i64];omega
 go_enter Tryd.func30,Tryd.ntmps30
 go_wp2_with fail
 go_ret
 refine ⟨?_,rfl⟩
 first
  |exact congrArg (fun x=>Ending.returned (I x)) (by unfold hdJ;omega)
  |(unfold hdJ;congr 2;omega)
theorem p9_7 {v:World} {a:Act} {n b o N cap T ct:Nat} {p:Option Addr} (hn:n≤1000) (hA:Fl 156 [(1,I (n:Nat)),(2,.slice (some ⟨b,o,none⟩) N cap),(11,.slice p T ct)] a) :
 q9_7.wp Tryd.prog (fun e a' w'=>e=.normal∧(Fl 156 [(2,.slice (some ⟨b,o,none⟩) N cap),(11,.slice p T ct),(12,I (hdJ n:Nat))] a'∧w'=v)) a v:=by
 have H3:Hid (Calls Tryd.prog 30 #[I 0,I (n:Nat)] v _):=⟨head_any n hn v⟩
 clear hn
 obtain ⟨u,rfl,hp⟩:=litF hA
 simp only [Fls] at hp
 clear hA
 unfold q9_7 C9 Tryd.f9 seq1 seq2
 simp only [Option.getD_some,lits,Nat.reduceAdd,hp]
 clear hp
 go_wp2_with (first
  |(go_at_call 30;refine H3.out.mono ?_;rintro e w1 ⟨rfl,rfl⟩))
 first
  |refine ⟨?_,rfl⟩
  |refine ⟨rfl,?_,rfl⟩
  |skip
 exact ⟨rfl,rfl,by
  intro p hp
  simp only [List.mem_cons,List.not_mem_nil,or_false] at hp
  rcases hp with rfl|rfl|rfl<;>first|rfl|exact congrArg I (by omega)|exact congrArg Value.bool (by simp<;>omega)|exact congrArg Value.bool (by simp)|(simp;done)⟩
theorem p9_8 {v:World} {a:Act} {b o N cap T ct:Nat} {hd:Int} {p:Option Addr}  (hA:Fl 156 [(2,.slice (some ⟨b,o,none⟩) N cap),(11,.slice p T ct),(12,I hd)] a) :
 q9_8.wp Tryd.prog (fun e a' w'=>e=.normal∧(Fl 156 [(2,.slice (some ⟨b,o,none⟩) N cap),(11,.slice p T ct),(12,I hd),(13,I 0)] a'∧w'=v)) a v:=by
 obtain ⟨u,rfl,hp⟩:=litF hA
 simp only [Fls] at hp
 clear hA
 unfold q9_8 C9 Tryd.f9 seq1 seq2
 simp only [Option.getD_some,lits,Nat.reduceAdd,hp]
 clear hp
 go_wp2_with fail
 first
  |refine ⟨?_,rfl⟩
  |refine ⟨rfl,?_,rfl⟩
  |skip
 exact ⟨rfl,rfl,by
  intro p hp
  simp only [List.mem_cons,List.not_mem_nil,or_false] at hp
  rcases hp with rfl|rfl|rfl|rfl<;>first|rfl|exact congrArg I (by omega)|exact congrArg Value.bool (by simp<;>omega)|exact congrArg Value.bool (by simp)|(simp;done)⟩
theorem p9_9 {v:World} {a:Act} {b o N cap T ct:Nat} {hd:Int} {p:Option Addr}  (hA:Fl 156 [(2,.slice (some ⟨b,o,none⟩) N cap),(11,.slice p T ct),(12,I hd),(13,I 0)] a) :
 q9_9.wp Tryd.prog (fun e a' w'=>e=.normal∧(Fl 156 [(2,.slice (some ⟨b,o,none⟩) N cap),(11,.slice p T ct),(12,I hd),(13,I 0),(14,I 0)] a'∧w'=v)) a v:=by
 obtain ⟨u,rfl,hp⟩:=litF hA
 simp only [Fls] at hp
 clear hA
 unfold q9_9 C9 Tryd.f9 seq1 seq2
 simp only [Option.getD_some,lits,Nat.reduceAdd,hp]
 clear hp
 go_wp2_with fail
 first
  |refine ⟨?_,rfl⟩
  |refine ⟨rfl,?_,rfl⟩
  |skip
 exact ⟨rfl,rfl,by
  intro p hp
  simp only [List.mem_cons,List.not_mem_nil,or_false] at hp
  rcases hp with rfl|rfl|rfl|rfl|rfl<;>first|rfl|exact congrArg I (by omega)|exact congrArg Value.bool (by simp<;>omega)|exact congrArg Value.bool (by simp)|(simp;done)⟩
theorem p9_10 {v:World} {a:Act} {b o N cap T ct:Nat} {hd:Int} {p:Option Addr} (hN:N≤8) (hA:Fl 156 [(2,.slice (some ⟨b,o,none⟩) N cap),(11,.slice p T ct),(12,I hd),(13,I 0),(14,I 0)] a) :
 q9_10.wp Tryd.prog (fun e a' w'=>e=.normal∧(Fl 156 [(2,.slice (some ⟨b,o,none⟩) N cap),(11,.slice p T ct),(12,I hd),(13,I 0),(14,I 0),(15,.slice (some ⟨v.heap.size,0,none⟩) N N)] a'∧w'=v.alloc (.cells (madeCells #[I 0] N) 3))) a v:=by
 have hmk:=make_3 N (by omega)
 obtain ⟨u,rfl,hp⟩:=litF hA
 simp only [Fls] at hp
 clear hA
 unfold q9_10 C9 Tryd.f9 seq1 seq2
 simp only [Option.getD_some,lits,Nat.reduceAdd,hp]
 clear hp
 go_wp2_with fail
 first
  |refine ⟨?_,rfl⟩
  |refine ⟨rfl,?_,rfl⟩
  |skip
 exact ⟨rfl,rfl,by
  intro p hp
  simp only [List.mem_cons,List.not_mem_nil,or_false] at hp
  rcases hp with rfl|rfl|rfl|rfl|rfl|rfl<;>first|rfl|exact congrArg I (by omega)|exact congrArg Value.bool (by simp<;>omega)|exact congrArg Value.bool (by simp)|(simp;done)⟩
theorem p9_11 {v:World} {a:Act} {b o N cap T ct:Nat} {hd:Int} {p:Option Addr} {sk:Nat} (hN:N≤8) (hA:Fl 156 [(2,.slice (some ⟨b,o,none⟩) N cap),(11,.slice p T ct),(12,I hd),(13,I 0),(14,I 0),(15,.slice (some ⟨sk,0,none⟩) N N)] a) :
 q9_11.wp Tryd.prog (fun e a' w'=>e=.normal∧(Fl 156 [(2,.slice (some ⟨b,o,none⟩) N cap),(11,.slice p T ct),(12,I hd),(13,I 0),(14,I 0),(15,.slice (some ⟨sk,0,none⟩) N N),(16,.slice (some ⟨v.heap.size,0,none⟩) N N)] a'∧w'=v.alloc (.cells (madeCells #[I 0] N) 3))) a v:=by
 have hmk:=make_3 N (by omega)
 obtain ⟨u,rfl,hp⟩:=litF hA
 simp only [Fls] at hp
 clear hA
 unfold q9_11 C9 Tryd.f9 seq1 seq2
 simp only [Option.getD_some,lits,Nat.reduceAdd,hp]
 clear hp
 go_wp2_with fail
 first
  |refine ⟨?_,rfl⟩
  |refine ⟨rfl,?_,rfl⟩
  |skip
 exact ⟨rfl,rfl,by
  intro p hp
  simp only [List.mem_cons,List.not_mem_nil,or_false] at hp
  rcases hp with rfl|rfl|rfl|rfl|rfl|rfl|rfl<;>first|rfl|exact congrArg I (by omega)|exact congrArg Value.bool (by simp<;>omega)|exact congrArg Value.bool (by simp)|(simp;done)⟩
theorem p9_12 {v:World} {a:Act} {b o N cap T ct:Nat} {hd:Int} {p:Option Addr} {sk ck:Nat}  (hA:Fl 156 [(2,.slice (some ⟨b,o,none⟩) N cap),(11,.slice p T ct),(12,I hd),(13,I 0),(14,I 0),(15,.slice (some ⟨sk,0,none⟩) N N),(16,.slice (some ⟨ck,0,none⟩) N N)] a) :
 q9_12.wp Tryd.prog (fun e a' w'=>e=.normal∧(Fl 156 [(2,.slice (some ⟨b,o,none⟩) N cap),(11,.slice p T ct),(12,I hd),(13,I 0),(14,I 0),(15,.slice (some ⟨sk,0,none⟩) N N),(16,.slice (some ⟨ck,0,none⟩) N N),(17,I 0)] a'∧w'=v)) a v:=by
 obtain ⟨u,rfl,hp⟩:=litF hA
 simp only [Fls] at hp
 clear hA
 unfold q9_12 C9 Tryd.f9 seq1 seq2
 simp only [Option.getD_some,lits,Nat.reduceAdd,hp]
 clear hp
 go_wp2_with fail
 first
  |refine ⟨?_,rfl⟩
  |refine ⟨rfl,?_,rfl⟩
  |skip
 exact ⟨rfl,rfl,by
  intro p hp
  simp only [List.mem_cons,List.not_mem_nil,or_false] at hp
  rcases hp with rfl|rfl|rfl|rfl|rfl|rfl|rfl|rfl<;>first|rfl|exact congrArg I (by omega)|exact congrArg Value.bool (by simp<;>omega)|exact congrArg Value.bool (by simp)|(simp;done)⟩
theorem p9_13 {v:World} {a:Act} {b o cap N sk ck T ct i ch:Nat} {hd now:Int} {p:Option Addr}  (hA:Fl 156 [(2,.slice (some ⟨b,o,none⟩) N cap),(11,.slice p T ct),(12,I hd),(13,I now),(14,I (ch:Nat)),(15,.slice (some ⟨sk,0,none⟩) N N),(16,.slice (some ⟨ck,0,none⟩) N N),(17,I (i:Nat))] a) :
 q9_13.wp Tryd.prog (fun e a' w'=>e=.normal∧(Fl 156 [(50,.bool (decide (i<T))),(2,.slice (some ⟨b,o,none⟩) N cap),(11,.slice p T ct),(12,I hd),(13,I now),(14,I (ch:Nat)),(15,.slice (some ⟨sk,0,none⟩) N N),(16,.slice (some ⟨ck,0,none⟩) N N),(17,I (i:Nat))] a'∧w'=v)) a v:=by
 obtain ⟨u,rfl,hp⟩:=litF hA
 simp only [Fls] at hp
 clear hA
 unfold q9_13 C9 Tryd.f9 seq1 seq2 blockC loopC
 simp only [Option.getD_some,lits,Nat.reduceAdd,hp]
 clear hp
 go_wp2_with fail
 first
  |refine ⟨?_,rfl⟩
  |refine ⟨rfl,?_,rfl⟩
  |skip
 exact ⟨rfl,rfl,by
  intro p hp
  simp only [List.mem_cons,List.not_mem_nil,or_false] at hp
  rcases hp with rfl|rfl|rfl|rfl|rfl|rfl|rfl|rfl|rfl<;>first|rfl|exact congrArg I (by omega)|exact congrArg Value.bool (by simp<;>omega)|exact congrArg Value.bool (by simp)|(simp;done)⟩
theorem p9_15 {v:World} {a:Act} {b o cap N sk ck T ct i ch:Nat} {hd now:Int} {p:Option Addr} {g:Nat} (s:Stp) (hi:i<T) (hp:p=some ⟨g,0,none⟩) (c0:v.cell? ⟨g,i*5,none⟩=some (I s.th)) (c1:v.cell? ⟨g,i*5+1,none⟩=some (I s.ce)) (c2:v.cell? ⟨g,i*5+2,none⟩=some (I s.op)) (c3:v.cell? ⟨g,i*5+3,none⟩=some (I s.ol)) (c4:v.cell? ⟨g,i*5+4,none⟩=some (I s.ne)) (hA:Fl 156 [(2,.slice (some ⟨b,o,none⟩) N cap),(11,.slice p T ct),(12,I hd),(13,I now),(14,I (ch:Nat)),(15,.slice (some ⟨sk,0,none⟩) N N),(16,.slice (some ⟨ck,0,none⟩) N N),(17,I (i:Nat))] a) :
 q9_15.wp Tryd.prog (fun e a' w'=>e=.normal∧(Fl 156 [(2,.slice (some ⟨b,o,none⟩) N cap),(11,.slice p T ct),(12,I hd),(13,I now),(14,I (ch:Nat)),(15,.slice (some ⟨sk,0,none⟩) N N),(16,.slice (some ⟨ck,0,none⟩) N N),(17,I (i:Nat)),(18,Pt v.heap.size 0)] a'∧w'=v.alloc (.cells #[I s.th,I s.ce,I s.op,I s.ol,I s.ne] 38))) a v:=by
 subst hp
 have hi2:(i:Int)<(T:Int):=by omega
 obtain ⟨u,rfl,hp⟩:=litF hA
 simp only [Fls] at hp
 clear hA
 unfold q9_15 C9 Tryd.f9 seq1 seq2 blockC loopC
 simp only [Option.getD_some,lits,Nat.reduceAdd,hp]
 clear hp
 go_wp2_with fail
 first
  |refine ⟨?_,rfl⟩
  |refine ⟨rfl,?_,rfl⟩
  |skip
 exact ⟨rfl,rfl,by
  intro p hp
  simp only [List.mem_cons,List.not_mem_nil,or_false] at hp
  rcases hp with rfl|rfl|rfl|rfl|rfl|rfl|rfl|rfl|rfl<;>first|rfl|exact congrArg I (by omega)|exact congrArg Value.bool (by simp<;>omega)|exact congrArg Value.bool (by simp)|(simp;done)⟩
theorem p9_16n {v:World} {a:Act} {b o cap N sk ck T ct i ch:Nat} {hd now:Int} {p:Option Addr} {x:Nat} {s:Stp} (c0:v.cell? ⟨x,0,none⟩=some (I s.th)) (c1:v.cell? ⟨x,1,none⟩=some (I s.ce)) (c2:v.cell? ⟨x,2,none⟩=some (I s.op)) (c3:v.cell? ⟨x,3,none⟩=some (I s.ol)) (c4:v.cell? ⟨x,4,none⟩=some (I s.ne)) (h1:s.ce=hd) (h2:s.op≤5) (hA:Fl 156 [(2,.slice (some ⟨b,o,none⟩) N cap),(11,.slice p T ct),(12,I hd),(13,I now),(14,I (ch:Nat)),(15,.slice (some ⟨sk,0,none⟩) N N),(16,.slice (some ⟨ck,0,none⟩) N N),(17,I (i:Nat)),(18,Pt x 0)] a) :
 q9_16.wp Tryd.prog (fun e a' w'=>e=.normal∧(Fl 156 [(65,.bool false),(2,.slice (some ⟨b,o,none⟩) N cap),(11,.slice p T ct),(12,I hd),(13,I now),(14,I (ch:Nat)),(15,.slice (some ⟨sk,0,none⟩) N N),(16,.slice (some ⟨ck,0,none⟩) N N),(17,I (i:Nat)),(18,Pt x 0)] a'∧w'=v)) a v:=by
 have g2:¬ (s.op > 5):=by omega
 have g3:¬ (5<s.op):=by omega
 obtain ⟨u,rfl,hp⟩:=litF hA
 simp only [Fls] at hp
 clear hA
 unfold q9_16 C9 Tryd.f9 seq1 seq2 blockC loopC
 simp only [Option.getD_some,lits,Nat.reduceAdd,hp]
 clear hp
 go_wp2_with fail
 first
  |refine ⟨?_,rfl⟩
  |refine ⟨rfl,?_,rfl⟩
  |skip
 exact ⟨rfl,rfl,by
  intro p hp
  simp only [List.mem_cons,List.not_mem_nil,or_false] at hp
  rcases hp with rfl|rfl|rfl|rfl|rfl|rfl|rfl|rfl|rfl|rfl<;>first|rfl|exact congrArg I (by omega)|exact congrArg Value.bool (by simp<;>omega)|exact congrArg Value.bool (by simp)|(simp;done)⟩
theorem p9_16a {v:World} {a:Act} {b o cap N sk ck T ct i ch:Nat} {hd now:Int} {p:Option Addr} {x:Nat} {s:Stp} (c0:v.cell? ⟨x,0,none⟩=some (I s.th)) (c1:v.cell? ⟨x,1,none⟩=some (I s.ce)) (c2:v.cell? ⟨x,2,none⟩=some (I s.op)) (c3:v.cell? ⟨x,3,none⟩=some (I s.ol)) (c4:v.cell? ⟨x,4,none⟩=some (I s.ne)) (h1:s.ce≠hd) (hA:Fl 156 [(2,.slice (some ⟨b,o,none⟩) N cap),(11,.slice p T ct),(12,I hd),(13,I now),(14,I (ch:Nat)),(15,.slice (some ⟨sk,0,none⟩) N N),(16,.slice (some ⟨ck,0,none⟩) N N),(17,I (i:Nat)),(18,Pt x 0)] a) :
 q9_16.wp Tryd.prog (fun e a' w'=>e=.normal∧(Fl 156 [(65,.bool true),(2,.slice (some ⟨b,o,none⟩) N cap),(11,.slice p T ct),(12,I hd),(13,I now),(14,I (ch:Nat)),(15,.slice (some ⟨sk,0,none⟩) N N),(16,.slice (some ⟨ck,0,none⟩) N N),(17,I (i:Nat)),(18,Pt x 0)] a'∧w'=v)) a v:=by
 obtain ⟨u,rfl,hp⟩:=litF hA
 simp only [Fls] at hp
 clear hA
 unfold q9_16 C9 Tryd.f9 seq1 seq2 blockC loopC
 simp only [Option.getD_some,lits,Nat.reduceAdd,hp]
 clear hp
 go_wp2_with fail
 first
  |refine ⟨?_,rfl⟩
  |refine ⟨rfl,?_,rfl⟩
  |skip
 exact ⟨rfl,rfl,by
  intro p hp
  simp only [List.mem_cons,List.not_mem_nil,or_false] at hp
  rcases hp with rfl|rfl|rfl|rfl|rfl|rfl|rfl|rfl|rfl|rfl<;>first|rfl|exact congrArg I (by omega)|exact congrArg Value.bool (by simp<;>omega)|exact congrArg Value.bool (by simp)|(simp;done)⟩
theorem p9_16b {v:World} {a:Act} {b o cap N sk ck T ct i ch:Nat} {hd now:Int} {p:Option Addr} {x:Nat} {s:Stp} (c0:v.cell? ⟨x,0,none⟩=some (I s.th)) (c1:v.cell? ⟨x,1,none⟩=some (I s.ce)) (c2:v.cell? ⟨x,2,none⟩=some (I s.op)) (c3:v.cell? ⟨x,3,none⟩=some (I s.ol)) (c4:v.cell? ⟨x,4,none⟩=some (I s.ne)) (h1:s.ce=hd) (h2:5<s.op) (hA:Fl 156 [(2,.slice (some ⟨b,o,none⟩) N cap),(11,.slice p T ct),(12,I hd),(13,I now),(14,I (ch:Nat)),(15,.slice (some ⟨sk,0,none⟩) N N),(16,.slice (some ⟨ck,0,none⟩) N N),(17,I (i:Nat)),(18,Pt x 0)] a) :
 q9_16.wp Tryd.prog (fun e a' w'=>e=.normal∧(Fl 156 [(65,.bool true),(2,.slice (some ⟨b,o,none⟩) N cap),(11,.slice p T ct),(12,I hd),(13,I now),(14,I (ch:Nat)),(15,.slice (some ⟨sk,0,none⟩) N N),(16,.slice (some ⟨ck,0,none⟩) N N),(17,I (i:Nat)),(18,Pt x 0)] a'∧w'=v)) a v:=by
 have g2:s.op > 5:=h2
 obtain ⟨u,rfl,hp⟩:=litF hA
 simp only [Fls] at hp
 clear hA
 unfold q9_16 C9 Tryd.f9 seq1 seq2 blockC loopC
 simp only [Option.getD_some,lits,Nat.reduceAdd,hp]
 clear hp
 go_wp2_with fail
 first
  |refine ⟨?_,rfl⟩
  |refine ⟨rfl,?_,rfl⟩
  |skip
 exact ⟨rfl,rfl,by
  intro p hp
  simp only [List.mem_cons,List.not_mem_nil,or_false] at hp
  rcases hp with rfl|rfl|rfl|rfl|rfl|rfl|rfl|rfl|rfl|rfl<;>first|rfl|exact congrArg I (by omega)|exact congrArg Value.bool (by simp<;>omega)|exact congrArg Value.bool (by simp)|(simp;done)⟩
theorem p9_17 {v:World} {a:Act} {b o cap N sk ck T ct i ch:Nat} {hd now:Int} {p:Option Addr} {x:Nat} {s:Stp} (c0:v.cell? ⟨x,0,none⟩=some (I s.th)) (c1:v.cell? ⟨x,1,none⟩=some (I s.ce)) (c2:v.cell? ⟨x,2,none⟩=some (I s.op)) (c3:v.cell? ⟨x,3,none⟩=some (I s.ol)) (c4:v.cell? ⟨x,4,none⟩=some (I s.ne)) (h1:0≤s.th) (h2:s.th<(N:Int)) (h3:s.ol=now) (h4:s.op=1∨s.op=4) (hA:Fl 156 [(2,.slice (some ⟨b,o,none⟩) N cap),(11,.slice p T ct),(12,I hd),(13,I now),(14,I (ch:Nat)),(15,.slice (some ⟨sk,0,none⟩) N N),(16,.slice (some ⟨ck,0,none⟩) N N),(17,I (i:Nat)),(18,Pt x 0)] a) :
 q9_17.wp Tryd.prog (fun e a' w'=>e=.normal∧(Fl 156 [(96,.bool false),(2,.slice (some ⟨b,o,none⟩) N cap),(11,.slice p T ct),(12,I hd),(13,I now),(14,I (ch:Nat)),(15,.slice (some ⟨sk,0,none⟩) N N),(16,.slice (some ⟨ck,0,none⟩) N N),(17,I (i:Nat)),(18,Pt x 0)] a'∧w'=v)) a v:=by
 have g1:¬ (s.th<0):=by omega
 have g2:¬ (s.th≥(N:Int)):=by omega
 have g2b:¬ ((N:Int)≤s.th):=by omega
 have g3:¬ (s.op=2):=by omega
 have g4:¬ (s.op=3):=by omega
 have g5:¬ (s.op=5):=by omega
 clear h4
 obtain ⟨u,rfl,hp⟩:=litF hA
 simp only [Fls] at hp
 clear hA
 unfold q9_17 C9 Tryd.f9 seq1 seq2 blockC loopC
 simp only [Option.getD_some,lits,Nat.reduceAdd,hp]
 clear hp
 go_wp2_with fail
 first
  |refine ⟨?_,rfl⟩
  |refine ⟨rfl,?_,rfl⟩
  |skip
 exact ⟨rfl,rfl,by
  intro p hp
  simp only [List.mem_cons,List.not_mem_nil,or_false] at hp
  rcases hp with rfl|rfl|rfl|rfl|rfl|rfl|rfl|rfl|rfl|rfl<;>first|rfl|exact congrArg I (by omega)|exact congrArg Value.bool (by simp<;>omega)|exact congrArg Value.bool (by simp)|(simp;done)⟩
theorem p9_19 {v:World} {a:Act} {b o cap N sk ck T ct i ch:Nat} {hd now:Int} {p:Option Addr} {x:Nat} {s:Stp} (c0:v.cell? ⟨x,0,none⟩=some (I s.th)) (c1:v.cell? ⟨x,1,none⟩=some (I s.ce)) (c2:v.cell? ⟨x,2,none⟩=some (I s.op)) (c3:v.cell? ⟨x,3,none⟩=some (I s.ol)) (c4:v.cell? ⟨x,4,none⟩=some (I s.ne)) (hA:Fl 156 [(2,.slice (some ⟨b,o,none⟩) N cap),(11,.slice p T ct),(12,I hd),(13,I now),(14,I (ch:Nat)),(15,.slice (some ⟨sk,0,none⟩) N N),(16,.slice (some ⟨ck,0,none⟩) N N),(17,I (i:Nat)),(18,Pt x 0)] a) :
 q9_19.wp Tryd.prog (fun e a' w'=>e=.normal∧(Fl 156 [(99,.bool (decide (s.op=1))),(2,.slice (some ⟨b,o,none⟩) N cap),(11,.slice p T ct),(12,I hd),(13,I now),(14,I (ch:Nat)),(15,.slice (some ⟨sk,0,none⟩) N N),(16,.slice (some ⟨ck,0,none⟩) N N),(17,I (i:Nat)),(18,Pt x 0)] a'∧w'=v)) a v:=by
 obtain ⟨u,rfl,hp⟩:=litF hA
 simp only [Fls] at hp
 clear hA
 unfold q9_19 C9 Tryd.f9 seq1 seq2 blockC loopC
 simp only [Option.getD_some,lits,Nat.reduceAdd,hp]
 clear hp
 go_wp2_with fail
 first
  |refine ⟨?_,rfl⟩
  |refine ⟨rfl,?_,rfl⟩
  |skip
 exact ⟨rfl,rfl,by
  intro p hp
  simp only [List.mem_cons,List.not_mem_nil,or_false] at hp
  rcases hp with rfl|rfl|rfl|rfl|rfl|rfl|rfl|rfl|rfl|rfl<;>first|rfl|exact congrArg I (by omega)|exact congrArg Value.bool (by simp<;>omega)|exact congrArg Value.bool (by simp)|(simp;done)⟩
theorem p9_20 {v:World} {a:Act} {b o cap N sk ck T ct i ch:Nat} {hd now:Int} {p:Option Addr} {x:Nat} {s:Stp} {y:Int} (c0:v.cell? ⟨x,0,none⟩=some (I s.th)) (c1:v.cell? ⟨x,1,none⟩=some (I s.ce)) (c2:v.cell? ⟨x,2,none⟩=some (I s.op)) (c3:v.cell? ⟨x,3,none⟩=some (I s.ol)) (c4:v.cell? ⟨x,4,none⟩=some (I s.ne)) (k:Nat) (hk:s.th=(k:Int)) (hkN:k<N) (f0:v.frozen? ⟨sk,k,none⟩=false) (e0:v.cell? ⟨sk,k,none⟩=some (I y)) (hA:Fl 156 [(2,.slice (some ⟨b,o,none⟩) N cap),(11,.slice p T ct),(12,I hd),(13,I now),(14,I (ch:Nat)),(15,.slice (some ⟨sk,0,none⟩) N N),(16,.slice (some ⟨ck,0,none⟩) N N),(17,I (i:Nat)),(18,Pt x 0)] a) :
 q9_20.wp Tryd.prog (fun e a' w'=>e=.normal∧(Fl 156 [(2,.slice (some ⟨b,o,none⟩) N cap),(11,.slice p T ct),(12,I hd),(13,I now),(14,I (ch:Nat)),(15,.slice (some ⟨sk,0,none⟩) N N),(16,.slice (some ⟨ck,0,none⟩) N N),(17,I (i:Nat)),(18,Pt x 0)] a'∧w'=v.setCell ⟨sk,k,none⟩ (I s.ne))) a v:=by
 have hkN2:(k:Int)<(N:Int):=by omega
 rw [hk] at c0
 obtain ⟨u,rfl,hp⟩:=litF hA
 simp only [Fls] at hp
 clear hA
 unfold q9_20 C9 Tryd.f9 seq1 seq2 condA blockC loopC
 simp only [Option.getD_some,lits,Nat.reduceAdd,hp]
 clear hp
 go_wp2_with fail
 first
  |refine ⟨?_,rfl⟩
  |refine ⟨rfl,?_,rfl⟩
  |skip
 exact ⟨rfl,rfl,by
  intro p hp
  simp only [List.mem_cons,List.not_mem_nil,or_false] at hp
  rcases hp with rfl|rfl|rfl|rfl|rfl|rfl|rfl|rfl|rfl<;>first|rfl|exact congrArg I (by omega)|exact congrArg Value.bool (by simp<;>omega)|exact congrArg Value.bool (by simp)|(simp;done)⟩
theorem p9_21 {v:World} {a:Act} {b o cap N sk ck T ct i ch:Nat} {hd now:Int} {p:Option Addr} {x:Nat} {s:Stp} {y:Int} (c0:v.cell? ⟨x,0,none⟩=some (I s.th)) (c1:v.cell? ⟨x,1,none⟩=some (I s.ce)) (c2:v.cell? ⟨x,2,none⟩=some (I s.op)) (c3:v.cell? ⟨x,3,none⟩=some (I s.ol)) (c4:v.cell? ⟨x,4,none⟩=some (I s.ne)) (k:Nat) (hk:s.th=(k:Int)) (hkN:k<N) (f0:v.frozen? ⟨ck,k,none⟩=false) (e0:v.cell? ⟨ck,k,none⟩=some (I y)) (hA:Fl 156 [(2,.slice (some ⟨b,o,none⟩) N cap),(11,.slice p T ct),(12,I hd),(13,I now),(14,I (ch:Nat)),(15,.slice (some ⟨sk,0,none⟩) N N),(16,.slice (some ⟨ck,0,none⟩) N N),(17,I (i:Nat)),(18,Pt x 0)] a) :
 q9_21.wp Tryd.prog (fun e a' w'=>e=.normal∧(Fl 156 [(2,.slice (some ⟨b,o,none⟩) N cap),(11,.slice p T ct),(12,I hd),(13,I now),(14,I (ch:Nat)),(15,.slice (some ⟨sk,0,none⟩) N N),(16,.slice (some ⟨ck,0,none⟩) N N),(17,I (i:Nat)),(18,Pt x 0)] a'∧w'=v.setCell ⟨ck,k,none⟩ (I (ch:Nat)))) a v:=by
 have hkN2:(k:Int)<(N:Int):=by omega
 rw [hk] at c0
 obtain ⟨u,rfl,hp⟩:=litF hA
 simp only [Fls] at hp
 clear hA
 unfold q9_21 C9 Tryd.f9 seq1 seq2 condA blockC loopC
 simp only [Option.getD_some,lits,Nat.reduceAdd,hp]
 clear hp
 go_wp2_with fail
 first
  |refine ⟨?_,rfl⟩
  |refine ⟨rfl,?_,rfl⟩
  |skip
 exact ⟨rfl,rfl,by
  intro p hp
  simp only [List.mem_cons,List.not_mem_nil,or_false] at hp
  rcases hp with rfl|rfl|rfl|rfl|rfl|rfl|rfl|rfl|rfl<;>first|rfl|exact congrArg I (by omega)|exact congrArg Value.bool (by simp<;>omega)|exact congrArg Value.bool (by simp)|(simp;done)⟩
theorem p9_22 {v:World} {a:Act} {b o cap N sk ck T ct i ch:Nat} {hd now:Int} {p:Option Addr} {x:Nat} {s:Stp} (c0:v.cell? ⟨x,0,none⟩=some (I s.th)) (c1:v.cell? ⟨x,1,none⟩=some (I s.ce)) (c2:v.cell? ⟨x,2,none⟩=some (I s.op)) (c3:v.cell? ⟨x,3,none⟩=some (I s.ol)) (c4:v.cell? ⟨x,4,none⟩=some (I s.ne)) (hA:Fl 156 [(2,.slice (some ⟨b,o,none⟩) N cap),(11,.slice p T ct),(12,I hd),(13,I now),(14,I (ch:Nat)),(15,.slice (some ⟨sk,0,none⟩) N N),(16,.slice (some ⟨ck,0,none⟩) N N),(17,I (i:Nat)),(18,Pt x 0)] a) :
 q9_22.wp Tryd.prog (fun e a' w'=>e=.normal∧(Fl 156 [(2,.slice (some ⟨b,o,none⟩) N cap),(11,.slice p T ct),(12,I hd),(13,I now),(14,I (ch:Nat)),(15,.slice (some ⟨sk,0,none⟩) N N),(16,.slice (some ⟨ck,0,none⟩) N N),(17,I (i:Nat)),(18,Pt x 0),(19,.bool (decide (s.ol≠s.ne)))] a'∧w'=v)) a v:=by
 obtain ⟨u,rfl,hp⟩:=litF hA
 simp only [Fls] at hp
 clear hA
 unfold q9_22 C9 Tryd.f9 seq1 seq2 blockC loopC
 simp only [Option.getD_some,lits,Nat.reduceAdd,hp]
 clear hp
 go_wp2_with fail
 first
  |refine ⟨?_,rfl⟩
  |refine ⟨rfl,?_,rfl⟩
  |skip
 exact ⟨rfl,rfl,by
  intro p hp
  simp only [List.mem_cons,List.not_mem_nil,or_false] at hp
  rcases hp with rfl|rfl|rfl|rfl|rfl|rfl|rfl|rfl|rfl|rfl<;>first|rfl|exact congrArg I (by omega)|exact congrArg Value.bool (by simp<;>omega)|exact congrArg Value.bool (by simp)|(simp;done)⟩
end Go.Proofs.YtbbhahigofeacaaDoor.Gen
