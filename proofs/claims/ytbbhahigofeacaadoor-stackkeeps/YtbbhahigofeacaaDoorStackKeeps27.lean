/- Of the proof of StackKeeps. Part 27 of 33. (Joined, by program, and written short, of: La7R, La7Q.) -/
import Derived.Test.YtbbhahigofeacaaDoorStackKeeps25
set_option linter.unusedSimpArgs false
set_option linter.unusedVariables false
set_option maxHeartbeats 4000000
set_option maxRecDepth 100000
namespace Go.Proofs.YtbbhahigofeacaaDoor.Gen
open Go Go.Lift Go.Conc Go.RowKit
theorem p7_20 {v:World}{a:Act}{n N b o cap M wb:Nat}{pp tp:Option Addr}{P pc Q tc:Nat}{i k x:Nat}{B:Nat}{xs:List Int}{ca:Int}(hB:B≤v.heap.size) (ho:v.ownsRow B 3 1 (.slice pp P pc) P (xs.map I)) (hl:P≤400000) (c1:v.cell? ⟨x,1,none⟩=some (I ca)) (hA:Fl 189 [(1,I (n:Nat)),(2,.slice (some ⟨b,o,none⟩) N cap),(8,Pt wb 0),(9,.slice (some ⟨M,0,none⟩) N N),(11,.slice pp P pc),(12,.slice tp Q tc),(13,I (i:Nat)),(14,I (k:Nat)),(15,Pt x 0)] a) :
 q7_20.wp Tryd.prog (fun e a' w'=>e=.normal∧∃ g cpg,Fl 189 [(1,I (n:Nat)),(2,.slice (some ⟨b,o,none⟩) N cap),(8,Pt wb 0),(9,.slice (some ⟨M,0,none⟩) N N),(11,.slice (some ⟨g,0,none⟩) (P+1) cpg),(12,.slice tp Q tc),(13,I (i:Nat)),(14,I (k:Nat)),(15,Pt x 0)] a'∧w'.ownsRow B 3 1 (.slice (some ⟨g,0,none⟩) (P+1) cpg) (P+1) (xs.map I++[I ca])∧(v.alloc (.cells #[I ca] 3)).grownBy w' (Value.slice pp P pc).ownBlock∧((Value.slice pp P pc).ownBlock=some g∨g=v.heap.size+1)∧g<w'.heap.size) a v:=by
 have HO:Hid (v.ownsRow B 3 1 (.slice pp P pc) P (xs.map I)):=⟨ho⟩
 clear ho
 obtain ⟨j0,hj,hj0,hj1,hj2⟩:=info_parts info3
 obtain ⟨u,rfl,hp⟩:=litF hA
 simp only[Fls] at hp
 clear hA
 unfold q7_20 C7 Tryd.f7 seq1 seq2 condA Ak Ar
 simp only[Option.getD_some,lits,Nat.reduceAdd,hp]
 clear hp
 go_wp2_with (first
  |(refine wpList_append_lies _ rfl (.tmp 101) (.tmp 104) 25 rfl B 3 j0 _ 1 8 Tryd.underlying25 hj hj0 hj1 hj2 rfl (by decide) (.slice pp P pc) P (xs.map I) rfl (F5 (Br (Below.refl _ _) _) HO.out) ⟨_,0,none⟩ 1 1 [I ca] rfl rfl (newsI _ _ _) (oneI _) (by decide) (by unfold maxLen;omega) (by omega) (by simp;omega) _ rfl ?_
    intro g cpg w6 hown6 hgrow6 hat6 hlt6))
 exact ⟨g,cpg,⟨rfl,rfl,by
  intro p hp
  simp only[List.mem_cons,List.not_mem_nil,or_false] at hp
  rcases hp with rfl|rfl|rfl|rfl|rfl|rfl|rfl|rfl|rfl<;>first|rfl|exact congrArg I (by omega)|exact congrArg Value.bool (by simp<;>omega)|exact congrArg Value.bool (by simp)|(simp;done)⟩,hown6,hat6.imp_right (fun e=>e.trans (Array.size_push _)),hlt6⟩
theorem p7_22 {v:World}{a:Act}{n N b o cap M wb:Nat}{pp tp:Option Addr}{P pc Q tc:Nat}{i k:Nat}{B:Nat}{xs:List Int}{y:Int}{L cc A:Nat}(hB:B≤v.heap.size) (ho:v.ownsRow B 3 1 (.slice tp Q tc) Q (xs.map I)) (hl:Q≤400000) (hi:i<N) (hk:k<L) (d:v.cell? ⟨M,i,none⟩=some (.slice (some ⟨A,0,none⟩) L cc)) (d1:v.cell? ⟨A,k*2+1,none⟩=some (I y)) (hA:Fl 189 [(1,I (n:Nat)),(2,.slice (some ⟨b,o,none⟩) N cap),(8,Pt wb 0),(9,.slice (some ⟨M,0,none⟩) N N),(11,.slice pp P pc),(12,.slice tp Q tc),(13,I (i:Nat)),(14,I (k:Nat))] a) :
 q7_22.wp Tryd.prog (fun e a' w'=>e=.normal∧∃ g cpg,Fl 189 [(1,I (n:Nat)),(2,.slice (some ⟨b,o,none⟩) N cap),(8,Pt wb 0),(9,.slice (some ⟨M,0,none⟩) N N),(11,.slice pp P pc),(12,.slice (some ⟨g,0,none⟩) (Q+1) cpg),(13,I (i:Nat)),(14,I (k:Nat))] a'∧w'.ownsRow B 3 1 (.slice (some ⟨g,0,none⟩) (Q+1) cpg) (Q+1) (xs.map I++[I y])∧(v.alloc (.cells #[I y] 3)).grownBy w' (Value.slice tp Q tc).ownBlock∧((Value.slice tp Q tc).ownBlock=some g∨g=v.heap.size+1)∧g<w'.heap.size) a v:=by
 have HO:Hid (v.ownsRow B 3 1 (.slice tp Q tc) Q (xs.map I)):=⟨ho⟩
 clear ho
 obtain ⟨j0,hj,hj0,hj1,hj2⟩:=info_parts info3
 have hi':(i:Int)<(N:Int):=by omega
 have hk':(k:Int)<(L:Int):=by omega
 obtain ⟨u,rfl,hp⟩:=litF hA
 simp only[Fls] at hp
 clear hA
 unfold q7_22 C7 Tryd.f7 seq1 seq2 condA Ak Ar
 simp only[Option.getD_some,lits,Nat.reduceAdd,hp]
 clear hp
 go_wp2_with (first
  |(refine wpList_append_lies _ rfl (.tmp 120) (.tmp 129) 25 rfl B 3 j0 _ 1 8 Tryd.underlying25 hj hj0 hj1 hj2 rfl (by decide) (.slice tp Q tc) Q (xs.map I) rfl (F5 (Br (Below.refl _ _) _) HO.out) ⟨_,0,none⟩ 1 1 [I y] rfl rfl (newsI _ _ _) (oneI _) (by decide) (by unfold maxLen;omega) (by omega) (by simp;omega) _ rfl ?_
    intro g cpg w6 hown6 hgrow6 hat6 hlt6))
 exact ⟨g,cpg,⟨rfl,rfl,by
  intro p hp
  simp only[List.mem_cons,List.not_mem_nil,or_false] at hp
  rcases hp with rfl|rfl|rfl|rfl|rfl|rfl|rfl|rfl<;>first|rfl|exact congrArg I (by omega)|exact congrArg Value.bool (by simp<;>omega)|exact congrArg Value.bool (by simp)|(simp;done)⟩,hown6,hat6.imp_right (fun e=>e.trans (Array.size_push _)),hlt6⟩
theorem p7_25 {v:World}{a:Act}{n T ct:Nat}{p pp tp:Option Addr}{P pc Q tc:Nat}{y:Int}  (hA:Fl 189 [(1,I (n:Nat)),(11,.slice pp P pc),(12,.slice tp Q tc),(16,.slice p T ct),(17,I y)] a) :
 q7_25.wp Tryd.prog (fun e a' w'=>e=.normal∧(Fl 189 [(1,I (n:Nat)),(11,.slice pp P pc),(12,.slice tp Q tc),(16,.slice p T ct),(17,I y),(18,I 0)] a'∧w'=v)) a v:=by
 obtain ⟨u,rfl,hp⟩:=litF hA
 simp only[Fls] at hp
 clear hA
 unfold q7_25 C7 Tryd.f7 seq1 seq2
 simp only[Option.getD_some,lits,Nat.reduceAdd,hp]
 clear hp
 go_wp2_with fail
 first
  |refine ⟨?_,rfl⟩
  |refine ⟨rfl,?_,rfl⟩
  |skip
 exact ⟨rfl,rfl,by
  intro p hp
  simp only[List.mem_cons,List.not_mem_nil,or_false] at hp
  rcases hp with rfl|rfl|rfl|rfl|rfl|rfl<;>first|rfl|exact congrArg I (by omega)|exact congrArg Value.bool (by simp<;>omega)|exact congrArg Value.bool (by simp)|(simp;done)⟩
theorem p7_26 {v:World}{a:Act}{n T ct:Nat}{p pp tp:Option Addr}{P pc Q tc:Nat}{y:Int}{h:Nat}  (hA:Fl 189 [(1,I (n:Nat)),(11,.slice pp P pc),(12,.slice tp Q tc),(16,.slice p T ct),(17,I y),(18,I (h:Nat))] a) :
 q7_26.wp Tryd.prog (fun e a' w'=>e=.normal∧(Fl 189 [(139,.bool (decide (0<y))),(1,I (n:Nat)),(11,.slice pp P pc),(12,.slice tp Q tc),(16,.slice p T ct),(17,I y),(18,I (h:Nat))] a'∧w'=v)) a v:=by
 obtain ⟨u,rfl,hp⟩:=litF hA
 simp only[Fls] at hp
 clear hA
 unfold q7_26 C7 Tryd.f7 seq1 seq2 Ak Ar
 simp only[Option.getD_some,lits,Nat.reduceAdd,hp]
 clear hp
 go_wp2_with fail
 first
  |refine ⟨?_,rfl⟩
  |refine ⟨rfl,?_,rfl⟩
  |skip
 exact ⟨rfl,rfl,by
  intro p hp
  simp only[List.mem_cons,List.not_mem_nil,or_false] at hp
  rcases hp with rfl|rfl|rfl|rfl|rfl|rfl|rfl<;>first|rfl|exact congrArg I (by omega)|exact congrArg Value.bool (by simp<;>omega)|exact congrArg Value.bool (by simp)|(simp;done)⟩
theorem p7_27 {v:World}{a:Act}{n T ct:Nat}{p pp tp:Option Addr}{P pc Q tc:Nat}{y:Int}{h:Nat}(hq:h<1000000000) (hA:Fl 189 [(1,I (n:Nat)),(11,.slice pp P pc),(12,.slice tp Q tc),(16,.slice p T ct),(17,I y),(18,I (h:Nat))] a) :
 q7_27.wp Tryd.prog (fun e a' w'=>e=.normal∧(Fl 189 [(1,I (n:Nat)),(11,.slice pp P pc),(12,.slice tp Q tc),(16,.slice p T ct),(17,I y),(18,I ((h+1:Nat):Int))] a'∧w'=v)) a v:=by
 have h9:IntKind.i64.wrap ((h:Int)+1)=((h+1:Nat):Int):=by rw[IntKind.wrap_i64];omega
 obtain ⟨u,rfl,hp⟩:=litF hA
 simp only[Fls] at hp
 clear hA
 unfold q7_27 C7 Tryd.f7 seq1 seq2 Ak Ar
 simp only[Option.getD_some,lits,Nat.reduceAdd,hp]
 clear hp
 go_wp2_with fail
 first
  |refine ⟨?_,rfl⟩
  |refine ⟨rfl,?_,rfl⟩
  |skip
 exact ⟨rfl,rfl,by
  intro p hp
  simp only[List.mem_cons,List.not_mem_nil,or_false] at hp
  rcases hp with rfl|rfl|rfl|rfl|rfl|rfl<;>first|rfl|exact congrArg I (by omega)|exact congrArg Value.bool (by simp<;>omega)|exact congrArg Value.bool (by simp)|(simp;done)⟩
theorem p7_28 {v:World}{a:Act}{n T ct:Nat}{p pp tp:Option Addr}{P pc Q tc:Nat}{y:Int}{h:Nat}(h1:y≤(n:Int)) (h2:h≤n) (hA:Fl 189 [(1,I (n:Nat)),(11,.slice pp P pc),(12,.slice tp Q tc),(16,.slice p T ct),(17,I y),(18,I (h:Nat))] a) :
 q7_28.wp Tryd.prog (fun e a' w'=>e=.normal∧(Fl 189 [(149,.bool false),(1,I (n:Nat)),(11,.slice pp P pc),(12,.slice tp Q tc),(16,.slice p T ct),(17,I y),(18,I (h:Nat))] a'∧w'=v)) a v:=by
 have g1:¬ y > (n:Int):=by omega
 have g2:¬ (n:Int)<y:=by omega
 have g3:¬ (h:Int) > (n:Int):=by omega
 have g4:¬ (n:Int)<(h:Int):=by omega
 obtain ⟨u,rfl,hp⟩:=litF hA
 simp only[Fls] at hp
 clear hA
 unfold q7_28 C7 Tryd.f7 seq1 seq2 Ak Ar
 simp only[Option.getD_some,lits,Nat.reduceAdd,hp]
 clear hp
 go_wp2_with fail
 first
  |refine ⟨?_,rfl⟩
  |refine ⟨rfl,?_,rfl⟩
  |skip
 exact ⟨rfl,rfl,by
  intro p hp
  simp only[List.mem_cons,List.not_mem_nil,or_false] at hp
  rcases hp with rfl|rfl|rfl|rfl|rfl|rfl|rfl<;>first|rfl|exact congrArg I (by omega)|exact congrArg Value.bool (by simp<;>omega)|exact congrArg Value.bool (by simp)|(simp;done)⟩
theorem p7_32 {v:World}{a:Act}{pp tp:Option Addr}{P pc Q tc:Nat}(h:P=Q) (hA:Fl 189 [(11,.slice pp P pc),(12,.slice tp Q tc)] a) :
 q7_32.wp Tryd.prog (fun e a' w'=>e=.normal∧(Fl 189 [(169,.bool false),(11,.slice pp P pc),(12,.slice tp Q tc)] a'∧w'=v)) a v:=by
 subst h
 obtain ⟨u,rfl,hp⟩:=litF hA
 simp only[Fls] at hp
 clear hA
 unfold q7_32 C7 Tryd.f7 seq1 seq2
 simp only[Option.getD_some,lits,Nat.reduceAdd,hp]
 clear hp
 go_wp2_with fail
 first
  |refine ⟨?_,rfl⟩
  |refine ⟨rfl,?_,rfl⟩
  |skip
 exact ⟨rfl,rfl,by
  intro p hp
  simp only[List.mem_cons,List.not_mem_nil,or_false] at hp
  rcases hp with rfl|rfl|rfl<;>first|rfl|exact congrArg I (by omega)|exact congrArg Value.bool (by simp<;>omega)|exact congrArg Value.bool (by simp)|(simp;done)⟩
theorem p7_34 {v:World}{a:Act}{pp tp:Option Addr}{P pc Q tc:Nat}  (hA:Fl 189 [(11,.slice pp P pc),(12,.slice tp Q tc)] a) :
 q7_34.wp Tryd.prog (fun e a' w'=>e=.normal∧(Fl 189 [(11,.slice pp P pc),(12,.slice tp Q tc),(19,I 0)] a'∧w'=v)) a v:=by
 obtain ⟨u,rfl,hp⟩:=litF hA
 simp only[Fls] at hp
 clear hA
 unfold q7_34 C7 Tryd.f7 seq1 seq2
 simp only[Option.getD_some,lits,Nat.reduceAdd,hp]
 clear hp
 go_wp2_with fail
 first
  |refine ⟨?_,rfl⟩
  |refine ⟨rfl,?_,rfl⟩
  |skip
 exact ⟨rfl,rfl,by
  intro p hp
  simp only[List.mem_cons,List.not_mem_nil,or_false] at hp
  rcases hp with rfl|rfl|rfl<;>first|rfl|exact congrArg I (by omega)|exact congrArg Value.bool (by simp<;>omega)|exact congrArg Value.bool (by simp)|(simp;done)⟩
theorem p7_35 {v:World}{a:Act}{pp tp:Option Addr}{P pc Q tc:Nat}{g:Nat}  (hA:Fl 189 [(11,.slice pp P pc),(12,.slice tp Q tc),(19,I (g:Nat))] a) :
 q7_35.wp Tryd.prog (fun e a' w'=>e=.normal∧(Fl 189 [(173,.bool (decide (g<P))),(11,.slice pp P pc),(12,.slice tp Q tc),(19,I (g:Nat))] a'∧w'=v)) a v:=by
 obtain ⟨u,rfl,hp⟩:=litF hA
 simp only[Fls] at hp
 clear hA
 unfold q7_35 C7 Tryd.f7 seq1 seq2 Ak Ar
 simp only[Option.getD_some,lits,Nat.reduceAdd,hp]
 clear hp
 go_wp2_with fail
 first
  |refine ⟨?_,rfl⟩
  |refine ⟨rfl,?_,rfl⟩
  |skip
 exact ⟨rfl,rfl,by
  intro p hp
  simp only[List.mem_cons,List.not_mem_nil,or_false] at hp
  rcases hp with rfl|rfl|rfl|rfl<;>first|rfl|exact congrArg I (by omega)|exact congrArg Value.bool (by simp<;>omega)|exact congrArg Value.bool (by simp)|(simp;done)⟩
theorem p7_36 {v:World}{a:Act}{pp tp:Option Addr}{P pc Q tc:Nat}{g:Nat}(hq:g<1000000000) (hA:Fl 189 [(11,.slice pp P pc),(12,.slice tp Q tc),(19,I (g:Nat))] a) :
 q7_36.wp Tryd.prog (fun e a' w'=>e=.normal∧(Fl 189 [(11,.slice pp P pc),(12,.slice tp Q tc),(19,I ((g+1:Nat):Int))] a'∧w'=v)) a v:=by
 have h9:IntKind.i64.wrap ((g:Int)+1)=((g+1:Nat):Int):=by rw[IntKind.wrap_i64];omega
 obtain ⟨u,rfl,hp⟩:=litF hA
 simp only[Fls] at hp
 clear hA
 unfold q7_36 C7 Tryd.f7 seq1 seq2 Ak Ar
 simp only[Option.getD_some,lits,Nat.reduceAdd,hp]
 clear hp
 go_wp2_with fail
 first
  |refine ⟨?_,rfl⟩
  |refine ⟨rfl,?_,rfl⟩
  |skip
 exact ⟨rfl,rfl,by
  intro p hp
  simp only[List.mem_cons,List.not_mem_nil,or_false] at hp
  rcases hp with rfl|rfl|rfl<;>first|rfl|exact congrArg I (by omega)|exact congrArg Value.bool (by simp<;>omega)|exact congrArg Value.bool (by simp)|(simp;done)⟩
theorem p7_39 {v:World}{a:Act}   (hA:Fl 189 [] a) :
 q7_39.wp Tryd.prog (fun e a' w'=>e=.normal∧(Fl 189 [(6,.bool true)] a'∧w'=v)) a v:=by
 obtain ⟨u,rfl,-⟩:=litF hA
 clear hA
 unfold q7_39 C7 Tryd.f7 seq1 seq2
 simp only[Option.getD_some,lits,Nat.reduceAdd]
 go_wp2_with fail
 first
  |refine ⟨?_,rfl⟩
  |refine ⟨rfl,?_,rfl⟩
  |skip
 exact ⟨rfl,rfl,by
  intro p hp
  simp only[List.mem_cons,List.not_mem_nil,or_false] at hp
  rcases hp with rfl<;>first|rfl|exact congrArg I (by omega)|exact congrArg Value.bool (by simp<;>omega)|exact congrArg Value.bool (by simp)|(simp;done)⟩
end Go.Proofs.YtbbhahigofeacaaDoor.Gen
