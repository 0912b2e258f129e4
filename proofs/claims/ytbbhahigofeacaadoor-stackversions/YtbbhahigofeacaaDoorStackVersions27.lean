/- Of the proof of StackVersions. Part 27 of 34. (Joined, by program, and written short, of: La9Q.) -/
import Derived.Test.YtbbhahigofeacaaDoorStackVersions26
set_option linter.unusedSimpArgs false
set_option linter.unusedVariables false
set_option maxHeartbeats 4000000
set_option maxRecDepth 100000
namespace Go.Proofs.YtbbhahigofeacaaDoor.Gen
open Go Go.Lift Go.Conc Go.RowKit
theorem p9_23d {v:World} {a:Act} {b o cap N sk ck T ct i ch:Nat} {hd now:Int} {p:Option Addr} {x:Nat} {s:Stp} {s1:Int} {c1:Nat} (c0:v.cell? ⟨x,0,none⟩=some (I s.th)) (d1:v.cell? ⟨x,1,none⟩=some (I s.ce)) (c2:v.cell? ⟨x,2,none⟩=some (I s.op)) (c3:v.cell? ⟨x,3,none⟩=some (I s.ol)) (c4:v.cell? ⟨x,4,none⟩=some (I s.ne)) (k:Nat) (hk:s.th=(k:Int)) (hkN:k<N) (e1:v.cell? ⟨sk,k,none⟩=some (I s1)) (e2:v.cell? ⟨ck,k,none⟩=some (I (c1:Nat))) (hd1:s.ol≠s.ne) (hd2:c1=ch) (hd3:s.ol=s1) (hd4:IntKind.i64.wrap (sh s.ol+1)=sh s.ol+1) (hd5:sh s.ne=sh s.ol+1) (hA:Fl 156 [(2,.slice (some ⟨b,o,none⟩) N cap),(11,.slice p T ct),(12,I hd),(13,I now),(14,I (ch:Nat)),(15,.slice (some ⟨sk,0,none⟩) N N),(16,.slice (some ⟨ck,0,none⟩) N N),(17,I (i:Nat)),(18,Pt x 0),(19,.bool (decide (s.ol≠s.ne)))] a) :
 q9_23.wp Tryd.prog (fun e a' w'=>e=.normal∧(Fl 156 [(150,.bool false),(2,.slice (some ⟨b,o,none⟩) N cap),(11,.slice p T ct),(12,I hd),(13,I now),(14,I (ch:Nat)),(15,.slice (some ⟨sk,0,none⟩) N N),(16,.slice (some ⟨ck,0,none⟩) N N),(17,I (i:Nat)),(18,Pt x 0),(19,.bool (decide (s.ol≠s.ne)))] a'∧∃ m,w'=v.drewN m)) a v:=by
 subst hd2 hd3
 rw [hk] at c0
 have hkN2:(k:Int)<(N:Int):=by omega
 have q1:s.ne / 4294967296=s.ol / 4294967296+1:=hd5
 have q2:IntKind.i64.wrap (s.ol / 4294967296+1)=s.ol / 4294967296+1:=hd4
 clear hd4 hd5
 obtain ⟨u,rfl,hp⟩:=litF hA
 simp only [Fls] at hp
 clear hA
 unfold q9_23 C9 Tryd.f9 seq1 seq2 blockC loopC
 simp only [Option.getD_some,lits,Nat.reduceAdd,hp]
 clear hp
 go_wp2_with fail
 go_quiet (fail)
 first
  |refine ⟨?_,⟨_,rfl⟩⟩
  |refine ⟨rfl,?_,⟨_,rfl⟩⟩
  |skip
 exact ⟨rfl,rfl,by
  intro p hp
  simp only [List.mem_cons,List.not_mem_nil,or_false] at hp
  rcases hp with rfl|rfl|rfl|rfl|rfl|rfl|rfl|rfl|rfl|rfl|rfl<;>first|rfl|exact congrArg I (by omega)|exact congrArg Value.bool (by simp<;>omega)|exact congrArg Value.bool (by simp)|(simp;done)⟩
theorem p9_25 {v:World} {a:Act} {b o cap N sk ck T ct i ch:Nat} {hd now:Int} {p:Option Addr} {x:Nat} {s:Stp}  (hA:Fl 156 [(2,.slice (some ⟨b,o,none⟩) N cap),(11,.slice p T ct),(12,I hd),(13,I now),(14,I (ch:Nat)),(15,.slice (some ⟨sk,0,none⟩) N N),(16,.slice (some ⟨ck,0,none⟩) N N),(17,I (i:Nat)),(18,Pt x 0),(19,.bool (decide (s.ol≠s.ne)))] a) :
 q9_25.wp Tryd.prog (fun e a' w'=>e=.normal∧(Fl 156 [(151,.bool (decide (s.ol≠s.ne))),(2,.slice (some ⟨b,o,none⟩) N cap),(11,.slice p T ct),(12,I hd),(13,I now),(14,I (ch:Nat)),(15,.slice (some ⟨sk,0,none⟩) N N),(16,.slice (some ⟨ck,0,none⟩) N N),(17,I (i:Nat)),(18,Pt x 0),(19,.bool (decide (s.ol≠s.ne)))] a'∧w'=v)) a v:=by
 obtain ⟨u,rfl,hp⟩:=litF hA
 simp only [Fls] at hp
 clear hA
 unfold q9_25 C9 Tryd.f9 seq1 seq2 blockC loopC
 simp only [Option.getD_some,lits,Nat.reduceAdd,hp]
 clear hp
 go_wp2_with fail
 first
  |refine ⟨?_,rfl⟩
  |refine ⟨rfl,?_,rfl⟩
  |skip
 exact ⟨rfl,rfl,by
  intro p hp
  simp only [List.mem_cons,List.not_mem_nil,or_false] at hp
  rcases hp with rfl|rfl|rfl|rfl|rfl|rfl|rfl|rfl|rfl|rfl|rfl<;>first|rfl|exact congrArg I (by omega)|exact congrArg Value.bool (by simp<;>omega)|exact congrArg Value.bool (by simp)|(simp;done)⟩
theorem p9_26 {v:World} {a:Act} {b o cap N sk ck T ct i ch:Nat} {hd now:Int} {p:Option Addr} {x:Nat} {s:Stp} (hc:ch≤400000) (hA:Fl 156 [(2,.slice (some ⟨b,o,none⟩) N cap),(11,.slice p T ct),(12,I hd),(13,I now),(14,I (ch:Nat)),(15,.slice (some ⟨sk,0,none⟩) N N),(16,.slice (some ⟨ck,0,none⟩) N N),(17,I (i:Nat)),(18,Pt x 0),(19,.bool (decide (s.ol≠s.ne)))] a) :
 q9_26.wp Tryd.prog (fun e a' w'=>e=.normal∧(Fl 156 [(2,.slice (some ⟨b,o,none⟩) N cap),(11,.slice p T ct),(12,I hd),(13,I now),(14,I ((ch+1:Nat):Int)),(15,.slice (some ⟨sk,0,none⟩) N N),(16,.slice (some ⟨ck,0,none⟩) N N),(17,I (i:Nat)),(18,Pt x 0),(19,.bool (decide (s.ol≠s.ne)))] a'∧w'=v)) a v:=by
 have hw:IntKind.i64.wrap ((ch:Int)+1)=((ch+1:Nat):Int):=by rw [IntKind.wrap_i64];omega
 obtain ⟨u,rfl,hp⟩:=litF hA
 simp only [Fls] at hp
 clear hA
 unfold q9_26 C9 Tryd.f9 seq1 seq2 condA blockC loopC
 simp only [Option.getD_some,lits,Nat.reduceAdd,hp]
 clear hp
 go_wp2_with fail
 first
  |refine ⟨?_,rfl⟩
  |refine ⟨rfl,?_,rfl⟩
  |skip
 exact ⟨rfl,rfl,by
  intro p hp
  simp only [List.mem_cons,List.not_mem_nil,or_false] at hp
  rcases hp with rfl|rfl|rfl|rfl|rfl|rfl|rfl|rfl|rfl|rfl<;>first|rfl|exact congrArg I (by omega)|exact congrArg Value.bool (by simp<;>omega)|exact congrArg Value.bool (by simp)|(simp;done)⟩
theorem p9_27 {v:World} {a:Act} {b o cap N sk ck T ct i ch:Nat} {hd now:Int} {p:Option Addr} {x:Nat} {s:Stp} (c0:v.cell? ⟨x,0,none⟩=some (I s.th)) (c1:v.cell? ⟨x,1,none⟩=some (I s.ce)) (c2:v.cell? ⟨x,2,none⟩=some (I s.op)) (c3:v.cell? ⟨x,3,none⟩=some (I s.ol)) (c4:v.cell? ⟨x,4,none⟩=some (I s.ne)) (hA:Fl 156 [(2,.slice (some ⟨b,o,none⟩) N cap),(11,.slice p T ct),(12,I hd),(13,I now),(14,I (ch:Nat)),(15,.slice (some ⟨sk,0,none⟩) N N),(16,.slice (some ⟨ck,0,none⟩) N N),(17,I (i:Nat)),(18,Pt x 0)] a) :
 q9_27.wp Tryd.prog (fun e a' w'=>e=.normal∧(Fl 156 [(2,.slice (some ⟨b,o,none⟩) N cap),(11,.slice p T ct),(12,I hd),(13,I s.ne),(14,I (ch:Nat)),(15,.slice (some ⟨sk,0,none⟩) N N),(16,.slice (some ⟨ck,0,none⟩) N N),(17,I (i:Nat))] a'∧w'=v)) a v:=by
 obtain ⟨u,rfl,hp⟩:=litF hA
 simp only [Fls] at hp
 clear hA
 unfold q9_27 C9 Tryd.f9 seq1 seq2 blockC loopC
 simp only [Option.getD_some,lits,Nat.reduceAdd,hp]
 clear hp
 go_wp2_with fail
 first
  |refine ⟨?_,rfl⟩
  |refine ⟨rfl,?_,rfl⟩
  |skip
 exact ⟨rfl,rfl,by
  intro p hp
  simp only [List.mem_cons,List.not_mem_nil,or_false] at hp
  rcases hp with rfl|rfl|rfl|rfl|rfl|rfl|rfl|rfl<;>first|rfl|exact congrArg I (by omega)|exact congrArg Value.bool (by simp<;>omega)|exact congrArg Value.bool (by simp)|(simp;done)⟩
theorem p9_14 {v:World} {a:Act} {b o cap N sk ck T ct i ch:Nat} {hd now:Int} {p:Option Addr} (hi:i≤400000) (hA:Fl 156 [(2,.slice (some ⟨b,o,none⟩) N cap),(11,.slice p T ct),(12,I hd),(13,I now),(14,I (ch:Nat)),(15,.slice (some ⟨sk,0,none⟩) N N),(16,.slice (some ⟨ck,0,none⟩) N N),(17,I (i:Nat))] a) :
 q9_14.wp Tryd.prog (fun e a' w'=>e=.normal∧(Fl 156 [(2,.slice (some ⟨b,o,none⟩) N cap),(11,.slice p T ct),(12,I hd),(13,I now),(14,I (ch:Nat)),(15,.slice (some ⟨sk,0,none⟩) N N),(16,.slice (some ⟨ck,0,none⟩) N N),(17,I ((i+1:Nat):Int))] a'∧w'=v)) a v:=by
 have hw:IntKind.i64.wrap ((i:Int)+1)=((i+1:Nat):Int):=by rw [IntKind.wrap_i64];omega
 obtain ⟨u,rfl,hp⟩:=litF hA
 simp only [Fls] at hp
 clear hA
 unfold q9_14 C9 Tryd.f9 seq1 seq2 blockC loopC
 simp only [Option.getD_some,lits,Nat.reduceAdd,hp]
 clear hp
 go_wp2_with fail
 first
  |refine ⟨?_,rfl⟩
  |refine ⟨rfl,?_,rfl⟩
  |skip
 exact ⟨rfl,rfl,by
  intro p hp
  simp only [List.mem_cons,List.not_mem_nil,or_false] at hp
  rcases hp with rfl|rfl|rfl|rfl|rfl|rfl|rfl|rfl<;>first|rfl|exact congrArg I (by omega)|exact congrArg Value.bool (by simp<;>omega)|exact congrArg Value.bool (by simp)|(simp;done)⟩
theorem p9_28 {v:World} {a:Act}   (hA:Fl 156 [] a) :
 q9_28.wp Tryd.prog (fun e a' w'=>e=.normal∧(Fl 156 [(6,.bool true)] a'∧w'=v)) a v:=by
 obtain ⟨u,rfl,-⟩:=litF hA
 clear hA
 unfold q9_28 C9 Tryd.f9 seq1 seq2
 simp only [Option.getD_some,lits,Nat.reduceAdd]
 go_wp2_with fail
 first
  |refine ⟨?_,rfl⟩
  |refine ⟨rfl,?_,rfl⟩
  |skip
 exact ⟨rfl,rfl,by
  intro p hp
  simp only [List.mem_cons,List.not_mem_nil,or_false] at hp
  rcases hp with rfl<;>first|rfl|exact congrArg I (by omega)|exact congrArg Value.bool (by simp<;>omega)|exact congrArg Value.bool (by simp)|(simp;done)⟩
end Go.Proofs.YtbbhahigofeacaaDoor.Gen
