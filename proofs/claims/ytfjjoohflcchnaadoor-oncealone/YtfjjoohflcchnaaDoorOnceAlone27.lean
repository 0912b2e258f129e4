/- Of the proof of OnceAlone. Part 27 of 30. (Joined, by program, and written short, of: La5b, OnPk.) -/
import Derived.Test.YtfjjoohflcchnaaDoorOnceAlone25
import Derived.Test.YtfjjoohflcchnaaDoorOnceAlone26
set_option linter.unusedSimpArgs false
set_option linter.unusedVariables false
set_option maxHeartbeats 4000000
set_option maxRecDepth 100000
namespace Go.Proofs.YtfjjoohflcchnaaDoor.Gen
open Go Go.Lift Go.Conc Go.RowKit
noncomputable def C5:Code:=Tryd.f5.body.getD .skip
noncomputable def q5_0:Code:=(seq1 C5)
noncomputable def q5_1:Code:=(seq1 (seq2 C5))
noncomputable def q5_2:Code:=(seq1 (seq2 (seq2 C5)))
noncomputable def q5_3:Code:=(seq1 (seq1 (seq2 (seq2 (seq2 C5)))))
noncomputable def q5_4:Code:=(seq1 (condA (seq2 (seq1 (seq2 (seq2 (seq2 C5)))))))
noncomputable def q5_5:Code:=(seq1 (seq2 (seq2 (seq2 (seq2 C5)))))
noncomputable def q5_6:Code:=(seq1 (seq2 (seq2 (seq2 (seq2 (seq2 C5))))))
noncomputable def q5_7:Code:=(seq1 (seq1 (seq2 (seq2 (seq2 (seq2 (seq2 (seq2 C5))))))))
noncomputable def q5_8:Code:=(seq1 (seq1 (loopC (blockC (seq2 (seq1 (seq2 (seq2 (seq2 (seq2 (seq2 (seq2 C5))))))))))))
noncomputable def q5_10:Code:=(seq1 (seq1 (blockC (seq1 (seq2 (loopC (blockC (seq2 (seq1 (seq2 (seq2 (seq2 (seq2 (seq2 (seq2 C5)))))))))))))))
noncomputable def q5_11:Code:=(condA (seq2 (seq1 (blockC (seq1 (seq2 (loopC (blockC (seq2 (seq1 (seq2 (seq2 (seq2 (seq2 (seq2 (seq2 C5))))))))))))))))
noncomputable def q5_12:Code:=(seq1 (seq2 (blockC (seq1 (seq2 (loopC (blockC (seq2 (seq1 (seq2 (seq2 (seq2 (seq2 (seq2 (seq2 C5)))))))))))))))
noncomputable def q5_13:Code:=(seq1 (seq2 (seq2 (blockC (seq1 (seq2 (loopC (blockC (seq2 (seq1 (seq2 (seq2 (seq2 (seq2 (seq2 (seq2 C5))))))))))))))))
noncomputable def q5_14:Code:=(seq1 (condA (seq2 (seq2 (seq2 (blockC (seq1 (seq2 (loopC (blockC (seq2 (seq1 (seq2 (seq2 (seq2 (seq2 (seq2 (seq2 C5))))))))))))))))))
noncomputable def q5_9:Code:=(seq2 (seq2 (loopC (blockC (seq2 (seq1 (seq2 (seq2 (seq2 (seq2 (seq2 (seq2 C5))))))))))))
noncomputable def q5_15:Code:=(seq1 (seq2 (seq2 (seq2 (seq2 (seq2 (seq2 (seq2 C5))))))))
noncomputable def K5_1:Code:=(.seq (.seq q5_10 (.cond ( .tmp 26 ) q5_11 .skip)) (.seq q5_12 (.seq q5_13 (.cond ( .tmp 40 ) (.seq q5_14 .ret) .skip))))
noncomputable def K5_0:Code:=(.loop (.seq (.seq q5_8 (.cond ( .tmp 22 ) .skip (.exit 0))) (.seq (.block 1 K5_1) q5_9)))
theorem e5:C5=(.seq q5_0 (.seq q5_1 (.seq q5_2 (.seq (.seq q5_3 (.cond ( .tmp 16 ) (.seq q5_4 .ret) .skip)) (.seq q5_5 (.seq q5_6 (.seq (.seq q5_7 (.block 0 K5_0)) (.seq q5_15 .ret)))))))):=by kernel_rfl
theorem fine5_2:fineCode Tryd.prog true LV q5_2:=fineCode_askS callV extT (by kernel_rfl)
theorem fine5_3:fineCode Tryd.prog true LV q5_3:=fineCode_askS callV extT (by kernel_rfl)
theorem fine5_5:fineCode Tryd.prog true LV q5_5:=fineCode_askS callV extT (by kernel_rfl)
theorem fine5_6:fineCode Tryd.prog true LV q5_6:=fineCode_askS callV extT (by kernel_rfl)
theorem fine5_7:fineCode Tryd.prog true LV q5_7:=fineCode_askS callV extT (by kernel_rfl)
theorem fine5_8:fineCode Tryd.prog true LV q5_8:=fineCode_askS callV extT (by kernel_rfl)
theorem fine5_9:fineCode Tryd.prog true LV q5_9:=fineCode_askS callV extT (by kernel_rfl)
theorem fine5_10:fineCode Tryd.prog true LV q5_10:=fineCode_askS callV extT (by kernel_rfl)
theorem fine5_11:fineCode Tryd.prog true LV q5_11:=fineCode_askS callV extT (by kernel_rfl)
theorem fine5_13:fineCode Tryd.prog true LV q5_13:=fineCode_askS callV extT (by kernel_rfl)
noncomputable def T5:Code:=.seq q5_15 .ret
theorem fine_T5:fineCode Tryd.prog true LV T5:=⟨fineCode_askS callV extT (c:=q5_15) (by kernel_rfl),trivial⟩
theorem p5_2 {v:World} {a:Act} {l0:Value}  (hA:Fl 41 [(0,l0),(3,.bool true)] a) :
 q5_2.wp Tryd.prog (fun e a' w'=>e=.normal∧(Fl 41 [(0,l0),(3,.bool true),(4,Pt (v.heap.size+3) 0)] a'∧NwO v w')) a v:=by
 have HN:=Hid.mk (onceN v)
 obtain ⟨hsz,hd,hp⟩:=hA
 obtain ⟨u,rfl,hg⟩:=litN hsz hd
 simp only [List.forall_mem_cons,hg] at hp
 obtain ⟨u0,u3,-⟩:=hp
 clear hg hsz hd
 unfold q5_2 C5 Tryd.f5 seq1 seq2
 simp only [Option.getD_some,lits,Nat.reduceAdd,u0,u3]
 clear u0 u3
 go_wp2_with fail
 refine HN.out.mono ?_
 rintro e w1 ⟨rfl,H1⟩
 clear HN
 go_wp2_with fail
 first
  |exact ⟨⟨rfl,rfl,by
   intro p hp
   simp only [List.mem_cons,List.not_mem_nil,or_false] at hp
   rcases hp with rfl|rfl|rfl<;>first|rfl|exact congrArg I (by omega)|exact congrArg Value.bool (by simp<;>omega)|exact congrArg Value.bool (by simp)|(simp;done)⟩,H1.out⟩
  |exact ⟨rfl,rfl,by
   intro p hp
   simp only [List.mem_cons,List.not_mem_nil,or_false] at hp
   rcases hp with rfl|rfl|rfl<;>first|rfl|exact congrArg I (by omega)|exact congrArg Value.bool (by simp<;>omega)|exact congrArg Value.bool (by simp)|(simp;done)⟩
  |exact ⟨rfl,⟨rfl,rfl,by
   intro p hp
   simp only [List.mem_cons,List.not_mem_nil,or_false] at hp
   rcases hp with rfl|rfl|rfl<;>first|rfl|exact congrArg I (by omega)|exact congrArg Value.bool (by simp<;>omega)|exact congrArg Value.bool (by simp)|(simp;done)⟩,H1.out⟩
theorem p5_3 {v:World} {a:Act} {l0:Value} {ob:Nat}  (hA:Fl 41 [(0,l0),(4,Pt ob 0),(3,.bool true)] a) :
 q5_3.wp Tryd.prog (fun e a' w'=>e=.normal∧(Fl 41 [(16,.bool false),(0,l0),(4,Pt ob 0)] a'∧w'=v)) a v:=by
 obtain ⟨hsz,hd,hp⟩:=hA
 obtain ⟨u,rfl,hg⟩:=litN hsz hd
 simp only [List.forall_mem_cons,hg] at hp
 obtain ⟨u0,u4,u3,-⟩:=hp
 clear hg hsz hd
 unfold q5_3 C5 Tryd.f5 seq1 seq2
 simp only [Option.getD_some,lits,Nat.reduceAdd,u0,u4,u3]
 clear u0 u4 u3
 go_wp2_with fail
 first
  |exact ⟨⟨rfl,rfl,by
   intro p hp
   simp only [List.mem_cons,List.not_mem_nil,or_false] at hp
   rcases hp with rfl|rfl|rfl<;>first|rfl|exact congrArg I (by omega)|exact congrArg Value.bool (by simp<;>omega)|exact congrArg Value.bool (by simp)|(simp;done)⟩,rfl⟩
  |exact ⟨rfl,rfl,by
   intro p hp
   simp only [List.mem_cons,List.not_mem_nil,or_false] at hp
   rcases hp with rfl|rfl|rfl<;>first|rfl|exact congrArg I (by omega)|exact congrArg Value.bool (by simp<;>omega)|exact congrArg Value.bool (by simp)|(simp;done)⟩
  |exact ⟨rfl,⟨rfl,rfl,by
   intro p hp
   simp only [List.mem_cons,List.not_mem_nil,or_false] at hp
   rcases hp with rfl|rfl|rfl<;>first|rfl|exact congrArg I (by omega)|exact congrArg Value.bool (by simp<;>omega)|exact congrArg Value.bool (by simp)|(simp;done)⟩,rfl⟩
theorem p5_5 {v:World} {a:Act} {l0:Value} {ob:Nat}  (hA:Fl 41 [(0,l0),(4,Pt ob 0)] a) :
 q5_5.wp Tryd.prog (fun e a' w'=>e=.normal∧(Fl 41 [(0,l0),(4,Pt ob 0),(5,Pt v.heap.size 0)] a'∧w'.heap=v.heap.push (.cells #[.pointer none,I 7,.chan none,I 0,I 0,I 0,I 0] 107)∧w'.os=v.os∧w'.output=v.output)) a v:=by
 have HN:=Hid.mk ((body11 v 7).calls Tryd.func26 rfl)
 obtain ⟨hsz,hd,hp⟩:=hA
 obtain ⟨u,rfl,hg⟩:=litN hsz hd
 simp only [List.forall_mem_cons,hg] at hp
 obtain ⟨u0,u4,-⟩:=hp
 clear hg hsz hd
 unfold q5_5 C5 Tryd.f5 seq1 seq2
 simp only [Option.getD_some,lits,Nat.reduceAdd,u0,u4]
 clear u0 u4
 go_wp2_with fail
 refine HN.out.mono ?_
 rintro e w1 ⟨_,rfl,rfl,H1,H2,H3⟩
 have HH:Hid (w1.heap=v.heap.push (.cells #[.pointer none,I 7,.chan none,I 0,I 0,I 0,I 0] 107)∧w1.os=v.os∧w1.output=v.output):=⟨⟨H1,H2,H3⟩⟩
 clear HN H1 H2 H3
 go_wp2_with fail
 first
  |exact ⟨⟨rfl,rfl,by
   intro p hp
   simp only [List.mem_cons,List.not_mem_nil,or_false] at hp
   rcases hp with rfl|rfl|rfl<;>first|rfl|exact congrArg I (by omega)|exact congrArg Value.bool (by simp<;>omega)|exact congrArg Value.bool (by simp)|(simp;done)⟩,HH.out⟩
  |exact ⟨rfl,rfl,by
   intro p hp
   simp only [List.mem_cons,List.not_mem_nil,or_false] at hp
   rcases hp with rfl|rfl|rfl<;>first|rfl|exact congrArg I (by omega)|exact congrArg Value.bool (by simp<;>omega)|exact congrArg Value.bool (by simp)|(simp;done)⟩
  |exact ⟨rfl,⟨rfl,rfl,by
   intro p hp
   simp only [List.mem_cons,List.not_mem_nil,or_false] at hp
   rcases hp with rfl|rfl|rfl<;>first|rfl|exact congrArg I (by omega)|exact congrArg Value.bool (by simp<;>omega)|exact congrArg Value.bool (by simp)|(simp;done)⟩,HH.out⟩
theorem p5_6 {v:World} {a:Act} {l0:Value} {ob:Nat} {tb:Nat}  (hA:Fl 41 [(0,l0),(4,Pt ob 0),(5,Pt tb 0)] a) :
 q5_6.wp Tryd.prog (fun e a' w'=>e=.normal∧(Fl 41 [(0,l0),(4,Pt ob 0),(5,Pt tb 0),(6,Pt v.heap.size 0)] a'∧w'=v.alloc (.cells #[I 0,I 0] 38))) a v:=by
 obtain ⟨hsz,hd,hp⟩:=hA
 obtain ⟨u,rfl,hg⟩:=litN hsz hd
 simp only [List.forall_mem_cons,hg] at hp
 obtain ⟨u0,u4,u5,-⟩:=hp
 clear hg hsz hd
 unfold q5_6 C5 Tryd.f5 seq1 seq2
 simp only [Option.getD_some,lits,Nat.reduceAdd,u0,u4,u5]
 clear u0 u4 u5
 go_wp2_with fail
 first
  |exact ⟨⟨rfl,rfl,by
   intro p hp
   simp only [List.mem_cons,List.not_mem_nil,or_false] at hp
   rcases hp with rfl|rfl|rfl|rfl<;>first|rfl|exact congrArg I (by omega)|exact congrArg Value.bool (by simp<;>omega)|exact congrArg Value.bool (by simp)|(simp;done)⟩,rfl⟩
  |exact ⟨rfl,rfl,by
   intro p hp
   simp only [List.mem_cons,List.not_mem_nil,or_false] at hp
   rcases hp with rfl|rfl|rfl|rfl<;>first|rfl|exact congrArg I (by omega)|exact congrArg Value.bool (by simp<;>omega)|exact congrArg Value.bool (by simp)|(simp;done)⟩
  |exact ⟨rfl,⟨rfl,rfl,by
   intro p hp
   simp only [List.mem_cons,List.not_mem_nil,or_false] at hp
   rcases hp with rfl|rfl|rfl|rfl<;>first|rfl|exact congrArg I (by omega)|exact congrArg Value.bool (by simp<;>omega)|exact congrArg Value.bool (by simp)|(simp;done)⟩,rfl⟩
theorem p5_7 {v:World} {a:Act} {l0:Value} {ob:Nat} {tb:Nat} {wk:Nat}  (hA:Fl 41 [(0,l0),(4,Pt ob 0),(5,Pt tb 0),(6,Pt wk 0)] a) :
 q5_7.wp Tryd.prog (fun e a' w'=>e=.normal∧(Fl 41 [(0,l0),(4,Pt ob 0),(5,Pt tb 0),(6,Pt wk 0),(7,I ((0:Nat):Int))] a'∧w'=v)) a v:=by
 obtain ⟨hsz,hd,hp⟩:=hA
 obtain ⟨u,rfl,hg⟩:=litN hsz hd
 simp only [List.forall_mem_cons,hg] at hp
 obtain ⟨u0,u4,u5,u6,-⟩:=hp
 clear hg hsz hd
 unfold q5_7 C5 Tryd.f5 seq1 seq2
 simp only [Option.getD_some,lits,Nat.reduceAdd,u0,u4,u5,u6]
 clear u0 u4 u5 u6
 go_wp2_with fail
 first
  |exact ⟨⟨rfl,rfl,by
   intro p hp
   simp only [List.mem_cons,List.not_mem_nil,or_false] at hp
   rcases hp with rfl|rfl|rfl|rfl|rfl<;>first|rfl|exact congrArg I (by omega)|exact congrArg Value.bool (by simp<;>omega)|exact congrArg Value.bool (by simp)|(simp;done)⟩,rfl⟩
  |exact ⟨rfl,rfl,by
   intro p hp
   simp only [List.mem_cons,List.not_mem_nil,or_false] at hp
   rcases hp with rfl|rfl|rfl|rfl|rfl<;>first|rfl|exact congrArg I (by omega)|exact congrArg Value.bool (by simp<;>omega)|exact congrArg Value.bool (by simp)|(simp;done)⟩
  |exact ⟨rfl,⟨rfl,rfl,by
   intro p hp
   simp only [List.mem_cons,List.not_mem_nil,or_false] at hp
   rcases hp with rfl|rfl|rfl|rfl|rfl<;>first|rfl|exact congrArg I (by omega)|exact congrArg Value.bool (by simp<;>omega)|exact congrArg Value.bool (by simp)|(simp;done)⟩,rfl⟩
theorem p5_8 {v:World} {a:Act} {ob tb wk i:Nat} {p:Option Addr} {n cap:Nat}  (hA:Fl 41 [(0,.slice p n cap),(4,Pt ob 0),(5,Pt tb 0),(6,Pt wk 0),(7,I (i:Nat))] a) :
 q5_8.wp Tryd.prog (fun e a' w'=>e=.normal∧(Fl 41 [(22,.bool (decide (i<n))),(0,.slice p n cap),(4,Pt ob 0),(5,Pt tb 0),(6,Pt wk 0),(7,I (i:Nat))] a'∧w'=v)) a v:=by
 obtain ⟨hsz,hd,hp⟩:=hA
 obtain ⟨u,rfl,hg⟩:=litN hsz hd
 simp only [List.forall_mem_cons,hg] at hp
 obtain ⟨u0,u4,u5,u6,u7,-⟩:=hp
 clear hg hsz hd
 unfold q5_8 C5 Tryd.f5 seq1 seq2 blockC loopC
 simp only [Option.getD_some,lits,Nat.reduceAdd,u0,u4,u5,u6,u7]
 clear u0 u4 u5 u6 u7
 go_wp2_with fail
 first
  |exact ⟨⟨rfl,rfl,by
   intro p hp
   simp only [List.mem_cons,List.not_mem_nil,or_false] at hp
   rcases hp with rfl|rfl|rfl|rfl|rfl|rfl<;>first|rfl|exact congrArg I (by omega)|exact congrArg Value.bool (by simp<;>omega)|exact congrArg Value.bool (by simp)|(simp;done)⟩,rfl⟩
  |exact ⟨rfl,rfl,by
   intro p hp
   simp only [List.mem_cons,List.not_mem_nil,or_false] at hp
   rcases hp with rfl|rfl|rfl|rfl|rfl|rfl<;>first|rfl|exact congrArg I (by omega)|exact congrArg Value.bool (by simp<;>omega)|exact congrArg Value.bool (by simp)|(simp;done)⟩
  |exact ⟨rfl,⟨rfl,rfl,by
   intro p hp
   simp only [List.mem_cons,List.not_mem_nil,or_false] at hp
   rcases hp with rfl|rfl|rfl|rfl|rfl|rfl<;>first|rfl|exact congrArg I (by omega)|exact congrArg Value.bool (by simp<;>omega)|exact congrArg Value.bool (by simp)|(simp;done)⟩,rfl⟩
theorem p5_9 {v:World} {a:Act} {l0:Value} {ob tb wk i:Nat} (hq:(i:Int)<9223372036854775807) (hA:Fl 41 [(0,l0),(4,Pt ob 0),(5,Pt tb 0),(6,Pt wk 0),(7,I (i:Nat))] a) :
 q5_9.wp Tryd.prog (fun e a' w'=>e=.normal∧(Fl 41 [(0,l0),(4,Pt ob 0),(5,Pt tb 0),(6,Pt wk 0),(7,I ((i+1:Nat):Int))] a'∧w'=v)) a v:=by
 have h9:wrap64 ((i:Int)+1)=((i+1:Nat):Int):=by unfold wrap64;omega
 obtain ⟨hsz,hd,hp⟩:=hA
 obtain ⟨u,rfl,hg⟩:=litN hsz hd
 simp only [List.forall_mem_cons,hg] at hp
 obtain ⟨u0,u4,u5,u6,u7,-⟩:=hp
 clear hg hsz hd
 unfold q5_9 C5 Tryd.f5 seq1 seq2 blockC loopC
 simp only [Option.getD_some,lits,Nat.reduceAdd,u0,u4,u5,u6,u7]
 clear u0 u4 u5 u6 u7
 go_wp2_with fail
 first
  |exact ⟨⟨rfl,rfl,by
   intro p hp
   simp only [List.mem_cons,List.not_mem_nil,or_false] at hp
   rcases hp with rfl|rfl|rfl|rfl|rfl<;>first|rfl|exact congrArg I (by omega)|exact congrArg Value.bool (by simp<;>omega)|exact congrArg Value.bool (by simp)|(simp;done)⟩,rfl⟩
  |exact ⟨rfl,rfl,by
   intro p hp
   simp only [List.mem_cons,List.not_mem_nil,or_false] at hp
   rcases hp with rfl|rfl|rfl|rfl|rfl<;>first|rfl|exact congrArg I (by omega)|exact congrArg Value.bool (by simp<;>omega)|exact congrArg Value.bool (by simp)|(simp;done)⟩
  |exact ⟨rfl,⟨rfl,rfl,by
   intro p hp
   simp only [List.mem_cons,List.not_mem_nil,or_false] at hp
   rcases hp with rfl|rfl|rfl|rfl|rfl<;>first|rfl|exact congrArg I (by omega)|exact congrArg Value.bool (by simp<;>omega)|exact congrArg Value.bool (by simp)|(simp;done)⟩,rfl⟩
theorem p5_10 {v:World} {a:Act} {l0:Value} {ob tb wk i:Nat} {bb:Bool} (hb:((i:Int)==0)=bb) (hA:Fl 41 [(0,l0),(4,Pt ob 0),(5,Pt tb 0),(6,Pt wk 0),(7,I (i:Nat))] a) :
 q5_10.wp Tryd.prog (fun e a' w'=>e=.normal∧(Fl 41 [(26,.bool bb),(0,l0),(4,Pt ob 0),(5,Pt tb 0),(6,Pt wk 0),(7,I (i:Nat))] a'∧w'=v)) a v:=by
 obtain ⟨hsz,hd,hp⟩:=hA
 obtain ⟨u,rfl,hg⟩:=litN hsz hd
 simp only [List.forall_mem_cons,hg] at hp
 obtain ⟨u0,u4,u5,u6,u7,-⟩:=hp
 clear hg hsz hd
 unfold q5_10 C5 Tryd.f5 seq1 seq2 blockC loopC
 simp only [Option.getD_some,lits,Nat.reduceAdd,u0,u4,u5,u6,u7]
 clear u0 u4 u5 u6 u7
 go_wp2_with fail
 first
  |exact ⟨⟨rfl,rfl,by
   intro p hp
   simp only [List.mem_cons,List.not_mem_nil,or_false] at hp
   rcases hp with rfl|rfl|rfl|rfl|rfl|rfl<;>first|rfl|exact congrArg I (by omega)|exact congrArg Value.bool (by simp<;>omega)|exact congrArg Value.bool (by simp)|(simp;done)⟩,rfl⟩
  |exact ⟨rfl,rfl,by
   intro p hp
   simp only [List.mem_cons,List.not_mem_nil,or_false] at hp
   rcases hp with rfl|rfl|rfl|rfl|rfl|rfl<;>first|rfl|exact congrArg I (by omega)|exact congrArg Value.bool (by simp<;>omega)|exact congrArg Value.bool (by simp)|(simp;done)⟩
  |exact ⟨rfl,⟨rfl,rfl,by
   intro p hp
   simp only [List.mem_cons,List.not_mem_nil,or_false] at hp
   rcases hp with rfl|rfl|rfl|rfl|rfl|rfl<;>first|rfl|exact congrArg I (by omega)|exact congrArg Value.bool (by simp<;>omega)|exact congrArg Value.bool (by simp)|(simp;done)⟩,rfl⟩
theorem p5_11 {v:World} {a:Act} {ob tb wk i:Nat} {b o n cap:Nat} {kd y e0 x0:Int} (hn:0<n) (c0:v.cell? ⟨b,o,none⟩=some (I kd)) (c1:v.cell? ⟨b,o+1,none⟩=some (I y)) (hw:v.heap[wk]? = some (.cells #[I e0,I x0] 38 (0,0))) (hA:Fl 41 [(0,.slice (some ⟨b,o,none⟩) n cap),(4,Pt ob 0),(5,Pt tb 0),(6,Pt wk 0),(7,I (i:Nat))] a) :
 q5_11.wp Tryd.prog (fun e a' w'=>e=.normal∧(Fl 41 [(0,.slice (some ⟨b,o,none⟩) n cap),(4,Pt ob 0),(5,Pt tb 0),(6,Pt wk 0),(7,I (i:Nat))] a'∧∃ u,Grows v u∧u.heap[wk]? = some (.cells #[I e0,I x0] 38 (0,0))∧w'=ansW u wk (cmF kd y).1 (cmF kd y).2)) a v:=by
 have HC:=Hid.mk (comes_any v kd y)
 have HW:=Hid.mk hw
 clear hw
 have hn':(0:Int)<(n:Int):=by omega
 obtain ⟨hsz,hd,hp⟩:=hA
 obtain ⟨u,rfl,hg⟩:=litN hsz hd
 simp only [List.forall_mem_cons,hg] at hp
 obtain ⟨u0,u4,u5,u6,u7,-⟩:=hp
 clear hg hsz hd
 unfold q5_11 C5 Tryd.f5 seq1 seq2 condA blockC loopC
 simp only [Option.getD_some,lits,Nat.reduceAdd,u0,u4,u5,u6,u7]
 clear u0 u4 u5 u6 u7
 go_wp2_with fail
 refine HC.out.mono ?_
 rintro e' w1 ⟨rfl,g1⟩
 have r1:w1.heap[wk]? = some (.cells #[I e0,I x0] 38 (0,0)):=grows_at g1.out HW.out
 have p0:w1.cell? ⟨wk,0,none⟩=some (I e0):=cell_of r1 rfl
 have p1:w1.cell? ⟨wk,1,none⟩=some (I x0):=cell_of r1 rfl
 have f0:w1.frozen? ⟨wk,0,none⟩=false:=by simp [World.frozen?,r1]
 have f1:w1.frozen? ⟨wk,1,none⟩=false:=by simp [World.frozen?,r1]
 have HR:Hid (∃ u,Grows v u∧u.heap[wk]? = some (.cells #[I e0,I x0] 38 (0,0))∧ansW w1 wk (cmF kd y).1 (cmF kd y).2=ansW u wk (cmF kd y).1 (cmF kd y).2):=⟨⟨w1,g1.out,r1,rfl⟩⟩
 clear r1 HC HW g1
 generalize hE:(cmF kd y).1=E at HR ⊢
 generalize hZ:(cmF kd y).2=Z at HR ⊢
 have HE:=Hid.mk hE
 have HZ:=Hid.mk hZ
 clear hE hZ
 go_wp2_with fail
 have h1:=HE.out
 have h2:=HZ.out
 subst h1 h2
 exact ⟨⟨rfl,rfl,by
  intro p hp
  simp only [List.mem_cons,List.not_mem_nil,or_false] at hp
  rcases hp with rfl|rfl|rfl|rfl|rfl<;>first|rfl|exact congrArg I (by omega)|exact congrArg Value.bool (by simp<;>omega)|exact congrArg Value.bool (by simp)|(simp;done)⟩,HR.out⟩
theorem p5_13 {v:World} {a:Act} {l0:Value} {ob tb wk i:Nat} {an:Nat} {e0 x0:Int} (c0:v.cell? ⟨an,0,none⟩=some (I e0)) (c1:v.cell? ⟨an,1,none⟩=some (I x0)) (d0:v.cell? ⟨wk,0,none⟩=some (I e0)) (d1:v.cell? ⟨wk,1,none⟩=some (I x0)) (hA:Fl 41 [(0,l0),(4,Pt ob 0),(5,Pt tb 0),(6,Pt wk 0),(7,I (i:Nat)),(8,Pt an 0)] a) :
 q5_13.wp Tryd.prog (fun e a' w'=>e=.normal∧(Fl 41 [(40,.bool false),(0,l0),(4,Pt ob 0),(5,Pt tb 0),(6,Pt wk 0),(7,I (i:Nat))] a'∧w'=v)) a v:=by
 obtain ⟨hsz,hd,hp⟩:=hA
 obtain ⟨u,rfl,hg⟩:=litN hsz hd
 simp only [List.forall_mem_cons,hg] at hp
 obtain ⟨u0,u4,u5,u6,u7,u8,-⟩:=hp
 clear hg hsz hd
 unfold q5_13 C5 Tryd.f5 seq1 seq2 blockC loopC
 simp only [Option.getD_some,lits,Nat.reduceAdd,u0,u4,u5,u6,u7,u8]
 clear u0 u4 u5 u6 u7 u8
 go_wp2_with fail
 first
  |exact ⟨⟨rfl,rfl,by
   intro p hp
   simp only [List.mem_cons,List.not_mem_nil,or_false] at hp
   rcases hp with rfl|rfl|rfl|rfl|rfl|rfl<;>first|rfl|exact congrArg I (by omega)|exact congrArg Value.bool (by simp<;>omega)|exact congrArg Value.bool (by simp)|(simp;done)⟩,rfl⟩
  |exact ⟨rfl,rfl,by
   intro p hp
   simp only [List.mem_cons,List.not_mem_nil,or_false] at hp
   rcases hp with rfl|rfl|rfl|rfl|rfl|rfl<;>first|rfl|exact congrArg I (by omega)|exact congrArg Value.bool (by simp<;>omega)|exact congrArg Value.bool (by simp)|(simp;done)⟩
  |exact ⟨rfl,⟨rfl,rfl,by
   intro p hp
   simp only [List.mem_cons,List.not_mem_nil,or_false] at hp
   rcases hp with rfl|rfl|rfl|rfl|rfl|rfl<;>first|rfl|exact congrArg I (by omega)|exact congrArg Value.bool (by simp<;>omega)|exact congrArg Value.bool (by simp)|(simp;done)⟩,rfl⟩
theorem T5_wp {v:World} {a:Act} (hsz:a.tmps.size=41) (hd:a.defers=[]):T5.wp Tryd.prog (fun e a' w'=>e=.ret∧a'.tmps.getD 2 undef=.bool true∧w'.heap=v.heap∧w'.os=v.os∧w'.output=v.output) a v:=by
 obtain ⟨u,rfl,hg⟩:=litN hsz hd
 clear hg hsz hd
 unfold T5 q5_15 C5 Tryd.f5 seq1 seq2
 simp only [Option.getD_some,lits,Nat.reduceAdd]
 go_wp2_with fail
 try exact ⟨rfl,rfl,rfl,rfl⟩
section
variable {m:Nat} {X:Fix (mcO m)} {z:Nat→Option Nat} {cont:Addr→Value} {Ch:Nat→Prop} {Stop:Goroutine→World→Prop} {cu:Value→Goroutine} {S0:TS} {K0:List (Nat×Int)} {v0:World} {Mo0 M:Nat→Option Obj} {σ:TS} {κ:List (Nat×Int)} {S:TS} {v w:World} {t:Thr} {H:Nx→(Nat→Option Obj)→Goroutine→Prop}
variable {o ob kp cw cv:Nat} {k b:Int} {d:Nat} {f:Frs} {rb b3 b4 b5:Nat} {a:Act}
theorem look_goes (hD:ODat X o ob kp cw cv) (hk:0≤k∧k≤3) (hf:f.Ok) (hC:OCtx (X.h==0) X.tb kp ob k b d M f.ret cu) (hB:Box3 ob X.tb k b b3 b4 b5 M) (hr:M rb=none) (hA:GF kp X.tb b3 b4 b5 rb a) (hH:∀ x Mo' g,Good v0 Mo0 x Mo'→oSit X x Mo' cu g→H x Mo' g)
 (hob:Ob X H z cont Ch Stop cu S0 K0 v0 Mo0 σ κ (.turn 1 (2*o) (1,lO o k b d X.i))) (N:NowP X z cont Ch S0 K0 v0 Mo0 (uni (oneM rb zeroA) M) σ κ S v w t) :
 GoesI Tryd.prog (X.h==0) (DT (ScZ z) Ch) Stop (G (gFr a) f.stack) w:=by
 have htb:=N.now.at_.tb
 have hgc:=N.now.at_.gc
 rw [←htb] at hA
 refine get_look (h:=X.h) (i:=X.i) (j:=2*o) (cb:=cw) (kp:=kp) (rb:=rb) (cont:=cont) (cellAt κ (2*o)).2 (hD.mem v N.now.at_.pk).2.2.1 hA _ (H (.turn 1 (2*o) (1,lO o k b d X.i)) (uni (oneM rb zeroA) M)) (fun g hg=>?_) N.now.at_.rel N.now.at_.noRow N.now.at_.mem N.now.at_.thr (N.now.cell hD.kw).1 (by rw [htb];exact N.now.at_.z) (by rw [htb,hgc];exact N.now.at_.cont) (ob_turn hob N.now)
 obtain ⟨a2,hA2,hg⟩:=hg
 rw [htb] at hA2 hg
 exact hH _ _ g (N.now.good (fun _ _ h=>by cases h)) ⟨N.now.row,o,ob,kp,cw,cv,k,b,d,f,rb,b3,b4,b5,a2,M,hD,hk,hf,hC,hB,hr,hA2,.inl ⟨rfl,.inl ⟨rfl,hg⟩⟩⟩
theorem done_goes {e y:Int} (he:0≤e∧e<1048576) (he4:e≠4) (hD:ODat X o ob kp cw cv) (hk:0≤k∧k≤3) (hf:f.Ok) (hC:OCtx (X.h==0) X.tb kp ob k b d M f.ret cu) (hB:Box3 ob X.tb k b b3 b4 b5 M) (hr:M rb=none) (hA:Fl 62 [(0,Pt kp 0),(1,Pt X.tb 0),(2,.func (.func 65) #[] #[Pt b3 0,Pt b4 0,Pt b5 0]),(6,Pt rb 0),(57,Pt kp 0),(58,Pt X.tb 0)] a) (hH:∀ x Mo' g,Good v0 Mo0 x Mo'→oSit X x Mo' cu g→H x Mo' g)
 (hob:Ob X H z cont Ch Stop cu S0 K0 v0 Mo0 σ κ (.turn 2 (2*o+1) (5,lO o k b d X.i++[e,y]))) (N:NowP X z cont Ch S0 K0 v0 Mo0 (uni (oneM rb zeroA) M) σ κ S v w t) :
 GoesI Tryd.prog (X.h==0) (DT (ScZ z) Ch) Stop (G (gDone a (.agg #[I e,I y])) f.stack) w:=by
 refine get_came hA f.stack (fun a2 o2 hA2 ho hd code hc=>?_)
 refine keep_in he4 _ N.now.at_.rel N.now.at_.noRow (fun a3 v' w' hA3 r n g hbx hrb=>?_) code hc
 have hbx':∀ b,uni (oneM rb zeroA) M b≠none→b<v.heap.size:=fun b hb=>N.lt hb
 have hM:∀ b,M b≠none→b<v.heap.size:=fun b hb=>hbx' b (uni_ne.2 (.inr hb))
 have hrl:rb<v.heap.size:=hbx' rb (uni_ne.2 (.inl (by rw [oneM_at];simp)))
 have hMn:∀ b,v.heap.size≤b→M b=none:=fun b hb=>by
  cases hx:M b with
  |none=>rfl
  |some o=>have:=hM b (by rw [hx];simp);omega
 have N1:NowP X z cont Ch S0 K0 v0 Mo0 (kMo v.heap.size (v.heap.size+1) rb e y M) σ κ S v' w' t:=N.to g r n (fun b o hb=>by
  unfold kMo at hb
  by_cases h1:b=v.heap.size
  ·subst h1
   rw [uni_left (oneM_at _ _)] at hb
   cases hb
   exact .inr ⟨Nat.le_refl _,hbx,_,_,_,rfl⟩
  by_cases h2:b=v.heap.size+1
  ·subst h2
   rw [uni_right (oneM_none (by omega)) (uni_left (oneM_at _ _))] at hb
   cases hb
   exact .inr ⟨by omega,hrb,_,_,_,rfl⟩
  ·left
   unfold uni at hb
   rw [oneM_none h1,oneM_none h2] at hb
   exact hb)
 have htb:=N1.now.at_.tb
 have hgc:=N1.now.at_.gc
 rw [←htb] at hA3
 refine keep_store (h:=X.h) (x:=y) (i:=X.i) (j:=2*o+1) (cb:=cv) (kp:=kp) (cont:=cont) (cellAt κ (2*o+1)).2 (hD.mem v' N1.now.at_.pk).2.2.2 (by simp [World.cell?,hbx]) hA3 _ (H (.turn 2 (2*o+1) (5,lO o k b d X.i++[e,y])) (kMo v.heap.size (v.heap.size+1) rb e y M)) (fun g hg=>?_) N1.now.at_.rel N1.now.at_.noRow N1.now.at_.mem N1.now.at_.thr (N1.now.cell hD.kv).1 (by rw [htb];exact N1.now.at_.z) (by rw [htb,hgc];exact N1.now.at_.cont) (ob_turn hob N1.now)
 obtain ⟨a4,hA4,hg⟩:=hg
 rw [htb] at hA4 hg
 exact hH _ _ g (N1.now.good (fun _ _ h=>by cases h)) ⟨N1.now.row,o,ob,kp,cw,cv,k,b,d,f,rb,b3,b4,b5,a2,M,hD,hk,hf,hC,hB,hr,hA2,.inr ⟨e,y,v.heap.size,v.heap.size+1,a4,rfl,hA4,he,⟨by omega,by omega,hMn _ (Nat.le_refl _),by omega,hMn _ (by omega)⟩,.inl ⟨rfl,hg⟩⟩⟩
theorem ctx_ans {c:Value→Goroutine} (hD:ODat X o ob kp cw cv) (hk:0≤k∧k≤3) (hC:OCtx (X.h==0) X.tb kp ob k b d M c cu) (hH:∀ x Mo' g,Good v0 Mo0 x Mo'→oSit X x Mo' cu g→H x Mo' g) (an:Int×Int)
 (hob:Ob X H z cont Ch Stop cu S0 K0 v0 Mo0 σ κ (nxO o k b d X.i an)) (N:NowP X z cont Ch S0 K0 v0 Mo0 M σ κ S v w t) :
 GoesI Tryd.prog (X.h==0) (DT (ScZ z) Ch) Stop (c (.agg #[I an.1,I an.2])) w:=by
 cases hC with
 |base hK =>
  exact hK z Ch Stop w v S κ an N.now.at_.rel N.now.at_.noRow N.now.at_.mem N.now.mo N.now.far (fun v' w' r' n' e'=>hob.ans an rfl v' w' S r' n' N.now.nv (N.now.evo.join e' (fun b hb=>N.now.new b hb)))
 |@nest d M0 M1 _ _ f a rb b3 b4 b5 hf h0 hA hB hK ha1 ha2 =>
  obtain ⟨k1,k2⟩:=has_uni N.now.mo ha1
  refine hK z Ch Stop w v S κ an N.now.at_.rel N.now.at_.noRow N.now.at_.mem k1 (fun b hb=>N.now.far b (uni_ne.2 (.inl hb))) (fun v' w' r' n' e'=>?_)
  exact done_goes (e:=70) (y:=an.1) (by decide) (by decide) hD hk hf h0 hB ha2 hA hH hob (N.wrote ha1 e' r' n')
theorem NowP.laid {an:Int×Int} (N:NowP X z cont Ch S0 K0 v0 Mo0 (uni (oneM rb zeroA) M) σ κ S v w t) (hr:M rb=none) {w':World} (r:Rel z (ansW v rb an.1 an.2) w') (n:NoRow Ch (ansW v rb an.1 an.2)):NowP X z cont Ch S0 K0 v0 Mo0 M σ κ S (ansW v rb an.1 an.2) w' t :=
 N.wrote (one_apart hr) ((ans_evo N.now.at_.mem (N.now.far rb (uni_ne.2 (.inl (by rw [oneM_at];simp)))) an.1 an.2).wider (fun b _ hb=>by rw [show b=rb from hb,oneM_at];simp)) r n
theorem NowP.zero (N:NowP X z cont Ch S0 K0 v0 Mo0 (uni (oneM rb zeroA) M) σ κ S v w t):v.heap[rb]? = some zeroA:=N.now.mo rb _ (uni_left (oneM_at _ _))
theorem seen_goes (x:Int) (hD:ODat X o ob kp cw cv) (hk:0≤k∧k≤3) (hf:f.Ok) (hC:OCtx (X.h==0) X.tb kp ob k b d M f.ret cu) (hB:Box3 ob X.tb k b b3 b4 b5 M) (hr:M rb=none) (hA:GF kp X.tb b3 b4 b5 rb a) (hH:∀ x Mo' g,Good v0 Mo0 x Mo'→oSit X x Mo' cu g→H x Mo' g)
 (hob:Ob X H z cont Ch Stop cu S0 K0 v0 Mo0 σ κ ((mcO m).set S.stk (lookO o k b d X.i x))) (N:NowP X z cont Ch S0 K0 v0 Mo0 (uni (oneM rb zeroA) M) σ κ S v w t) :
 GoesI Tryd.prog (X.h==0) (DT (ScZ z) Ch) Stop (G (gSeen a (I x)) f.stack) w:=by
 refine get_st (hD.mem v N.now.at_.pk).1 hA _ N.now.at_.rel N.now.at_.noRow (fun a1 v1 w1 hA1 r1 n1 g1=>?_)
 have N1:=N.grows g1 r1 n1
 have htb:=N1.now.at_.tb
 have hgc:=N1.now.at_.gc
 have hz:z t.tb=some 2:=by rw [htb];exact N1.now.at_.z
 have hcont:cont ⟨t.tb,2,none⟩=.chan (some t.gc):=by rw [htb,hgc];exact N1.now.at_.cont
 obtain ⟨m1,m2,m3,m4⟩:=hD.mem v1 N1.now.at_.pk
 have hid:v1.cell? ⟨X.tb,1,none⟩=some (I X.i):=by rw [←htb];exact (N1.now.at_.mem.rep.cell N1.now.at_.thr).2.1
 unfold lookO at hob
 by_cases h2:R1.stI x=2
 ·rw [if_pos h2] at hob
  rw [←htb] at hA1
  refine get_done (h:=X.h) (i:=X.i) (j:=2*o+1) (cb:=cv) (kp:=kp) (rb:=rb) (cont:=cont) (cellAt κ (2*o+1)).2 h2 m1 m4 hA1 _ (H (.turn 1 (2*o+1) (2,lO o k b d X.i++[R1.codI x])) (uni (oneM rb zeroA) M)) (fun g hg=>?_) r1 n1 N1.now.at_.mem N1.now.at_.thr (N1.now.cell hD.kv).1 hz hcont (ob_turn hob N1.now)
  obtain ⟨a2,hA2,hg⟩:=hg
  rw [htb] at hA2 hg
  exact hH _ _ g (N1.now.good (fun _ _ h=>by cases h)) ⟨N1.now.row,o,ob,kp,cw,cv,k,b,d,f,rb,b3,b4,b5,a2,M,hD,hk,hf,hC,hB,hr,hA2.sub (by simp),.inl ⟨rfl,.inr (.inl ⟨R1.codI x,rfl,hA2.sub (by simp),hg⟩)⟩⟩
 rw [if_neg h2] at hob
 by_cases h0:R1.stI x=0
 ·rw [if_pos h0] at hob
  rw [←htb] at hA1
  refine get_new (h:=X.h) (i:=X.i) (j:=2*o) (cb:=cw) (kp:=kp) (rb:=rb) (cont:=cont) (cellAt κ (2*o)).2 h0 m1 m3 hA1 _ (H (.turn 4 (2*o) (3,lO o k b d X.i++[x])) (uni (oneM rb zeroA) M)) (fun g hg=>?_) r1 n1 N1.now.at_.mem N1.now.at_.thr (N1.now.cell hD.kw).1 hz hcont (ob_turn hob N1.now)
  obtain ⟨a2,hA2,hg⟩:=hg
  rw [htb] at hA2 hg
  exact hH _ _ g (N1.now.good (fun _ _ h=>by cases h)) ⟨N1.now.row,o,ob,kp,cw,cv,k,b,d,f,rb,b3,b4,b5,a2,M,hD,hk,hf,hC,hB,hr,hA2,.inl ⟨rfl,.inr (.inr (.inl ⟨x,rfl,hg⟩))⟩⟩
 rw [if_neg h0] at hob
 by_cases hw:R1.whoI x=(X.i:Int)
 ·rw [if_pos hw,set_nx] at hob
  refine get_again (bc:=f.bd) (ac:=f.ad) (ops:=f.od) (q:=f.qd) (rest:=f.rd) (oc:=f.oe) (k0:=f.kd) h2 h0 hw m1 hid hA1 f.fs hf N1.zero r1 n1 (fun v2 w2 r2 n2 g2 w' r' n'=>?_)
  exact ctx_ans hD hk hC hH (72,0) hob ((N1.grows g2 r2 n2).laid (an:=(72,0)) hr r' n')
 rw [if_neg hw] at hob
 refine get_wait (j:=2*o) (cb:=cw) h2 h0 hw m1 hid m3 (N1.now.at_.mem.cells (N1.now.cell hD.kw).1).1 hA1 _ r1 n1 (fun v2 w2 a2 bd ad od qd rd oe kd hA2 r2 n2 g2 hoe hfr code hcode=>?_)
 have N2:=N1.grows g2 r2 n2
 cases hs:S.stk with
 |true =>
  rw [hs] at hob
  have hob:Ob X H z cont Ch Stop cu S0 K0 v0 Mo0 σ κ ((mcO m).stuck (4,lO o k b d X.i)):=hob
  rw [stuck4] at hob
  have:=await_no (i:=X.i) (main:=X.h==0) (Ch:=Ch) (Stop:=Stop) ((2*o:Nat):Int) f.stack hoe N2.now.at_.rel N2.now.at_.noRow N2.now.at_.mem hs N2.now.at_.thr (fun v3 w3 r3 n3 e3=>by
   rw [hfr]
   have N3:NowP X z cont Ch S0 K0 v0 Mo0 (uni (oneM rb zeroA) M) σ κ S v3 w3 t:=⟨N2.now.on e3 r3 n3 N2.now.nv N2.now.at_.thr N2.now.at_.tb N2.now.at_.gc rfl N2.now.at_.kb.2,N2.hp⟩
   exact get_stuck (bc:=f.bd) (ac:=f.ad) (ops:=f.od) (q:=f.qd) (rest:=f.rd) (oc:=f.oe) (k0:=f.kd) hA2 f.fs hf N3.zero r3 n3 (fun w' r' n'=>ctx_ans hD hk hC hH (4,0) hob (N3.laid (an:=(4,0)) hr r' n'))) code hcode
  rw [N2.now.at_.tb] at this
  exact this
 |false =>
  rw [hs,(mcO m).set_false] at hob
  have ee:(fun r=>G (bd.at (ad.put oe.dst r) (.inRegion od rd :: kd)) f.stack)=(fun r=>G (gWoke a2 r) f.stack):=funext fun r=>by rw [hfr]
  have:=await_goes (h:=X.h) (cont:=cont) (i:=X.i) (Stop:=Stop) ((2*o:Nat):Int) f.stack (H (.wait (2*o) (4,lO o k b d X.i)) (uni (oneM rb zeroA) M)) hoe (fun g hg=>hH _ _ g (N2.now.good (fun _ _ h=>by cases h)) ⟨N2.now.row,o,ob,kp,cw,cv,k,b,d,f,rb,b3,b4,b5,a2,M,hD,hk,hf,hC,hB,hr,hA2,.inl ⟨rfl,.inr (.inr (.inr ⟨rfl,by rw [←ee,←N2.now.at_.tb];exact hg⟩))⟩⟩) N2.now.at_.rel N2.now.at_.noRow N2.now.at_.mem hs N2.now.at_.thr hz hcont (ob_wait hob N2.now) code hcode
  rw [N2.now.at_.tb] at this
  exact this
def doM (n ob tb:Nat) (k b:Int):Nat→Option Obj:=uni (oneM n (.cells #[Pt ob 0] 46 (0,0))) (uni (oneM (n+1) (.cells #[Pt tb 0] 48 (0,0))) (uni (oneM (n+2) (.cells #[I k,I b] 52 (0,0))) (oneM (n+3) zeroA)))
theorem doM_at (n ob tb:Nat) (k b:Int):Box3 ob tb k b n (n+1) (n+2) (doM n ob tb k b)∧doM n ob tb k b (n+3)=some zeroA:=by
 refine ⟨⟨uni_left (oneM_at _ _),uni_right (oneM_none (by omega)) (uni_left (oneM_at _ _)),uni_right (oneM_none (by omega)) (uni_right (oneM_none (by omega)) (uni_left (oneM_at _ _)))⟩,uni_right (oneM_none (by omega)) (uni_right (oneM_none (by omega)) (uni_right (oneM_none (by omega)) (oneM_at _ _)))⟩
theorem doM_ne {n ob tb:Nat} {k b:Int} {c:Nat} (h:doM n ob tb k b c≠none):c=n∨c=n+1∨c=n+2∨c=n+3:=by
 unfold doM at h
 rcases uni_ne.1 h with h|h
 ·exact .inl (oneM_ne h)
 rcases uni_ne.1 h with h|h
 ·exact .inr (.inl (oneM_ne h))
 rcases uni_ne.1 h with h|h
 ·exact .inr (.inr (.inl (oneM_ne h)))
 ·exact .inr (.inr (.inr (oneM_ne h)))
theorem doM_some {n ob tb:Nat} {k b:Int} {c:Nat} {o:Obj} (h:doM n ob tb k b c=some o):n≤c∧c≤n+3∧((c=n∧o=.cells #[Pt ob 0] 46 (0,0))∨(c=n+1∧o=.cells #[Pt tb 0] 48 (0,0))∨(c=n+2∧o=.cells #[I k,I b] 52 (0,0))∨(c=n+3∧o=zeroA)):=by
 obtain ⟨⟨h3,h4,h5⟩,h6⟩:=doM_at n ob tb k b
 rcases doM_ne (by rw [h];simp) with rfl|rfl|rfl|rfl
 ·rw [h3] at h;cases h;exact ⟨by omega,by omega,.inl ⟨rfl,rfl⟩⟩
 ·rw [h4] at h;cases h;exact ⟨by omega,by omega,.inr (.inl ⟨rfl,rfl⟩)⟩
 ·rw [h5] at h;cases h;exact ⟨by omega,by omega,.inr (.inr (.inl ⟨rfl,rfl⟩))⟩
 ·rw [h6] at h;cases h;exact ⟨by omega,by omega,.inr (.inr (.inr ⟨rfl,rfl⟩))⟩
theorem enter_do {f0:Frs} (hf0:f0.Ok) (hD:ODat X o ob kp cw cv) (hk:0≤k∧k≤3) (hH:∀ x Mo' g,Good v0 Mo0 x Mo'→oSit X x Mo' cu g→H x Mo' g)
 (hctx:∀ f:Frs,KBack (X.h==0) (doM v.heap.size ob X.tb k b) (fun a=>a) f.ret f0.ret→OCtx (X.h==0) X.tb kp ob k b d (uni (doM v.heap.size ob X.tb k b) M) f.ret cu)
 (hob:Ob X H z cont Ch Stop cu S0 K0 v0 Mo0 σ κ (.turn 1 (2*o) (1,lO o k b d X.i))) (N:NowP X z cont Ch S0 K0 v0 Mo0 M σ κ S v w t) (code:Code) (hc:Tryd.f28.body=some code) :
 GoesI Tryd.prog (X.h==0) (DT (ScZ z) Ch) Stop (G ((base 28).at { tmps:=#[Pt ob 0,Pt X.tb 0,.agg #[I k,I b]]++Array.replicate 11 undef,defers:=[] } [.code code]) f0.stack) w:=by
 refine do_in (hD.mem v N.now.at_.pk).2.1 _ N.now.at_.rel N.now.at_.noRow (fun a1 v1 w1 o1 hA1 r1 n1 g1 e3 e4 e5 e6 ho1 hd1 code1 hc1=>?_) code hc
 have hdm:=doM_at v.heap.size ob X.tb k b
 let f1:Frs:=⟨base 28,a1,dO1,6,[7],o1,[.code .ret],f0.stack⟩
 have hret:f1.ret=fun r=>G (dFr a1 r) f0.stack:=funext fun r=>by
  show G ((base 28).at (a1.put o1.dst r) _) _=_
  rw [hd1]
  rfl
 have hkb:KBack (X.h==0) (doM v.heap.size ob X.tb k b) (fun a=>a) f1.ret f0.ret:=by
  rw [hret]
  refine (kb_of (rb:=v.heap.size+3) (fun z Ch Stop v w e x hz hvw hn hk=>?_)).more (fun c o' hb=>by
   obtain ⟨rfl,rfl⟩:=oneM_eq hb
   exact hdm.2)
  exact do_back (bc:=f0.bd) (ac:=f0.ad) (ops:=f0.od) (q:=f0.qd) (rest:=f0.rd) (oc:=f0.oe) (k0:=f0.kd) hA1 f0.fs hf0 hz hvw hn hk
 have hC:=hctx f1 hkb
 have hl1:v.heap.size+3<v1.heap.size:=(Array.getElem?_eq_some_iff.1 e6).1
 have hMn:∀ c,v.heap.size≤c→M c=none:=fun c hb=>by
  cases hx:M c with
  |none=>rfl
  |some o=>have:=N.lt (b:=c) (by rw [hx];simp);omega
 have N1:NowP X z cont Ch S0 K0 v0 Mo0 (uni (doM v.heap.size ob X.tb k b) M) σ κ S v1 w1 t:=N.to g1 r1 n1 (fun c o' hb=>by
  cases hx:doM v.heap.size ob X.tb k b c with
  |none =>
   unfold uni at hb
   rw [hx] at hb
   exact .inl hb
  |some o2 =>
   rw [uni_left hx] at hb
   cases hb
   obtain ⟨q1,q2,q3⟩:=doM_some hx
   rcases q3 with ⟨rfl,rfl⟩|⟨rfl,rfl⟩|⟨rfl,rfl⟩|⟨rfl,rfl⟩
   ·exact .inr ⟨q1,e3,_,_,_,rfl⟩
   ·exact .inr ⟨q1,e4,_,_,_,rfl⟩
   ·exact .inr ⟨q1,e5,_,_,_,rfl⟩
   ·exact .inr ⟨q1,e6,_,_,_,rfl⟩)
 refine get_in _ r1 n1 (fun a2 v2 w2 hA2 r2 n2 g2 hz2=>?_) code1 hc1
 have N2:NowP X z cont Ch S0 K0 v0 Mo0 (uni (oneM v1.heap.size zeroA) (uni (doM v.heap.size ob X.tb k b) M)) σ κ S v2 w2 t:=N1.to g2 r2 n2 (fun c o' hb=>by
  by_cases hcc:c=v1.heap.size
  ·subst hcc
   rw [uni_left (oneM_at _ _)] at hb
   cases hb
   exact .inr ⟨Nat.le_refl _,hz2,_,_,_,rfl⟩
  ·left
   unfold uni at hb
   rw [oneM_none hcc] at hb
   exact hb)
 have hnone:uni (doM v.heap.size ob X.tb k b) M v1.heap.size=none:=by
  cases hx:uni (doM v.heap.size ob X.tb k b) M v1.heap.size with
  |none=>rfl
  |some o=>have:=N1.lt (b:=v1.heap.size) (by rw [hx];simp);omega
 exact look_goes (f:=f1) hD hk ho1 hC ⟨uni_left hdm.1.1,uni_left hdm.1.2.1,uni_left hdm.1.2.2⟩ hnone hA2 hH hob N2
theorem won_goes (hD:ODat X o ob kp cw cv) (hk:0≤k∧k≤3) (hf:f.Ok) (hC:OCtx (X.h==0) X.tb kp ob k b d M f.ret cu) (hB:Box3 ob X.tb k b b3 b4 b5 M) (hr:M rb=none) (hA:GF kp X.tb b3 b4 b5 rb a) (hH:∀ x Mo' g,Good v0 Mo0 x Mo'→oSit X x Mo' cu g→H x Mo' g)
 (hob:Ob X H z cont Ch Stop cu S0 K0 v0 Mo0 σ κ (comeO o k b d X.i)) (N:NowP X z cont Ch S0 K0 v0 Mo0 (uni (oneM rb zeroA) M) σ κ S v w t) :
 GoesI Tryd.prog (X.h==0) (DT (ScZ z) Ch) Stop (G (gTry a (.bool true)) f.stack) w:=by
 have hin:∀ c o',M c=some o'→uni (oneM rb zeroA) M c=some o':=fun c o' hb=>by
  by_cases e:c=rb
  ·subst e;rw [hr] at hb;cases hb
  ·exact uni_right (oneM_none e) hb
 refine get_won hA f.stack (fun a2 o2 hA2 ho2 hd2 code hc=>?_)
 refine clo_in (N.now.mo _ _ (hin _ _ hB.1)) (N.now.mo _ _ (hin _ _ hB.2.1)) (N.now.mo _ _ (hin _ _ hB.2.2)) _ N.now.at_.rel N.now.at_.noRow (fun a3 v1 w1 o3 hA3 r1 n1 g1 hz1 ho3 hd3 code3 hc3=>?_) code hc
 have hl1:v.heap.size<v1.heap.size:=(Array.getElem?_eq_some_iff.1 hz1).1
 have hkc:KBack (X.h==0) (oneM v.heap.size zeroA) (fun a=>a) (fun r=>G ((base 65).at (a3.put o3.dst r) (.inRegion cO1 [4] :: [.code .ret])) ((base 64).at a2 (.inRegion gO11 [3,4,5] :: [.code .ret,.inBlock 2,.inBlock 1,.inLoop gL,.inBlock 0]) :: f.stack)) (fun r=>G (gDone a2 r) f.stack):=by
  refine kb_of (fun z Ch Stop v w e x hz hvw hn hk=>?_)
  rw [hd3]
  refine clo_back (bc:=base 64) (ac:=a2) (ops:=gO11) (q:=3) (rest:=[4,5]) (oc:=o2) (k0:=[.code .ret,.inBlock 2,.inBlock 1,.inLoop gL,.inBlock 0]) hA3 f.stack ho2 hz hvw hn (fun w' r' n'=>?_)
  rw [hd2]
  exact hk w' r' n'
 have N1:NowP X z cont Ch S0 K0 v0 Mo0 (uni (oneM v.heap.size zeroA) (uni (oneM rb zeroA) M)) σ κ S v1 w1 t:=N.to g1 r1 n1 (fun c o' hb=>by
  by_cases hcc:c=v.heap.size
  ·subst hcc
   rw [uni_left (oneM_at _ _)] at hb
   cases hb
   exact .inr ⟨Nat.le_refl _,hz1,_,_,_,rfl⟩
  ·left
   unfold uni at hb
   rw [oneM_none hcc] at hb
   exact hb)
 have hap:apartM (oneM v.heap.size zeroA) (uni (oneM rb zeroA) M):=apart_lt (n:=v.heap.size) (fun c hb=>by rw [oneM_ne hb];exact Nat.le_refl _) (fun c hb=>N.lt hb)
 have fin:∀ (e y:Int),(0≤e∧e<1048576)→e≠4→comeO o k b d X.i=.turn 2 (2*o+1) (5,lO o k b d X.i++[e,y])→∀ v2 w2,Rel z v2 w2→NoRow Ch v2→Grows v1 v2→GoesI Tryd.prog (X.h==0) (DT (ScZ z) Ch) Stop (G ((base 65).at (a3.put o3.dst (.agg #[I e,I y])) (.inRegion cO1 [4] :: [.code .ret])) ((base 64).at a2 (.inRegion gO11 [3,4,5] :: [.code .ret,.inBlock 2,.inBlock 1,.inLoop gL,.inBlock 0]) :: f.stack)) w2:=fun e y he he4 hce v2 w2 r2 n2 g2=>by
  rw [hce] at hob
  have N2:=N1.grows g2 r2 n2
  obtain ⟨k1,k2⟩:=has_uni N2.now.mo hap
  refine hkc z Ch Stop w2 v2 S κ (e,y) r2 n2 N2.now.at_.mem k1 (fun c hb=>N2.now.far c (uni_ne.2 (.inl hb))) (fun v3 w3 r3 n3 e3=>?_)
  exact done_goes he he4 hD hk hf hC hB hr hA2 hH hob (N2.wrote hap e3 r3 n3)
 by_cases k0:k=0
 ·exact come0 (bc:=base 65) (ac:=a3) (ops:=cO1) (q:=3) (rest:=[4]) (oc:=o3) (k0:=[.code .ret]) k0 _ ho3 r1 n1 (fin 0 b (by decide) (by decide) (by unfold comeO;rw [if_neg (by omega)];unfold cmO;rw [if_pos k0])) code3 hc3
 by_cases k1:k=1
 ·exact come1 (bc:=base 65) (ac:=a3) (ops:=cO1) (q:=3) (rest:=[4]) (oc:=o3) (k0:=[.code .ret]) k1 _ ho3 r1 n1 (fin 70 b (by decide) (by decide) (by unfold comeO;rw [if_neg (by omega)];unfold cmO;rw [if_neg k0,if_pos k1])) code3 hc3
 by_cases k2:k=2
 ·exact come2 (bc:=base 65) (ac:=a3) (ops:=cO1) (q:=3) (rest:=[4]) (oc:=o3) (k0:=[.code .ret]) k2 _ ho3 r1 n1 (fin 71 b (by decide) (by decide) (by unfold comeO;rw [if_neg (by omega)];unfold cmO;rw [if_neg k0,if_neg k1])) code3 hc3
 have k3:k=3:=by omega
 have hce:comeO o k b d X.i=.turn 1 (2*o) (1,lO o k b (d+1) X.i):=by unfold comeO;rw [if_pos k3]
 rw [hce] at hob
 refine come3 (bc:=base 65) (ac:=a3) (ops:=cO1) (q:=3) (rest:=[4]) (oc:=o3) (k0:=[.code .ret]) k3 _ ho3 r1 n1 (fun v2 w2 bd ad od qd rd oe kd r2 n2 g2 hz2 hoe hK code4 hc4=>?_) code3 hc3
 have hl2:v1.heap.size+1<v2.heap.size:=(Array.getElem?_eq_some_iff.1 hz2).1
 let M0:=uni (oneM rb zeroA) M
 have N2:NowP X z cont Ch S0 K0 v0 Mo0 (uni (oneM (v1.heap.size+1) zeroA) (uni (oneM v.heap.size zeroA) (uni (oneM rb zeroA) M))) σ κ S v2 w2 t:=N1.to g2 r2 n2 (fun c o' hb=>by
  by_cases hcc:c=v1.heap.size+1
  ·subst hcc
   rw [uni_left (oneM_at _ _)] at hb
   cases hb
   exact .inr ⟨by omega,hz2,_,_,_,rfl⟩
  ·left
   unfold uni at hb
   rw [oneM_none hcc] at hb
   exact hb)
 rw [←k3]
 refine enter_do (f0:=⟨bd,ad,od,qd,rd,oe,kd,_⟩) hoe hD hk hH (d:=d+1) (fun f5 hkb=>?_) hob N2 code4 hc4
 have hap2:apartM (oneM (v1.heap.size+1) zeroA) (oneM v.heap.size zeroA):=fun c hb=>by rw [oneM_ne hb];exact oneM_none (by omega)
 have hj:=(hkb.trans (hK.trans hkc hap2) (apart_lt (n:=v2.heap.size) (fun c hb=>by have:=doM_ne hb;omega) (fun c hb=>by
  rcases uni_ne.1 hb with h|h
  ·rw [oneM_ne h];omega
  ·rw [oneM_ne h];omega)))
 have hj:KBack (X.h==0) (uni (doM v2.heap.size ob X.tb k b) (uni (oneM (v1.heap.size+1) zeroA) (oneM v.heap.size zeroA))) (fun a=>(70,a.1)) f5.ret (fun r=>G (gDone a2 r) f.stack):=hj
 have:=OCtx.nest hf hC hA2 hB hj (apart_lt (n:=v.heap.size) (fun c hb=>by
  rcases uni_ne.1 hb with h|h
  ·have:=doM_ne h;omega
  rcases uni_ne.1 h with h|h
  ·rw [oneM_ne h];omega
  ·rw [oneM_ne h];exact Nat.le_refl _) (fun c hb=>N.lt hb)) hr
 rw [←uni_assoc,←uni_assoc] at this
 exact this
end
end Go.Proofs.YtfjjoohflcchnaaDoor.Gen
