/- Of the proof of CounterTimes. Part 22 of 31. (Joined, by program, and written short, of: La14P.) -/
import Derived.Test.YtfjjoohflcchnaaDoorCounterTimes21
set_option linter.unusedSimpArgs false
set_option linter.unusedVariables false
set_option maxHeartbeats 4000000
set_option maxRecDepth 100000
namespace Go.Proofs.YtfjjoohflcchnaaDoor.Gen
open Go Go.Lift Go.Conc Go.RowKit
noncomputable def C14:Code:=Tryd.f14.body.getD .skip
noncomputable def q14_0:Code:=(seq1 C14)
noncomputable def q14_1:Code:=(seq1 (seq2 C14))
noncomputable def q14_2:Code:=(seq1 (seq2 (seq2 C14)))
noncomputable def q14_3:Code:=(seq1 (seq2 (seq2 (seq2 C14))))
noncomputable def q14_4:Code:=(seq1 (seq1 (seq2 (seq2 (seq2 (seq2 C14))))))
noncomputable def q14_5:Code:=(seq1 (condA (seq2 (seq1 (seq2 (seq2 (seq2 (seq2 C14))))))))
noncomputable def q14_6:Code:=(seq1 (seq2 (seq2 (seq2 (seq2 (seq2 C14))))))
noncomputable def q14_7:Code:=(seq1 (seq1 (seq2 (seq2 (seq2 (seq2 (seq2 (seq2 C14))))))))
noncomputable def q14_8:Code:=(seq1 (condA (seq2 (seq1 (seq2 (seq2 (seq2 (seq2 (seq2 (seq2 C14))))))))))
noncomputable def q14_9:Code:=(seq1 (seq2 (seq2 (seq2 (seq2 (seq2 (seq2 (seq2 C14))))))))
noncomputable def q14_10:Code:=(seq1 (seq2 (seq2 (seq2 (seq2 (seq2 (seq2 (seq2 (seq2 C14)))))))))
noncomputable def q14_11:Code:=(seq1 (seq2 (seq2 (seq2 (seq2 (seq2 (seq2 (seq2 (seq2 (seq2 C14))))))))))
noncomputable def q14_12:Code:=(seq1 (seq2 (seq2 (seq2 (seq2 (seq2 (seq2 (seq2 (seq2 (seq2 (seq2 C14)))))))))))
noncomputable def q14_13:Code:=(seq1 (seq2 (seq2 (seq2 (seq2 (seq2 (seq2 (seq2 (seq2 (seq2 (seq2 (seq2 C14))))))))))))
noncomputable def q14_14:Code:=(seq1 (seq2 (seq2 (seq2 (seq2 (seq2 (seq2 (seq2 (seq2 (seq2 (seq2 (seq2 (seq2 C14)))))))))))))
noncomputable def q14_15:Code:=(seq1 (seq2 (seq2 (seq2 (seq2 (seq2 (seq2 (seq2 (seq2 (seq2 (seq2 (seq2 (seq2 (seq2 C14))))))))))))))
noncomputable def q14_16:Code:=(seq1 (seq1 (seq2 (seq2 (seq2 (seq2 (seq2 (seq2 (seq2 (seq2 (seq2 (seq2 (seq2 (seq2 (seq2 (seq2 C14))))))))))))))))
noncomputable def q14_17:Code:=(seq1 (seq1 (loopC (blockC (seq2 (seq1 (seq2 (seq2 (seq2 (seq2 (seq2 (seq2 (seq2 (seq2 (seq2 (seq2 (seq2 (seq2 (seq2 (seq2 C14))))))))))))))))))))
noncomputable def q14_19:Code:=(seq1 (blockC (seq1 (seq2 (loopC (blockC (seq2 (seq1 (seq2 (seq2 (seq2 (seq2 (seq2 (seq2 (seq2 (seq2 (seq2 (seq2 (seq2 (seq2 (seq2 (seq2 C14))))))))))))))))))))))
noncomputable def q14_20:Code:=(seq1 (seq2 (blockC (seq1 (seq2 (loopC (blockC (seq2 (seq1 (seq2 (seq2 (seq2 (seq2 (seq2 (seq2 (seq2 (seq2 (seq2 (seq2 (seq2 (seq2 (seq2 (seq2 C14)))))))))))))))))))))))
noncomputable def q14_21:Code:=(seq1 (seq1 (seq2 (seq2 (blockC (seq1 (seq2 (loopC (blockC (seq2 (seq1 (seq2 (seq2 (seq2 (seq2 (seq2 (seq2 (seq2 (seq2 (seq2 (seq2 (seq2 (seq2 (seq2 (seq2 C14)))))))))))))))))))))))))
noncomputable def q14_22:Code:=(seq1 (condA (seq2 (seq1 (seq2 (seq2 (blockC (seq1 (seq2 (loopC (blockC (seq2 (seq1 (seq2 (seq2 (seq2 (seq2 (seq2 (seq2 (seq2 (seq2 (seq2 (seq2 (seq2 (seq2 (seq2 (seq2 C14)))))))))))))))))))))))))))
noncomputable def q14_23:Code:=(seq1 (seq1 (seq2 (seq2 (seq2 (blockC (seq1 (seq2 (loopC (blockC (seq2 (seq1 (seq2 (seq2 (seq2 (seq2 (seq2 (seq2 (seq2 (seq2 (seq2 (seq2 (seq2 (seq2 (seq2 (seq2 C14))))))))))))))))))))))))))
noncomputable def q14_24:Code:=(seq1 (seq1 (condA (seq2 (seq1 (seq2 (seq2 (seq2 (blockC (seq1 (seq2 (loopC (blockC (seq2 (seq1 (seq2 (seq2 (seq2 (seq2 (seq2 (seq2 (seq2 (seq2 (seq2 (seq2 (seq2 (seq2 (seq2 (seq2 C14)))))))))))))))))))))))))))))
noncomputable def q14_25:Code:=(seq1 (condA (seq2 (seq1 (condA (seq2 (seq1 (seq2 (seq2 (seq2 (blockC (seq1 (seq2 (loopC (blockC (seq2 (seq1 (seq2 (seq2 (seq2 (seq2 (seq2 (seq2 (seq2 (seq2 (seq2 (seq2 (seq2 (seq2 (seq2 (seq2 C14)))))))))))))))))))))))))))))))
noncomputable def q14_26:Code:=(seq2 (condA (seq2 (seq1 (seq2 (seq2 (seq2 (blockC (seq1 (seq2 (loopC (blockC (seq2 (seq1 (seq2 (seq2 (seq2 (seq2 (seq2 (seq2 (seq2 (seq2 (seq2 (seq2 (seq2 (seq2 (seq2 (seq2 C14))))))))))))))))))))))))))))
noncomputable def q14_27:Code:=(seq1 (seq2 (seq2 (seq2 (seq2 (blockC (seq1 (seq2 (loopC (blockC (seq2 (seq1 (seq2 (seq2 (seq2 (seq2 (seq2 (seq2 (seq2 (seq2 (seq2 (seq2 (seq2 (seq2 (seq2 (seq2 C14))))))))))))))))))))))))))
noncomputable def q14_28:Code:=(seq1 (seq1 (seq2 (seq2 (seq2 (seq2 (seq2 (blockC (seq1 (seq2 (loopC (blockC (seq2 (seq1 (seq2 (seq2 (seq2 (seq2 (seq2 (seq2 (seq2 (seq2 (seq2 (seq2 (seq2 (seq2 (seq2 (seq2 C14))))))))))))))))))))))))))))
noncomputable def q14_29:Code:=(condA (seq2 (seq1 (seq2 (seq2 (seq2 (seq2 (seq2 (blockC (seq1 (seq2 (loopC (blockC (seq2 (seq1 (seq2 (seq2 (seq2 (seq2 (seq2 (seq2 (seq2 (seq2 (seq2 (seq2 (seq2 (seq2 (seq2 (seq2 C14)))))))))))))))))))))))))))))
noncomputable def q14_30:Code:=(seq1 (seq2 (seq2 (seq2 (seq2 (seq2 (seq2 (blockC (seq1 (seq2 (loopC (blockC (seq2 (seq1 (seq2 (seq2 (seq2 (seq2 (seq2 (seq2 (seq2 (seq2 (seq2 (seq2 (seq2 (seq2 (seq2 (seq2 C14))))))))))))))))))))))))))))
noncomputable def q14_38:Code:=(seq1 (blockC (seq2 (seq2 (seq2 (seq2 (seq2 (seq2 (seq2 (blockC (seq1 (seq2 (loopC (blockC (seq2 (seq1 (seq2 (seq2 (seq2 (seq2 (seq2 (seq2 (seq2 (seq2 (seq2 (seq2 (seq2 (seq2 (seq2 (seq2 C14))))))))))))))))))))))))))))))
noncomputable def q14_39:Code:=(seq1 (seq1 (condA (seq2 (blockC (seq2 (seq2 (seq2 (seq2 (seq2 (seq2 (seq2 (blockC (seq1 (seq2 (loopC (blockC (seq2 (seq1 (seq2 (seq2 (seq2 (seq2 (seq2 (seq2 (seq2 (seq2 (seq2 (seq2 (seq2 (seq2 (seq2 (seq2 C14)))))))))))))))))))))))))))))))))
noncomputable def q14_40:Code:=(seq1 (condA (seq2 (seq1 (condA (seq2 (blockC (seq2 (seq2 (seq2 (seq2 (seq2 (seq2 (seq2 (blockC (seq1 (seq2 (loopC (blockC (seq2 (seq1 (seq2 (seq2 (seq2 (seq2 (seq2 (seq2 (seq2 (seq2 (seq2 (seq2 (seq2 (seq2 (seq2 (seq2 C14)))))))))))))))))))))))))))))))))))
noncomputable def q14_41:Code:=(seq1 (seq2 (condA (seq2 (seq1 (condA (seq2 (blockC (seq2 (seq2 (seq2 (seq2 (seq2 (seq2 (seq2 (blockC (seq1 (seq2 (loopC (blockC (seq2 (seq1 (seq2 (seq2 (seq2 (seq2 (seq2 (seq2 (seq2 (seq2 (seq2 (seq2 (seq2 (seq2 (seq2 (seq2 C14))))))))))))))))))))))))))))))))))))
noncomputable def q14_42:Code:=(seq1 (seq1 (loopC (blockC (seq2 (seq2 (condA (seq2 (seq1 (condA (seq2 (blockC (seq2 (seq2 (seq2 (seq2 (seq2 (seq2 (seq2 (blockC (seq1 (seq2 (loopC (blockC (seq2 (seq1 (seq2 (seq2 (seq2 (seq2 (seq2 (seq2 (seq2 (seq2 (seq2 (seq2 (seq2 (seq2 (seq2 (seq2 C14))))))))))))))))))))))))))))))))))))))))
noncomputable def q14_44:Code:=(blockC (seq1 (seq2 (loopC (blockC (seq2 (seq2 (condA (seq2 (seq1 (condA (seq2 (blockC (seq2 (seq2 (seq2 (seq2 (seq2 (seq2 (seq2 (blockC (seq1 (seq2 (loopC (blockC (seq2 (seq1 (seq2 (seq2 (seq2 (seq2 (seq2 (seq2 (seq2 (seq2 (seq2 (seq2 (seq2 (seq2 (seq2 (seq2 C14)))))))))))))))))))))))))))))))))))))))))
noncomputable def q14_43:Code:=(seq2 (seq2 (loopC (blockC (seq2 (seq2 (condA (seq2 (seq1 (condA (seq2 (blockC (seq2 (seq2 (seq2 (seq2 (seq2 (seq2 (seq2 (blockC (seq1 (seq2 (loopC (blockC (seq2 (seq1 (seq2 (seq2 (seq2 (seq2 (seq2 (seq2 (seq2 (seq2 (seq2 (seq2 (seq2 (seq2 (seq2 (seq2 C14))))))))))))))))))))))))))))))))))))))))
noncomputable def q14_45:Code:=(seq1 (seq2 (condA (seq2 (blockC (seq2 (seq2 (seq2 (seq2 (seq2 (seq2 (seq2 (blockC (seq1 (seq2 (loopC (blockC (seq2 (seq1 (seq2 (seq2 (seq2 (seq2 (seq2 (seq2 (seq2 (seq2 (seq2 (seq2 (seq2 (seq2 (seq2 (seq2 C14)))))))))))))))))))))))))))))))))
noncomputable def q14_46:Code:=(seq1 (seq2 (seq2 (condA (seq2 (blockC (seq2 (seq2 (seq2 (seq2 (seq2 (seq2 (seq2 (blockC (seq1 (seq2 (loopC (blockC (seq2 (seq1 (seq2 (seq2 (seq2 (seq2 (seq2 (seq2 (seq2 (seq2 (seq2 (seq2 (seq2 (seq2 (seq2 (seq2 C14))))))))))))))))))))))))))))))))))
noncomputable def q14_47:Code:=(seq2 (seq2 (seq2 (condA (seq2 (blockC (seq2 (seq2 (seq2 (seq2 (seq2 (seq2 (seq2 (blockC (seq1 (seq2 (loopC (blockC (seq2 (seq1 (seq2 (seq2 (seq2 (seq2 (seq2 (seq2 (seq2 (seq2 (seq2 (seq2 (seq2 (seq2 (seq2 (seq2 C14))))))))))))))))))))))))))))))))))
noncomputable def q14_48:Code:=(seq1 (condB (seq2 (blockC (seq2 (seq2 (seq2 (seq2 (seq2 (seq2 (seq2 (blockC (seq1 (seq2 (loopC (blockC (seq2 (seq1 (seq2 (seq2 (seq2 (seq2 (seq2 (seq2 (seq2 (seq2 (seq2 (seq2 (seq2 (seq2 (seq2 (seq2 C14))))))))))))))))))))))))))))))))
noncomputable def q14_49:Code:=(seq1 (seq1 (condA (seq2 (condB (seq2 (blockC (seq2 (seq2 (seq2 (seq2 (seq2 (seq2 (seq2 (blockC (seq1 (seq2 (loopC (blockC (seq2 (seq1 (seq2 (seq2 (seq2 (seq2 (seq2 (seq2 (seq2 (seq2 (seq2 (seq2 (seq2 (seq2 (seq2 (seq2 C14)))))))))))))))))))))))))))))))))))
noncomputable def q14_50:Code:=(condA (seq2 (seq1 (condA (seq2 (condB (seq2 (blockC (seq2 (seq2 (seq2 (seq2 (seq2 (seq2 (seq2 (blockC (seq1 (seq2 (loopC (blockC (seq2 (seq1 (seq2 (seq2 (seq2 (seq2 (seq2 (seq2 (seq2 (seq2 (seq2 (seq2 (seq2 (seq2 (seq2 (seq2 C14))))))))))))))))))))))))))))))))))))
noncomputable def q14_51:Code:=(seq1 (seq2 (condA (seq2 (condB (seq2 (blockC (seq2 (seq2 (seq2 (seq2 (seq2 (seq2 (seq2 (blockC (seq1 (seq2 (loopC (blockC (seq2 (seq1 (seq2 (seq2 (seq2 (seq2 (seq2 (seq2 (seq2 (seq2 (seq2 (seq2 (seq2 (seq2 (seq2 (seq2 C14)))))))))))))))))))))))))))))))))))
noncomputable def q14_52:Code:=(seq1 (condA (seq2 (seq2 (condA (seq2 (condB (seq2 (blockC (seq2 (seq2 (seq2 (seq2 (seq2 (seq2 (seq2 (blockC (seq1 (seq2 (loopC (blockC (seq2 (seq1 (seq2 (seq2 (seq2 (seq2 (seq2 (seq2 (seq2 (seq2 (seq2 (seq2 (seq2 (seq2 (seq2 (seq2 C14)))))))))))))))))))))))))))))))))))))
noncomputable def q14_31:Code:=(seq1 (condB (seq2 (condB (seq2 (blockC (seq2 (seq2 (seq2 (seq2 (seq2 (seq2 (seq2 (blockC (seq1 (seq2 (loopC (blockC (seq2 (seq1 (seq2 (seq2 (seq2 (seq2 (seq2 (seq2 (seq2 (seq2 (seq2 (seq2 (seq2 (seq2 (seq2 (seq2 C14))))))))))))))))))))))))))))))))))
noncomputable def q14_32:Code:=(seq1 (seq2 (condB (seq2 (condB (seq2 (blockC (seq2 (seq2 (seq2 (seq2 (seq2 (seq2 (seq2 (blockC (seq1 (seq2 (loopC (blockC (seq2 (seq1 (seq2 (seq2 (seq2 (seq2 (seq2 (seq2 (seq2 (seq2 (seq2 (seq2 (seq2 (seq2 (seq2 (seq2 C14)))))))))))))))))))))))))))))))))))
noncomputable def q14_33:Code:=(seq1 (condA (seq2 (seq2 (condB (seq2 (condB (seq2 (blockC (seq2 (seq2 (seq2 (seq2 (seq2 (seq2 (seq2 (blockC (seq1 (seq2 (loopC (blockC (seq2 (seq1 (seq2 (seq2 (seq2 (seq2 (seq2 (seq2 (seq2 (seq2 (seq2 (seq2 (seq2 (seq2 (seq2 (seq2 C14)))))))))))))))))))))))))))))))))))))
noncomputable def q14_34:Code:=(seq1 (seq2 (condA (seq2 (seq2 (condB (seq2 (condB (seq2 (blockC (seq2 (seq2 (seq2 (seq2 (seq2 (seq2 (seq2 (blockC (seq1 (seq2 (loopC (blockC (seq2 (seq1 (seq2 (seq2 (seq2 (seq2 (seq2 (seq2 (seq2 (seq2 (seq2 (seq2 (seq2 (seq2 (seq2 (seq2 C14))))))))))))))))))))))))))))))))))))))
noncomputable def q14_35:Code:=(seq1 (seq1 (loopC (blockC (seq2 (seq2 (condA (seq2 (seq2 (condB (seq2 (condB (seq2 (blockC (seq2 (seq2 (seq2 (seq2 (seq2 (seq2 (seq2 (blockC (seq1 (seq2 (loopC (blockC (seq2 (seq1 (seq2 (seq2 (seq2 (seq2 (seq2 (seq2 (seq2 (seq2 (seq2 (seq2 (seq2 (seq2 (seq2 (seq2 C14))))))))))))))))))))))))))))))))))))))))))
noncomputable def q14_37:Code:=(blockC (seq1 (seq2 (loopC (blockC (seq2 (seq2 (condA (seq2 (seq2 (condB (seq2 (condB (seq2 (blockC (seq2 (seq2 (seq2 (seq2 (seq2 (seq2 (seq2 (blockC (seq1 (seq2 (loopC (blockC (seq2 (seq1 (seq2 (seq2 (seq2 (seq2 (seq2 (seq2 (seq2 (seq2 (seq2 (seq2 (seq2 (seq2 (seq2 (seq2 C14)))))))))))))))))))))))))))))))))))))))))))
noncomputable def q14_36:Code:=(seq2 (seq2 (loopC (blockC (seq2 (seq2 (condA (seq2 (seq2 (condB (seq2 (condB (seq2 (blockC (seq2 (seq2 (seq2 (seq2 (seq2 (seq2 (seq2 (blockC (seq1 (seq2 (loopC (blockC (seq2 (seq1 (seq2 (seq2 (seq2 (seq2 (seq2 (seq2 (seq2 (seq2 (seq2 (seq2 (seq2 (seq2 (seq2 (seq2 C14))))))))))))))))))))))))))))))))))))))))))
noncomputable def q14_18:Code:=(seq2 (seq2 (loopC (blockC (seq2 (seq1 (seq2 (seq2 (seq2 (seq2 (seq2 (seq2 (seq2 (seq2 (seq2 (seq2 (seq2 (seq2 (seq2 (seq2 C14))))))))))))))))))))
noncomputable def q14_53:Code:=(seq1 (seq2 (seq2 (seq2 (seq2 (seq2 (seq2 (seq2 (seq2 (seq2 (seq2 (seq2 (seq2 (seq2 (seq2 (seq2 C14))))))))))))))))
noncomputable def K14_6:Code:=q14_44
noncomputable def K14_5:Code:=(.loop (.seq (.seq q14_42 (.cond ( .tmp 204 ) .skip (.exit 5))) (.seq (.block 6 K14_6) q14_43)))
noncomputable def K14_4:Code:=q14_37
noncomputable def K14_3:Code:=(.loop (.seq (.seq q14_35 (.cond ( .tmp 182 ) .skip (.exit 3))) (.seq (.block 4 K14_4) q14_36)))
noncomputable def K14_2:Code:=(.seq q14_38 (.cond ( .tmp 195 ) (.seq (.seq q14_39 (.cond ( .tmp 198 ) (.seq q14_40 (.seq q14_41 (.block 5 K14_5))) .skip)) (.seq q14_45 (.seq q14_46 q14_47))) (.seq q14_48 (.cond ( .tmp 223 ) (.seq (.seq q14_49 (.cond ( .tmp 226 ) q14_50 .skip)) (.seq q14_51 (.cond ( .tmp 266 ) (.seq q14_52 .ret) .skip))) (.seq q14_31 (.seq q14_32 (.cond ( .tmp 164 ) (.seq q14_33 (.seq q14_34 (.block 3 K14_3))) .skip)))))))
noncomputable def K14_1:Code:=(.seq q14_19 (.seq q14_20 (.seq (.seq q14_21 (.cond ( .tmp 85 ) (.seq q14_22 .ret) .skip)) (.seq (.seq q14_23 (.cond ( .tmp 93 ) (.seq (.seq q14_24 (.cond ( .tmp 116 ) (.seq q14_25 .ret) .skip)) q14_26) .skip)) (.seq q14_27 (.seq (.seq q14_28 (.cond ( .tmp 131 ) q14_29 .skip)) (.seq q14_30 (.block 2 K14_2))))))))
noncomputable def K14_0:Code:=(.loop (.seq (.seq q14_17 (.cond ( .tmp 69 ) .skip (.exit 0))) (.seq (.block 1 K14_1) q14_18)))
theorem e14:C14=(.seq q14_0 (.seq q14_1 (.seq q14_2 (.seq q14_3 (.seq (.seq q14_4 (.cond ( .tmp 40 ) (.seq q14_5 .ret) .skip)) (.seq q14_6 (.seq (.seq q14_7 (.cond ( .tmp 51 ) (.seq q14_8 .ret) .skip)) (.seq q14_9 (.seq q14_10 (.seq q14_11 (.seq q14_12 (.seq q14_13 (.seq q14_14 (.seq q14_15 (.seq (.seq q14_16 (.block 0 K14_0)) (.seq q14_53 .ret)))))))))))))))):=by kernel_rfl
theorem p14_4 {v:World} {a:Act} {s N b o cap M wb:Nat}  (hA:Fl 267 [(7,.bool true),(10,I 0),(1,I (s:Nat)),(2,.slice (some ⟨b,o,none⟩) N cap),(8,Pt wb 0),(9,.slice (some ⟨M,0,none⟩) N N)] a) :
 q14_4.wp Tryd.prog (fun e a' w'=>e=.normal∧(Fl 267 [(40,.bool false),(1,I (s:Nat)),(2,.slice (some ⟨b,o,none⟩) N cap),(8,Pt wb 0),(9,.slice (some ⟨M,0,none⟩) N N)] a'∧w'=v)) a v:=by
 obtain ⟨hsz,hd,hp⟩:=hA
 obtain ⟨u,rfl,hg⟩:=litN hsz hd
 simp only [List.forall_mem_cons,hg] at hp
 obtain ⟨u7,u10,u1,u2,u8,u9,-⟩:=hp
 clear hg hsz hd
 unfold q14_4 C14 Tryd.f14 seq1 seq2
 simp only [Option.getD_some,lits,Nat.reduceAdd,u7,u10,u1,u2,u8,u9]
 clear u7 u10 u1 u2 u8 u9
 go_wp2_with fail
 first
  |exact ⟨⟨rfl,rfl,by
   intro p hp
   simp only [List.mem_cons,List.not_mem_nil,or_false] at hp
   rcases hp with rfl|rfl|rfl|rfl|rfl<;>first|rfl|exact congrArg I (by omega)|exact congrArg Value.bool (by simp<;>omega)|exact congrArg Value.bool (by simp)|(simp;done)⟩,rfl⟩
  |exact ⟨rfl,rfl,by
   intro p hp
   simp only [List.mem_cons,List.not_mem_nil,or_false] at hp
   rcases hp with rfl|rfl|rfl|rfl|rfl<;>first|rfl|exact congrArg I (by omega)|exact congrArg Value.bool (by simp<;>omega)|exact congrArg Value.bool (by simp)|(simp;done)⟩
  |exact ⟨rfl,⟨rfl,rfl,by
   intro p hp
   simp only [List.mem_cons,List.not_mem_nil,or_false] at hp
   rcases hp with rfl|rfl|rfl|rfl|rfl<;>first|rfl|exact congrArg I (by omega)|exact congrArg Value.bool (by simp<;>omega)|exact congrArg Value.bool (by simp)|(simp;done)⟩,rfl⟩
theorem p14_4n {v:World} {a:Act} {E:Int} (hE:¬ E=0) (hA:Fl 267 [(7,.bool true),(10,I E)] a) :
 q14_4.wp Tryd.prog (fun e a' w'=>e=.normal∧(Fl 267 [(40,.bool true),(7,.bool true)] a'∧w'=v)) a v:=by
 obtain ⟨hsz,hd,hp⟩:=hA
 obtain ⟨u,rfl,hg⟩:=litN hsz hd
 simp only [List.forall_mem_cons,hg] at hp
 obtain ⟨u7,u10,-⟩:=hp
 clear hg hsz hd
 unfold q14_4 C14 Tryd.f14 seq1 seq2
 simp only [Option.getD_some,lits,Nat.reduceAdd,u7,u10]
 clear u7 u10
 go_wp2_with fail
 first
  |exact ⟨⟨rfl,rfl,by
   intro p hp
   simp only [List.mem_cons,List.not_mem_nil,or_false] at hp
   rcases hp with rfl|rfl<;>first|rfl|exact congrArg I (by omega)|exact congrArg Value.bool (by simp<;>omega)|exact congrArg Value.bool (by simp)|(simp;done)⟩,rfl⟩
  |exact ⟨rfl,rfl,by
   intro p hp
   simp only [List.mem_cons,List.not_mem_nil,or_false] at hp
   rcases hp with rfl|rfl<;>first|rfl|exact congrArg I (by omega)|exact congrArg Value.bool (by simp<;>omega)|exact congrArg Value.bool (by simp)|(simp;done)⟩
  |exact ⟨rfl,⟨rfl,rfl,by
   intro p hp
   simp only [List.mem_cons,List.not_mem_nil,or_false] at hp
   rcases hp with rfl|rfl<;>first|rfl|exact congrArg I (by omega)|exact congrArg Value.bool (by simp<;>omega)|exact congrArg Value.bool (by simp)|(simp;done)⟩,rfl⟩
theorem p14_5 {v:World} {a:Act}   (hA:Fl 267 [(7,.bool true)] a) :
 q14_5.wp Tryd.prog (fun e a' w'=>e=.normal∧(Fl 267 [(6,.bool true)] a'∧w'=v)) a v:=by
 obtain ⟨hsz,hd,hp⟩:=hA
 obtain ⟨u,rfl,hg⟩:=litN hsz hd
 simp only [List.forall_mem_cons,hg] at hp
 obtain ⟨u7,-⟩:=hp
 clear hg hsz hd
 unfold q14_5 C14 Tryd.f14 seq1 seq2 condA
 simp only [Option.getD_some,lits,Nat.reduceAdd,u7]
 clear u7
 go_wp2_with fail
 first
  |exact ⟨⟨rfl,rfl,by
   intro p hp
   simp only [List.mem_cons,List.not_mem_nil,or_false] at hp
   rcases hp with rfl<;>first|rfl|exact congrArg I (by omega)|exact congrArg Value.bool (by simp<;>omega)|exact congrArg Value.bool (by simp)|(simp;done)⟩,rfl⟩
  |exact ⟨rfl,rfl,by
   intro p hp
   simp only [List.mem_cons,List.not_mem_nil,or_false] at hp
   rcases hp with rfl<;>first|rfl|exact congrArg I (by omega)|exact congrArg Value.bool (by simp<;>omega)|exact congrArg Value.bool (by simp)|(simp;done)⟩
  |exact ⟨rfl,⟨rfl,rfl,by
   intro p hp
   simp only [List.mem_cons,List.not_mem_nil,or_false] at hp
   rcases hp with rfl<;>first|rfl|exact congrArg I (by omega)|exact congrArg Value.bool (by simp<;>omega)|exact congrArg Value.bool (by simp)|(simp;done)⟩,rfl⟩
theorem p14_6 {v:World} {a:Act} {s N b o cap M wb:Nat} {S:TS} (hR:Rep zn S v) (hwb:wb=S.wb) (hs:S.stk=false) (hA:Fl 267 [(1,I (s:Nat)),(2,.slice (some ⟨b,o,none⟩) N cap),(8,Pt wb 0),(9,.slice (some ⟨M,0,none⟩) N N)] a) :
 q14_6.wp Tryd.prog (fun e a' w'=>e=.normal∧(Fl 267 [(1,I (s:Nat)),(2,.slice (some ⟨b,o,none⟩) N cap),(8,Pt wb 0),(9,.slice (some ⟨M,0,none⟩) N N),(11,.bool false)] a'∧w'=v)) a v:=by
 subst hwb
 have h3:=(body10s hR).calls Tryd.func19 rfl
 rw [hs] at h3
 have H3:Hid (Calls Tryd.prog 19 #[Pt S.wb 0] v _):=⟨h3⟩
 clear h3 hR
 obtain ⟨hsz,hd,hp⟩:=hA
 obtain ⟨u,rfl,hg⟩:=litN hsz hd
 simp only [List.forall_mem_cons,hg] at hp
 obtain ⟨u1,u2,u8,u9,-⟩:=hp
 clear hg hsz hd
 unfold q14_6 C14 Tryd.f14 seq1 seq2
 simp only [Option.getD_some,lits,Nat.reduceAdd,u1,u2,u8,u9]
 clear u1 u2 u8 u9
 go_wp2_with (first|(go_at_call 19;refine H3.out.mono ?_;rintro e w1 ⟨_,rfl,rfl,rfl⟩))
 first
  |exact ⟨⟨rfl,rfl,by
   intro p hp
   simp only [List.mem_cons,List.not_mem_nil,or_false] at hp
   rcases hp with rfl|rfl|rfl|rfl|rfl<;>first|rfl|exact congrArg I (by omega)|exact congrArg Value.bool (by simp<;>omega)|exact congrArg Value.bool (by simp)|(simp;done)⟩,rfl⟩
  |exact ⟨rfl,rfl,by
   intro p hp
   simp only [List.mem_cons,List.not_mem_nil,or_false] at hp
   rcases hp with rfl|rfl|rfl|rfl|rfl<;>first|rfl|exact congrArg I (by omega)|exact congrArg Value.bool (by simp<;>omega)|exact congrArg Value.bool (by simp)|(simp;done)⟩
  |exact ⟨rfl,⟨rfl,rfl,by
   intro p hp
   simp only [List.mem_cons,List.not_mem_nil,or_false] at hp
   rcases hp with rfl|rfl|rfl|rfl|rfl<;>first|rfl|exact congrArg I (by omega)|exact congrArg Value.bool (by simp<;>omega)|exact congrArg Value.bool (by simp)|(simp;done)⟩,rfl⟩
theorem p14_7 {v:World} {a:Act} {s N b o cap M wb:Nat}  (hA:Fl 267 [(1,I (s:Nat)),(2,.slice (some ⟨b,o,none⟩) N cap),(8,Pt wb 0),(9,.slice (some ⟨M,0,none⟩) N N),(11,.bool false)] a) :
 q14_7.wp Tryd.prog (fun e a' w'=>e=.normal∧(Fl 267 [(51,.bool false),(1,I (s:Nat)),(2,.slice (some ⟨b,o,none⟩) N cap),(8,Pt wb 0),(9,.slice (some ⟨M,0,none⟩) N N)] a'∧w'=v)) a v:=by
 obtain ⟨hsz,hd,hp⟩:=hA
 obtain ⟨u,rfl,hg⟩:=litN hsz hd
 simp only [List.forall_mem_cons,hg] at hp
 obtain ⟨u1,u2,u8,u9,u11,-⟩:=hp
 clear hg hsz hd
 unfold q14_7 C14 Tryd.f14 seq1 seq2
 simp only [Option.getD_some,lits,Nat.reduceAdd,u1,u2,u8,u9,u11]
 clear u1 u2 u8 u9 u11
 go_wp2_with fail
 first
  |exact ⟨⟨rfl,rfl,by
   intro p hp
   simp only [List.mem_cons,List.not_mem_nil,or_false] at hp
   rcases hp with rfl|rfl|rfl|rfl|rfl<;>first|rfl|exact congrArg I (by omega)|exact congrArg Value.bool (by simp<;>omega)|exact congrArg Value.bool (by simp)|(simp;done)⟩,rfl⟩
  |exact ⟨rfl,rfl,by
   intro p hp
   simp only [List.mem_cons,List.not_mem_nil,or_false] at hp
   rcases hp with rfl|rfl|rfl|rfl|rfl<;>first|rfl|exact congrArg I (by omega)|exact congrArg Value.bool (by simp<;>omega)|exact congrArg Value.bool (by simp)|(simp;done)⟩
  |exact ⟨rfl,⟨rfl,rfl,by
   intro p hp
   simp only [List.mem_cons,List.not_mem_nil,or_false] at hp
   rcases hp with rfl|rfl|rfl|rfl|rfl<;>first|rfl|exact congrArg I (by omega)|exact congrArg Value.bool (by simp<;>omega)|exact congrArg Value.bool (by simp)|(simp;done)⟩,rfl⟩
theorem p14_10 {v:World} {a:Act} {s N b o cap M:Nat} {p:Option Addr} {T ct:Nat}  (hA:Fl 267 [(1,I (s:Nat)),(2,.slice (some ⟨b,o,none⟩) N cap),(9,.slice (some ⟨M,0,none⟩) N N),(12,.slice p T ct)] a) :
 q14_10.wp Tryd.prog (fun e a' w'=>e=.normal∧(Fl 267 [(1,I (s:Nat)),(2,.slice (some ⟨b,o,none⟩) N cap),(9,.slice (some ⟨M,0,none⟩) N N),(12,.slice p T ct),(13,I 0)] a'∧w'=v)) a v:=by
 obtain ⟨hsz,hd,hp⟩:=hA
 obtain ⟨u,rfl,hg⟩:=litN hsz hd
 simp only [List.forall_mem_cons,hg] at hp
 obtain ⟨u1,u2,u9,u12,-⟩:=hp
 clear hg hsz hd
 unfold q14_10 C14 Tryd.f14 seq1 seq2
 simp only [Option.getD_some,lits,Nat.reduceAdd,u1,u2,u9,u12]
 clear u1 u2 u9 u12
 go_wp2_with fail
 first
  |exact ⟨⟨rfl,rfl,by
   intro p hp
   simp only [List.mem_cons,List.not_mem_nil,or_false] at hp
   rcases hp with rfl|rfl|rfl|rfl|rfl<;>first|rfl|exact congrArg I (by omega)|exact congrArg Value.bool (by simp<;>omega)|exact congrArg Value.bool (by simp)|(simp;done)⟩,rfl⟩
  |exact ⟨rfl,rfl,by
   intro p hp
   simp only [List.mem_cons,List.not_mem_nil,or_false] at hp
   rcases hp with rfl|rfl|rfl|rfl|rfl<;>first|rfl|exact congrArg I (by omega)|exact congrArg Value.bool (by simp<;>omega)|exact congrArg Value.bool (by simp)|(simp;done)⟩
  |exact ⟨rfl,⟨rfl,rfl,by
   intro p hp
   simp only [List.mem_cons,List.not_mem_nil,or_false] at hp
   rcases hp with rfl|rfl|rfl|rfl|rfl<;>first|rfl|exact congrArg I (by omega)|exact congrArg Value.bool (by simp<;>omega)|exact congrArg Value.bool (by simp)|(simp;done)⟩,rfl⟩
theorem p14_11 {v:World} {a:Act} {s N b o cap M:Nat} {p:Option Addr} {T ct:Nat}  (hA:Fl 267 [(1,I (s:Nat)),(2,.slice (some ⟨b,o,none⟩) N cap),(9,.slice (some ⟨M,0,none⟩) N N),(12,.slice p T ct),(13,I 0)] a) :
 q14_11.wp Tryd.prog (fun e a' w'=>e=.normal∧(Fl 267 [(1,I (s:Nat)),(2,.slice (some ⟨b,o,none⟩) N cap),(9,.slice (some ⟨M,0,none⟩) N N),(12,.slice p T ct),(13,I 0),(14,I 0)] a'∧w'=v)) a v:=by
 obtain ⟨hsz,hd,hp⟩:=hA
 obtain ⟨u,rfl,hg⟩:=litN hsz hd
 simp only [List.forall_mem_cons,hg] at hp
 obtain ⟨u1,u2,u9,u12,u13,-⟩:=hp
 clear hg hsz hd
 unfold q14_11 C14 Tryd.f14 seq1 seq2
 simp only [Option.getD_some,lits,Nat.reduceAdd,u1,u2,u9,u12,u13]
 clear u1 u2 u9 u12 u13
 go_wp2_with fail
 first
  |exact ⟨⟨rfl,rfl,by
   intro p hp
   simp only [List.mem_cons,List.not_mem_nil,or_false] at hp
   rcases hp with rfl|rfl|rfl|rfl|rfl|rfl<;>first|rfl|exact congrArg I (by omega)|exact congrArg Value.bool (by simp<;>omega)|exact congrArg Value.bool (by simp)|(simp;done)⟩,rfl⟩
  |exact ⟨rfl,rfl,by
   intro p hp
   simp only [List.mem_cons,List.not_mem_nil,or_false] at hp
   rcases hp with rfl|rfl|rfl|rfl|rfl|rfl<;>first|rfl|exact congrArg I (by omega)|exact congrArg Value.bool (by simp<;>omega)|exact congrArg Value.bool (by simp)|(simp;done)⟩
  |exact ⟨rfl,⟨rfl,rfl,by
   intro p hp
   simp only [List.mem_cons,List.not_mem_nil,or_false] at hp
   rcases hp with rfl|rfl|rfl|rfl|rfl|rfl<;>first|rfl|exact congrArg I (by omega)|exact congrArg Value.bool (by simp<;>omega)|exact congrArg Value.bool (by simp)|(simp;done)⟩,rfl⟩
theorem p14_12 {v:World} {a:Act} {s N b o cap M:Nat} {p:Option Addr} {T ct:Nat} (hN:N≤8) (hA:Fl 267 [(1,I (s:Nat)),(2,.slice (some ⟨b,o,none⟩) N cap),(9,.slice (some ⟨M,0,none⟩) N N),(12,.slice p T ct),(13,I 0),(14,I 0)] a) :
 q14_12.wp Tryd.prog (fun e a' w'=>e=.normal∧(Fl 267 [(1,I (s:Nat)),(2,.slice (some ⟨b,o,none⟩) N cap),(9,.slice (some ⟨M,0,none⟩) N N),(12,.slice p T ct),(13,I 0),(14,I 0),(15,.slice (some ⟨v.heap.size,0,none⟩) N N)] a'∧w'=v.alloc (.cells (madeCells #[I 0] N) 3))) a v:=by
 have hmk:=make_3r N (by omega)
 obtain ⟨hsz,hd,hp⟩:=hA
 obtain ⟨u,rfl,hg⟩:=litN hsz hd
 simp only [List.forall_mem_cons,hg] at hp
 obtain ⟨u1,u2,u9,u12,u13,u14,-⟩:=hp
 clear hg hsz hd
 unfold q14_12 C14 Tryd.f14 seq1 seq2
 simp only [Option.getD_some,lits,Nat.reduceAdd,u1,u2,u9,u12,u13,u14]
 clear u1 u2 u9 u12 u13 u14
 go_wp2_with fail
 first
  |exact ⟨⟨rfl,rfl,by
   intro p hp
   simp only [List.mem_cons,List.not_mem_nil,or_false] at hp
   rcases hp with rfl|rfl|rfl|rfl|rfl|rfl|rfl<;>first|rfl|exact congrArg I (by omega)|exact congrArg Value.bool (by simp<;>omega)|exact congrArg Value.bool (by simp)|(simp;done)⟩,rfl⟩
  |exact ⟨rfl,rfl,by
   intro p hp
   simp only [List.mem_cons,List.not_mem_nil,or_false] at hp
   rcases hp with rfl|rfl|rfl|rfl|rfl|rfl|rfl<;>first|rfl|exact congrArg I (by omega)|exact congrArg Value.bool (by simp<;>omega)|exact congrArg Value.bool (by simp)|(simp;done)⟩
  |exact ⟨rfl,⟨rfl,rfl,by
   intro p hp
   simp only [List.mem_cons,List.not_mem_nil,or_false] at hp
   rcases hp with rfl|rfl|rfl|rfl|rfl|rfl|rfl<;>first|rfl|exact congrArg I (by omega)|exact congrArg Value.bool (by simp<;>omega)|exact congrArg Value.bool (by simp)|(simp;done)⟩,rfl⟩
theorem p14_13 {v:World} {a:Act} {s N b o cap M:Nat} {p:Option Addr} {T ct:Nat} {Cb:Nat} (hN:N≤8) (hA:Fl 267 [(1,I (s:Nat)),(2,.slice (some ⟨b,o,none⟩) N cap),(9,.slice (some ⟨M,0,none⟩) N N),(12,.slice p T ct),(13,I 0),(14,I 0),(15,.slice (some ⟨Cb,0,none⟩) N N)] a) :
 q14_13.wp Tryd.prog (fun e a' w'=>e=.normal∧(Fl 267 [(1,I (s:Nat)),(2,.slice (some ⟨b,o,none⟩) N cap),(9,.slice (some ⟨M,0,none⟩) N N),(12,.slice p T ct),(13,I 0),(14,I 0),(15,.slice (some ⟨Cb,0,none⟩) N N),(16,.slice (some ⟨v.heap.size,0,none⟩) N N)] a'∧w'=v.alloc (.cells (madeCells #[.slice none 0 0] N) 22))) a v:=by
 have hmk:=make_22r N (by omega)
 obtain ⟨hsz,hd,hp⟩:=hA
 obtain ⟨u,rfl,hg⟩:=litN hsz hd
 simp only [List.forall_mem_cons,hg] at hp
 obtain ⟨u1,u2,u9,u12,u13,u14,u15,-⟩:=hp
 clear hg hsz hd
 unfold q14_13 C14 Tryd.f14 seq1 seq2
 simp only [Option.getD_some,lits,Nat.reduceAdd,u1,u2,u9,u12,u13,u14,u15]
 clear u1 u2 u9 u12 u13 u14 u15
 go_wp2_with fail
 first
  |exact ⟨⟨rfl,rfl,by
   intro p hp
   simp only [List.mem_cons,List.not_mem_nil,or_false] at hp
   rcases hp with rfl|rfl|rfl|rfl|rfl|rfl|rfl|rfl<;>first|rfl|exact congrArg I (by omega)|exact congrArg Value.bool (by simp<;>omega)|exact congrArg Value.bool (by simp)|(simp;done)⟩,rfl⟩
  |exact ⟨rfl,rfl,by
   intro p hp
   simp only [List.mem_cons,List.not_mem_nil,or_false] at hp
   rcases hp with rfl|rfl|rfl|rfl|rfl|rfl|rfl|rfl<;>first|rfl|exact congrArg I (by omega)|exact congrArg Value.bool (by simp<;>omega)|exact congrArg Value.bool (by simp)|(simp;done)⟩
  |exact ⟨rfl,⟨rfl,rfl,by
   intro p hp
   simp only [List.mem_cons,List.not_mem_nil,or_false] at hp
   rcases hp with rfl|rfl|rfl|rfl|rfl|rfl|rfl|rfl<;>first|rfl|exact congrArg I (by omega)|exact congrArg Value.bool (by simp<;>omega)|exact congrArg Value.bool (by simp)|(simp;done)⟩,rfl⟩
theorem p14_14 {v:World} {a:Act} {s N b o cap M:Nat} {p:Option Addr} {T ct:Nat} {Cb Eb:Nat} (hN:N≤8) (hA:Fl 267 [(1,I (s:Nat)),(2,.slice (some ⟨b,o,none⟩) N cap),(9,.slice (some ⟨M,0,none⟩) N N),(12,.slice p T ct),(13,I 0),(14,I 0),(15,.slice (some ⟨Cb,0,none⟩) N N),(16,.slice (some ⟨Eb,0,none⟩) N N)] a) :
 q14_14.wp Tryd.prog (fun e a' w'=>e=.normal∧(Fl 267 [(1,I (s:Nat)),(2,.slice (some ⟨b,o,none⟩) N cap),(9,.slice (some ⟨M,0,none⟩) N N),(12,.slice p T ct),(13,I 0),(14,I 0),(15,.slice (some ⟨Cb,0,none⟩) N N),(16,.slice (some ⟨Eb,0,none⟩) N N),(17,.slice (some ⟨v.heap.size,0,none⟩) N N)] a'∧w'=v.alloc (.cells (madeCells #[.bool false] N) 4))) a v:=by
 have hmk:=make_4r N (by omega)
 obtain ⟨hsz,hd,hp⟩:=hA
 obtain ⟨u,rfl,hg⟩:=litN hsz hd
 simp only [List.forall_mem_cons,hg] at hp
 obtain ⟨u1,u2,u9,u12,u13,u14,u15,u16,-⟩:=hp
 clear hg hsz hd
 unfold q14_14 C14 Tryd.f14 seq1 seq2
 simp only [Option.getD_some,lits,Nat.reduceAdd,u1,u2,u9,u12,u13,u14,u15,u16]
 clear u1 u2 u9 u12 u13 u14 u15 u16
 go_wp2_with fail
 first
  |exact ⟨⟨rfl,rfl,by
   intro p hp
   simp only [List.mem_cons,List.not_mem_nil,or_false] at hp
   rcases hp with rfl|rfl|rfl|rfl|rfl|rfl|rfl|rfl|rfl<;>first|rfl|exact congrArg I (by omega)|exact congrArg Value.bool (by simp<;>omega)|exact congrArg Value.bool (by simp)|(simp;done)⟩,rfl⟩
  |exact ⟨rfl,rfl,by
   intro p hp
   simp only [List.mem_cons,List.not_mem_nil,or_false] at hp
   rcases hp with rfl|rfl|rfl|rfl|rfl|rfl|rfl|rfl|rfl<;>first|rfl|exact congrArg I (by omega)|exact congrArg Value.bool (by simp<;>omega)|exact congrArg Value.bool (by simp)|(simp;done)⟩
  |exact ⟨rfl,⟨rfl,rfl,by
   intro p hp
   simp only [List.mem_cons,List.not_mem_nil,or_false] at hp
   rcases hp with rfl|rfl|rfl|rfl|rfl|rfl|rfl|rfl|rfl<;>first|rfl|exact congrArg I (by omega)|exact congrArg Value.bool (by simp<;>omega)|exact congrArg Value.bool (by simp)|(simp;done)⟩,rfl⟩
theorem p14_15 {v:World} {a:Act} {s N b o cap M:Nat} {p:Option Addr} {T ct:Nat} {Cb Eb Qb:Nat} (hN:N≤8) (hA:Fl 267 [(1,I (s:Nat)),(2,.slice (some ⟨b,o,none⟩) N cap),(9,.slice (some ⟨M,0,none⟩) N N),(12,.slice p T ct),(13,I 0),(14,I 0),(15,.slice (some ⟨Cb,0,none⟩) N N),(16,.slice (some ⟨Eb,0,none⟩) N N),(17,.slice (some ⟨Qb,0,none⟩) N N)] a) :
 q14_15.wp Tryd.prog (fun e a' w'=>e=.normal∧(Fl 267 [(1,I (s:Nat)),(2,.slice (some ⟨b,o,none⟩) N cap),(9,.slice (some ⟨M,0,none⟩) N N),(12,.slice p T ct),(13,I 0),(14,I 0),(15,.slice (some ⟨Cb,0,none⟩) N N),(16,.slice (some ⟨Eb,0,none⟩) N N),(17,.slice (some ⟨Qb,0,none⟩) N N),(18,.slice (some ⟨v.heap.size,0,none⟩) N N)] a'∧w'=v.alloc (.cells (madeCells #[I 0] N) 3))) a v:=by
 have hmk:=make_3r N (by omega)
 obtain ⟨hsz,hd,hp⟩:=hA
 obtain ⟨u,rfl,hg⟩:=litN hsz hd
 simp only [List.forall_mem_cons,hg] at hp
 obtain ⟨u1,u2,u9,u12,u13,u14,u15,u16,u17,-⟩:=hp
 clear hg hsz hd
 unfold q14_15 C14 Tryd.f14 seq1 seq2
 simp only [Option.getD_some,lits,Nat.reduceAdd,u1,u2,u9,u12,u13,u14,u15,u16,u17]
 clear u1 u2 u9 u12 u13 u14 u15 u16 u17
 go_wp2_with fail
 first
  |exact ⟨⟨rfl,rfl,by
   intro p hp
   simp only [List.mem_cons,List.not_mem_nil,or_false] at hp
   rcases hp with rfl|rfl|rfl|rfl|rfl|rfl|rfl|rfl|rfl|rfl<;>first|rfl|exact congrArg I (by omega)|exact congrArg Value.bool (by simp<;>omega)|exact congrArg Value.bool (by simp)|(simp;done)⟩,rfl⟩
  |exact ⟨rfl,rfl,by
   intro p hp
   simp only [List.mem_cons,List.not_mem_nil,or_false] at hp
   rcases hp with rfl|rfl|rfl|rfl|rfl|rfl|rfl|rfl|rfl|rfl<;>first|rfl|exact congrArg I (by omega)|exact congrArg Value.bool (by simp<;>omega)|exact congrArg Value.bool (by simp)|(simp;done)⟩
  |exact ⟨rfl,⟨rfl,rfl,by
   intro p hp
   simp only [List.mem_cons,List.not_mem_nil,or_false] at hp
   rcases hp with rfl|rfl|rfl|rfl|rfl|rfl|rfl|rfl|rfl|rfl<;>first|rfl|exact congrArg I (by omega)|exact congrArg Value.bool (by simp<;>omega)|exact congrArg Value.bool (by simp)|(simp;done)⟩,rfl⟩
theorem p14_16 {v:World} {a:Act} {s N b o cap M:Nat} {p:Option Addr} {T ct:Nat} {tot bus:Int} {Cb Eb Qb Nb:Nat}  (hA:Fl 267 [(1,I (s:Nat)),(2,.slice (some ⟨b,o,none⟩) N cap),(9,.slice (some ⟨M,0,none⟩) N N),(12,.slice p T ct),(13,I tot),(14,I bus),(15,.slice (some ⟨Cb,0,none⟩) N N),(16,.slice (some ⟨Eb,0,none⟩) N N),(17,.slice (some ⟨Qb,0,none⟩) N N),(18,.slice (some ⟨Nb,0,none⟩) N N)] a) :
 q14_16.wp Tryd.prog (fun e a' w'=>e=.normal∧(Fl 267 [(1,I (s:Nat)),(2,.slice (some ⟨b,o,none⟩) N cap),(9,.slice (some ⟨M,0,none⟩) N N),(12,.slice p T ct),(13,I tot),(14,I bus),(15,.slice (some ⟨Cb,0,none⟩) N N),(16,.slice (some ⟨Eb,0,none⟩) N N),(17,.slice (some ⟨Qb,0,none⟩) N N),(18,.slice (some ⟨Nb,0,none⟩) N N),(19,I ((0:Nat):Int))] a'∧w'=v)) a v:=by
 obtain ⟨hsz,hd,hp⟩:=hA
 obtain ⟨u,rfl,hg⟩:=litN hsz hd
 simp only [List.forall_mem_cons,hg] at hp
 obtain ⟨u1,u2,u9,u12,u13,u14,u15,u16,u17,u18,-⟩:=hp
 clear hg hsz hd
 unfold q14_16 C14 Tryd.f14 seq1 seq2
 simp only [Option.getD_some,lits,Nat.reduceAdd,u1,u2,u9,u12,u13,u14,u15,u16,u17,u18]
 clear u1 u2 u9 u12 u13 u14 u15 u16 u17 u18
 go_wp2_with fail
 first
  |exact ⟨⟨rfl,rfl,by
   intro p hp
   simp only [List.mem_cons,List.not_mem_nil,or_false] at hp
   rcases hp with rfl|rfl|rfl|rfl|rfl|rfl|rfl|rfl|rfl|rfl|rfl<;>first|rfl|exact congrArg I (by omega)|exact congrArg Value.bool (by simp<;>omega)|exact congrArg Value.bool (by simp)|(simp;done)⟩,rfl⟩
  |exact ⟨rfl,rfl,by
   intro p hp
   simp only [List.mem_cons,List.not_mem_nil,or_false] at hp
   rcases hp with rfl|rfl|rfl|rfl|rfl|rfl|rfl|rfl|rfl|rfl|rfl<;>first|rfl|exact congrArg I (by omega)|exact congrArg Value.bool (by simp<;>omega)|exact congrArg Value.bool (by simp)|(simp;done)⟩
  |exact ⟨rfl,⟨rfl,rfl,by
   intro p hp
   simp only [List.mem_cons,List.not_mem_nil,or_false] at hp
   rcases hp with rfl|rfl|rfl|rfl|rfl|rfl|rfl|rfl|rfl|rfl|rfl<;>first|rfl|exact congrArg I (by omega)|exact congrArg Value.bool (by simp<;>omega)|exact congrArg Value.bool (by simp)|(simp;done)⟩,rfl⟩
theorem p14_17 {v:World} {a:Act} {s N b o cap M:Nat} {p:Option Addr} {T ct:Nat} {tot bus:Int} {Cb Eb Qb Nb:Nat} {i:Nat}  (hA:Fl 267 [(1,I (s:Nat)),(2,.slice (some ⟨b,o,none⟩) N cap),(9,.slice (some ⟨M,0,none⟩) N N),(12,.slice p T ct),(13,I tot),(14,I bus),(15,.slice (some ⟨Cb,0,none⟩) N N),(16,.slice (some ⟨Eb,0,none⟩) N N),(17,.slice (some ⟨Qb,0,none⟩) N N),(18,.slice (some ⟨Nb,0,none⟩) N N),(19,I (i:Nat))] a) :
 q14_17.wp Tryd.prog (fun e a' w'=>e=.normal∧(Fl 267 [(69,.bool (decide (i<T))),(1,I (s:Nat)),(2,.slice (some ⟨b,o,none⟩) N cap),(9,.slice (some ⟨M,0,none⟩) N N),(12,.slice p T ct),(13,I tot),(14,I bus),(15,.slice (some ⟨Cb,0,none⟩) N N),(16,.slice (some ⟨Eb,0,none⟩) N N),(17,.slice (some ⟨Qb,0,none⟩) N N),(18,.slice (some ⟨Nb,0,none⟩) N N),(19,I (i:Nat))] a'∧w'=v)) a v:=by
 obtain ⟨hsz,hd,hp⟩:=hA
 obtain ⟨u,rfl,hg⟩:=litN hsz hd
 simp only [List.forall_mem_cons,hg] at hp
 obtain ⟨u1,u2,u9,u12,u13,u14,u15,u16,u17,u18,u19,-⟩:=hp
 clear hg hsz hd
 unfold q14_17 C14 Tryd.f14 seq1 seq2 blockC loopC
 simp only [Option.getD_some,lits,Nat.reduceAdd,u1,u2,u9,u12,u13,u14,u15,u16,u17,u18,u19]
 clear u1 u2 u9 u12 u13 u14 u15 u16 u17 u18 u19
 go_wp2_with fail
 first
  |exact ⟨⟨rfl,rfl,by
   intro p hp
   simp only [List.mem_cons,List.not_mem_nil,or_false] at hp
   rcases hp with rfl|rfl|rfl|rfl|rfl|rfl|rfl|rfl|rfl|rfl|rfl|rfl<;>first|rfl|exact congrArg I (by omega)|exact congrArg Value.bool (by simp<;>omega)|exact congrArg Value.bool (by simp)|(simp;done)⟩,rfl⟩
  |exact ⟨rfl,rfl,by
   intro p hp
   simp only [List.mem_cons,List.not_mem_nil,or_false] at hp
   rcases hp with rfl|rfl|rfl|rfl|rfl|rfl|rfl|rfl|rfl|rfl|rfl|rfl<;>first|rfl|exact congrArg I (by omega)|exact congrArg Value.bool (by simp<;>omega)|exact congrArg Value.bool (by simp)|(simp;done)⟩
  |exact ⟨rfl,⟨rfl,rfl,by
   intro p hp
   simp only [List.mem_cons,List.not_mem_nil,or_false] at hp
   rcases hp with rfl|rfl|rfl|rfl|rfl|rfl|rfl|rfl|rfl|rfl|rfl|rfl<;>first|rfl|exact congrArg I (by omega)|exact congrArg Value.bool (by simp<;>omega)|exact congrArg Value.bool (by simp)|(simp;done)⟩,rfl⟩
theorem p14_18 {v:World} {a:Act} {s N b o cap M:Nat} {p:Option Addr} {T ct:Nat} {tot bus:Int} {Cb Eb Qb Nb:Nat} {i:Nat} (hq:i<1000000000) (hA:Fl 267 [(1,I (s:Nat)),(2,.slice (some ⟨b,o,none⟩) N cap),(9,.slice (some ⟨M,0,none⟩) N N),(12,.slice p T ct),(13,I tot),(14,I bus),(15,.slice (some ⟨Cb,0,none⟩) N N),(16,.slice (some ⟨Eb,0,none⟩) N N),(17,.slice (some ⟨Qb,0,none⟩) N N),(18,.slice (some ⟨Nb,0,none⟩) N N),(19,I (i:Nat))] a) :
 q14_18.wp Tryd.prog (fun e a' w'=>e=.normal∧(Fl 267 [(1,I (s:Nat)),(2,.slice (some ⟨b,o,none⟩) N cap),(9,.slice (some ⟨M,0,none⟩) N N),(12,.slice p T ct),(13,I tot),(14,I bus),(15,.slice (some ⟨Cb,0,none⟩) N N),(16,.slice (some ⟨Eb,0,none⟩) N N),(17,.slice (some ⟨Qb,0,none⟩) N N),(18,.slice (some ⟨Nb,0,none⟩) N N),(19,I ((i+1:Nat):Int))] a'∧w'=v)) a v:=by
 have h9:wrap64 ((i:Int)+1)=((i+1:Nat):Int):=by unfold wrap64;omega
 obtain ⟨hsz,hd,hp⟩:=hA
 obtain ⟨u,rfl,hg⟩:=litN hsz hd
 simp only [List.forall_mem_cons,hg] at hp
 obtain ⟨u1,u2,u9,u12,u13,u14,u15,u16,u17,u18,u19,-⟩:=hp
 clear hg hsz hd
 unfold q14_18 C14 Tryd.f14 seq1 seq2 blockC loopC
 simp only [Option.getD_some,lits,Nat.reduceAdd,u1,u2,u9,u12,u13,u14,u15,u16,u17,u18,u19]
 clear u1 u2 u9 u12 u13 u14 u15 u16 u17 u18 u19
 go_wp2_with fail
 first
  |exact ⟨⟨rfl,rfl,by
   intro p hp
   simp only [List.mem_cons,List.not_mem_nil,or_false] at hp
   rcases hp with rfl|rfl|rfl|rfl|rfl|rfl|rfl|rfl|rfl|rfl|rfl<;>first|rfl|exact congrArg I (by omega)|exact congrArg Value.bool (by simp<;>omega)|exact congrArg Value.bool (by simp)|(simp;done)⟩,rfl⟩
  |exact ⟨rfl,rfl,by
   intro p hp
   simp only [List.mem_cons,List.not_mem_nil,or_false] at hp
   rcases hp with rfl|rfl|rfl|rfl|rfl|rfl|rfl|rfl|rfl|rfl|rfl<;>first|rfl|exact congrArg I (by omega)|exact congrArg Value.bool (by simp<;>omega)|exact congrArg Value.bool (by simp)|(simp;done)⟩
  |exact ⟨rfl,⟨rfl,rfl,by
   intro p hp
   simp only [List.mem_cons,List.not_mem_nil,or_false] at hp
   rcases hp with rfl|rfl|rfl|rfl|rfl|rfl|rfl|rfl|rfl|rfl|rfl<;>first|rfl|exact congrArg I (by omega)|exact congrArg Value.bool (by simp<;>omega)|exact congrArg Value.bool (by simp)|(simp;done)⟩,rfl⟩
theorem p14_19 {v:World} {a:Act} {s N b o cap M:Nat} {tot bus:Int} {Cb Eb Qb Nb g T ct i:Nat} {th ce op ol ne:Int} (hk:i<T) (d0:v.cell? ⟨g,i*5,none⟩=some (I th)) (d1:v.cell? ⟨g,i*5+1,none⟩=some (I ce)) (d2:v.cell? ⟨g,i*5+2,none⟩=some (I op)) (d3:v.cell? ⟨g,i*5+3,none⟩=some (I ol)) (d4:v.cell? ⟨g,i*5+4,none⟩=some (I ne)) (hA:Fl 267 [(1,I (s:Nat)),(2,.slice (some ⟨b,o,none⟩) N cap),(9,.slice (some ⟨M,0,none⟩) N N),(12,.slice (some ⟨g,0,none⟩) T ct),(13,I tot),(14,I bus),(15,.slice (some ⟨Cb,0,none⟩) N N),(16,.slice (some ⟨Eb,0,none⟩) N N),(17,.slice (some ⟨Qb,0,none⟩) N N),(18,.slice (some ⟨Nb,0,none⟩) N N),(19,I (i:Nat))] a) :
 q14_19.wp Tryd.prog (fun e a' w'=>e=.normal∧(Fl 267 [(1,I (s:Nat)),(2,.slice (some ⟨b,o,none⟩) N cap),(9,.slice (some ⟨M,0,none⟩) N N),(12,.slice (some ⟨g,0,none⟩) T ct),(13,I tot),(14,I bus),(15,.slice (some ⟨Cb,0,none⟩) N N),(16,.slice (some ⟨Eb,0,none⟩) N N),(17,.slice (some ⟨Qb,0,none⟩) N N),(18,.slice (some ⟨Nb,0,none⟩) N N),(19,I (i:Nat)),(20,Pt v.heap.size 0)] a'∧w'=v.alloc (.cells #[I th,I ce,I op,I ol,I ne] 60))) a v:=by
 have hk':(i:Int)<(T:Int):=by omega
 obtain ⟨hsz,hd,hp⟩:=hA
 obtain ⟨u,rfl,hg⟩:=litN hsz hd
 simp only [List.forall_mem_cons,hg] at hp
 obtain ⟨u1,u2,u9,u12,u13,u14,u15,u16,u17,u18,u19,-⟩:=hp
 clear hg hsz hd
 unfold q14_19 C14 Tryd.f14 seq1 seq2 blockC loopC
 simp only [Option.getD_some,lits,Nat.reduceAdd,u1,u2,u9,u12,u13,u14,u15,u16,u17,u18,u19]
 clear u1 u2 u9 u12 u13 u14 u15 u16 u17 u18 u19
 go_wp2_with fail
 first
  |exact ⟨⟨rfl,rfl,by
   intro p hp
   simp only [List.mem_cons,List.not_mem_nil,or_false] at hp
   rcases hp with rfl|rfl|rfl|rfl|rfl|rfl|rfl|rfl|rfl|rfl|rfl|rfl<;>first|rfl|exact congrArg I (by omega)|exact congrArg Value.bool (by simp<;>omega)|exact congrArg Value.bool (by simp)|(simp;done)⟩,rfl⟩
  |exact ⟨rfl,rfl,by
   intro p hp
   simp only [List.mem_cons,List.not_mem_nil,or_false] at hp
   rcases hp with rfl|rfl|rfl|rfl|rfl|rfl|rfl|rfl|rfl|rfl|rfl|rfl<;>first|rfl|exact congrArg I (by omega)|exact congrArg Value.bool (by simp<;>omega)|exact congrArg Value.bool (by simp)|(simp;done)⟩
  |exact ⟨rfl,⟨rfl,rfl,by
   intro p hp
   simp only [List.mem_cons,List.not_mem_nil,or_false] at hp
   rcases hp with rfl|rfl|rfl|rfl|rfl|rfl|rfl|rfl|rfl|rfl|rfl|rfl<;>first|rfl|exact congrArg I (by omega)|exact congrArg Value.bool (by simp<;>omega)|exact congrArg Value.bool (by simp)|(simp;done)⟩,rfl⟩
theorem p14_20 {v:World} {a:Act} {s N b o cap M:Nat} {tot bus:Int} {Cb Eb Qb Nb g T ct i:Nat} {x:Nat} {t:Nat} (c0:v.cell? ⟨x,0,none⟩=some (I (t:Nat))) (hA:Fl 267 [(1,I (s:Nat)),(2,.slice (some ⟨b,o,none⟩) N cap),(9,.slice (some ⟨M,0,none⟩) N N),(12,.slice (some ⟨g,0,none⟩) T ct),(13,I tot),(14,I bus),(15,.slice (some ⟨Cb,0,none⟩) N N),(16,.slice (some ⟨Eb,0,none⟩) N N),(17,.slice (some ⟨Qb,0,none⟩) N N),(18,.slice (some ⟨Nb,0,none⟩) N N),(19,I (i:Nat)),(20,Pt x 0)] a) :
 q14_20.wp Tryd.prog (fun e a' w'=>e=.normal∧(Fl 267 [(1,I (s:Nat)),(2,.slice (some ⟨b,o,none⟩) N cap),(9,.slice (some ⟨M,0,none⟩) N N),(12,.slice (some ⟨g,0,none⟩) T ct),(13,I tot),(14,I bus),(15,.slice (some ⟨Cb,0,none⟩) N N),(16,.slice (some ⟨Eb,0,none⟩) N N),(17,.slice (some ⟨Qb,0,none⟩) N N),(18,.slice (some ⟨Nb,0,none⟩) N N),(19,I (i:Nat)),(20,Pt x 0),(21,I (t:Nat))] a'∧w'=v)) a v:=by
 obtain ⟨hsz,hd,hp⟩:=hA
 obtain ⟨u,rfl,hg⟩:=litN hsz hd
 simp only [List.forall_mem_cons,hg] at hp
 obtain ⟨u1,u2,u9,u12,u13,u14,u15,u16,u17,u18,u19,u20,-⟩:=hp
 clear hg hsz hd
 unfold q14_20 C14 Tryd.f14 seq1 seq2 blockC loopC
 simp only [Option.getD_some,lits,Nat.reduceAdd,u1,u2,u9,u12,u13,u14,u15,u16,u17,u18,u19,u20]
 clear u1 u2 u9 u12 u13 u14 u15 u16 u17 u18 u19 u20
 go_wp2_with fail
 first
  |exact ⟨⟨rfl,rfl,by
   intro p hp
   simp only [List.mem_cons,List.not_mem_nil,or_false] at hp
   rcases hp with rfl|rfl|rfl|rfl|rfl|rfl|rfl|rfl|rfl|rfl|rfl|rfl|rfl<;>first|rfl|exact congrArg I (by omega)|exact congrArg Value.bool (by simp<;>omega)|exact congrArg Value.bool (by simp)|(simp;done)⟩,rfl⟩
  |exact ⟨rfl,rfl,by
   intro p hp
   simp only [List.mem_cons,List.not_mem_nil,or_false] at hp
   rcases hp with rfl|rfl|rfl|rfl|rfl|rfl|rfl|rfl|rfl|rfl|rfl|rfl|rfl<;>first|rfl|exact congrArg I (by omega)|exact congrArg Value.bool (by simp<;>omega)|exact congrArg Value.bool (by simp)|(simp;done)⟩
  |exact ⟨rfl,⟨rfl,rfl,by
   intro p hp
   simp only [List.mem_cons,List.not_mem_nil,or_false] at hp
   rcases hp with rfl|rfl|rfl|rfl|rfl|rfl|rfl|rfl|rfl|rfl|rfl|rfl|rfl<;>first|rfl|exact congrArg I (by omega)|exact congrArg Value.bool (by simp<;>omega)|exact congrArg Value.bool (by simp)|(simp;done)⟩,rfl⟩
theorem p14_21 {v:World} {a:Act} {s N b o cap M:Nat} {tot bus:Int} {Cb Eb Qb Nb g T ct i:Nat} {x t:Nat} (ht:t<N) (hA:Fl 267 [(1,I (s:Nat)),(2,.slice (some ⟨b,o,none⟩) N cap),(9,.slice (some ⟨M,0,none⟩) N N),(12,.slice (some ⟨g,0,none⟩) T ct),(13,I tot),(14,I bus),(15,.slice (some ⟨Cb,0,none⟩) N N),(16,.slice (some ⟨Eb,0,none⟩) N N),(17,.slice (some ⟨Qb,0,none⟩) N N),(18,.slice (some ⟨Nb,0,none⟩) N N),(19,I (i:Nat)),(20,Pt x 0),(21,I (t:Nat))] a) :
 q14_21.wp Tryd.prog (fun e a' w'=>e=.normal∧(Fl 267 [(85,.bool false),(1,I (s:Nat)),(2,.slice (some ⟨b,o,none⟩) N cap),(9,.slice (some ⟨M,0,none⟩) N N),(12,.slice (some ⟨g,0,none⟩) T ct),(13,I tot),(14,I bus),(15,.slice (some ⟨Cb,0,none⟩) N N),(16,.slice (some ⟨Eb,0,none⟩) N N),(17,.slice (some ⟨Qb,0,none⟩) N N),(18,.slice (some ⟨Nb,0,none⟩) N N),(19,I (i:Nat)),(20,Pt x 0),(21,I (t:Nat))] a'∧w'=v)) a v:=by
 have h1:¬ (t:Int)<0:=by omega
 have h2:¬ (t:Int)≥(N:Int):=by omega
 obtain ⟨hsz,hd,hp⟩:=hA
 obtain ⟨u,rfl,hg⟩:=litN hsz hd
 simp only [List.forall_mem_cons,hg] at hp
 obtain ⟨u1,u2,u9,u12,u13,u14,u15,u16,u17,u18,u19,u20,u21,-⟩:=hp
 clear hg hsz hd
 unfold q14_21 C14 Tryd.f14 seq1 seq2 blockC loopC
 simp only [Option.getD_some,lits,Nat.reduceAdd,u1,u2,u9,u12,u13,u14,u15,u16,u17,u18,u19,u20,u21]
 clear u1 u2 u9 u12 u13 u14 u15 u16 u17 u18 u19 u20 u21
 go_wp2_with fail
 first
  |exact ⟨⟨rfl,rfl,by
   intro p hp
   simp only [List.mem_cons,List.not_mem_nil,or_false] at hp
   rcases hp with rfl|rfl|rfl|rfl|rfl|rfl|rfl|rfl|rfl|rfl|rfl|rfl|rfl|rfl<;>first|rfl|exact congrArg I (by omega)|exact congrArg Value.bool (by simp<;>omega)|exact congrArg Value.bool (by simp)|(simp;done)⟩,rfl⟩
  |exact ⟨rfl,rfl,by
   intro p hp
   simp only [List.mem_cons,List.not_mem_nil,or_false] at hp
   rcases hp with rfl|rfl|rfl|rfl|rfl|rfl|rfl|rfl|rfl|rfl|rfl|rfl|rfl|rfl<;>first|rfl|exact congrArg I (by omega)|exact congrArg Value.bool (by simp<;>omega)|exact congrArg Value.bool (by simp)|(simp;done)⟩
  |exact ⟨rfl,⟨rfl,rfl,by
   intro p hp
   simp only [List.mem_cons,List.not_mem_nil,or_false] at hp
   rcases hp with rfl|rfl|rfl|rfl|rfl|rfl|rfl|rfl|rfl|rfl|rfl|rfl|rfl|rfl<;>first|rfl|exact congrArg I (by omega)|exact congrArg Value.bool (by simp<;>omega)|exact congrArg Value.bool (by simp)|(simp;done)⟩,rfl⟩
theorem p14_23a {v:World} {a:Act} {s N b o cap M:Nat} {tot bus:Int} {Cb Eb Qb Nb g T ct i:Nat} {x t:Nat} (c2:v.cell? ⟨x,2,none⟩=some (I 9)) (hA:Fl 267 [(1,I (s:Nat)),(2,.slice (some ⟨b,o,none⟩) N cap),(9,.slice (some ⟨M,0,none⟩) N N),(12,.slice (some ⟨g,0,none⟩) T ct),(13,I tot),(14,I bus),(15,.slice (some ⟨Cb,0,none⟩) N N),(16,.slice (some ⟨Eb,0,none⟩) N N),(17,.slice (some ⟨Qb,0,none⟩) N N),(18,.slice (some ⟨Nb,0,none⟩) N N),(19,I (i:Nat)),(20,Pt x 0),(21,I (t:Nat))] a) :
 q14_23.wp Tryd.prog (fun e a' w'=>e=.normal∧(Fl 267 [(93,.bool true),(1,I (s:Nat)),(2,.slice (some ⟨b,o,none⟩) N cap),(9,.slice (some ⟨M,0,none⟩) N N),(12,.slice (some ⟨g,0,none⟩) T ct),(13,I tot),(14,I bus),(15,.slice (some ⟨Cb,0,none⟩) N N),(16,.slice (some ⟨Eb,0,none⟩) N N),(17,.slice (some ⟨Qb,0,none⟩) N N),(18,.slice (some ⟨Nb,0,none⟩) N N),(19,I (i:Nat)),(20,Pt x 0),(21,I (t:Nat))] a'∧w'=v)) a v:=by
 obtain ⟨hsz,hd,hp⟩:=hA
 obtain ⟨u,rfl,hg⟩:=litN hsz hd
 simp only [List.forall_mem_cons,hg] at hp
 obtain ⟨u1,u2,u9,u12,u13,u14,u15,u16,u17,u18,u19,u20,u21,-⟩:=hp
 clear hg hsz hd
 unfold q14_23 C14 Tryd.f14 seq1 seq2 blockC loopC
 simp only [Option.getD_some,lits,Nat.reduceAdd,u1,u2,u9,u12,u13,u14,u15,u16,u17,u18,u19,u20,u21]
 clear u1 u2 u9 u12 u13 u14 u15 u16 u17 u18 u19 u20 u21
 go_wp2_with fail
 first
  |exact ⟨⟨rfl,rfl,by
   intro p hp
   simp only [List.mem_cons,List.not_mem_nil,or_false] at hp
   rcases hp with rfl|rfl|rfl|rfl|rfl|rfl|rfl|rfl|rfl|rfl|rfl|rfl|rfl|rfl<;>first|rfl|exact congrArg I (by omega)|exact congrArg Value.bool (by simp<;>omega)|exact congrArg Value.bool (by simp)|(simp;done)⟩,rfl⟩
  |exact ⟨rfl,rfl,by
   intro p hp
   simp only [List.mem_cons,List.not_mem_nil,or_false] at hp
   rcases hp with rfl|rfl|rfl|rfl|rfl|rfl|rfl|rfl|rfl|rfl|rfl|rfl|rfl|rfl<;>first|rfl|exact congrArg I (by omega)|exact congrArg Value.bool (by simp<;>omega)|exact congrArg Value.bool (by simp)|(simp;done)⟩
  |exact ⟨rfl,⟨rfl,rfl,by
   intro p hp
   simp only [List.mem_cons,List.not_mem_nil,or_false] at hp
   rcases hp with rfl|rfl|rfl|rfl|rfl|rfl|rfl|rfl|rfl|rfl|rfl|rfl|rfl|rfl<;>first|rfl|exact congrArg I (by omega)|exact congrArg Value.bool (by simp<;>omega)|exact congrArg Value.bool (by simp)|(simp;done)⟩,rfl⟩
theorem p14_23b {v:World} {a:Act} {s N b o cap M:Nat} {tot bus:Int} {Cb Eb Qb Nb g T ct i:Nat} {x t:Nat} (c2:v.cell? ⟨x,2,none⟩=some (I 10)) (hA:Fl 267 [(1,I (s:Nat)),(2,.slice (some ⟨b,o,none⟩) N cap),(9,.slice (some ⟨M,0,none⟩) N N),(12,.slice (some ⟨g,0,none⟩) T ct),(13,I tot),(14,I bus),(15,.slice (some ⟨Cb,0,none⟩) N N),(16,.slice (some ⟨Eb,0,none⟩) N N),(17,.slice (some ⟨Qb,0,none⟩) N N),(18,.slice (some ⟨Nb,0,none⟩) N N),(19,I (i:Nat)),(20,Pt x 0),(21,I (t:Nat))] a) :
 q14_23.wp Tryd.prog (fun e a' w'=>e=.normal∧(Fl 267 [(93,.bool true),(1,I (s:Nat)),(2,.slice (some ⟨b,o,none⟩) N cap),(9,.slice (some ⟨M,0,none⟩) N N),(12,.slice (some ⟨g,0,none⟩) T ct),(13,I tot),(14,I bus),(15,.slice (some ⟨Cb,0,none⟩) N N),(16,.slice (some ⟨Eb,0,none⟩) N N),(17,.slice (some ⟨Qb,0,none⟩) N N),(18,.slice (some ⟨Nb,0,none⟩) N N),(19,I (i:Nat)),(20,Pt x 0),(21,I (t:Nat))] a'∧w'=v)) a v:=by
 obtain ⟨hsz,hd,hp⟩:=hA
 obtain ⟨u,rfl,hg⟩:=litN hsz hd
 simp only [List.forall_mem_cons,hg] at hp
 obtain ⟨u1,u2,u9,u12,u13,u14,u15,u16,u17,u18,u19,u20,u21,-⟩:=hp
 clear hg hsz hd
 unfold q14_23 C14 Tryd.f14 seq1 seq2 blockC loopC
 simp only [Option.getD_some,lits,Nat.reduceAdd,u1,u2,u9,u12,u13,u14,u15,u16,u17,u18,u19,u20,u21]
 clear u1 u2 u9 u12 u13 u14 u15 u16 u17 u18 u19 u20 u21
 go_wp2_with fail
 first
  |exact ⟨⟨rfl,rfl,by
   intro p hp
   simp only [List.mem_cons,List.not_mem_nil,or_false] at hp
   rcases hp with rfl|rfl|rfl|rfl|rfl|rfl|rfl|rfl|rfl|rfl|rfl|rfl|rfl|rfl<;>first|rfl|exact congrArg I (by omega)|exact congrArg Value.bool (by simp<;>omega)|exact congrArg Value.bool (by simp)|(simp;done)⟩,rfl⟩
  |exact ⟨rfl,rfl,by
   intro p hp
   simp only [List.mem_cons,List.not_mem_nil,or_false] at hp
   rcases hp with rfl|rfl|rfl|rfl|rfl|rfl|rfl|rfl|rfl|rfl|rfl|rfl|rfl|rfl<;>first|rfl|exact congrArg I (by omega)|exact congrArg Value.bool (by simp<;>omega)|exact congrArg Value.bool (by simp)|(simp;done)⟩
  |exact ⟨rfl,⟨rfl,rfl,by
   intro p hp
   simp only [List.mem_cons,List.not_mem_nil,or_false] at hp
   rcases hp with rfl|rfl|rfl|rfl|rfl|rfl|rfl|rfl|rfl|rfl|rfl|rfl|rfl|rfl<;>first|rfl|exact congrArg I (by omega)|exact congrArg Value.bool (by simp<;>omega)|exact congrArg Value.bool (by simp)|(simp;done)⟩,rfl⟩
theorem p14_23c {v:World} {a:Act} {s N b o cap M:Nat} {tot bus:Int} {Cb Eb Qb Nb g T ct i:Nat} {x t:Nat} {op:Int} (c2:v.cell? ⟨x,2,none⟩=some (I op)) (h9:¬ op=9) (h10:¬ op=10) (hA:Fl 267 [(1,I (s:Nat)),(2,.slice (some ⟨b,o,none⟩) N cap),(9,.slice (some ⟨M,0,none⟩) N N),(12,.slice (some ⟨g,0,none⟩) T ct),(13,I tot),(14,I bus),(15,.slice (some ⟨Cb,0,none⟩) N N),(16,.slice (some ⟨Eb,0,none⟩) N N),(17,.slice (some ⟨Qb,0,none⟩) N N),(18,.slice (some ⟨Nb,0,none⟩) N N),(19,I (i:Nat)),(20,Pt x 0),(21,I (t:Nat))] a) :
 q14_23.wp Tryd.prog (fun e a' w'=>e=.normal∧(Fl 267 [(93,.bool false),(1,I (s:Nat)),(2,.slice (some ⟨b,o,none⟩) N cap),(9,.slice (some ⟨M,0,none⟩) N N),(12,.slice (some ⟨g,0,none⟩) T ct),(13,I tot),(14,I bus),(15,.slice (some ⟨Cb,0,none⟩) N N),(16,.slice (some ⟨Eb,0,none⟩) N N),(17,.slice (some ⟨Qb,0,none⟩) N N),(18,.slice (some ⟨Nb,0,none⟩) N N),(19,I (i:Nat)),(20,Pt x 0),(21,I (t:Nat))] a'∧w'=v)) a v:=by
 have g9:(op==9)=false:=by simp [h9]
 have g10:(op==10)=false:=by simp [h10]
 obtain ⟨hsz,hd,hp⟩:=hA
 obtain ⟨u,rfl,hg⟩:=litN hsz hd
 simp only [List.forall_mem_cons,hg] at hp
 obtain ⟨u1,u2,u9,u12,u13,u14,u15,u16,u17,u18,u19,u20,u21,-⟩:=hp
 clear hg hsz hd
 unfold q14_23 C14 Tryd.f14 seq1 seq2 blockC loopC
 simp only [Option.getD_some,lits,Nat.reduceAdd,u1,u2,u9,u12,u13,u14,u15,u16,u17,u18,u19,u20,u21]
 clear u1 u2 u9 u12 u13 u14 u15 u16 u17 u18 u19 u20 u21
 go_wp2_with fail
 first
  |exact ⟨⟨rfl,rfl,by
   intro p hp
   simp only [List.mem_cons,List.not_mem_nil,or_false] at hp
   rcases hp with rfl|rfl|rfl|rfl|rfl|rfl|rfl|rfl|rfl|rfl|rfl|rfl|rfl|rfl<;>first|rfl|exact congrArg I (by omega)|exact congrArg Value.bool (by simp<;>omega)|exact congrArg Value.bool (by simp)|(simp;done)⟩,rfl⟩
  |exact ⟨rfl,rfl,by
   intro p hp
   simp only [List.mem_cons,List.not_mem_nil,or_false] at hp
   rcases hp with rfl|rfl|rfl|rfl|rfl|rfl|rfl|rfl|rfl|rfl|rfl|rfl|rfl|rfl<;>first|rfl|exact congrArg I (by omega)|exact congrArg Value.bool (by simp<;>omega)|exact congrArg Value.bool (by simp)|(simp;done)⟩
  |exact ⟨rfl,⟨rfl,rfl,by
   intro p hp
   simp only [List.mem_cons,List.not_mem_nil,or_false] at hp
   rcases hp with rfl|rfl|rfl|rfl|rfl|rfl|rfl|rfl|rfl|rfl|rfl|rfl|rfl|rfl<;>first|rfl|exact congrArg I (by omega)|exact congrArg Value.bool (by simp<;>omega)|exact congrArg Value.bool (by simp)|(simp;done)⟩,rfl⟩
theorem p14_26 {v:World} {a:Act} {s N b o cap M:Nat} {tot bus:Int} {Cb Eb Qb Nb g T ct i:Nat} {x t:Nat} {ol c:Int} (ht:t<N) (c3:v.cell? ⟨x,3,none⟩=some (I ol)) (c1:v.cell? ⟨Cb,t,none⟩=some (I c)) (f1:v.frozen? ⟨Cb,t,none⟩=false) (hA:Fl 267 [(1,I (s:Nat)),(2,.slice (some ⟨b,o,none⟩) N cap),(9,.slice (some ⟨M,0,none⟩) N N),(12,.slice (some ⟨g,0,none⟩) T ct),(13,I tot),(14,I bus),(15,.slice (some ⟨Cb,0,none⟩) N N),(16,.slice (some ⟨Eb,0,none⟩) N N),(17,.slice (some ⟨Qb,0,none⟩) N N),(18,.slice (some ⟨Nb,0,none⟩) N N),(19,I (i:Nat)),(20,Pt x 0),(21,I (t:Nat))] a) :
 q14_26.wp Tryd.prog (fun e a' w'=>e=.normal∧(Fl 267 [(1,I (s:Nat)),(2,.slice (some ⟨b,o,none⟩) N cap),(9,.slice (some ⟨M,0,none⟩) N N),(12,.slice (some ⟨g,0,none⟩) T ct),(13,I tot),(14,I bus),(15,.slice (some ⟨Cb,0,none⟩) N N),(16,.slice (some ⟨Eb,0,none⟩) N N),(17,.slice (some ⟨Qb,0,none⟩) N N),(18,.slice (some ⟨Nb,0,none⟩) N N),(19,I (i:Nat)),(20,Pt x 0),(21,I (t:Nat))] a'∧w'=v.setCell ⟨Cb,t,none⟩ (I ol))) a v:=by
 have ht':(t:Int)<(N:Int):=by omega
 obtain ⟨hsz,hd,hp⟩:=hA
 obtain ⟨u,rfl,hg⟩:=litN hsz hd
 simp only [List.forall_mem_cons,hg] at hp
 obtain ⟨u1,u2,u9,u12,u13,u14,u15,u16,u17,u18,u19,u20,u21,-⟩:=hp
 clear hg hsz hd
 unfold q14_26 C14 Tryd.f14 seq1 seq2 condA blockC loopC
 simp only [Option.getD_some,lits,Nat.reduceAdd,u1,u2,u9,u12,u13,u14,u15,u16,u17,u18,u19,u20,u21]
 clear u1 u2 u9 u12 u13 u14 u15 u16 u17 u18 u19 u20 u21
 go_wp2_with fail
 first
  |exact ⟨⟨rfl,rfl,by
   intro p hp
   simp only [List.mem_cons,List.not_mem_nil,or_false] at hp
   rcases hp with rfl|rfl|rfl|rfl|rfl|rfl|rfl|rfl|rfl|rfl|rfl|rfl|rfl<;>first|rfl|exact congrArg I (by omega)|exact congrArg Value.bool (by simp<;>omega)|exact congrArg Value.bool (by simp)|(simp;done)⟩,rfl⟩
  |exact ⟨rfl,rfl,by
   intro p hp
   simp only [List.mem_cons,List.not_mem_nil,or_false] at hp
   rcases hp with rfl|rfl|rfl|rfl|rfl|rfl|rfl|rfl|rfl|rfl|rfl|rfl|rfl<;>first|rfl|exact congrArg I (by omega)|exact congrArg Value.bool (by simp<;>omega)|exact congrArg Value.bool (by simp)|(simp;done)⟩
  |exact ⟨rfl,⟨rfl,rfl,by
   intro p hp
   simp only [List.mem_cons,List.not_mem_nil,or_false] at hp
   rcases hp with rfl|rfl|rfl|rfl|rfl|rfl|rfl|rfl|rfl|rfl|rfl|rfl|rfl<;>first|rfl|exact congrArg I (by omega)|exact congrArg Value.bool (by simp<;>omega)|exact congrArg Value.bool (by simp)|(simp;done)⟩,rfl⟩
theorem p14_27 {v:World} {a:Act} {s N b o cap M:Nat} {tot bus:Int} {Cb Eb Qb Nb g T ct i:Nat} {x t:Nat}  (hA:Fl 267 [(1,I (s:Nat)),(2,.slice (some ⟨b,o,none⟩) N cap),(9,.slice (some ⟨M,0,none⟩) N N),(12,.slice (some ⟨g,0,none⟩) T ct),(13,I tot),(14,I bus),(15,.slice (some ⟨Cb,0,none⟩) N N),(16,.slice (some ⟨Eb,0,none⟩) N N),(17,.slice (some ⟨Qb,0,none⟩) N N),(18,.slice (some ⟨Nb,0,none⟩) N N),(19,I (i:Nat)),(20,Pt x 0),(21,I (t:Nat))] a) :
 q14_27.wp Tryd.prog (fun e a' w'=>e=.normal∧(Fl 267 [(1,I (s:Nat)),(2,.slice (some ⟨b,o,none⟩) N cap),(9,.slice (some ⟨M,0,none⟩) N N),(12,.slice (some ⟨g,0,none⟩) T ct),(13,I tot),(14,I bus),(15,.slice (some ⟨Cb,0,none⟩) N N),(16,.slice (some ⟨Eb,0,none⟩) N N),(17,.slice (some ⟨Qb,0,none⟩) N N),(18,.slice (some ⟨Nb,0,none⟩) N N),(19,I (i:Nat)),(20,Pt x 0),(21,I (t:Nat)),(22,I 0)] a'∧w'=v)) a v:=by
 obtain ⟨hsz,hd,hp⟩:=hA
 obtain ⟨u,rfl,hg⟩:=litN hsz hd
 simp only [List.forall_mem_cons,hg] at hp
 obtain ⟨u1,u2,u9,u12,u13,u14,u15,u16,u17,u18,u19,u20,u21,-⟩:=hp
 clear hg hsz hd
 unfold q14_27 C14 Tryd.f14 seq1 seq2 blockC loopC
 simp only [Option.getD_some,lits,Nat.reduceAdd,u1,u2,u9,u12,u13,u14,u15,u16,u17,u18,u19,u20,u21]
 clear u1 u2 u9 u12 u13 u14 u15 u16 u17 u18 u19 u20 u21
 go_wp2_with fail
 first
  |exact ⟨⟨rfl,rfl,by
   intro p hp
   simp only [List.mem_cons,List.not_mem_nil,or_false] at hp
   rcases hp with rfl|rfl|rfl|rfl|rfl|rfl|rfl|rfl|rfl|rfl|rfl|rfl|rfl|rfl<;>first|rfl|exact congrArg I (by omega)|exact congrArg Value.bool (by simp<;>omega)|exact congrArg Value.bool (by simp)|(simp;done)⟩,rfl⟩
  |exact ⟨rfl,rfl,by
   intro p hp
   simp only [List.mem_cons,List.not_mem_nil,or_false] at hp
   rcases hp with rfl|rfl|rfl|rfl|rfl|rfl|rfl|rfl|rfl|rfl|rfl|rfl|rfl|rfl<;>first|rfl|exact congrArg I (by omega)|exact congrArg Value.bool (by simp<;>omega)|exact congrArg Value.bool (by simp)|(simp;done)⟩
  |exact ⟨rfl,⟨rfl,rfl,by
   intro p hp
   simp only [List.mem_cons,List.not_mem_nil,or_false] at hp
   rcases hp with rfl|rfl|rfl|rfl|rfl|rfl|rfl|rfl|rfl|rfl|rfl|rfl|rfl|rfl<;>first|rfl|exact congrArg I (by omega)|exact congrArg Value.bool (by simp<;>omega)|exact congrArg Value.bool (by simp)|(simp;done)⟩,rfl⟩
theorem p14_30 {v:World} {a:Act} {s N b o cap M:Nat} {tot bus:Int} {Cb Eb Qb Nb g T ct i:Nat} {x t:Nat} {op:Int} {sop:Int} (c2:v.cell? ⟨x,2,none⟩=some (I sop)) (hA:Fl 267 [(1,I (s:Nat)),(2,.slice (some ⟨b,o,none⟩) N cap),(9,.slice (some ⟨M,0,none⟩) N N),(12,.slice (some ⟨g,0,none⟩) T ct),(13,I tot),(14,I bus),(15,.slice (some ⟨Cb,0,none⟩) N N),(16,.slice (some ⟨Eb,0,none⟩) N N),(17,.slice (some ⟨Qb,0,none⟩) N N),(18,.slice (some ⟨Nb,0,none⟩) N N),(19,I (i:Nat)),(20,Pt x 0),(21,I (t:Nat)),(22,I op)] a) :
 q14_30.wp Tryd.prog (fun e a' w'=>e=.normal∧(Fl 267 [(1,I (s:Nat)),(2,.slice (some ⟨b,o,none⟩) N cap),(9,.slice (some ⟨M,0,none⟩) N N),(12,.slice (some ⟨g,0,none⟩) T ct),(13,I tot),(14,I bus),(15,.slice (some ⟨Cb,0,none⟩) N N),(16,.slice (some ⟨Eb,0,none⟩) N N),(17,.slice (some ⟨Qb,0,none⟩) N N),(18,.slice (some ⟨Nb,0,none⟩) N N),(19,I (i:Nat)),(20,Pt x 0),(21,I (t:Nat)),(22,I op),(144,I sop)] a'∧w'=v)) a v:=by
 obtain ⟨hsz,hd,hp⟩:=hA
 obtain ⟨u,rfl,hg⟩:=litN hsz hd
 simp only [List.forall_mem_cons,hg] at hp
 obtain ⟨u1,u2,u9,u12,u13,u14,u15,u16,u17,u18,u19,u20,u21,u22,-⟩:=hp
 clear hg hsz hd
 unfold q14_30 C14 Tryd.f14 seq1 seq2 blockC loopC
 simp only [Option.getD_some,lits,Nat.reduceAdd,u1,u2,u9,u12,u13,u14,u15,u16,u17,u18,u19,u20,u21,u22]
 clear u1 u2 u9 u12 u13 u14 u15 u16 u17 u18 u19 u20 u21 u22
 go_wp2_with fail
 first
  |exact ⟨⟨rfl,rfl,by
   intro p hp
   simp only [List.mem_cons,List.not_mem_nil,or_false] at hp
   rcases hp with rfl|rfl|rfl|rfl|rfl|rfl|rfl|rfl|rfl|rfl|rfl|rfl|rfl|rfl|rfl<;>first|rfl|exact congrArg I (by omega)|exact congrArg Value.bool (by simp<;>omega)|exact congrArg Value.bool (by simp)|(simp;done)⟩,rfl⟩
  |exact ⟨rfl,rfl,by
   intro p hp
   simp only [List.mem_cons,List.not_mem_nil,or_false] at hp
   rcases hp with rfl|rfl|rfl|rfl|rfl|rfl|rfl|rfl|rfl|rfl|rfl|rfl|rfl|rfl|rfl<;>first|rfl|exact congrArg I (by omega)|exact congrArg Value.bool (by simp<;>omega)|exact congrArg Value.bool (by simp)|(simp;done)⟩
  |exact ⟨rfl,⟨rfl,rfl,by
   intro p hp
   simp only [List.mem_cons,List.not_mem_nil,or_false] at hp
   rcases hp with rfl|rfl|rfl|rfl|rfl|rfl|rfl|rfl|rfl|rfl|rfl|rfl|rfl|rfl|rfl<;>first|rfl|exact congrArg I (by omega)|exact congrArg Value.bool (by simp<;>omega)|exact congrArg Value.bool (by simp)|(simp;done)⟩,rfl⟩
theorem p14_38 {v:World} {a:Act} {s N b o cap M:Nat} {tot bus:Int} {Cb Eb Qb Nb g T ct i:Nat} {x t:Nat} {op:Int} {sop:Int}  (hA:Fl 267 [(1,I (s:Nat)),(2,.slice (some ⟨b,o,none⟩) N cap),(9,.slice (some ⟨M,0,none⟩) N N),(12,.slice (some ⟨g,0,none⟩) T ct),(13,I tot),(14,I bus),(15,.slice (some ⟨Cb,0,none⟩) N N),(16,.slice (some ⟨Eb,0,none⟩) N N),(17,.slice (some ⟨Qb,0,none⟩) N N),(18,.slice (some ⟨Nb,0,none⟩) N N),(19,I (i:Nat)),(20,Pt x 0),(21,I (t:Nat)),(22,I op),(144,I sop)] a) :
 q14_38.wp Tryd.prog (fun e a' w'=>e=.normal∧(Fl 267 [(195,.bool (sop==9)),(1,I (s:Nat)),(2,.slice (some ⟨b,o,none⟩) N cap),(9,.slice (some ⟨M,0,none⟩) N N),(12,.slice (some ⟨g,0,none⟩) T ct),(13,I tot),(14,I bus),(15,.slice (some ⟨Cb,0,none⟩) N N),(16,.slice (some ⟨Eb,0,none⟩) N N),(17,.slice (some ⟨Qb,0,none⟩) N N),(18,.slice (some ⟨Nb,0,none⟩) N N),(19,I (i:Nat)),(20,Pt x 0),(21,I (t:Nat)),(22,I op),(144,I sop)] a'∧w'=v)) a v:=by
 obtain ⟨hsz,hd,hp⟩:=hA
 obtain ⟨u,rfl,hg⟩:=litN hsz hd
 simp only [List.forall_mem_cons,hg] at hp
 obtain ⟨u1,u2,u9,u12,u13,u14,u15,u16,u17,u18,u19,u20,u21,u22,u144,-⟩:=hp
 clear hg hsz hd
 unfold q14_38 C14 Tryd.f14 seq1 seq2 blockC loopC
 simp only [Option.getD_some,lits,Nat.reduceAdd,u1,u2,u9,u12,u13,u14,u15,u16,u17,u18,u19,u20,u21,u22,u144]
 clear u1 u2 u9 u12 u13 u14 u15 u16 u17 u18 u19 u20 u21 u22 u144
 go_wp2_with fail
 first
  |exact ⟨⟨rfl,rfl,by
   intro p hp
   simp only [List.mem_cons,List.not_mem_nil,or_false] at hp
   rcases hp with rfl|rfl|rfl|rfl|rfl|rfl|rfl|rfl|rfl|rfl|rfl|rfl|rfl|rfl|rfl|rfl<;>first|rfl|exact congrArg I (by omega)|exact congrArg Value.bool (by simp<;>omega)|exact congrArg Value.bool (by simp)|(simp;done)⟩,rfl⟩
  |exact ⟨rfl,rfl,by
   intro p hp
   simp only [List.mem_cons,List.not_mem_nil,or_false] at hp
   rcases hp with rfl|rfl|rfl|rfl|rfl|rfl|rfl|rfl|rfl|rfl|rfl|rfl|rfl|rfl|rfl|rfl<;>first|rfl|exact congrArg I (by omega)|exact congrArg Value.bool (by simp<;>omega)|exact congrArg Value.bool (by simp)|(simp;done)⟩
  |exact ⟨rfl,⟨rfl,rfl,by
   intro p hp
   simp only [List.mem_cons,List.not_mem_nil,or_false] at hp
   rcases hp with rfl|rfl|rfl|rfl|rfl|rfl|rfl|rfl|rfl|rfl|rfl|rfl|rfl|rfl|rfl|rfl<;>first|rfl|exact congrArg I (by omega)|exact congrArg Value.bool (by simp<;>omega)|exact congrArg Value.bool (by simp)|(simp;done)⟩,rfl⟩
theorem p14_39 {v:World} {a:Act} {s N b o cap M:Nat} {tot bus:Int} {Cb Eb Qb Nb g T ct i:Nat} {x t:Nat} {op:Int} {sop:Int}  (hA:Fl 267 [(1,I (s:Nat)),(2,.slice (some ⟨b,o,none⟩) N cap),(9,.slice (some ⟨M,0,none⟩) N N),(12,.slice (some ⟨g,0,none⟩) T ct),(13,I tot),(14,I bus),(15,.slice (some ⟨Cb,0,none⟩) N N),(16,.slice (some ⟨Eb,0,none⟩) N N),(17,.slice (some ⟨Qb,0,none⟩) N N),(18,.slice (some ⟨Nb,0,none⟩) N N),(19,I (i:Nat)),(20,Pt x 0),(21,I (t:Nat)),(22,I op),(144,I sop)] a) :
 q14_39.wp Tryd.prog (fun e a' w'=>e=.normal∧(Fl 267 [(198,.bool (op==1)),(1,I (s:Nat)),(2,.slice (some ⟨b,o,none⟩) N cap),(9,.slice (some ⟨M,0,none⟩) N N),(12,.slice (some ⟨g,0,none⟩) T ct),(13,I tot),(14,I bus),(15,.slice (some ⟨Cb,0,none⟩) N N),(16,.slice (some ⟨Eb,0,none⟩) N N),(17,.slice (some ⟨Qb,0,none⟩) N N),(18,.slice (some ⟨Nb,0,none⟩) N N),(19,I (i:Nat)),(20,Pt x 0),(21,I (t:Nat)),(22,I op),(144,I sop)] a'∧w'=v)) a v:=by
 obtain ⟨hsz,hd,hp⟩:=hA
 obtain ⟨u,rfl,hg⟩:=litN hsz hd
 simp only [List.forall_mem_cons,hg] at hp
 obtain ⟨u1,u2,u9,u12,u13,u14,u15,u16,u17,u18,u19,u20,u21,u22,u144,-⟩:=hp
 clear hg hsz hd
 unfold q14_39 C14 Tryd.f14 seq1 seq2 condA blockC loopC
 simp only [Option.getD_some,lits,Nat.reduceAdd,u1,u2,u9,u12,u13,u14,u15,u16,u17,u18,u19,u20,u21,u22,u144]
 clear u1 u2 u9 u12 u13 u14 u15 u16 u17 u18 u19 u20 u21 u22 u144
 go_wp2_with fail
 first
  |exact ⟨⟨rfl,rfl,by
   intro p hp
   simp only [List.mem_cons,List.not_mem_nil,or_false] at hp
   rcases hp with rfl|rfl|rfl|rfl|rfl|rfl|rfl|rfl|rfl|rfl|rfl|rfl|rfl|rfl|rfl|rfl<;>first|rfl|exact congrArg I (by omega)|exact congrArg Value.bool (by simp<;>omega)|exact congrArg Value.bool (by simp)|(simp;done)⟩,rfl⟩
  |exact ⟨rfl,rfl,by
   intro p hp
   simp only [List.mem_cons,List.not_mem_nil,or_false] at hp
   rcases hp with rfl|rfl|rfl|rfl|rfl|rfl|rfl|rfl|rfl|rfl|rfl|rfl|rfl|rfl|rfl|rfl<;>first|rfl|exact congrArg I (by omega)|exact congrArg Value.bool (by simp<;>omega)|exact congrArg Value.bool (by simp)|(simp;done)⟩
  |exact ⟨rfl,⟨rfl,rfl,by
   intro p hp
   simp only [List.mem_cons,List.not_mem_nil,or_false] at hp
   rcases hp with rfl|rfl|rfl|rfl|rfl|rfl|rfl|rfl|rfl|rfl|rfl|rfl|rfl|rfl|rfl|rfl<;>first|rfl|exact congrArg I (by omega)|exact congrArg Value.bool (by simp<;>omega)|exact congrArg Value.bool (by simp)|(simp;done)⟩,rfl⟩
theorem p14_40 {v:World} {a:Act} {s N b o cap M:Nat} {tot bus:Int} {Cb Eb Qb Nb g T ct i:Nat} {x t:Nat} {op:Int} {sop:Int} (hb:-1000000≤bus∧bus≤1000000) (hA:Fl 267 [(1,I (s:Nat)),(2,.slice (some ⟨b,o,none⟩) N cap),(9,.slice (some ⟨M,0,none⟩) N N),(12,.slice (some ⟨g,0,none⟩) T ct),(13,I tot),(14,I bus),(15,.slice (some ⟨Cb,0,none⟩) N N),(16,.slice (some ⟨Eb,0,none⟩) N N),(17,.slice (some ⟨Qb,0,none⟩) N N),(18,.slice (some ⟨Nb,0,none⟩) N N),(19,I (i:Nat)),(20,Pt x 0),(21,I (t:Nat)),(22,I op),(144,I sop)] a) :
 q14_40.wp Tryd.prog (fun e a' w'=>e=.normal∧(Fl 267 [(1,I (s:Nat)),(2,.slice (some ⟨b,o,none⟩) N cap),(9,.slice (some ⟨M,0,none⟩) N N),(12,.slice (some ⟨g,0,none⟩) T ct),(13,I tot),(14,I (bus+1)),(15,.slice (some ⟨Cb,0,none⟩) N N),(16,.slice (some ⟨Eb,0,none⟩) N N),(17,.slice (some ⟨Qb,0,none⟩) N N),(18,.slice (some ⟨Nb,0,none⟩) N N),(19,I (i:Nat)),(20,Pt x 0),(21,I (t:Nat)),(22,I op),(144,I sop)] a'∧w'=v)) a v:=by
 have h9:wrap64 (bus+1)=bus+1:=by unfold wrap64;omega
 obtain ⟨hsz,hd,hp⟩:=hA
 obtain ⟨u,rfl,hg⟩:=litN hsz hd
 simp only [List.forall_mem_cons,hg] at hp
 obtain ⟨u1,u2,u9,u12,u13,u14,u15,u16,u17,u18,u19,u20,u21,u22,u144,-⟩:=hp
 clear hg hsz hd
 unfold q14_40 C14 Tryd.f14 seq1 seq2 condA blockC loopC
 simp only [Option.getD_some,lits,Nat.reduceAdd,u1,u2,u9,u12,u13,u14,u15,u16,u17,u18,u19,u20,u21,u22,u144]
 clear u1 u2 u9 u12 u13 u14 u15 u16 u17 u18 u19 u20 u21 u22 u144
 go_wp2_with fail
 first
  |exact ⟨⟨rfl,rfl,by
   intro p hp
   simp only [List.mem_cons,List.not_mem_nil,or_false] at hp
   rcases hp with rfl|rfl|rfl|rfl|rfl|rfl|rfl|rfl|rfl|rfl|rfl|rfl|rfl|rfl|rfl<;>first|rfl|exact congrArg I (by omega)|exact congrArg Value.bool (by simp<;>omega)|exact congrArg Value.bool (by simp)|(simp;done)⟩,rfl⟩
  |exact ⟨rfl,rfl,by
   intro p hp
   simp only [List.mem_cons,List.not_mem_nil,or_false] at hp
   rcases hp with rfl|rfl|rfl|rfl|rfl|rfl|rfl|rfl|rfl|rfl|rfl|rfl|rfl|rfl|rfl<;>first|rfl|exact congrArg I (by omega)|exact congrArg Value.bool (by simp<;>omega)|exact congrArg Value.bool (by simp)|(simp;done)⟩
  |exact ⟨rfl,⟨rfl,rfl,by
   intro p hp
   simp only [List.mem_cons,List.not_mem_nil,or_false] at hp
   rcases hp with rfl|rfl|rfl|rfl|rfl|rfl|rfl|rfl|rfl|rfl|rfl|rfl|rfl|rfl|rfl<;>first|rfl|exact congrArg I (by omega)|exact congrArg Value.bool (by simp<;>omega)|exact congrArg Value.bool (by simp)|(simp;done)⟩,rfl⟩
theorem p14_50 {v:World} {a:Act} {s N b o cap M:Nat} {tot bus:Int} {Cb Eb Qb Nb g T ct i:Nat} {x t:Nat} {op:Int} {sop:Int} (hb:-1000000≤bus∧bus≤1000000) (hA:Fl 267 [(1,I (s:Nat)),(2,.slice (some ⟨b,o,none⟩) N cap),(9,.slice (some ⟨M,0,none⟩) N N),(12,.slice (some ⟨g,0,none⟩) T ct),(13,I tot),(14,I bus),(15,.slice (some ⟨Cb,0,none⟩) N N),(16,.slice (some ⟨Eb,0,none⟩) N N),(17,.slice (some ⟨Qb,0,none⟩) N N),(18,.slice (some ⟨Nb,0,none⟩) N N),(19,I (i:Nat)),(20,Pt x 0),(21,I (t:Nat)),(22,I op),(144,I sop)] a) :
 q14_50.wp Tryd.prog (fun e a' w'=>e=.normal∧(Fl 267 [(1,I (s:Nat)),(2,.slice (some ⟨b,o,none⟩) N cap),(9,.slice (some ⟨M,0,none⟩) N N),(12,.slice (some ⟨g,0,none⟩) T ct),(13,I tot),(14,I (bus - 1)),(15,.slice (some ⟨Cb,0,none⟩) N N),(16,.slice (some ⟨Eb,0,none⟩) N N),(17,.slice (some ⟨Qb,0,none⟩) N N),(18,.slice (some ⟨Nb,0,none⟩) N N),(19,I (i:Nat)),(20,Pt x 0),(21,I (t:Nat)),(22,I op),(144,I sop)] a'∧w'=v)) a v:=by
 have h9:wrap64 (bus - 1)=bus - 1:=by unfold wrap64;omega
 obtain ⟨hsz,hd,hp⟩:=hA
 obtain ⟨u,rfl,hg⟩:=litN hsz hd
 simp only [List.forall_mem_cons,hg] at hp
 obtain ⟨u1,u2,u9,u12,u13,u14,u15,u16,u17,u18,u19,u20,u21,u22,u144,-⟩:=hp
 clear hg hsz hd
 unfold q14_50 C14 Tryd.f14 seq1 seq2 condA condB blockC loopC
 simp only [Option.getD_some,lits,Nat.reduceAdd,u1,u2,u9,u12,u13,u14,u15,u16,u17,u18,u19,u20,u21,u22,u144]
 clear u1 u2 u9 u12 u13 u14 u15 u16 u17 u18 u19 u20 u21 u22 u144
 go_wp2_with fail
 first
  |exact ⟨⟨rfl,rfl,by
   intro p hp
   simp only [List.mem_cons,List.not_mem_nil,or_false] at hp
   rcases hp with rfl|rfl|rfl|rfl|rfl|rfl|rfl|rfl|rfl|rfl|rfl|rfl|rfl|rfl|rfl<;>first|rfl|exact congrArg I (by omega)|exact congrArg Value.bool (by simp<;>omega)|exact congrArg Value.bool (by simp)|(simp;done)⟩,rfl⟩
  |exact ⟨rfl,rfl,by
   intro p hp
   simp only [List.mem_cons,List.not_mem_nil,or_false] at hp
   rcases hp with rfl|rfl|rfl|rfl|rfl|rfl|rfl|rfl|rfl|rfl|rfl|rfl|rfl|rfl|rfl<;>first|rfl|exact congrArg I (by omega)|exact congrArg Value.bool (by simp<;>omega)|exact congrArg Value.bool (by simp)|(simp;done)⟩
  |exact ⟨rfl,⟨rfl,rfl,by
   intro p hp
   simp only [List.mem_cons,List.not_mem_nil,or_false] at hp
   rcases hp with rfl|rfl|rfl|rfl|rfl|rfl|rfl|rfl|rfl|rfl|rfl|rfl|rfl|rfl|rfl<;>first|rfl|exact congrArg I (by omega)|exact congrArg Value.bool (by simp<;>omega)|exact congrArg Value.bool (by simp)|(simp;done)⟩,rfl⟩
theorem p14_41 {v:World} {a:Act} {s N b o cap M:Nat} {tot bus:Int} {Cb Eb Qb Nb g T ct i:Nat} {x t:Nat} {op:Int} {sop:Int}  (hA:Fl 267 [(1,I (s:Nat)),(2,.slice (some ⟨b,o,none⟩) N cap),(9,.slice (some ⟨M,0,none⟩) N N),(12,.slice (some ⟨g,0,none⟩) T ct),(13,I tot),(14,I bus),(15,.slice (some ⟨Cb,0,none⟩) N N),(16,.slice (some ⟨Eb,0,none⟩) N N),(17,.slice (some ⟨Qb,0,none⟩) N N),(18,.slice (some ⟨Nb,0,none⟩) N N),(19,I (i:Nat)),(20,Pt x 0),(21,I (t:Nat)),(22,I op),(144,I sop)] a) :
 q14_41.wp Tryd.prog (fun e a' w'=>e=.normal∧(Fl 267 [(1,I (s:Nat)),(2,.slice (some ⟨b,o,none⟩) N cap),(9,.slice (some ⟨M,0,none⟩) N N),(12,.slice (some ⟨g,0,none⟩) T ct),(13,I tot),(14,I bus),(15,.slice (some ⟨Cb,0,none⟩) N N),(16,.slice (some ⟨Eb,0,none⟩) N N),(17,.slice (some ⟨Qb,0,none⟩) N N),(18,.slice (some ⟨Nb,0,none⟩) N N),(19,I (i:Nat)),(20,Pt x 0),(21,I (t:Nat)),(22,I op),(144,I sop),(23,I ((0:Nat):Int))] a'∧w'=v)) a v:=by
 obtain ⟨hsz,hd,hp⟩:=hA
 obtain ⟨u,rfl,hg⟩:=litN hsz hd
 simp only [List.forall_mem_cons,hg] at hp
 obtain ⟨u1,u2,u9,u12,u13,u14,u15,u16,u17,u18,u19,u20,u21,u22,u144,-⟩:=hp
 clear hg hsz hd
 unfold q14_41 C14 Tryd.f14 seq1 seq2 condA blockC loopC
 simp only [Option.getD_some,lits,Nat.reduceAdd,u1,u2,u9,u12,u13,u14,u15,u16,u17,u18,u19,u20,u21,u22,u144]
 clear u1 u2 u9 u12 u13 u14 u15 u16 u17 u18 u19 u20 u21 u22 u144
 go_wp2_with fail
 first
  |exact ⟨⟨rfl,rfl,by
   intro p hp
   simp only [List.mem_cons,List.not_mem_nil,or_false] at hp
   rcases hp with rfl|rfl|rfl|rfl|rfl|rfl|rfl|rfl|rfl|rfl|rfl|rfl|rfl|rfl|rfl|rfl<;>first|rfl|exact congrArg I (by omega)|exact congrArg Value.bool (by simp<;>omega)|exact congrArg Value.bool (by simp)|(simp;done)⟩,rfl⟩
  |exact ⟨rfl,rfl,by
   intro p hp
   simp only [List.mem_cons,List.not_mem_nil,or_false] at hp
   rcases hp with rfl|rfl|rfl|rfl|rfl|rfl|rfl|rfl|rfl|rfl|rfl|rfl|rfl|rfl|rfl|rfl<;>first|rfl|exact congrArg I (by omega)|exact congrArg Value.bool (by simp<;>omega)|exact congrArg Value.bool (by simp)|(simp;done)⟩
  |exact ⟨rfl,⟨rfl,rfl,by
   intro p hp
   simp only [List.mem_cons,List.not_mem_nil,or_false] at hp
   rcases hp with rfl|rfl|rfl|rfl|rfl|rfl|rfl|rfl|rfl|rfl|rfl|rfl|rfl|rfl|rfl|rfl<;>first|rfl|exact congrArg I (by omega)|exact congrArg Value.bool (by simp<;>omega)|exact congrArg Value.bool (by simp)|(simp;done)⟩,rfl⟩
theorem p14_42 {v:World} {a:Act} {s N b o cap M:Nat} {tot bus:Int} {Cb Eb Qb Nb g T ct i:Nat} {x t:Nat} {op:Int} {sop:Int} {k:Nat}  (hA:Fl 267 [(1,I (s:Nat)),(2,.slice (some ⟨b,o,none⟩) N cap),(9,.slice (some ⟨M,0,none⟩) N N),(12,.slice (some ⟨g,0,none⟩) T ct),(13,I tot),(14,I bus),(15,.slice (some ⟨Cb,0,none⟩) N N),(16,.slice (some ⟨Eb,0,none⟩) N N),(17,.slice (some ⟨Qb,0,none⟩) N N),(18,.slice (some ⟨Nb,0,none⟩) N N),(19,I (i:Nat)),(20,Pt x 0),(21,I (t:Nat)),(22,I op),(144,I sop),(23,I (k:Nat))] a) :
 q14_42.wp Tryd.prog (fun e a' w'=>e=.normal∧(Fl 267 [(204,.bool (decide (k<N))),(1,I (s:Nat)),(2,.slice (some ⟨b,o,none⟩) N cap),(9,.slice (some ⟨M,0,none⟩) N N),(12,.slice (some ⟨g,0,none⟩) T ct),(13,I tot),(14,I bus),(15,.slice (some ⟨Cb,0,none⟩) N N),(16,.slice (some ⟨Eb,0,none⟩) N N),(17,.slice (some ⟨Qb,0,none⟩) N N),(18,.slice (some ⟨Nb,0,none⟩) N N),(19,I (i:Nat)),(20,Pt x 0),(21,I (t:Nat)),(22,I op),(144,I sop),(23,I (k:Nat))] a'∧w'=v)) a v:=by
 obtain ⟨hsz,hd,hp⟩:=hA
 obtain ⟨u,rfl,hg⟩:=litN hsz hd
 simp only [List.forall_mem_cons,hg] at hp
 obtain ⟨u1,u2,u9,u12,u13,u14,u15,u16,u17,u18,u19,u20,u21,u22,u144,u23,-⟩:=hp
 clear hg hsz hd
 unfold q14_42 C14 Tryd.f14 seq1 seq2 condA blockC loopC
 simp only [Option.getD_some,lits,Nat.reduceAdd,u1,u2,u9,u12,u13,u14,u15,u16,u17,u18,u19,u20,u21,u22,u144,u23]
 clear u1 u2 u9 u12 u13 u14 u15 u16 u17 u18 u19 u20 u21 u22 u144 u23
 go_wp2_with fail
 first
  |exact ⟨⟨rfl,rfl,by
   intro p hp
   simp only [List.mem_cons,List.not_mem_nil,or_false] at hp
   rcases hp with rfl|rfl|rfl|rfl|rfl|rfl|rfl|rfl|rfl|rfl|rfl|rfl|rfl|rfl|rfl|rfl|rfl<;>first|rfl|exact congrArg I (by omega)|exact congrArg Value.bool (by simp<;>omega)|exact congrArg Value.bool (by simp)|(simp;done)⟩,rfl⟩
  |exact ⟨rfl,rfl,by
   intro p hp
   simp only [List.mem_cons,List.not_mem_nil,or_false] at hp
   rcases hp with rfl|rfl|rfl|rfl|rfl|rfl|rfl|rfl|rfl|rfl|rfl|rfl|rfl|rfl|rfl|rfl|rfl<;>first|rfl|exact congrArg I (by omega)|exact congrArg Value.bool (by simp<;>omega)|exact congrArg Value.bool (by simp)|(simp;done)⟩
  |exact ⟨rfl,⟨rfl,rfl,by
   intro p hp
   simp only [List.mem_cons,List.not_mem_nil,or_false] at hp
   rcases hp with rfl|rfl|rfl|rfl|rfl|rfl|rfl|rfl|rfl|rfl|rfl|rfl|rfl|rfl|rfl|rfl|rfl<;>first|rfl|exact congrArg I (by omega)|exact congrArg Value.bool (by simp<;>omega)|exact congrArg Value.bool (by simp)|(simp;done)⟩,rfl⟩
theorem p14_44 {v:World} {a:Act} {s N b o cap M:Nat} {tot bus:Int} {Cb Eb Qb Nb g T ct i:Nat} {x t:Nat} {op:Int} {sop:Int} {k:Nat} {c:Bool} (hk:k<N) (c1:v.cell? ⟨Qb,k,none⟩=some (.bool c)) (f1:v.frozen? ⟨Qb,k,none⟩=false) (hA:Fl 267 [(1,I (s:Nat)),(2,.slice (some ⟨b,o,none⟩) N cap),(9,.slice (some ⟨M,0,none⟩) N N),(12,.slice (some ⟨g,0,none⟩) T ct),(13,I tot),(14,I bus),(15,.slice (some ⟨Cb,0,none⟩) N N),(16,.slice (some ⟨Eb,0,none⟩) N N),(17,.slice (some ⟨Qb,0,none⟩) N N),(18,.slice (some ⟨Nb,0,none⟩) N N),(19,I (i:Nat)),(20,Pt x 0),(21,I (t:Nat)),(22,I op),(144,I sop),(23,I (k:Nat))] a) :
 q14_44.wp Tryd.prog (fun e a' w'=>e=.normal∧(Fl 267 [(1,I (s:Nat)),(2,.slice (some ⟨b,o,none⟩) N cap),(9,.slice (some ⟨M,0,none⟩) N N),(12,.slice (some ⟨g,0,none⟩) T ct),(13,I tot),(14,I bus),(15,.slice (some ⟨Cb,0,none⟩) N N),(16,.slice (some ⟨Eb,0,none⟩) N N),(17,.slice (some ⟨Qb,0,none⟩) N N),(18,.slice (some ⟨Nb,0,none⟩) N N),(19,I (i:Nat)),(20,Pt x 0),(21,I (t:Nat)),(22,I op),(144,I sop),(23,I (k:Nat))] a'∧w'=v.setCell ⟨Qb,k,none⟩ (.bool false))) a v:=by
 have hk':(k:Int)<(N:Int):=by omega
 obtain ⟨hsz,hd,hp⟩:=hA
 obtain ⟨u,rfl,hg⟩:=litN hsz hd
 simp only [List.forall_mem_cons,hg] at hp
 obtain ⟨u1,u2,u9,u12,u13,u14,u15,u16,u17,u18,u19,u20,u21,u22,u144,u23,-⟩:=hp
 clear hg hsz hd
 unfold q14_44 C14 Tryd.f14 seq1 seq2 condA blockC loopC
 simp only [Option.getD_some,lits,Nat.reduceAdd,u1,u2,u9,u12,u13,u14,u15,u16,u17,u18,u19,u20,u21,u22,u144,u23]
 clear u1 u2 u9 u12 u13 u14 u15 u16 u17 u18 u19 u20 u21 u22 u144 u23
 go_wp2_with fail
 first
  |exact ⟨⟨rfl,rfl,by
   intro p hp
   simp only [List.mem_cons,List.not_mem_nil,or_false] at hp
   rcases hp with rfl|rfl|rfl|rfl|rfl|rfl|rfl|rfl|rfl|rfl|rfl|rfl|rfl|rfl|rfl|rfl<;>first|rfl|exact congrArg I (by omega)|exact congrArg Value.bool (by simp<;>omega)|exact congrArg Value.bool (by simp)|(simp;done)⟩,rfl⟩
  |exact ⟨rfl,rfl,by
   intro p hp
   simp only [List.mem_cons,List.not_mem_nil,or_false] at hp
   rcases hp with rfl|rfl|rfl|rfl|rfl|rfl|rfl|rfl|rfl|rfl|rfl|rfl|rfl|rfl|rfl|rfl<;>first|rfl|exact congrArg I (by omega)|exact congrArg Value.bool (by simp<;>omega)|exact congrArg Value.bool (by simp)|(simp;done)⟩
  |exact ⟨rfl,⟨rfl,rfl,by
   intro p hp
   simp only [List.mem_cons,List.not_mem_nil,or_false] at hp
   rcases hp with rfl|rfl|rfl|rfl|rfl|rfl|rfl|rfl|rfl|rfl|rfl|rfl|rfl|rfl|rfl|rfl<;>first|rfl|exact congrArg I (by omega)|exact congrArg Value.bool (by simp<;>omega)|exact congrArg Value.bool (by simp)|(simp;done)⟩,rfl⟩
theorem p14_43 {v:World} {a:Act} {s N b o cap M:Nat} {tot bus:Int} {Cb Eb Qb Nb g T ct i:Nat} {x t:Nat} {op:Int} {sop:Int} {k:Nat} (hq:k<1000000000) (hA:Fl 267 [(1,I (s:Nat)),(2,.slice (some ⟨b,o,none⟩) N cap),(9,.slice (some ⟨M,0,none⟩) N N),(12,.slice (some ⟨g,0,none⟩) T ct),(13,I tot),(14,I bus),(15,.slice (some ⟨Cb,0,none⟩) N N),(16,.slice (some ⟨Eb,0,none⟩) N N),(17,.slice (some ⟨Qb,0,none⟩) N N),(18,.slice (some ⟨Nb,0,none⟩) N N),(19,I (i:Nat)),(20,Pt x 0),(21,I (t:Nat)),(22,I op),(144,I sop),(23,I (k:Nat))] a) :
 q14_43.wp Tryd.prog (fun e a' w'=>e=.normal∧(Fl 267 [(1,I (s:Nat)),(2,.slice (some ⟨b,o,none⟩) N cap),(9,.slice (some ⟨M,0,none⟩) N N),(12,.slice (some ⟨g,0,none⟩) T ct),(13,I tot),(14,I bus),(15,.slice (some ⟨Cb,0,none⟩) N N),(16,.slice (some ⟨Eb,0,none⟩) N N),(17,.slice (some ⟨Qb,0,none⟩) N N),(18,.slice (some ⟨Nb,0,none⟩) N N),(19,I (i:Nat)),(20,Pt x 0),(21,I (t:Nat)),(22,I op),(144,I sop),(23,I ((k+1:Nat):Int))] a'∧w'=v)) a v:=by
 have h9:wrap64 ((k:Int)+1)=((k+1:Nat):Int):=by unfold wrap64;omega
 obtain ⟨hsz,hd,hp⟩:=hA
 obtain ⟨u,rfl,hg⟩:=litN hsz hd
 simp only [List.forall_mem_cons,hg] at hp
 obtain ⟨u1,u2,u9,u12,u13,u14,u15,u16,u17,u18,u19,u20,u21,u22,u144,u23,-⟩:=hp
 clear hg hsz hd
 unfold q14_43 C14 Tryd.f14 seq1 seq2 condA blockC loopC
 simp only [Option.getD_some,lits,Nat.reduceAdd,u1,u2,u9,u12,u13,u14,u15,u16,u17,u18,u19,u20,u21,u22,u144,u23]
 clear u1 u2 u9 u12 u13 u14 u15 u16 u17 u18 u19 u20 u21 u22 u144 u23
 go_wp2_with fail
 first
  |exact ⟨⟨rfl,rfl,by
   intro p hp
   simp only [List.mem_cons,List.not_mem_nil,or_false] at hp
   rcases hp with rfl|rfl|rfl|rfl|rfl|rfl|rfl|rfl|rfl|rfl|rfl|rfl|rfl|rfl|rfl|rfl<;>first|rfl|exact congrArg I (by omega)|exact congrArg Value.bool (by simp<;>omega)|exact congrArg Value.bool (by simp)|(simp;done)⟩,rfl⟩
  |exact ⟨rfl,rfl,by
   intro p hp
   simp only [List.mem_cons,List.not_mem_nil,or_false] at hp
   rcases hp with rfl|rfl|rfl|rfl|rfl|rfl|rfl|rfl|rfl|rfl|rfl|rfl|rfl|rfl|rfl|rfl<;>first|rfl|exact congrArg I (by omega)|exact congrArg Value.bool (by simp<;>omega)|exact congrArg Value.bool (by simp)|(simp;done)⟩
  |exact ⟨rfl,⟨rfl,rfl,by
   intro p hp
   simp only [List.mem_cons,List.not_mem_nil,or_false] at hp
   rcases hp with rfl|rfl|rfl|rfl|rfl|rfl|rfl|rfl|rfl|rfl|rfl|rfl|rfl|rfl|rfl|rfl<;>first|rfl|exact congrArg I (by omega)|exact congrArg Value.bool (by simp<;>omega)|exact congrArg Value.bool (by simp)|(simp;done)⟩,rfl⟩
theorem p14_45 {v:World} {a:Act} {s N b o cap M:Nat} {tot bus:Int} {Cb Eb Qb Nb g T ct i:Nat} {x t:Nat} {op:Int} {sop:Int} {c:Bool} (ht:t<N) (c1:v.cell? ⟨Qb,t,none⟩=some (.bool c)) (f1:v.frozen? ⟨Qb,t,none⟩=false) (hA:Fl 267 [(1,I (s:Nat)),(2,.slice (some ⟨b,o,none⟩) N cap),(9,.slice (some ⟨M,0,none⟩) N N),(12,.slice (some ⟨g,0,none⟩) T ct),(13,I tot),(14,I bus),(15,.slice (some ⟨Cb,0,none⟩) N N),(16,.slice (some ⟨Eb,0,none⟩) N N),(17,.slice (some ⟨Qb,0,none⟩) N N),(18,.slice (some ⟨Nb,0,none⟩) N N),(19,I (i:Nat)),(20,Pt x 0),(21,I (t:Nat)),(22,I op),(144,I sop)] a) :
 q14_45.wp Tryd.prog (fun e a' w'=>e=.normal∧(Fl 267 [(1,I (s:Nat)),(2,.slice (some ⟨b,o,none⟩) N cap),(9,.slice (some ⟨M,0,none⟩) N N),(12,.slice (some ⟨g,0,none⟩) T ct),(13,I tot),(14,I bus),(15,.slice (some ⟨Cb,0,none⟩) N N),(16,.slice (some ⟨Eb,0,none⟩) N N),(17,.slice (some ⟨Qb,0,none⟩) N N),(18,.slice (some ⟨Nb,0,none⟩) N N),(19,I (i:Nat)),(20,Pt x 0),(21,I (t:Nat)),(22,I op),(144,I sop)] a'∧w'=v.setCell ⟨Qb,t,none⟩ (.bool (bus==0)))) a v:=by
 have ht':(t:Int)<(N:Int):=by omega
 obtain ⟨hsz,hd,hp⟩:=hA
 obtain ⟨u,rfl,hg⟩:=litN hsz hd
 simp only [List.forall_mem_cons,hg] at hp
 obtain ⟨u1,u2,u9,u12,u13,u14,u15,u16,u17,u18,u19,u20,u21,u22,u144,-⟩:=hp
 clear hg hsz hd
 unfold q14_45 C14 Tryd.f14 seq1 seq2 condA blockC loopC
 simp only [Option.getD_some,lits,Nat.reduceAdd,u1,u2,u9,u12,u13,u14,u15,u16,u17,u18,u19,u20,u21,u22,u144]
 clear u1 u2 u9 u12 u13 u14 u15 u16 u17 u18 u19 u20 u21 u22 u144
 go_wp2_with fail
 first
  |exact ⟨⟨rfl,rfl,by
   intro p hp
   simp only [List.mem_cons,List.not_mem_nil,or_false] at hp
   rcases hp with rfl|rfl|rfl|rfl|rfl|rfl|rfl|rfl|rfl|rfl|rfl|rfl|rfl|rfl|rfl<;>first|rfl|exact congrArg I (by omega)|exact congrArg Value.bool (by simp<;>omega)|exact congrArg Value.bool (by simp)|(simp;done)⟩,rfl⟩
  |exact ⟨rfl,rfl,by
   intro p hp
   simp only [List.mem_cons,List.not_mem_nil,or_false] at hp
   rcases hp with rfl|rfl|rfl|rfl|rfl|rfl|rfl|rfl|rfl|rfl|rfl|rfl|rfl|rfl|rfl<;>first|rfl|exact congrArg I (by omega)|exact congrArg Value.bool (by simp<;>omega)|exact congrArg Value.bool (by simp)|(simp;done)⟩
  |exact ⟨rfl,⟨rfl,rfl,by
   intro p hp
   simp only [List.mem_cons,List.not_mem_nil,or_false] at hp
   rcases hp with rfl|rfl|rfl|rfl|rfl|rfl|rfl|rfl|rfl|rfl|rfl|rfl|rfl|rfl|rfl<;>first|rfl|exact congrArg I (by omega)|exact congrArg Value.bool (by simp<;>omega)|exact congrArg Value.bool (by simp)|(simp;done)⟩,rfl⟩
theorem p14_46 {v:World} {a:Act} {s N b o cap M:Nat} {tot bus:Int} {Cb Eb Qb Nb g T ct i:Nat} {x t:Nat} {op:Int} {sop:Int} {c:Int} (ht:t<N) (c1:v.cell? ⟨Nb,t,none⟩=some (I c)) (f1:v.frozen? ⟨Nb,t,none⟩=false) (hA:Fl 267 [(1,I (s:Nat)),(2,.slice (some ⟨b,o,none⟩) N cap),(9,.slice (some ⟨M,0,none⟩) N N),(12,.slice (some ⟨g,0,none⟩) T ct),(13,I tot),(14,I bus),(15,.slice (some ⟨Cb,0,none⟩) N N),(16,.slice (some ⟨Eb,0,none⟩) N N),(17,.slice (some ⟨Qb,0,none⟩) N N),(18,.slice (some ⟨Nb,0,none⟩) N N),(19,I (i:Nat)),(20,Pt x 0),(21,I (t:Nat)),(22,I op),(144,I sop)] a) :
 q14_46.wp Tryd.prog (fun e a' w'=>e=.normal∧(Fl 267 [(1,I (s:Nat)),(2,.slice (some ⟨b,o,none⟩) N cap),(9,.slice (some ⟨M,0,none⟩) N N),(12,.slice (some ⟨g,0,none⟩) T ct),(13,I tot),(14,I bus),(15,.slice (some ⟨Cb,0,none⟩) N N),(16,.slice (some ⟨Eb,0,none⟩) N N),(17,.slice (some ⟨Qb,0,none⟩) N N),(18,.slice (some ⟨Nb,0,none⟩) N N),(19,I (i:Nat)),(20,Pt x 0),(21,I (t:Nat)),(22,I op),(144,I sop)] a'∧w'=v.setCell ⟨Nb,t,none⟩ (I ((0:Nat):Int)))) a v:=by
 have ht':(t:Int)<(N:Int):=by omega
 obtain ⟨hsz,hd,hp⟩:=hA
 obtain ⟨u,rfl,hg⟩:=litN hsz hd
 simp only [List.forall_mem_cons,hg] at hp
 obtain ⟨u1,u2,u9,u12,u13,u14,u15,u16,u17,u18,u19,u20,u21,u22,u144,-⟩:=hp
 clear hg hsz hd
 unfold q14_46 C14 Tryd.f14 seq1 seq2 condA blockC loopC
 simp only [Option.getD_some,lits,Nat.reduceAdd,u1,u2,u9,u12,u13,u14,u15,u16,u17,u18,u19,u20,u21,u22,u144]
 clear u1 u2 u9 u12 u13 u14 u15 u16 u17 u18 u19 u20 u21 u22 u144
 go_wp2_with fail
 first
  |exact ⟨⟨rfl,rfl,by
   intro p hp
   simp only [List.mem_cons,List.not_mem_nil,or_false] at hp
   rcases hp with rfl|rfl|rfl|rfl|rfl|rfl|rfl|rfl|rfl|rfl|rfl|rfl|rfl|rfl|rfl<;>first|rfl|exact congrArg I (by omega)|exact congrArg Value.bool (by simp<;>omega)|exact congrArg Value.bool (by simp)|(simp;done)⟩,rfl⟩
  |exact ⟨rfl,rfl,by
   intro p hp
   simp only [List.mem_cons,List.not_mem_nil,or_false] at hp
   rcases hp with rfl|rfl|rfl|rfl|rfl|rfl|rfl|rfl|rfl|rfl|rfl|rfl|rfl|rfl|rfl<;>first|rfl|exact congrArg I (by omega)|exact congrArg Value.bool (by simp<;>omega)|exact congrArg Value.bool (by simp)|(simp;done)⟩
  |exact ⟨rfl,⟨rfl,rfl,by
   intro p hp
   simp only [List.mem_cons,List.not_mem_nil,or_false] at hp
   rcases hp with rfl|rfl|rfl|rfl|rfl|rfl|rfl|rfl|rfl|rfl|rfl|rfl|rfl|rfl|rfl<;>first|rfl|exact congrArg I (by omega)|exact congrArg Value.bool (by simp<;>omega)|exact congrArg Value.bool (by simp)|(simp;done)⟩,rfl⟩
theorem p14_47 {v:World} {a:Act} {s N b o cap M:Nat} {tot bus:Int} {Cb Eb Qb Nb g T ct i:Nat} {x t:Nat} {op:Int} {sop:Int} {c:Value} (ht:t<N) (hE:Eb≠v.heap.size) (c1:v.cell? ⟨Eb,t,none⟩=some c) (f1:v.frozen? ⟨Eb,t,none⟩=false) (hA:Fl 267 [(1,I (s:Nat)),(2,.slice (some ⟨b,o,none⟩) N cap),(9,.slice (some ⟨M,0,none⟩) N N),(12,.slice (some ⟨g,0,none⟩) T ct),(13,I tot),(14,I bus),(15,.slice (some ⟨Cb,0,none⟩) N N),(16,.slice (some ⟨Eb,0,none⟩) N N),(17,.slice (some ⟨Qb,0,none⟩) N N),(18,.slice (some ⟨Nb,0,none⟩) N N),(19,I (i:Nat)),(20,Pt x 0),(21,I (t:Nat)),(22,I op),(144,I sop)] a) :
 q14_47.wp Tryd.prog (fun e a' w'=>e=.normal∧(Fl 267 [(1,I (s:Nat)),(2,.slice (some ⟨b,o,none⟩) N cap),(9,.slice (some ⟨M,0,none⟩) N N),(12,.slice (some ⟨g,0,none⟩) T ct),(13,I tot),(14,I bus),(15,.slice (some ⟨Cb,0,none⟩) N N),(16,.slice (some ⟨Eb,0,none⟩) N N),(17,.slice (some ⟨Qb,0,none⟩) N N),(18,.slice (some ⟨Nb,0,none⟩) N N),(19,I (i:Nat)),(20,Pt x 0),(21,I (t:Nat)),(22,I op),(144,I sop)] a'∧w'=(v.alloc (.cells #[I tot] 3)).setCell ⟨Eb,t,none⟩ (.slice (some ⟨v.heap.size,0,none⟩) 1 1))) a v:=by
 have ht':(t:Int)<(N:Int):=by omega
 have hb:(v.alloc (.cells #[I tot] 3)).heap[Eb]? = v.heap[Eb]?:=by show (v.heap.push _)[Eb]? = _;rw [Array.getElem?_push,if_neg hE]
 have c2:(v.alloc (.cells #[I tot] 3)).cell? ⟨Eb,t,none⟩=some c:=by rw [World.cell?_of_block (w:=v) hb];exact c1
 have f2:(v.alloc (.cells #[I tot] 3)).frozen? ⟨Eb,t,none⟩=false:=by rw [World.frozen?_of_block (w:=v) hb];exact f1
 clear hb c1 f1
 obtain ⟨hsz,hd,hp⟩:=hA
 obtain ⟨u,rfl,hg⟩:=litN hsz hd
 simp only [List.forall_mem_cons,hg] at hp
 obtain ⟨u1,u2,u9,u12,u13,u14,u15,u16,u17,u18,u19,u20,u21,u22,u144,-⟩:=hp
 clear hg hsz hd
 unfold q14_47 C14 Tryd.f14 seq1 seq2 condA blockC loopC
 simp only [Option.getD_some,lits,Nat.reduceAdd,u1,u2,u9,u12,u13,u14,u15,u16,u17,u18,u19,u20,u21,u22,u144]
 clear u1 u2 u9 u12 u13 u14 u15 u16 u17 u18 u19 u20 u21 u22 u144
 go_wp2_with fail
 first
  |exact ⟨⟨rfl,rfl,by
   intro p hp
   simp only [List.mem_cons,List.not_mem_nil,or_false] at hp
   rcases hp with rfl|rfl|rfl|rfl|rfl|rfl|rfl|rfl|rfl|rfl|rfl|rfl|rfl|rfl|rfl<;>first|rfl|exact congrArg I (by omega)|exact congrArg Value.bool (by simp<;>omega)|exact congrArg Value.bool (by simp)|(simp;done)⟩,rfl⟩
  |exact ⟨rfl,rfl,by
   intro p hp
   simp only [List.mem_cons,List.not_mem_nil,or_false] at hp
   rcases hp with rfl|rfl|rfl|rfl|rfl|rfl|rfl|rfl|rfl|rfl|rfl|rfl|rfl|rfl|rfl<;>first|rfl|exact congrArg I (by omega)|exact congrArg Value.bool (by simp<;>omega)|exact congrArg Value.bool (by simp)|(simp;done)⟩
  |exact ⟨rfl,⟨rfl,rfl,by
   intro p hp
   simp only [List.mem_cons,List.not_mem_nil,or_false] at hp
   rcases hp with rfl|rfl|rfl|rfl|rfl|rfl|rfl|rfl|rfl|rfl|rfl|rfl|rfl|rfl|rfl<;>first|rfl|exact congrArg I (by omega)|exact congrArg Value.bool (by simp<;>omega)|exact congrArg Value.bool (by simp)|(simp;done)⟩,rfl⟩
theorem p14_48 {v:World} {a:Act} {s N b o cap M:Nat} {tot bus:Int} {Cb Eb Qb Nb g T ct i:Nat} {x t:Nat} {op:Int} {sop:Int}  (hA:Fl 267 [(1,I (s:Nat)),(2,.slice (some ⟨b,o,none⟩) N cap),(9,.slice (some ⟨M,0,none⟩) N N),(12,.slice (some ⟨g,0,none⟩) T ct),(13,I tot),(14,I bus),(15,.slice (some ⟨Cb,0,none⟩) N N),(16,.slice (some ⟨Eb,0,none⟩) N N),(17,.slice (some ⟨Qb,0,none⟩) N N),(18,.slice (some ⟨Nb,0,none⟩) N N),(19,I (i:Nat)),(20,Pt x 0),(21,I (t:Nat)),(22,I op),(144,I sop)] a) :
 q14_48.wp Tryd.prog (fun e a' w'=>e=.normal∧(Fl 267 [(223,.bool (sop==10)),(1,I (s:Nat)),(2,.slice (some ⟨b,o,none⟩) N cap),(9,.slice (some ⟨M,0,none⟩) N N),(12,.slice (some ⟨g,0,none⟩) T ct),(13,I tot),(14,I bus),(15,.slice (some ⟨Cb,0,none⟩) N N),(16,.slice (some ⟨Eb,0,none⟩) N N),(17,.slice (some ⟨Qb,0,none⟩) N N),(18,.slice (some ⟨Nb,0,none⟩) N N),(19,I (i:Nat)),(20,Pt x 0),(21,I (t:Nat)),(22,I op),(144,I sop)] a'∧w'=v)) a v:=by
 obtain ⟨hsz,hd,hp⟩:=hA
 obtain ⟨u,rfl,hg⟩:=litN hsz hd
 simp only [List.forall_mem_cons,hg] at hp
 obtain ⟨u1,u2,u9,u12,u13,u14,u15,u16,u17,u18,u19,u20,u21,u22,u144,-⟩:=hp
 clear hg hsz hd
 unfold q14_48 C14 Tryd.f14 seq1 seq2 condB blockC loopC
 simp only [Option.getD_some,lits,Nat.reduceAdd,u1,u2,u9,u12,u13,u14,u15,u16,u17,u18,u19,u20,u21,u22,u144]
 clear u1 u2 u9 u12 u13 u14 u15 u16 u17 u18 u19 u20 u21 u22 u144
 go_wp2_with fail
 first
  |exact ⟨⟨rfl,rfl,by
   intro p hp
   simp only [List.mem_cons,List.not_mem_nil,or_false] at hp
   rcases hp with rfl|rfl|rfl|rfl|rfl|rfl|rfl|rfl|rfl|rfl|rfl|rfl|rfl|rfl|rfl|rfl<;>first|rfl|exact congrArg I (by omega)|exact congrArg Value.bool (by simp<;>omega)|exact congrArg Value.bool (by simp)|(simp;done)⟩,rfl⟩
  |exact ⟨rfl,rfl,by
   intro p hp
   simp only [List.mem_cons,List.not_mem_nil,or_false] at hp
   rcases hp with rfl|rfl|rfl|rfl|rfl|rfl|rfl|rfl|rfl|rfl|rfl|rfl|rfl|rfl|rfl|rfl<;>first|rfl|exact congrArg I (by omega)|exact congrArg Value.bool (by simp<;>omega)|exact congrArg Value.bool (by simp)|(simp;done)⟩
  |exact ⟨rfl,⟨rfl,rfl,by
   intro p hp
   simp only [List.mem_cons,List.not_mem_nil,or_false] at hp
   rcases hp with rfl|rfl|rfl|rfl|rfl|rfl|rfl|rfl|rfl|rfl|rfl|rfl|rfl|rfl|rfl|rfl<;>first|rfl|exact congrArg I (by omega)|exact congrArg Value.bool (by simp<;>omega)|exact congrArg Value.bool (by simp)|(simp;done)⟩,rfl⟩
theorem p14_49 {v:World} {a:Act} {s N b o cap M:Nat} {tot bus:Int} {Cb Eb Qb Nb g T ct i:Nat} {x t:Nat} {op:Int} {sop:Int}  (hA:Fl 267 [(1,I (s:Nat)),(2,.slice (some ⟨b,o,none⟩) N cap),(9,.slice (some ⟨M,0,none⟩) N N),(12,.slice (some ⟨g,0,none⟩) T ct),(13,I tot),(14,I bus),(15,.slice (some ⟨Cb,0,none⟩) N N),(16,.slice (some ⟨Eb,0,none⟩) N N),(17,.slice (some ⟨Qb,0,none⟩) N N),(18,.slice (some ⟨Nb,0,none⟩) N N),(19,I (i:Nat)),(20,Pt x 0),(21,I (t:Nat)),(22,I op),(144,I sop)] a) :
 q14_49.wp Tryd.prog (fun e a' w'=>e=.normal∧(Fl 267 [(226,.bool (op==1)),(1,I (s:Nat)),(2,.slice (some ⟨b,o,none⟩) N cap),(9,.slice (some ⟨M,0,none⟩) N N),(12,.slice (some ⟨g,0,none⟩) T ct),(13,I tot),(14,I bus),(15,.slice (some ⟨Cb,0,none⟩) N N),(16,.slice (some ⟨Eb,0,none⟩) N N),(17,.slice (some ⟨Qb,0,none⟩) N N),(18,.slice (some ⟨Nb,0,none⟩) N N),(19,I (i:Nat)),(20,Pt x 0),(21,I (t:Nat)),(22,I op),(144,I sop)] a'∧w'=v)) a v:=by
 obtain ⟨hsz,hd,hp⟩:=hA
 obtain ⟨u,rfl,hg⟩:=litN hsz hd
 simp only [List.forall_mem_cons,hg] at hp
 obtain ⟨u1,u2,u9,u12,u13,u14,u15,u16,u17,u18,u19,u20,u21,u22,u144,-⟩:=hp
 clear hg hsz hd
 unfold q14_49 C14 Tryd.f14 seq1 seq2 condA condB blockC loopC
 simp only [Option.getD_some,lits,Nat.reduceAdd,u1,u2,u9,u12,u13,u14,u15,u16,u17,u18,u19,u20,u21,u22,u144]
 clear u1 u2 u9 u12 u13 u14 u15 u16 u17 u18 u19 u20 u21 u22 u144
 go_wp2_with fail
 first
  |exact ⟨⟨rfl,rfl,by
   intro p hp
   simp only [List.mem_cons,List.not_mem_nil,or_false] at hp
   rcases hp with rfl|rfl|rfl|rfl|rfl|rfl|rfl|rfl|rfl|rfl|rfl|rfl|rfl|rfl|rfl|rfl<;>first|rfl|exact congrArg I (by omega)|exact congrArg Value.bool (by simp<;>omega)|exact congrArg Value.bool (by simp)|(simp;done)⟩,rfl⟩
  |exact ⟨rfl,rfl,by
   intro p hp
   simp only [List.mem_cons,List.not_mem_nil,or_false] at hp
   rcases hp with rfl|rfl|rfl|rfl|rfl|rfl|rfl|rfl|rfl|rfl|rfl|rfl|rfl|rfl|rfl|rfl<;>first|rfl|exact congrArg I (by omega)|exact congrArg Value.bool (by simp<;>omega)|exact congrArg Value.bool (by simp)|(simp;done)⟩
  |exact ⟨rfl,⟨rfl,rfl,by
   intro p hp
   simp only [List.mem_cons,List.not_mem_nil,or_false] at hp
   rcases hp with rfl|rfl|rfl|rfl|rfl|rfl|rfl|rfl|rfl|rfl|rfl|rfl|rfl|rfl|rfl|rfl<;>first|rfl|exact congrArg I (by omega)|exact congrArg Value.bool (by simp<;>omega)|exact congrArg Value.bool (by simp)|(simp;done)⟩,rfl⟩
theorem p14_31 {v:World} {a:Act} {s N b o cap M:Nat} {tot bus:Int} {Cb Eb Qb Nb g T ct i:Nat} {x t:Nat} {op:Int} {sop:Int} {c:Nat} (ht:t<N) (hc:c<1000000000) (c1:v.cell? ⟨Nb,t,none⟩=some (I (c:Nat))) (f1:v.frozen? ⟨Nb,t,none⟩=false) (hA:Fl 267 [(1,I (s:Nat)),(2,.slice (some ⟨b,o,none⟩) N cap),(9,.slice (some ⟨M,0,none⟩) N N),(12,.slice (some ⟨g,0,none⟩) T ct),(13,I tot),(14,I bus),(15,.slice (some ⟨Cb,0,none⟩) N N),(16,.slice (some ⟨Eb,0,none⟩) N N),(17,.slice (some ⟨Qb,0,none⟩) N N),(18,.slice (some ⟨Nb,0,none⟩) N N),(19,I (i:Nat)),(20,Pt x 0),(21,I (t:Nat)),(22,I op),(144,I sop)] a) :
 q14_31.wp Tryd.prog (fun e a' w'=>e=.normal∧(Fl 267 [(1,I (s:Nat)),(2,.slice (some ⟨b,o,none⟩) N cap),(9,.slice (some ⟨M,0,none⟩) N N),(12,.slice (some ⟨g,0,none⟩) T ct),(13,I tot),(14,I bus),(15,.slice (some ⟨Cb,0,none⟩) N N),(16,.slice (some ⟨Eb,0,none⟩) N N),(17,.slice (some ⟨Qb,0,none⟩) N N),(18,.slice (some ⟨Nb,0,none⟩) N N),(19,I (i:Nat)),(20,Pt x 0),(21,I (t:Nat)),(22,I op),(144,I sop)] a'∧w'=v.setCell ⟨Nb,t,none⟩ (I ((c+1:Nat):Int)))) a v:=by
 have ht':(t:Int)<(N:Int):=by omega
 have h9:wrap64 ((c:Int)+1)=((c+1:Nat):Int):=by unfold wrap64;omega
 obtain ⟨hsz,hd,hp⟩:=hA
 obtain ⟨u,rfl,hg⟩:=litN hsz hd
 simp only [List.forall_mem_cons,hg] at hp
 obtain ⟨u1,u2,u9,u12,u13,u14,u15,u16,u17,u18,u19,u20,u21,u22,u144,-⟩:=hp
 clear hg hsz hd
 unfold q14_31 C14 Tryd.f14 seq1 seq2 condB blockC loopC
 simp only [Option.getD_some,lits,Nat.reduceAdd,u1,u2,u9,u12,u13,u14,u15,u16,u17,u18,u19,u20,u21,u22,u144]
 clear u1 u2 u9 u12 u13 u14 u15 u16 u17 u18 u19 u20 u21 u22 u144
 go_wp2_with fail
 first
  |exact ⟨⟨rfl,rfl,by
   intro p hp
   simp only [List.mem_cons,List.not_mem_nil,or_false] at hp
   rcases hp with rfl|rfl|rfl|rfl|rfl|rfl|rfl|rfl|rfl|rfl|rfl|rfl|rfl|rfl|rfl<;>first|rfl|exact congrArg I (by omega)|exact congrArg Value.bool (by simp<;>omega)|exact congrArg Value.bool (by simp)|(simp;done)⟩,rfl⟩
  |exact ⟨rfl,rfl,by
   intro p hp
   simp only [List.mem_cons,List.not_mem_nil,or_false] at hp
   rcases hp with rfl|rfl|rfl|rfl|rfl|rfl|rfl|rfl|rfl|rfl|rfl|rfl|rfl|rfl|rfl<;>first|rfl|exact congrArg I (by omega)|exact congrArg Value.bool (by simp<;>omega)|exact congrArg Value.bool (by simp)|(simp;done)⟩
  |exact ⟨rfl,⟨rfl,rfl,by
   intro p hp
   simp only [List.mem_cons,List.not_mem_nil,or_false] at hp
   rcases hp with rfl|rfl|rfl|rfl|rfl|rfl|rfl|rfl|rfl|rfl|rfl|rfl|rfl|rfl|rfl<;>first|rfl|exact congrArg I (by omega)|exact congrArg Value.bool (by simp<;>omega)|exact congrArg Value.bool (by simp)|(simp;done)⟩,rfl⟩
theorem p14_32a {v:World} {a:Act} {s N b o cap M:Nat} {tot bus:Int} {Cb Eb Qb Nb g T ct i:Nat} {x t:Nat} {op:Int} {sop:Int} (c2:v.cell? ⟨x,2,none⟩=some (I sop)) (h4:¬ sop=4) (hA:Fl 267 [(1,I (s:Nat)),(2,.slice (some ⟨b,o,none⟩) N cap),(9,.slice (some ⟨M,0,none⟩) N N),(12,.slice (some ⟨g,0,none⟩) T ct),(13,I tot),(14,I bus),(15,.slice (some ⟨Cb,0,none⟩) N N),(16,.slice (some ⟨Eb,0,none⟩) N N),(17,.slice (some ⟨Qb,0,none⟩) N N),(18,.slice (some ⟨Nb,0,none⟩) N N),(19,I (i:Nat)),(20,Pt x 0),(21,I (t:Nat)),(22,I op),(144,I sop)] a) :
 q14_32.wp Tryd.prog (fun e a' w'=>e=.normal∧(Fl 267 [(164,.bool false),(1,I (s:Nat)),(2,.slice (some ⟨b,o,none⟩) N cap),(9,.slice (some ⟨M,0,none⟩) N N),(12,.slice (some ⟨g,0,none⟩) T ct),(13,I tot),(14,I bus),(15,.slice (some ⟨Cb,0,none⟩) N N),(16,.slice (some ⟨Eb,0,none⟩) N N),(17,.slice (some ⟨Qb,0,none⟩) N N),(18,.slice (some ⟨Nb,0,none⟩) N N),(19,I (i:Nat)),(20,Pt x 0),(21,I (t:Nat)),(22,I op),(144,I sop)] a'∧w'=v)) a v:=by
 have g4:(sop==4)=false:=by simp [h4]
 obtain ⟨hsz,hd,hp⟩:=hA
 obtain ⟨u,rfl,hg⟩:=litN hsz hd
 simp only [List.forall_mem_cons,hg] at hp
 obtain ⟨u1,u2,u9,u12,u13,u14,u15,u16,u17,u18,u19,u20,u21,u22,u144,-⟩:=hp
 clear hg hsz hd
 unfold q14_32 C14 Tryd.f14 seq1 seq2 condB blockC loopC
 simp only [Option.getD_some,lits,Nat.reduceAdd,u1,u2,u9,u12,u13,u14,u15,u16,u17,u18,u19,u20,u21,u22,u144]
 clear u1 u2 u9 u12 u13 u14 u15 u16 u17 u18 u19 u20 u21 u22 u144
 go_wp2_with fail
 first
  |exact ⟨⟨rfl,rfl,by
   intro p hp
   simp only [List.mem_cons,List.not_mem_nil,or_false] at hp
   rcases hp with rfl|rfl|rfl|rfl|rfl|rfl|rfl|rfl|rfl|rfl|rfl|rfl|rfl|rfl|rfl|rfl<;>first|rfl|exact congrArg I (by omega)|exact congrArg Value.bool (by simp<;>omega)|exact congrArg Value.bool (by simp)|(simp;done)⟩,rfl⟩
  |exact ⟨rfl,rfl,by
   intro p hp
   simp only [List.mem_cons,List.not_mem_nil,or_false] at hp
   rcases hp with rfl|rfl|rfl|rfl|rfl|rfl|rfl|rfl|rfl|rfl|rfl|rfl|rfl|rfl|rfl|rfl<;>first|rfl|exact congrArg I (by omega)|exact congrArg Value.bool (by simp<;>omega)|exact congrArg Value.bool (by simp)|(simp;done)⟩
  |exact ⟨rfl,⟨rfl,rfl,by
   intro p hp
   simp only [List.mem_cons,List.not_mem_nil,or_false] at hp
   rcases hp with rfl|rfl|rfl|rfl|rfl|rfl|rfl|rfl|rfl|rfl|rfl|rfl|rfl|rfl|rfl|rfl<;>first|rfl|exact congrArg I (by omega)|exact congrArg Value.bool (by simp<;>omega)|exact congrArg Value.bool (by simp)|(simp;done)⟩,rfl⟩
theorem p14_32b {v:World} {a:Act} {s N b o cap M:Nat} {tot bus:Int} {Cb Eb Qb Nb g T ct i:Nat} {x t:Nat} {op:Int} (c2:v.cell? ⟨x,2,none⟩=some (I 4)) (h1:¬ op=1) (hA:Fl 267 [(1,I (s:Nat)),(2,.slice (some ⟨b,o,none⟩) N cap),(9,.slice (some ⟨M,0,none⟩) N N),(12,.slice (some ⟨g,0,none⟩) T ct),(13,I tot),(14,I bus),(15,.slice (some ⟨Cb,0,none⟩) N N),(16,.slice (some ⟨Eb,0,none⟩) N N),(17,.slice (some ⟨Qb,0,none⟩) N N),(18,.slice (some ⟨Nb,0,none⟩) N N),(19,I (i:Nat)),(20,Pt x 0),(21,I (t:Nat)),(22,I op),(144,I 4)] a) :
 q14_32.wp Tryd.prog (fun e a' w'=>e=.normal∧(Fl 267 [(164,.bool false),(1,I (s:Nat)),(2,.slice (some ⟨b,o,none⟩) N cap),(9,.slice (some ⟨M,0,none⟩) N N),(12,.slice (some ⟨g,0,none⟩) T ct),(13,I tot),(14,I bus),(15,.slice (some ⟨Cb,0,none⟩) N N),(16,.slice (some ⟨Eb,0,none⟩) N N),(17,.slice (some ⟨Qb,0,none⟩) N N),(18,.slice (some ⟨Nb,0,none⟩) N N),(19,I (i:Nat)),(20,Pt x 0),(21,I (t:Nat)),(22,I op),(144,I 4)] a'∧w'=v)) a v:=by
 have g1:(op==1)=false:=by simp [h1]
 obtain ⟨hsz,hd,hp⟩:=hA
 obtain ⟨u,rfl,hg⟩:=litN hsz hd
 simp only [List.forall_mem_cons,hg] at hp
 obtain ⟨u1,u2,u9,u12,u13,u14,u15,u16,u17,u18,u19,u20,u21,u22,u144,-⟩:=hp
 clear hg hsz hd
 unfold q14_32 C14 Tryd.f14 seq1 seq2 condB blockC loopC
 simp only [Option.getD_some,lits,Nat.reduceAdd,u1,u2,u9,u12,u13,u14,u15,u16,u17,u18,u19,u20,u21,u22,u144]
 clear u1 u2 u9 u12 u13 u14 u15 u16 u17 u18 u19 u20 u21 u22 u144
 go_wp2_with fail
 first
  |exact ⟨⟨rfl,rfl,by
   intro p hp
   simp only [List.mem_cons,List.not_mem_nil,or_false] at hp
   rcases hp with rfl|rfl|rfl|rfl|rfl|rfl|rfl|rfl|rfl|rfl|rfl|rfl|rfl|rfl|rfl|rfl<;>first|rfl|exact congrArg I (by omega)|exact congrArg Value.bool (by simp<;>omega)|exact congrArg Value.bool (by simp)|(simp;done)⟩,rfl⟩
  |exact ⟨rfl,rfl,by
   intro p hp
   simp only [List.mem_cons,List.not_mem_nil,or_false] at hp
   rcases hp with rfl|rfl|rfl|rfl|rfl|rfl|rfl|rfl|rfl|rfl|rfl|rfl|rfl|rfl|rfl|rfl<;>first|rfl|exact congrArg I (by omega)|exact congrArg Value.bool (by simp<;>omega)|exact congrArg Value.bool (by simp)|(simp;done)⟩
  |exact ⟨rfl,⟨rfl,rfl,by
   intro p hp
   simp only [List.mem_cons,List.not_mem_nil,or_false] at hp
   rcases hp with rfl|rfl|rfl|rfl|rfl|rfl|rfl|rfl|rfl|rfl|rfl|rfl|rfl|rfl|rfl|rfl<;>first|rfl|exact congrArg I (by omega)|exact congrArg Value.bool (by simp<;>omega)|exact congrArg Value.bool (by simp)|(simp;done)⟩,rfl⟩
theorem p14_32c {v:World} {a:Act} {s N b o cap M:Nat} {tot bus:Int} {Cb Eb Qb Nb g T ct i:Nat} {x t:Nat} {ol ne:Int} (c2:v.cell? ⟨x,2,none⟩=some (I 4)) (c3:v.cell? ⟨x,3,none⟩=some (I ol)) (c4:v.cell? ⟨x,4,none⟩=some (I ne)) (hA:Fl 267 [(1,I (s:Nat)),(2,.slice (some ⟨b,o,none⟩) N cap),(9,.slice (some ⟨M,0,none⟩) N N),(12,.slice (some ⟨g,0,none⟩) T ct),(13,I tot),(14,I bus),(15,.slice (some ⟨Cb,0,none⟩) N N),(16,.slice (some ⟨Eb,0,none⟩) N N),(17,.slice (some ⟨Qb,0,none⟩) N N),(18,.slice (some ⟨Nb,0,none⟩) N N),(19,I (i:Nat)),(20,Pt x 0),(21,I (t:Nat)),(22,I 1),(144,I 4)] a) :
 q14_32.wp Tryd.prog (fun e a' w'=>e=.normal∧(Fl 267 [(164,.bool (ne != ol)),(1,I (s:Nat)),(2,.slice (some ⟨b,o,none⟩) N cap),(9,.slice (some ⟨M,0,none⟩) N N),(12,.slice (some ⟨g,0,none⟩) T ct),(13,I tot),(14,I bus),(15,.slice (some ⟨Cb,0,none⟩) N N),(16,.slice (some ⟨Eb,0,none⟩) N N),(17,.slice (some ⟨Qb,0,none⟩) N N),(18,.slice (some ⟨Nb,0,none⟩) N N),(19,I (i:Nat)),(20,Pt x 0),(21,I (t:Nat)),(22,I 1),(144,I 4)] a'∧w'=v)) a v:=by
 obtain ⟨hsz,hd,hp⟩:=hA
 obtain ⟨u,rfl,hg⟩:=litN hsz hd
 simp only [List.forall_mem_cons,hg] at hp
 obtain ⟨u1,u2,u9,u12,u13,u14,u15,u16,u17,u18,u19,u20,u21,u22,u144,-⟩:=hp
 clear hg hsz hd
 unfold q14_32 C14 Tryd.f14 seq1 seq2 condB blockC loopC
 simp only [Option.getD_some,lits,Nat.reduceAdd,u1,u2,u9,u12,u13,u14,u15,u16,u17,u18,u19,u20,u21,u22,u144]
 clear u1 u2 u9 u12 u13 u14 u15 u16 u17 u18 u19 u20 u21 u22 u144
 go_wp2_with fail
 first
  |exact ⟨⟨rfl,rfl,by
   intro p hp
   simp only [List.mem_cons,List.not_mem_nil,or_false] at hp
   rcases hp with rfl|rfl|rfl|rfl|rfl|rfl|rfl|rfl|rfl|rfl|rfl|rfl|rfl|rfl|rfl|rfl<;>first|rfl|exact congrArg I (by omega)|exact congrArg Value.bool (by simp<;>omega)|exact congrArg Value.bool (by simp)|(simp;done)⟩,rfl⟩
  |exact ⟨rfl,rfl,by
   intro p hp
   simp only [List.mem_cons,List.not_mem_nil,or_false] at hp
   rcases hp with rfl|rfl|rfl|rfl|rfl|rfl|rfl|rfl|rfl|rfl|rfl|rfl|rfl|rfl|rfl|rfl<;>first|rfl|exact congrArg I (by omega)|exact congrArg Value.bool (by simp<;>omega)|exact congrArg Value.bool (by simp)|(simp;done)⟩
  |exact ⟨rfl,⟨rfl,rfl,by
   intro p hp
   simp only [List.mem_cons,List.not_mem_nil,or_false] at hp
   rcases hp with rfl|rfl|rfl|rfl|rfl|rfl|rfl|rfl|rfl|rfl|rfl|rfl|rfl|rfl|rfl|rfl<;>first|rfl|exact congrArg I (by omega)|exact congrArg Value.bool (by simp<;>omega)|exact congrArg Value.bool (by simp)|(simp;done)⟩,rfl⟩
theorem p14_34 {v:World} {a:Act} {s N b o cap M:Nat} {tot bus:Int} {Cb Eb Qb Nb g T ct i:Nat} {x t:Nat} {op:Int} {sop:Int}  (hA:Fl 267 [(1,I (s:Nat)),(2,.slice (some ⟨b,o,none⟩) N cap),(9,.slice (some ⟨M,0,none⟩) N N),(12,.slice (some ⟨g,0,none⟩) T ct),(13,I tot),(14,I bus),(15,.slice (some ⟨Cb,0,none⟩) N N),(16,.slice (some ⟨Eb,0,none⟩) N N),(17,.slice (some ⟨Qb,0,none⟩) N N),(18,.slice (some ⟨Nb,0,none⟩) N N),(19,I (i:Nat)),(20,Pt x 0),(21,I (t:Nat)),(22,I op),(144,I sop)] a) :
 q14_34.wp Tryd.prog (fun e a' w'=>e=.normal∧(Fl 267 [(1,I (s:Nat)),(2,.slice (some ⟨b,o,none⟩) N cap),(9,.slice (some ⟨M,0,none⟩) N N),(12,.slice (some ⟨g,0,none⟩) T ct),(13,I tot),(14,I bus),(15,.slice (some ⟨Cb,0,none⟩) N N),(16,.slice (some ⟨Eb,0,none⟩) N N),(17,.slice (some ⟨Qb,0,none⟩) N N),(18,.slice (some ⟨Nb,0,none⟩) N N),(19,I (i:Nat)),(20,Pt x 0),(21,I (t:Nat)),(22,I op),(144,I sop),(24,I ((0:Nat):Int))] a'∧w'=v)) a v:=by
 obtain ⟨hsz,hd,hp⟩:=hA
 obtain ⟨u,rfl,hg⟩:=litN hsz hd
 simp only [List.forall_mem_cons,hg] at hp
 obtain ⟨u1,u2,u9,u12,u13,u14,u15,u16,u17,u18,u19,u20,u21,u22,u144,-⟩:=hp
 clear hg hsz hd
 unfold q14_34 C14 Tryd.f14 seq1 seq2 condA condB blockC loopC
 simp only [Option.getD_some,lits,Nat.reduceAdd,u1,u2,u9,u12,u13,u14,u15,u16,u17,u18,u19,u20,u21,u22,u144]
 clear u1 u2 u9 u12 u13 u14 u15 u16 u17 u18 u19 u20 u21 u22 u144
 go_wp2_with fail
 first
  |exact ⟨⟨rfl,rfl,by
   intro p hp
   simp only [List.mem_cons,List.not_mem_nil,or_false] at hp
   rcases hp with rfl|rfl|rfl|rfl|rfl|rfl|rfl|rfl|rfl|rfl|rfl|rfl|rfl|rfl|rfl|rfl<;>first|rfl|exact congrArg I (by omega)|exact congrArg Value.bool (by simp<;>omega)|exact congrArg Value.bool (by simp)|(simp;done)⟩,rfl⟩
  |exact ⟨rfl,rfl,by
   intro p hp
   simp only [List.mem_cons,List.not_mem_nil,or_false] at hp
   rcases hp with rfl|rfl|rfl|rfl|rfl|rfl|rfl|rfl|rfl|rfl|rfl|rfl|rfl|rfl|rfl|rfl<;>first|rfl|exact congrArg I (by omega)|exact congrArg Value.bool (by simp<;>omega)|exact congrArg Value.bool (by simp)|(simp;done)⟩
  |exact ⟨rfl,⟨rfl,rfl,by
   intro p hp
   simp only [List.mem_cons,List.not_mem_nil,or_false] at hp
   rcases hp with rfl|rfl|rfl|rfl|rfl|rfl|rfl|rfl|rfl|rfl|rfl|rfl|rfl|rfl|rfl|rfl<;>first|rfl|exact congrArg I (by omega)|exact congrArg Value.bool (by simp<;>omega)|exact congrArg Value.bool (by simp)|(simp;done)⟩,rfl⟩
theorem p14_35 {v:World} {a:Act} {s N b o cap M:Nat} {tot bus:Int} {Cb Eb Qb Nb g T ct i:Nat} {x t:Nat} {op:Int} {sop:Int} {k:Nat}  (hA:Fl 267 [(1,I (s:Nat)),(2,.slice (some ⟨b,o,none⟩) N cap),(9,.slice (some ⟨M,0,none⟩) N N),(12,.slice (some ⟨g,0,none⟩) T ct),(13,I tot),(14,I bus),(15,.slice (some ⟨Cb,0,none⟩) N N),(16,.slice (some ⟨Eb,0,none⟩) N N),(17,.slice (some ⟨Qb,0,none⟩) N N),(18,.slice (some ⟨Nb,0,none⟩) N N),(19,I (i:Nat)),(20,Pt x 0),(21,I (t:Nat)),(22,I op),(144,I sop),(24,I (k:Nat))] a) :
 q14_35.wp Tryd.prog (fun e a' w'=>e=.normal∧(Fl 267 [(182,.bool (decide (k<N))),(1,I (s:Nat)),(2,.slice (some ⟨b,o,none⟩) N cap),(9,.slice (some ⟨M,0,none⟩) N N),(12,.slice (some ⟨g,0,none⟩) T ct),(13,I tot),(14,I bus),(15,.slice (some ⟨Cb,0,none⟩) N N),(16,.slice (some ⟨Eb,0,none⟩) N N),(17,.slice (some ⟨Qb,0,none⟩) N N),(18,.slice (some ⟨Nb,0,none⟩) N N),(19,I (i:Nat)),(20,Pt x 0),(21,I (t:Nat)),(22,I op),(144,I sop),(24,I (k:Nat))] a'∧w'=v)) a v:=by
 obtain ⟨hsz,hd,hp⟩:=hA
 obtain ⟨u,rfl,hg⟩:=litN hsz hd
 simp only [List.forall_mem_cons,hg] at hp
 obtain ⟨u1,u2,u9,u12,u13,u14,u15,u16,u17,u18,u19,u20,u21,u22,u144,u24,-⟩:=hp
 clear hg hsz hd
 unfold q14_35 C14 Tryd.f14 seq1 seq2 condA condB blockC loopC
 simp only [Option.getD_some,lits,Nat.reduceAdd,u1,u2,u9,u12,u13,u14,u15,u16,u17,u18,u19,u20,u21,u22,u144,u24]
 clear u1 u2 u9 u12 u13 u14 u15 u16 u17 u18 u19 u20 u21 u22 u144 u24
 go_wp2_with fail
 first
  |exact ⟨⟨rfl,rfl,by
   intro p hp
   simp only [List.mem_cons,List.not_mem_nil,or_false] at hp
   rcases hp with rfl|rfl|rfl|rfl|rfl|rfl|rfl|rfl|rfl|rfl|rfl|rfl|rfl|rfl|rfl|rfl|rfl<;>first|rfl|exact congrArg I (by omega)|exact congrArg Value.bool (by simp<;>omega)|exact congrArg Value.bool (by simp)|(simp;done)⟩,rfl⟩
  |exact ⟨rfl,rfl,by
   intro p hp
   simp only [List.mem_cons,List.not_mem_nil,or_false] at hp
   rcases hp with rfl|rfl|rfl|rfl|rfl|rfl|rfl|rfl|rfl|rfl|rfl|rfl|rfl|rfl|rfl|rfl|rfl<;>first|rfl|exact congrArg I (by omega)|exact congrArg Value.bool (by simp<;>omega)|exact congrArg Value.bool (by simp)|(simp;done)⟩
  |exact ⟨rfl,⟨rfl,rfl,by
   intro p hp
   simp only [List.mem_cons,List.not_mem_nil,or_false] at hp
   rcases hp with rfl|rfl|rfl|rfl|rfl|rfl|rfl|rfl|rfl|rfl|rfl|rfl|rfl|rfl|rfl|rfl|rfl<;>first|rfl|exact congrArg I (by omega)|exact congrArg Value.bool (by simp<;>omega)|exact congrArg Value.bool (by simp)|(simp;done)⟩,rfl⟩
theorem p14_36 {v:World} {a:Act} {s N b o cap M:Nat} {tot bus:Int} {Cb Eb Qb Nb g T ct i:Nat} {x t:Nat} {op:Int} {sop:Int} {k:Nat} (hq:k<1000000000) (hA:Fl 267 [(1,I (s:Nat)),(2,.slice (some ⟨b,o,none⟩) N cap),(9,.slice (some ⟨M,0,none⟩) N N),(12,.slice (some ⟨g,0,none⟩) T ct),(13,I tot),(14,I bus),(15,.slice (some ⟨Cb,0,none⟩) N N),(16,.slice (some ⟨Eb,0,none⟩) N N),(17,.slice (some ⟨Qb,0,none⟩) N N),(18,.slice (some ⟨Nb,0,none⟩) N N),(19,I (i:Nat)),(20,Pt x 0),(21,I (t:Nat)),(22,I op),(144,I sop),(24,I (k:Nat))] a) :
 q14_36.wp Tryd.prog (fun e a' w'=>e=.normal∧(Fl 267 [(1,I (s:Nat)),(2,.slice (some ⟨b,o,none⟩) N cap),(9,.slice (some ⟨M,0,none⟩) N N),(12,.slice (some ⟨g,0,none⟩) T ct),(13,I tot),(14,I bus),(15,.slice (some ⟨Cb,0,none⟩) N N),(16,.slice (some ⟨Eb,0,none⟩) N N),(17,.slice (some ⟨Qb,0,none⟩) N N),(18,.slice (some ⟨Nb,0,none⟩) N N),(19,I (i:Nat)),(20,Pt x 0),(21,I (t:Nat)),(22,I op),(144,I sop),(24,I ((k+1:Nat):Int))] a'∧w'=v)) a v:=by
 have h9:wrap64 ((k:Int)+1)=((k+1:Nat):Int):=by unfold wrap64;omega
 obtain ⟨hsz,hd,hp⟩:=hA
 obtain ⟨u,rfl,hg⟩:=litN hsz hd
 simp only [List.forall_mem_cons,hg] at hp
 obtain ⟨u1,u2,u9,u12,u13,u14,u15,u16,u17,u18,u19,u20,u21,u22,u144,u24,-⟩:=hp
 clear hg hsz hd
 unfold q14_36 C14 Tryd.f14 seq1 seq2 condA condB blockC loopC
 simp only [Option.getD_some,lits,Nat.reduceAdd,u1,u2,u9,u12,u13,u14,u15,u16,u17,u18,u19,u20,u21,u22,u144,u24]
 clear u1 u2 u9 u12 u13 u14 u15 u16 u17 u18 u19 u20 u21 u22 u144 u24
 go_wp2_with fail
 first
  |exact ⟨⟨rfl,rfl,by
   intro p hp
   simp only [List.mem_cons,List.not_mem_nil,or_false] at hp
   rcases hp with rfl|rfl|rfl|rfl|rfl|rfl|rfl|rfl|rfl|rfl|rfl|rfl|rfl|rfl|rfl|rfl<;>first|rfl|exact congrArg I (by omega)|exact congrArg Value.bool (by simp<;>omega)|exact congrArg Value.bool (by simp)|(simp;done)⟩,rfl⟩
  |exact ⟨rfl,rfl,by
   intro p hp
   simp only [List.mem_cons,List.not_mem_nil,or_false] at hp
   rcases hp with rfl|rfl|rfl|rfl|rfl|rfl|rfl|rfl|rfl|rfl|rfl|rfl|rfl|rfl|rfl|rfl<;>first|rfl|exact congrArg I (by omega)|exact congrArg Value.bool (by simp<;>omega)|exact congrArg Value.bool (by simp)|(simp;done)⟩
  |exact ⟨rfl,⟨rfl,rfl,by
   intro p hp
   simp only [List.mem_cons,List.not_mem_nil,or_false] at hp
   rcases hp with rfl|rfl|rfl|rfl|rfl|rfl|rfl|rfl|rfl|rfl|rfl|rfl|rfl|rfl|rfl|rfl<;>first|rfl|exact congrArg I (by omega)|exact congrArg Value.bool (by simp<;>omega)|exact congrArg Value.bool (by simp)|(simp;done)⟩,rfl⟩
theorem p14_53 {v:World} {a:Act}   (hA:Fl 267 [] a) :
 q14_53.wp Tryd.prog (fun e a' w'=>e=.normal∧(Fl 267 [(6,.bool true)] a'∧w'=v)) a v:=by
 obtain ⟨hsz,hd,hp⟩:=hA
 obtain ⟨u,rfl,hg⟩:=litN hsz hd
 clear hg hp hsz hd
 unfold q14_53 C14 Tryd.f14 seq1 seq2
 simp only [Option.getD_some,lits,Nat.reduceAdd]
 go_wp2_with fail
 first
  |exact ⟨⟨rfl,rfl,by
   intro p hp
   simp only [List.mem_cons,List.not_mem_nil,or_false] at hp
   rcases hp with rfl<;>first|rfl|exact congrArg I (by omega)|exact congrArg Value.bool (by simp<;>omega)|exact congrArg Value.bool (by simp)|(simp;done)⟩,rfl⟩
  |exact ⟨rfl,rfl,by
   intro p hp
   simp only [List.mem_cons,List.not_mem_nil,or_false] at hp
   rcases hp with rfl<;>first|rfl|exact congrArg I (by omega)|exact congrArg Value.bool (by simp<;>omega)|exact congrArg Value.bool (by simp)|(simp;done)⟩
  |exact ⟨rfl,⟨rfl,rfl,by
   intro p hp
   simp only [List.mem_cons,List.not_mem_nil,or_false] at hp
   rcases hp with rfl<;>first|rfl|exact congrArg I (by omega)|exact congrArg Value.bool (by simp<;>omega)|exact congrArg Value.bool (by simp)|(simp;done)⟩,rfl⟩
end Go.Proofs.YtfjjoohflcchnaaDoor.Gen
