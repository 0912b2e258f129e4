/- ChainTrue: who is told of a ring lies on one; no call takes longer than it may; whatever the schedule, the number of keys and the scripts. Part 27 of 36. (Joined, by program, of: La4P.) -/
import Derived.Test.YtfjjoohflcchnaaChainTrue26
set_option linter.unusedSimpArgs false
set_option linter.unusedVariables false
namespace Go.Proofs.Ytfjjoohflcchnaa.Gen
open Go Go.Lift Go.Conc Go.RowKit

noncomputable def C4 : Code := Try.f16.body.getD .skip
noncomputable def q4_0 : Code := (seq1 C4)
noncomputable def q4_1 : Code := (seq1 (seq2 C4))
noncomputable def q4_2 : Code := (seq1 (seq2 (seq2 C4)))
noncomputable def q4_3 : Code := (seq1 (seq2 (seq2 (seq2 C4))))
noncomputable def q4_4 : Code := (seq1 (seq1 (seq2 (seq2 (seq2 (seq2 C4))))))
noncomputable def q4_5 : Code := (seq1 (condA (seq2 (seq1 (seq2 (seq2 (seq2 (seq2 C4))))))))
noncomputable def q4_6 : Code := (seq1 (seq1 (seq2 (seq2 (seq2 (seq2 (seq2 C4)))))))
noncomputable def q4_7 : Code := (seq1 (condA (seq2 (seq1 (seq2 (seq2 (seq2 (seq2 (seq2 C4)))))))))
noncomputable def q4_8 : Code := (seq1 (seq2 (seq2 (seq2 (seq2 (seq2 (seq2 C4)))))))
noncomputable def q4_9 : Code := (seq1 (seq1 (seq2 (seq2 (seq2 (seq2 (seq2 (seq2 (seq2 C4)))))))))
noncomputable def q4_10 : Code := (seq1 (seq1 (loopC (blockC (seq2 (seq1 (seq2 (seq2 (seq2 (seq2 (seq2 (seq2 (seq2 C4)))))))))))))
noncomputable def q4_12 : Code := (blockC (seq1 (seq2 (loopC (blockC (seq2 (seq1 (seq2 (seq2 (seq2 (seq2 (seq2 (seq2 (seq2 C4))))))))))))))
noncomputable def q4_11 : Code := (seq2 (seq2 (loopC (blockC (seq2 (seq1 (seq2 (seq2 (seq2 (seq2 (seq2 (seq2 (seq2 C4)))))))))))))
noncomputable def q4_13 : Code := (seq1 (seq1 (seq2 (seq2 (seq2 (seq2 (seq2 (seq2 (seq2 (seq2 C4))))))))))
noncomputable def q4_14 : Code := (seq1 (seq1 (loopC (blockC (seq2 (seq1 (seq2 (seq2 (seq2 (seq2 (seq2 (seq2 (seq2 (seq2 C4))))))))))))))
noncomputable def q4_16 : Code := (seq1 (blockC (seq1 (seq2 (loopC (blockC (seq2 (seq1 (seq2 (seq2 (seq2 (seq2 (seq2 (seq2 (seq2 (seq2 C4))))))))))))))))
noncomputable def q4_17 : Code := (seq1 (seq1 (loopC (blockC (seq2 (blockC (seq1 (seq2 (loopC (blockC (seq2 (seq1 (seq2 (seq2 (seq2 (seq2 (seq2 (seq2 (seq2 (seq2 C4))))))))))))))))))))
noncomputable def q4_19 : Code := (seq1 (blockC (seq1 (seq2 (loopC (blockC (seq2 (blockC (seq1 (seq2 (loopC (blockC (seq2 (seq1 (seq2 (seq2 (seq2 (seq2 (seq2 (seq2 (seq2 (seq2 C4))))))))))))))))))))))
noncomputable def q4_20 : Code := (seq1 (seq2 (blockC (seq1 (seq2 (loopC (blockC (seq2 (blockC (seq1 (seq2 (loopC (blockC (seq2 (seq1 (seq2 (seq2 (seq2 (seq2 (seq2 (seq2 (seq2 (seq2 C4)))))))))))))))))))))))
noncomputable def q4_21 : Code := (condA (seq2 (seq2 (blockC (seq1 (seq2 (loopC (blockC (seq2 (blockC (seq1 (seq2 (loopC (blockC (seq2 (seq1 (seq2 (seq2 (seq2 (seq2 (seq2 (seq2 (seq2 (seq2 C4))))))))))))))))))))))))
noncomputable def q4_18 : Code := (seq2 (seq2 (loopC (blockC (seq2 (blockC (seq1 (seq2 (loopC (blockC (seq2 (seq1 (seq2 (seq2 (seq2 (seq2 (seq2 (seq2 (seq2 (seq2 C4))))))))))))))))))))
noncomputable def q4_15 : Code := (seq2 (seq2 (loopC (blockC (seq2 (seq1 (seq2 (seq2 (seq2 (seq2 (seq2 (seq2 (seq2 (seq2 C4))))))))))))))
noncomputable def q4_22 : Code := (seq1 (seq1 (seq2 (seq2 (seq2 (seq2 (seq2 (seq2 (seq2 (seq2 (seq2 C4)))))))))))
noncomputable def q4_23 : Code := (seq1 (seq1 (loopC (blockC (seq2 (seq1 (seq2 (seq2 (seq2 (seq2 (seq2 (seq2 (seq2 (seq2 (seq2 C4)))))))))))))))
noncomputable def q4_25 : Code := (seq1 (blockC (seq1 (seq2 (loopC (blockC (seq2 (seq1 (seq2 (seq2 (seq2 (seq2 (seq2 (seq2 (seq2 (seq2 (seq2 C4)))))))))))))))))
noncomputable def q4_26 : Code := (seq1 (seq1 (loopC (blockC (seq2 (blockC (seq1 (seq2 (loopC (blockC (seq2 (seq1 (seq2 (seq2 (seq2 (seq2 (seq2 (seq2 (seq2 (seq2 (seq2 C4)))))))))))))))))))))
noncomputable def q4_28 : Code := (seq1 (blockC (seq1 (seq2 (loopC (blockC (seq2 (blockC (seq1 (seq2 (loopC (blockC (seq2 (seq1 (seq2 (seq2 (seq2 (seq2 (seq2 (seq2 (seq2 (seq2 (seq2 C4)))))))))))))))))))))))
noncomputable def q4_29 : Code := (seq1 (seq1 (loopC (blockC (seq2 (blockC (seq1 (seq2 (loopC (blockC (seq2 (blockC (seq1 (seq2 (loopC (blockC (seq2 (seq1 (seq2 (seq2 (seq2 (seq2 (seq2 (seq2 (seq2 (seq2 (seq2 C4)))))))))))))))))))))))))))
noncomputable def q4_31 : Code := (blockC (seq1 (seq2 (loopC (blockC (seq2 (blockC (seq1 (seq2 (loopC (blockC (seq2 (blockC (seq1 (seq2 (loopC (blockC (seq2 (seq1 (seq2 (seq2 (seq2 (seq2 (seq2 (seq2 (seq2 (seq2 (seq2 C4))))))))))))))))))))))))))))
noncomputable def q4_30 : Code := (seq2 (seq2 (loopC (blockC (seq2 (blockC (seq1 (seq2 (loopC (blockC (seq2 (blockC (seq1 (seq2 (loopC (blockC (seq2 (seq1 (seq2 (seq2 (seq2 (seq2 (seq2 (seq2 (seq2 (seq2 (seq2 C4)))))))))))))))))))))))))))
noncomputable def q4_27 : Code := (seq2 (seq2 (loopC (blockC (seq2 (blockC (seq1 (seq2 (loopC (blockC (seq2 (seq1 (seq2 (seq2 (seq2 (seq2 (seq2 (seq2 (seq2 (seq2 (seq2 C4)))))))))))))))))))))
noncomputable def q4_24 : Code := (seq2 (seq2 (loopC (blockC (seq2 (seq1 (seq2 (seq2 (seq2 (seq2 (seq2 (seq2 (seq2 (seq2 (seq2 C4)))))))))))))))
noncomputable def q4_32 : Code := (seq1 (seq1 (seq2 (seq2 (seq2 (seq2 (seq2 (seq2 (seq2 (seq2 (seq2 (seq2 C4))))))))))))
noncomputable def q4_33 : Code := (seq1 (seq1 (loopC (blockC (seq2 (seq1 (seq2 (seq2 (seq2 (seq2 (seq2 (seq2 (seq2 (seq2 (seq2 (seq2 C4))))))))))))))))
noncomputable def q4_35 : Code := (seq1 (seq1 (blockC (seq1 (seq2 (loopC (blockC (seq2 (seq1 (seq2 (seq2 (seq2 (seq2 (seq2 (seq2 (seq2 (seq2 (seq2 (seq2 C4)))))))))))))))))))
noncomputable def q4_36 : Code := (seq1 (condA (seq2 (seq1 (blockC (seq1 (seq2 (loopC (blockC (seq2 (seq1 (seq2 (seq2 (seq2 (seq2 (seq2 (seq2 (seq2 (seq2 (seq2 (seq2 C4)))))))))))))))))))))
noncomputable def q4_37 : Code := (seq1 (seq2 (blockC (seq1 (seq2 (loopC (blockC (seq2 (seq1 (seq2 (seq2 (seq2 (seq2 (seq2 (seq2 (seq2 (seq2 (seq2 (seq2 C4)))))))))))))))))))
noncomputable def q4_38 : Code := (seq1 (seq1 (loopC (blockC (seq2 (seq2 (blockC (seq1 (seq2 (loopC (blockC (seq2 (seq1 (seq2 (seq2 (seq2 (seq2 (seq2 (seq2 (seq2 (seq2 (seq2 (seq2 C4)))))))))))))))))))))))
noncomputable def q4_40 : Code := (seq1 (blockC (seq1 (seq2 (loopC (blockC (seq2 (seq2 (blockC (seq1 (seq2 (loopC (blockC (seq2 (seq1 (seq2 (seq2 (seq2 (seq2 (seq2 (seq2 (seq2 (seq2 (seq2 (seq2 C4)))))))))))))))))))))))))
noncomputable def q4_41 : Code := (seq1 (seq2 (blockC (seq1 (seq2 (loopC (blockC (seq2 (seq2 (blockC (seq1 (seq2 (loopC (blockC (seq2 (seq1 (seq2 (seq2 (seq2 (seq2 (seq2 (seq2 (seq2 (seq2 (seq2 (seq2 C4))))))))))))))))))))))))))
noncomputable def q4_42 : Code := (seq1 (condA (seq2 (seq2 (blockC (seq1 (seq2 (loopC (blockC (seq2 (seq2 (blockC (seq1 (seq2 (loopC (blockC (seq2 (seq1 (seq2 (seq2 (seq2 (seq2 (seq2 (seq2 (seq2 (seq2 (seq2 (seq2 C4))))))))))))))))))))))))))))
noncomputable def q4_39 : Code := (seq2 (seq2 (loopC (blockC (seq2 (seq2 (blockC (seq1 (seq2 (loopC (blockC (seq2 (seq1 (seq2 (seq2 (seq2 (seq2 (seq2 (seq2 (seq2 (seq2 (seq2 (seq2 C4)))))))))))))))))))))))
noncomputable def q4_34 : Code := (seq2 (seq2 (loopC (blockC (seq2 (seq1 (seq2 (seq2 (seq2 (seq2 (seq2 (seq2 (seq2 (seq2 (seq2 (seq2 C4))))))))))))))))
noncomputable def q4_43 : Code := (seq1 (seq2 (seq2 (seq2 (seq2 (seq2 (seq2 (seq2 (seq2 (seq2 (seq2 (seq2 C4))))))))))))
noncomputable def q4_44 : Code := (seq1 (seq2 (seq2 (seq2 (seq2 (seq2 (seq2 (seq2 (seq2 (seq2 (seq2 (seq2 (seq2 C4)))))))))))))
noncomputable def q4_45 : Code := (seq1 (seq1 (seq2 (seq2 (seq2 (seq2 (seq2 (seq2 (seq2 (seq2 (seq2 (seq2 (seq2 (seq2 (seq2 C4)))))))))))))))
noncomputable def q4_46 : Code := (seq1 (seq1 (loopC (blockC (seq2 (seq1 (seq2 (seq2 (seq2 (seq2 (seq2 (seq2 (seq2 (seq2 (seq2 (seq2 (seq2 (seq2 (seq2 C4)))))))))))))))))))
noncomputable def q4_48 : Code := (seq1 (blockC (seq1 (seq2 (loopC (blockC (seq2 (seq1 (seq2 (seq2 (seq2 (seq2 (seq2 (seq2 (seq2 (seq2 (seq2 (seq2 (seq2 (seq2 (seq2 C4)))))))))))))))))))))
noncomputable def q4_49 : Code := (seq1 (seq1 (seq2 (blockC (seq1 (seq2 (loopC (blockC (seq2 (seq1 (seq2 (seq2 (seq2 (seq2 (seq2 (seq2 (seq2 (seq2 (seq2 (seq2 (seq2 (seq2 (seq2 C4)))))))))))))))))))))))
noncomputable def q4_50 : Code := (seq1 (condA (seq2 (seq1 (seq2 (blockC (seq1 (seq2 (loopC (blockC (seq2 (seq1 (seq2 (seq2 (seq2 (seq2 (seq2 (seq2 (seq2 (seq2 (seq2 (seq2 (seq2 (seq2 (seq2 C4)))))))))))))))))))))))))
noncomputable def q4_51 : Code := (seq1 (seq2 (seq2 (blockC (seq1 (seq2 (loopC (blockC (seq2 (seq1 (seq2 (seq2 (seq2 (seq2 (seq2 (seq2 (seq2 (seq2 (seq2 (seq2 (seq2 (seq2 (seq2 C4)))))))))))))))))))))))
noncomputable def q4_52 : Code := (seq1 (seq1 (seq2 (seq2 (seq2 (blockC (seq1 (seq2 (loopC (blockC (seq2 (seq1 (seq2 (seq2 (seq2 (seq2 (seq2 (seq2 (seq2 (seq2 (seq2 (seq2 (seq2 (seq2 (seq2 C4)))))))))))))))))))))))))
noncomputable def q4_53 : Code := (condA (seq2 (seq1 (seq2 (seq2 (seq2 (blockC (seq1 (seq2 (loopC (blockC (seq2 (seq1 (seq2 (seq2 (seq2 (seq2 (seq2 (seq2 (seq2 (seq2 (seq2 (seq2 (seq2 (seq2 (seq2 C4))))))))))))))))))))))))))
noncomputable def q4_54 : Code := (seq1 (seq2 (seq2 (seq2 (seq2 (blockC (seq1 (seq2 (loopC (blockC (seq2 (seq1 (seq2 (seq2 (seq2 (seq2 (seq2 (seq2 (seq2 (seq2 (seq2 (seq2 (seq2 (seq2 (seq2 C4)))))))))))))))))))))))))
noncomputable def q4_55 : Code := (seq1 (condA (seq2 (seq2 (seq2 (seq2 (seq2 (blockC (seq1 (seq2 (loopC (blockC (seq2 (seq1 (seq2 (seq2 (seq2 (seq2 (seq2 (seq2 (seq2 (seq2 (seq2 (seq2 (seq2 (seq2 (seq2 C4)))))))))))))))))))))))))))
noncomputable def q4_47 : Code := (seq2 (seq2 (loopC (blockC (seq2 (seq1 (seq2 (seq2 (seq2 (seq2 (seq2 (seq2 (seq2 (seq2 (seq2 (seq2 (seq2 (seq2 (seq2 C4)))))))))))))))))))
noncomputable def q4_56 : Code := (seq1 (seq2 (seq2 (seq2 (seq2 (seq2 (seq2 (seq2 (seq2 (seq2 (seq2 (seq2 (seq2 (seq2 (seq2 C4)))))))))))))))
noncomputable def K4_1 : Code := q4_12
noncomputable def K4_0 : Code := (.loop (.seq (.seq q4_10 (.cond ( .tmp 64 ) .skip (.exit 0))) (.seq (.block 1 K4_1) q4_11)))
noncomputable def K4_5 : Code := (.seq q4_19 (.seq q4_20 (.cond ( .tmp 96 ) q4_21 .skip)))
noncomputable def K4_4 : Code := (.loop (.seq (.seq q4_17 (.cond ( .tmp 84 ) .skip (.exit 4))) (.seq (.block 5 K4_5) q4_18)))
noncomputable def K4_3 : Code := (.seq q4_16 (.block 4 K4_4))
noncomputable def K4_2 : Code := (.loop (.seq (.seq q4_14 (.cond ( .tmp 75 ) .skip (.exit 2))) (.seq (.block 3 K4_3) q4_15)))
noncomputable def K4_11 : Code := q4_31
noncomputable def K4_10 : Code := (.loop (.seq (.seq q4_29 (.cond ( .tmp 121 ) .skip (.exit 10))) (.seq (.block 11 K4_11) q4_30)))
noncomputable def K4_9 : Code := (.seq q4_28 (.block 10 K4_10))
noncomputable def K4_8 : Code := (.loop (.seq (.seq q4_26 (.cond ( .tmp 116 ) .skip (.exit 8))) (.seq (.block 9 K4_9) q4_27)))
noncomputable def K4_7 : Code := (.seq q4_25 (.block 8 K4_8))
noncomputable def K4_6 : Code := (.loop (.seq (.seq q4_23 (.cond ( .tmp 111 ) .skip (.exit 6))) (.seq (.block 7 K4_7) q4_24)))
noncomputable def K4_15 : Code := (.seq q4_40 (.seq q4_41 (.cond ( .tmp 209 ) (.seq q4_42 .ret) .skip)))
noncomputable def K4_14 : Code := (.loop (.seq (.seq q4_38 (.cond ( .tmp 178 ) .skip (.exit 14))) (.seq (.block 15 K4_15) q4_39)))
noncomputable def K4_13 : Code := (.seq (.seq q4_35 (.cond ( .tmp 171 ) (.seq q4_36 .ret) .skip)) (.seq q4_37 (.block 14 K4_14)))
noncomputable def K4_12 : Code := (.loop (.seq (.seq q4_33 (.cond ( .tmp 158 ) .skip (.exit 12))) (.seq (.block 13 K4_13) q4_34)))
noncomputable def K4_17 : Code := (.seq q4_48 (.seq (.seq q4_49 (.cond ( .tmp 234 ) (.seq q4_50 .ret) .skip)) (.seq q4_51 (.seq (.seq q4_52 (.cond ( .tmp 244 ) q4_53 .skip)) (.seq q4_54 (.cond ( .tmp 261 ) (.seq q4_55 .ret) .skip))))))
noncomputable def K4_16 : Code := (.loop (.seq (.seq q4_46 (.cond ( .tmp 218 ) .skip (.exit 16))) (.seq (.block 17 K4_17) q4_47)))
theorem e4 : C4 = (.seq q4_0 (.seq q4_1 (.seq q4_2 (.seq q4_3 (.seq (.seq q4_4 (.cond ( .tmp 41 ) (.seq q4_5 .ret) .skip)) (.seq (.seq q4_6 (.cond ( .tmp 59 ) (.seq q4_7 .ret) .skip)) (.seq q4_8 (.seq (.seq q4_9 (.block 0 K4_0)) (.seq (.seq q4_13 (.block 2 K4_2)) (.seq (.seq q4_22 (.block 6 K4_6)) (.seq (.seq q4_32 (.block 12 K4_12)) (.seq q4_43 (.seq q4_44 (.seq (.seq q4_45 (.block 16 K4_16)) (.seq q4_56 .ret))))))))))))))) := by kernel_rfl

set_option maxHeartbeats 1000000 in
set_option maxRecDepth 100000 in
theorem p4_4 {v : World} {a : Act} {n N b o cap M wb G : Nat}  (hA : Fl 262 [(7, .bool true), (10, I 0), (1, I (n : Nat)), (2, .slice (some ⟨b, o, none⟩) N cap), (8, Pt wb 0), (9, .slice (some ⟨M, 0, none⟩) N N)] a) :
    q4_4.wp Try.prog (fun e a' w' => e = .normal ∧ (Fl 262 [(41, .bool false), (1, I (n : Nat)), (2, .slice (some ⟨b, o, none⟩) N cap), (8, Pt wb 0), (9, .slice (some ⟨M, 0, none⟩) N N)] a' ∧ w' = v)) a v := by
  obtain ⟨hsz, hd, hp⟩ := hA
  obtain ⟨u, rfl, hg⟩ := litN hsz hd
  simp only [List.forall_mem_cons, hg] at hp
  obtain ⟨u7, u10, u1, u2, u8, u9, -⟩ := hp
  clear hg hsz hd
  unfold q4_4 C4 Try.f16 seq1 seq2
  simp only [Option.getD_some, lits, Nat.reduceAdd, u7, u10, u1, u2, u8, u9]
  clear u7 u10 u1 u2 u8 u9
  go_wp2_with fail
  first
    | exact ⟨⟨rfl, rfl, by
      intro p hp
      simp only [List.mem_cons, List.not_mem_nil, or_false] at hp
      rcases hp with rfl | rfl | rfl | rfl | rfl <;> first | rfl | exact congrArg I (by omega) | exact congrArg Value.bool (by simp <;> omega) | exact congrArg Value.bool (by simp) | (simp; done)⟩, rfl⟩
    | exact ⟨rfl, rfl, by
      intro p hp
      simp only [List.mem_cons, List.not_mem_nil, or_false] at hp
      rcases hp with rfl | rfl | rfl | rfl | rfl <;> first | rfl | exact congrArg I (by omega) | exact congrArg Value.bool (by simp <;> omega) | exact congrArg Value.bool (by simp) | (simp; done)⟩
    | exact ⟨rfl, ⟨rfl, rfl, by
      intro p hp
      simp only [List.mem_cons, List.not_mem_nil, or_false] at hp
      rcases hp with rfl | rfl | rfl | rfl | rfl <;> first | rfl | exact congrArg I (by omega) | exact congrArg Value.bool (by simp <;> omega) | exact congrArg Value.bool (by simp) | (simp; done)⟩, rfl⟩

set_option maxHeartbeats 1000000 in
set_option maxRecDepth 100000 in
theorem p4_4n {v : World} {a : Act} {E : Int} (hE : ¬ E = 0) (hA : Fl 262 [(7, .bool true), (10, I E)] a) :
    q4_4.wp Try.prog (fun e a' w' => e = .normal ∧ (Fl 262 [(41, .bool true), (7, .bool true)] a' ∧ w' = v)) a v := by
  obtain ⟨hsz, hd, hp⟩ := hA
  obtain ⟨u, rfl, hg⟩ := litN hsz hd
  simp only [List.forall_mem_cons, hg] at hp
  obtain ⟨u7, u10, -⟩ := hp
  clear hg hsz hd
  unfold q4_4 C4 Try.f16 seq1 seq2
  simp only [Option.getD_some, lits, Nat.reduceAdd, u7, u10]
  clear u7 u10
  go_wp2_with fail
  first
    | exact ⟨⟨rfl, rfl, by
      intro p hp
      simp only [List.mem_cons, List.not_mem_nil, or_false] at hp
      rcases hp with rfl | rfl <;> first | rfl | exact congrArg I (by omega) | exact congrArg Value.bool (by simp <;> omega) | exact congrArg Value.bool (by simp) | (simp; done)⟩, rfl⟩
    | exact ⟨rfl, rfl, by
      intro p hp
      simp only [List.mem_cons, List.not_mem_nil, or_false] at hp
      rcases hp with rfl | rfl <;> first | rfl | exact congrArg I (by omega) | exact congrArg Value.bool (by simp <;> omega) | exact congrArg Value.bool (by simp) | (simp; done)⟩
    | exact ⟨rfl, ⟨rfl, rfl, by
      intro p hp
      simp only [List.mem_cons, List.not_mem_nil, or_false] at hp
      rcases hp with rfl | rfl <;> first | rfl | exact congrArg I (by omega) | exact congrArg Value.bool (by simp <;> omega) | exact congrArg Value.bool (by simp) | (simp; done)⟩, rfl⟩

set_option maxHeartbeats 1000000 in
set_option maxRecDepth 100000 in
theorem p4_5 {v : World} {a : Act}   (hA : Fl 262 [(7, .bool true)] a) :
    q4_5.wp Try.prog (fun e a' w' => e = .normal ∧ (Fl 262 [(6, .bool true)] a' ∧ w' = v)) a v := by
  obtain ⟨hsz, hd, hp⟩ := hA
  obtain ⟨u, rfl, hg⟩ := litN hsz hd
  simp only [List.forall_mem_cons, hg] at hp
  obtain ⟨u7, -⟩ := hp
  clear hg hsz hd
  unfold q4_5 C4 Try.f16 seq1 seq2 condA
  simp only [Option.getD_some, lits, Nat.reduceAdd, u7]
  clear u7
  go_wp2_with fail
  first
    | exact ⟨⟨rfl, rfl, by
      intro p hp
      simp only [List.mem_cons, List.not_mem_nil, or_false] at hp
      rcases hp with rfl <;> first | rfl | exact congrArg I (by omega) | exact congrArg Value.bool (by simp <;> omega) | exact congrArg Value.bool (by simp) | (simp; done)⟩, rfl⟩
    | exact ⟨rfl, rfl, by
      intro p hp
      simp only [List.mem_cons, List.not_mem_nil, or_false] at hp
      rcases hp with rfl <;> first | rfl | exact congrArg I (by omega) | exact congrArg Value.bool (by simp <;> omega) | exact congrArg Value.bool (by simp) | (simp; done)⟩
    | exact ⟨rfl, ⟨rfl, rfl, by
      intro p hp
      simp only [List.mem_cons, List.not_mem_nil, or_false] at hp
      rcases hp with rfl <;> first | rfl | exact congrArg I (by omega) | exact congrArg Value.bool (by simp <;> omega) | exact congrArg Value.bool (by simp) | (simp; done)⟩, rfl⟩

set_option maxHeartbeats 1000000 in
set_option maxRecDepth 100000 in
theorem p4_6 {v : World} {a : Act} {n N b o cap M wb G : Nat} {S : TS} (hR : Rep zn S v) (hwb : wb = S.wb) (hs : S.stk = false) (hn0 : 0 < n) (hn1 : n ≤ 100) (hA : Fl 262 [(1, I (n : Nat)), (2, .slice (some ⟨b, o, none⟩) N cap), (8, Pt wb 0), (9, .slice (some ⟨M, 0, none⟩) N N)] a) :
    q4_6.wp Try.prog (fun e a' w' => e = .normal ∧ (Fl 262 [(59, .bool false), (1, I (n : Nat)), (2, .slice (some ⟨b, o, none⟩) N cap), (8, Pt wb 0), (9, .slice (some ⟨M, 0, none⟩) N N)] a' ∧ w' = v)) a v := by
  subst hwb
  have h1 : ¬ (n : Int) < 1 := by omega
  have h2 : ¬ (n : Int) > 100 := by omega
  have h3 := (body10s hR).calls Try.func36 rfl
  rw [hs] at h3
  have H3 : Hid (Calls Try.prog 36 #[Pt S.wb 0] v _) := ⟨h3⟩
  clear h3 hR
  obtain ⟨hsz, hd, hp⟩ := hA
  obtain ⟨u, rfl, hg⟩ := litN hsz hd
  simp only [List.forall_mem_cons, hg] at hp
  obtain ⟨u1, u2, u8, u9, -⟩ := hp
  clear hg hsz hd
  unfold q4_6 C4 Try.f16 seq1 seq2
  simp only [Option.getD_some, lits, Nat.reduceAdd, u1, u2, u8, u9]
  clear u1 u2 u8 u9
  go_wp2_with (first | (go_at_call 36; refine H3.out.mono ?_; rintro e w1 ⟨_, rfl, rfl, rfl⟩))
  first
    | exact ⟨⟨rfl, rfl, by
      intro p hp
      simp only [List.mem_cons, List.not_mem_nil, or_false] at hp
      rcases hp with rfl | rfl | rfl | rfl | rfl <;> first | rfl | exact congrArg I (by omega) | exact congrArg Value.bool (by simp <;> omega) | exact congrArg Value.bool (by simp) | (simp; done)⟩, rfl⟩
    | exact ⟨rfl, rfl, by
      intro p hp
      simp only [List.mem_cons, List.not_mem_nil, or_false] at hp
      rcases hp with rfl | rfl | rfl | rfl | rfl <;> first | rfl | exact congrArg I (by omega) | exact congrArg Value.bool (by simp <;> omega) | exact congrArg Value.bool (by simp) | (simp; done)⟩
    | exact ⟨rfl, ⟨rfl, rfl, by
      intro p hp
      simp only [List.mem_cons, List.not_mem_nil, or_false] at hp
      rcases hp with rfl | rfl | rfl | rfl | rfl <;> first | rfl | exact congrArg I (by omega) | exact congrArg Value.bool (by simp <;> omega) | exact congrArg Value.bool (by simp) | (simp; done)⟩, rfl⟩

set_option maxHeartbeats 1000000 in
set_option maxRecDepth 100000 in
theorem p4_8 {v : World} {a : Act} {n N b o cap M wb G : Nat} (hn1 : n ≤ 100) (hA : Fl 262 [(1, I (n : Nat)), (2, .slice (some ⟨b, o, none⟩) N cap), (8, Pt wb 0), (9, .slice (some ⟨M, 0, none⟩) N N)] a) :
    q4_8.wp Try.prog (fun e a' w' => e = .normal ∧ (Fl 262 [(11, .slice (some ⟨v.heap.size, 0, none⟩) n n), (1, I (n : Nat)), (2, .slice (some ⟨b, o, none⟩) N cap), (8, Pt wb 0), (9, .slice (some ⟨M, 0, none⟩) N N)] a' ∧ w' = v.alloc (.cells (madeCells #[.slice none 0 0] n) 79))) a v := by
  have hmk := make_44 n (by omega)
  obtain ⟨hsz, hd, hp⟩ := hA
  obtain ⟨u, rfl, hg⟩ := litN hsz hd
  simp only [List.forall_mem_cons, hg] at hp
  obtain ⟨u1, u2, u8, u9, -⟩ := hp
  clear hg hsz hd
  unfold q4_8 C4 Try.f16 seq1 seq2
  simp only [Option.getD_some, lits, Nat.reduceAdd, u1, u2, u8, u9]
  clear u1 u2 u8 u9
  go_wp2_with fail
  first
    | exact ⟨⟨rfl, rfl, by
      intro p hp
      simp only [List.mem_cons, List.not_mem_nil, or_false] at hp
      rcases hp with rfl | rfl | rfl | rfl | rfl <;> first | rfl | exact congrArg I (by omega) | exact congrArg Value.bool (by simp <;> omega) | exact congrArg Value.bool (by simp) | (simp; done)⟩, rfl⟩
    | exact ⟨rfl, rfl, by
      intro p hp
      simp only [List.mem_cons, List.not_mem_nil, or_false] at hp
      rcases hp with rfl | rfl | rfl | rfl | rfl <;> first | rfl | exact congrArg I (by omega) | exact congrArg Value.bool (by simp <;> omega) | exact congrArg Value.bool (by simp) | (simp; done)⟩
    | exact ⟨rfl, ⟨rfl, rfl, by
      intro p hp
      simp only [List.mem_cons, List.not_mem_nil, or_false] at hp
      rcases hp with rfl | rfl | rfl | rfl | rfl <;> first | rfl | exact congrArg I (by omega) | exact congrArg Value.bool (by simp <;> omega) | exact congrArg Value.bool (by simp) | (simp; done)⟩, rfl⟩

set_option maxHeartbeats 1000000 in
set_option maxRecDepth 100000 in
theorem p4_9 {v : World} {a : Act} {n N b o cap M wb G : Nat}  (hA : Fl 262 [(1, I (n : Nat)), (2, .slice (some ⟨b, o, none⟩) N cap), (8, Pt wb 0), (9, .slice (some ⟨M, 0, none⟩) N N), (11, .slice (some ⟨G, 0, none⟩) n n)] a) :
    q4_9.wp Try.prog (fun e a' w' => e = .normal ∧ (Fl 262 [(1, I (n : Nat)), (2, .slice (some ⟨b, o, none⟩) N cap), (8, Pt wb 0), (9, .slice (some ⟨M, 0, none⟩) N N), (11, .slice (some ⟨G, 0, none⟩) n n), (12, I ((0 : Nat) : Int))] a' ∧ w' = v)) a v := by
  obtain ⟨hsz, hd, hp⟩ := hA
  obtain ⟨u, rfl, hg⟩ := litN hsz hd
  simp only [List.forall_mem_cons, hg] at hp
  obtain ⟨u1, u2, u8, u9, u11, -⟩ := hp
  clear hg hsz hd
  unfold q4_9 C4 Try.f16 seq1 seq2
  simp only [Option.getD_some, lits, Nat.reduceAdd, u1, u2, u8, u9, u11]
  clear u1 u2 u8 u9 u11
  go_wp2_with fail
  first
    | exact ⟨⟨rfl, rfl, by
      intro p hp
      simp only [List.mem_cons, List.not_mem_nil, or_false] at hp
      rcases hp with rfl | rfl | rfl | rfl | rfl | rfl <;> first | rfl | exact congrArg I (by omega) | exact congrArg Value.bool (by simp <;> omega) | exact congrArg Value.bool (by simp) | (simp; done)⟩, rfl⟩
    | exact ⟨rfl, rfl, by
      intro p hp
      simp only [List.mem_cons, List.not_mem_nil, or_false] at hp
      rcases hp with rfl | rfl | rfl | rfl | rfl | rfl <;> first | rfl | exact congrArg I (by omega) | exact congrArg Value.bool (by simp <;> omega) | exact congrArg Value.bool (by simp) | (simp; done)⟩
    | exact ⟨rfl, ⟨rfl, rfl, by
      intro p hp
      simp only [List.mem_cons, List.not_mem_nil, or_false] at hp
      rcases hp with rfl | rfl | rfl | rfl | rfl | rfl <;> first | rfl | exact congrArg I (by omega) | exact congrArg Value.bool (by simp <;> omega) | exact congrArg Value.bool (by simp) | (simp; done)⟩, rfl⟩

set_option maxHeartbeats 1000000 in
set_option maxRecDepth 100000 in
theorem p4_10 {v : World} {a : Act} {n N b o cap M wb G : Nat} {i : Nat}  (hA : Fl 262 [(1, I (n : Nat)), (2, .slice (some ⟨b, o, none⟩) N cap), (8, Pt wb 0), (9, .slice (some ⟨M, 0, none⟩) N N), (11, .slice (some ⟨G, 0, none⟩) n n), (12, I (i : Nat))] a) :
    q4_10.wp Try.prog (fun e a' w' => e = .normal ∧ (Fl 262 [(64, .bool (decide (i < n))), (1, I (n : Nat)), (2, .slice (some ⟨b, o, none⟩) N cap), (8, Pt wb 0), (9, .slice (some ⟨M, 0, none⟩) N N), (11, .slice (some ⟨G, 0, none⟩) n n), (12, I (i : Nat))] a' ∧ w' = v)) a v := by
  obtain ⟨hsz, hd, hp⟩ := hA
  obtain ⟨u, rfl, hg⟩ := litN hsz hd
  simp only [List.forall_mem_cons, hg] at hp
  obtain ⟨u1, u2, u8, u9, u11, u12, -⟩ := hp
  clear hg hsz hd
  unfold q4_10 C4 Try.f16 seq1 seq2 blockC loopC
  simp only [Option.getD_some, lits, Nat.reduceAdd, u1, u2, u8, u9, u11, u12]
  clear u1 u2 u8 u9 u11 u12
  go_wp2_with fail
  first
    | exact ⟨⟨rfl, rfl, by
      intro p hp
      simp only [List.mem_cons, List.not_mem_nil, or_false] at hp
      rcases hp with rfl | rfl | rfl | rfl | rfl | rfl | rfl <;> first | rfl | exact congrArg I (by omega) | exact congrArg Value.bool (by simp <;> omega) | exact congrArg Value.bool (by simp) | (simp; done)⟩, rfl⟩
    | exact ⟨rfl, rfl, by
      intro p hp
      simp only [List.mem_cons, List.not_mem_nil, or_false] at hp
      rcases hp with rfl | rfl | rfl | rfl | rfl | rfl | rfl <;> first | rfl | exact congrArg I (by omega) | exact congrArg Value.bool (by simp <;> omega) | exact congrArg Value.bool (by simp) | (simp; done)⟩
    | exact ⟨rfl, ⟨rfl, rfl, by
      intro p hp
      simp only [List.mem_cons, List.not_mem_nil, or_false] at hp
      rcases hp with rfl | rfl | rfl | rfl | rfl | rfl | rfl <;> first | rfl | exact congrArg I (by omega) | exact congrArg Value.bool (by simp <;> omega) | exact congrArg Value.bool (by simp) | (simp; done)⟩, rfl⟩

set_option maxHeartbeats 1000000 in
set_option maxRecDepth 100000 in
theorem p4_12 {v : World} {a : Act} {n N b o cap M wb G : Nat} {i : Nat} {f : Nat → Value} (hi : i < n) (hn1 : n ≤ 100) (c : v.rowIs G 79 n f) (hA : Fl 262 [(1, I (n : Nat)), (2, .slice (some ⟨b, o, none⟩) N cap), (8, Pt wb 0), (9, .slice (some ⟨M, 0, none⟩) N N), (11, .slice (some ⟨G, 0, none⟩) n n), (12, I (i : Nat))] a) :
    q4_12.wp Try.prog (fun e a' w' => e = .normal ∧ (Fl 262 [(1, I (n : Nat)), (2, .slice (some ⟨b, o, none⟩) N cap), (8, Pt wb 0), (9, .slice (some ⟨M, 0, none⟩) N N), (11, .slice (some ⟨G, 0, none⟩) n n), (12, I (i : Nat))] a' ∧ w' = (v.alloc (.cells (madeCells #[.bool false] n) 4)).setCell ⟨G, i, none⟩ (.slice (some ⟨v.heap.size, 0, none⟩) n n))) a v := by
  have hmk := make_4 n (by omega)
  have hi' : (i : Int) < (n : Int) := by omega
  have c1 := (c.alloc (.cells (madeCells #[.bool false] n) 4)).cell hi
  have f1 := (c.alloc (.cells (madeCells #[.bool false] n) 4)).frozen i
  clear c
  obtain ⟨hsz, hd, hp⟩ := hA
  obtain ⟨u, rfl, hg⟩ := litN hsz hd
  simp only [List.forall_mem_cons, hg] at hp
  obtain ⟨u1, u2, u8, u9, u11, u12, -⟩ := hp
  clear hg hsz hd
  unfold q4_12 C4 Try.f16 seq1 seq2 blockC loopC
  simp only [Option.getD_some, lits, Nat.reduceAdd, u1, u2, u8, u9, u11, u12]
  clear u1 u2 u8 u9 u11 u12
  go_wp2_with fail
  first
    | exact ⟨⟨rfl, rfl, by
      intro p hp
      simp only [List.mem_cons, List.not_mem_nil, or_false] at hp
      rcases hp with rfl | rfl | rfl | rfl | rfl | rfl <;> first | rfl | exact congrArg I (by omega) | exact congrArg Value.bool (by simp <;> omega) | exact congrArg Value.bool (by simp) | (simp; done)⟩, rfl⟩
    | exact ⟨rfl, rfl, by
      intro p hp
      simp only [List.mem_cons, List.not_mem_nil, or_false] at hp
      rcases hp with rfl | rfl | rfl | rfl | rfl | rfl <;> first | rfl | exact congrArg I (by omega) | exact congrArg Value.bool (by simp <;> omega) | exact congrArg Value.bool (by simp) | (simp; done)⟩
    | exact ⟨rfl, ⟨rfl, rfl, by
      intro p hp
      simp only [List.mem_cons, List.not_mem_nil, or_false] at hp
      rcases hp with rfl | rfl | rfl | rfl | rfl | rfl <;> first | rfl | exact congrArg I (by omega) | exact congrArg Value.bool (by simp <;> omega) | exact congrArg Value.bool (by simp) | (simp; done)⟩, rfl⟩

set_option maxHeartbeats 1000000 in
set_option maxRecDepth 100000 in
theorem p4_11 {v : World} {a : Act} {n N b o cap M wb G : Nat} {i : Nat} (hq : i < 1000000000) (hA : Fl 262 [(1, I (n : Nat)), (2, .slice (some ⟨b, o, none⟩) N cap), (8, Pt wb 0), (9, .slice (some ⟨M, 0, none⟩) N N), (11, .slice (some ⟨G, 0, none⟩) n n), (12, I (i : Nat))] a) :
    q4_11.wp Try.prog (fun e a' w' => e = .normal ∧ (Fl 262 [(1, I (n : Nat)), (2, .slice (some ⟨b, o, none⟩) N cap), (8, Pt wb 0), (9, .slice (some ⟨M, 0, none⟩) N N), (11, .slice (some ⟨G, 0, none⟩) n n), (12, I ((i + 1 : Nat) : Int))] a' ∧ w' = v)) a v := by
  have h9 : wrap64 ((i : Int) + 1) = ((i + 1 : Nat) : Int) := by unfold wrap64; omega
  obtain ⟨hsz, hd, hp⟩ := hA
  obtain ⟨u, rfl, hg⟩ := litN hsz hd
  simp only [List.forall_mem_cons, hg] at hp
  obtain ⟨u1, u2, u8, u9, u11, u12, -⟩ := hp
  clear hg hsz hd
  unfold q4_11 C4 Try.f16 seq1 seq2 blockC loopC
  simp only [Option.getD_some, lits, Nat.reduceAdd, u1, u2, u8, u9, u11, u12]
  clear u1 u2 u8 u9 u11 u12
  go_wp2_with fail
  first
    | exact ⟨⟨rfl, rfl, by
      intro p hp
      simp only [List.mem_cons, List.not_mem_nil, or_false] at hp
      rcases hp with rfl | rfl | rfl | rfl | rfl | rfl <;> first | rfl | exact congrArg I (by omega) | exact congrArg Value.bool (by simp <;> omega) | exact congrArg Value.bool (by simp) | (simp; done)⟩, rfl⟩
    | exact ⟨rfl, rfl, by
      intro p hp
      simp only [List.mem_cons, List.not_mem_nil, or_false] at hp
      rcases hp with rfl | rfl | rfl | rfl | rfl | rfl <;> first | rfl | exact congrArg I (by omega) | exact congrArg Value.bool (by simp <;> omega) | exact congrArg Value.bool (by simp) | (simp; done)⟩
    | exact ⟨rfl, ⟨rfl, rfl, by
      intro p hp
      simp only [List.mem_cons, List.not_mem_nil, or_false] at hp
      rcases hp with rfl | rfl | rfl | rfl | rfl | rfl <;> first | rfl | exact congrArg I (by omega) | exact congrArg Value.bool (by simp <;> omega) | exact congrArg Value.bool (by simp) | (simp; done)⟩, rfl⟩

set_option maxHeartbeats 1000000 in
set_option maxRecDepth 100000 in
theorem p4_13 {v : World} {a : Act} {n N b o cap M wb G : Nat}  (hA : Fl 262 [(1, I (n : Nat)), (2, .slice (some ⟨b, o, none⟩) N cap), (8, Pt wb 0), (9, .slice (some ⟨M, 0, none⟩) N N), (11, .slice (some ⟨G, 0, none⟩) n n)] a) :
    q4_13.wp Try.prog (fun e a' w' => e = .normal ∧ (Fl 262 [(1, I (n : Nat)), (2, .slice (some ⟨b, o, none⟩) N cap), (8, Pt wb 0), (9, .slice (some ⟨M, 0, none⟩) N N), (11, .slice (some ⟨G, 0, none⟩) n n), (13, I ((0 : Nat) : Int))] a' ∧ w' = v)) a v := by
  obtain ⟨hsz, hd, hp⟩ := hA
  obtain ⟨u, rfl, hg⟩ := litN hsz hd
  simp only [List.forall_mem_cons, hg] at hp
  obtain ⟨u1, u2, u8, u9, u11, -⟩ := hp
  clear hg hsz hd
  unfold q4_13 C4 Try.f16 seq1 seq2
  simp only [Option.getD_some, lits, Nat.reduceAdd, u1, u2, u8, u9, u11]
  clear u1 u2 u8 u9 u11
  go_wp2_with fail
  first
    | exact ⟨⟨rfl, rfl, by
      intro p hp
      simp only [List.mem_cons, List.not_mem_nil, or_false] at hp
      rcases hp with rfl | rfl | rfl | rfl | rfl | rfl <;> first | rfl | exact congrArg I (by omega) | exact congrArg Value.bool (by simp <;> omega) | exact congrArg Value.bool (by simp) | (simp; done)⟩, rfl⟩
    | exact ⟨rfl, rfl, by
      intro p hp
      simp only [List.mem_cons, List.not_mem_nil, or_false] at hp
      rcases hp with rfl | rfl | rfl | rfl | rfl | rfl <;> first | rfl | exact congrArg I (by omega) | exact congrArg Value.bool (by simp <;> omega) | exact congrArg Value.bool (by simp) | (simp; done)⟩
    | exact ⟨rfl, ⟨rfl, rfl, by
      intro p hp
      simp only [List.mem_cons, List.not_mem_nil, or_false] at hp
      rcases hp with rfl | rfl | rfl | rfl | rfl | rfl <;> first | rfl | exact congrArg I (by omega) | exact congrArg Value.bool (by simp <;> omega) | exact congrArg Value.bool (by simp) | (simp; done)⟩, rfl⟩

set_option maxHeartbeats 1000000 in
set_option maxRecDepth 100000 in
theorem p4_14 {v : World} {a : Act} {n N b o cap M wb G : Nat} {i : Nat}  (hA : Fl 262 [(1, I (n : Nat)), (2, .slice (some ⟨b, o, none⟩) N cap), (8, Pt wb 0), (9, .slice (some ⟨M, 0, none⟩) N N), (11, .slice (some ⟨G, 0, none⟩) n n), (13, I (i : Nat))] a) :
    q4_14.wp Try.prog (fun e a' w' => e = .normal ∧ (Fl 262 [(75, .bool (decide (i < N))), (1, I (n : Nat)), (2, .slice (some ⟨b, o, none⟩) N cap), (8, Pt wb 0), (9, .slice (some ⟨M, 0, none⟩) N N), (11, .slice (some ⟨G, 0, none⟩) n n), (13, I (i : Nat))] a' ∧ w' = v)) a v := by
  obtain ⟨hsz, hd, hp⟩ := hA
  obtain ⟨u, rfl, hg⟩ := litN hsz hd
  simp only [List.forall_mem_cons, hg] at hp
  obtain ⟨u1, u2, u8, u9, u11, u13, -⟩ := hp
  clear hg hsz hd
  unfold q4_14 C4 Try.f16 seq1 seq2 blockC loopC
  simp only [Option.getD_some, lits, Nat.reduceAdd, u1, u2, u8, u9, u11, u13]
  clear u1 u2 u8 u9 u11 u13
  go_wp2_with fail
  first
    | exact ⟨⟨rfl, rfl, by
      intro p hp
      simp only [List.mem_cons, List.not_mem_nil, or_false] at hp
      rcases hp with rfl | rfl | rfl | rfl | rfl | rfl | rfl <;> first | rfl | exact congrArg I (by omega) | exact congrArg Value.bool (by simp <;> omega) | exact congrArg Value.bool (by simp) | (simp; done)⟩, rfl⟩
    | exact ⟨rfl, rfl, by
      intro p hp
      simp only [List.mem_cons, List.not_mem_nil, or_false] at hp
      rcases hp with rfl | rfl | rfl | rfl | rfl | rfl | rfl <;> first | rfl | exact congrArg I (by omega) | exact congrArg Value.bool (by simp <;> omega) | exact congrArg Value.bool (by simp) | (simp; done)⟩
    | exact ⟨rfl, ⟨rfl, rfl, by
      intro p hp
      simp only [List.mem_cons, List.not_mem_nil, or_false] at hp
      rcases hp with rfl | rfl | rfl | rfl | rfl | rfl | rfl <;> first | rfl | exact congrArg I (by omega) | exact congrArg Value.bool (by simp <;> omega) | exact congrArg Value.bool (by simp) | (simp; done)⟩, rfl⟩

set_option maxHeartbeats 1000000 in
set_option maxRecDepth 100000 in
theorem p4_16 {v : World} {a : Act} {n N b o cap M wb G : Nat} {i : Nat}  (hA : Fl 262 [(1, I (n : Nat)), (2, .slice (some ⟨b, o, none⟩) N cap), (8, Pt wb 0), (9, .slice (some ⟨M, 0, none⟩) N N), (11, .slice (some ⟨G, 0, none⟩) n n), (13, I (i : Nat))] a) :
    q4_16.wp Try.prog (fun e a' w' => e = .normal ∧ (Fl 262 [(1, I (n : Nat)), (2, .slice (some ⟨b, o, none⟩) N cap), (8, Pt wb 0), (9, .slice (some ⟨M, 0, none⟩) N N), (11, .slice (some ⟨G, 0, none⟩) n n), (13, I (i : Nat)), (14, I ((0 : Nat) : Int))] a' ∧ w' = v)) a v := by
  obtain ⟨hsz, hd, hp⟩ := hA
  obtain ⟨u, rfl, hg⟩ := litN hsz hd
  simp only [List.forall_mem_cons, hg] at hp
  obtain ⟨u1, u2, u8, u9, u11, u13, -⟩ := hp
  clear hg hsz hd
  unfold q4_16 C4 Try.f16 seq1 seq2 blockC loopC
  simp only [Option.getD_some, lits, Nat.reduceAdd, u1, u2, u8, u9, u11, u13]
  clear u1 u2 u8 u9 u11 u13
  go_wp2_with fail
  first
    | exact ⟨⟨rfl, rfl, by
      intro p hp
      simp only [List.mem_cons, List.not_mem_nil, or_false] at hp
      rcases hp with rfl | rfl | rfl | rfl | rfl | rfl | rfl <;> first | rfl | exact congrArg I (by omega) | exact congrArg Value.bool (by simp <;> omega) | exact congrArg Value.bool (by simp) | (simp; done)⟩, rfl⟩
    | exact ⟨rfl, rfl, by
      intro p hp
      simp only [List.mem_cons, List.not_mem_nil, or_false] at hp
      rcases hp with rfl | rfl | rfl | rfl | rfl | rfl | rfl <;> first | rfl | exact congrArg I (by omega) | exact congrArg Value.bool (by simp <;> omega) | exact congrArg Value.bool (by simp) | (simp; done)⟩
    | exact ⟨rfl, ⟨rfl, rfl, by
      intro p hp
      simp only [List.mem_cons, List.not_mem_nil, or_false] at hp
      rcases hp with rfl | rfl | rfl | rfl | rfl | rfl | rfl <;> first | rfl | exact congrArg I (by omega) | exact congrArg Value.bool (by simp <;> omega) | exact congrArg Value.bool (by simp) | (simp; done)⟩, rfl⟩

set_option maxHeartbeats 1000000 in
set_option maxRecDepth 100000 in
theorem p4_17 {v : World} {a : Act} {n N b o cap M wb G : Nat} {i k : Nat} {L cc : Nat} {p : Option Addr} (hi : i < N) (c : v.cell? ⟨b, o + i, none⟩ = some (.slice p L cc)) (hA : Fl 262 [(1, I (n : Nat)), (2, .slice (some ⟨b, o, none⟩) N cap), (8, Pt wb 0), (9, .slice (some ⟨M, 0, none⟩) N N), (11, .slice (some ⟨G, 0, none⟩) n n), (13, I (i : Nat)), (14, I (k : Nat))] a) :
    q4_17.wp Try.prog (fun e a' w' => e = .normal ∧ (Fl 262 [(84, .bool (decide (k < L))), (1, I (n : Nat)), (2, .slice (some ⟨b, o, none⟩) N cap), (8, Pt wb 0), (9, .slice (some ⟨M, 0, none⟩) N N), (11, .slice (some ⟨G, 0, none⟩) n n), (13, I (i : Nat)), (14, I (k : Nat))] a' ∧ w' = v)) a v := by
  have hi' : (i : Int) < (N : Int) := by omega
  obtain ⟨hsz, hd, hp⟩ := hA
  obtain ⟨u, rfl, hg⟩ := litN hsz hd
  simp only [List.forall_mem_cons, hg] at hp
  obtain ⟨u1, u2, u8, u9, u11, u13, u14, -⟩ := hp
  clear hg hsz hd
  unfold q4_17 C4 Try.f16 seq1 seq2 blockC loopC
  simp only [Option.getD_some, lits, Nat.reduceAdd, u1, u2, u8, u9, u11, u13, u14]
  clear u1 u2 u8 u9 u11 u13 u14
  go_wp2_with fail
  first
    | exact ⟨⟨rfl, rfl, by
      intro p hp
      simp only [List.mem_cons, List.not_mem_nil, or_false] at hp
      rcases hp with rfl | rfl | rfl | rfl | rfl | rfl | rfl | rfl <;> first | rfl | exact congrArg I (by omega) | exact congrArg Value.bool (by simp <;> omega) | exact congrArg Value.bool (by simp) | (simp; done)⟩, rfl⟩
    | exact ⟨rfl, rfl, by
      intro p hp
      simp only [List.mem_cons, List.not_mem_nil, or_false] at hp
      rcases hp with rfl | rfl | rfl | rfl | rfl | rfl | rfl | rfl <;> first | rfl | exact congrArg I (by omega) | exact congrArg Value.bool (by simp <;> omega) | exact congrArg Value.bool (by simp) | (simp; done)⟩
    | exact ⟨rfl, ⟨rfl, rfl, by
      intro p hp
      simp only [List.mem_cons, List.not_mem_nil, or_false] at hp
      rcases hp with rfl | rfl | rfl | rfl | rfl | rfl | rfl | rfl <;> first | rfl | exact congrArg I (by omega) | exact congrArg Value.bool (by simp <;> omega) | exact congrArg Value.bool (by simp) | (simp; done)⟩, rfl⟩

set_option maxHeartbeats 1000000 in
set_option maxRecDepth 100000 in
theorem p4_19 {v : World} {a : Act} {n N b o cap M wb G : Nat} {i k : Nat} {L cc rb ro : Nat} {po ca cb c4 : Int} (hi : i < N) (c : v.cell? ⟨b, o + i, none⟩ = some (.slice (some ⟨rb, ro, none⟩) L cc)) (hk : k < L) (d0 : v.cell? ⟨rb, ro + k * 4, none⟩ = some (I po)) (d1 : v.cell? ⟨rb, ro + k * 4 + 1, none⟩ = some (I ca)) (d2 : v.cell? ⟨rb, ro + k * 4 + 2, none⟩ = some (I cb)) (d3 : v.cell? ⟨rb, ro + k * 4 + 3, none⟩ = some (I c4)) (hA : Fl 262 [(1, I (n : Nat)), (2, .slice (some ⟨b, o, none⟩) N cap), (8, Pt wb 0), (9, .slice (some ⟨M, 0, none⟩) N N), (11, .slice (some ⟨G, 0, none⟩) n n), (13, I (i : Nat)), (14, I (k : Nat))] a) :
    q4_19.wp Try.prog (fun e a' w' => e = .normal ∧ (Fl 262 [(1, I (n : Nat)), (2, .slice (some ⟨b, o, none⟩) N cap), (8, Pt wb 0), (9, .slice (some ⟨M, 0, none⟩) N N), (11, .slice (some ⟨G, 0, none⟩) n n), (13, I (i : Nat)), (14, I (k : Nat)), (15, Pt v.heap.size 0)] a' ∧ w' = v.alloc (.cells #[I po, I ca, I cb, I c4] 39))) a v := by
  have hi' : (i : Int) < (N : Int) := by omega
  have hk' : (k : Int) < (L : Int) := by omega
  obtain ⟨hsz, hd, hp⟩ := hA
  obtain ⟨u, rfl, hg⟩ := litN hsz hd
  simp only [List.forall_mem_cons, hg] at hp
  obtain ⟨u1, u2, u8, u9, u11, u13, u14, -⟩ := hp
  clear hg hsz hd
  unfold q4_19 C4 Try.f16 seq1 seq2 blockC loopC
  simp only [Option.getD_some, lits, Nat.reduceAdd, u1, u2, u8, u9, u11, u13, u14]
  clear u1 u2 u8 u9 u11 u13 u14
  go_wp2_with fail
  first
    | exact ⟨⟨rfl, rfl, by
      intro p hp
      simp only [List.mem_cons, List.not_mem_nil, or_false] at hp
      rcases hp with rfl | rfl | rfl | rfl | rfl | rfl | rfl | rfl <;> first | rfl | exact congrArg I (by omega) | exact congrArg Value.bool (by simp <;> omega) | exact congrArg Value.bool (by simp) | (simp; done)⟩, rfl⟩
    | exact ⟨rfl, rfl, by
      intro p hp
      simp only [List.mem_cons, List.not_mem_nil, or_false] at hp
      rcases hp with rfl | rfl | rfl | rfl | rfl | rfl | rfl | rfl <;> first | rfl | exact congrArg I (by omega) | exact congrArg Value.bool (by simp <;> omega) | exact congrArg Value.bool (by simp) | (simp; done)⟩
    | exact ⟨rfl, ⟨rfl, rfl, by
      intro p hp
      simp only [List.mem_cons, List.not_mem_nil, or_false] at hp
      rcases hp with rfl | rfl | rfl | rfl | rfl | rfl | rfl | rfl <;> first | rfl | exact congrArg I (by omega) | exact congrArg Value.bool (by simp <;> omega) | exact congrArg Value.bool (by simp) | (simp; done)⟩, rfl⟩

set_option maxHeartbeats 1000000 in
set_option maxRecDepth 100000 in
theorem p4_20 {v : World} {a : Act} {n N b o cap M wb G : Nat} {i k : Nat} {x : Nat} {po : Int} (c0 : v.cell? ⟨x, 0, none⟩ = some (I po)) (hA : Fl 262 [(1, I (n : Nat)), (2, .slice (some ⟨b, o, none⟩) N cap), (8, Pt wb 0), (9, .slice (some ⟨M, 0, none⟩) N N), (11, .slice (some ⟨G, 0, none⟩) n n), (13, I (i : Nat)), (14, I (k : Nat)), (15, Pt x 0)] a) :
    q4_20.wp Try.prog (fun e a' w' => e = .normal ∧ (Fl 262 [(96, .bool (po == 1)), (1, I (n : Nat)), (2, .slice (some ⟨b, o, none⟩) N cap), (8, Pt wb 0), (9, .slice (some ⟨M, 0, none⟩) N N), (11, .slice (some ⟨G, 0, none⟩) n n), (13, I (i : Nat)), (14, I (k : Nat)), (15, Pt x 0)] a' ∧ w' = v)) a v := by
  obtain ⟨hsz, hd, hp⟩ := hA
  obtain ⟨u, rfl, hg⟩ := litN hsz hd
  simp only [List.forall_mem_cons, hg] at hp
  obtain ⟨u1, u2, u8, u9, u11, u13, u14, u15, -⟩ := hp
  clear hg hsz hd
  unfold q4_20 C4 Try.f16 seq1 seq2 blockC loopC
  simp only [Option.getD_some, lits, Nat.reduceAdd, u1, u2, u8, u9, u11, u13, u14, u15]
  clear u1 u2 u8 u9 u11 u13 u14 u15
  go_wp2_with fail
  first
    | exact ⟨⟨rfl, rfl, by
      intro p hp
      simp only [List.mem_cons, List.not_mem_nil, or_false] at hp
      rcases hp with rfl | rfl | rfl | rfl | rfl | rfl | rfl | rfl | rfl <;> first | rfl | exact congrArg I (by omega) | exact congrArg Value.bool (by simp <;> omega) | exact congrArg Value.bool (by simp) | (simp; done)⟩, rfl⟩
    | exact ⟨rfl, rfl, by
      intro p hp
      simp only [List.mem_cons, List.not_mem_nil, or_false] at hp
      rcases hp with rfl | rfl | rfl | rfl | rfl | rfl | rfl | rfl | rfl <;> first | rfl | exact congrArg I (by omega) | exact congrArg Value.bool (by simp <;> omega) | exact congrArg Value.bool (by simp) | (simp; done)⟩
    | exact ⟨rfl, ⟨rfl, rfl, by
      intro p hp
      simp only [List.mem_cons, List.not_mem_nil, or_false] at hp
      rcases hp with rfl | rfl | rfl | rfl | rfl | rfl | rfl | rfl | rfl <;> first | rfl | exact congrArg I (by omega) | exact congrArg Value.bool (by simp <;> omega) | exact congrArg Value.bool (by simp) | (simp; done)⟩, rfl⟩

set_option maxHeartbeats 1000000 in
set_option maxRecDepth 100000 in
theorem p4_22 {v : World} {a : Act} {n N b o cap M wb G : Nat}  (hA : Fl 262 [(1, I (n : Nat)), (2, .slice (some ⟨b, o, none⟩) N cap), (8, Pt wb 0), (9, .slice (some ⟨M, 0, none⟩) N N), (11, .slice (some ⟨G, 0, none⟩) n n)] a) :
    q4_22.wp Try.prog (fun e a' w' => e = .normal ∧ (Fl 262 [(1, I (n : Nat)), (2, .slice (some ⟨b, o, none⟩) N cap), (8, Pt wb 0), (9, .slice (some ⟨M, 0, none⟩) N N), (11, .slice (some ⟨G, 0, none⟩) n n), (16, I ((0 : Nat) : Int))] a' ∧ w' = v)) a v := by
  obtain ⟨hsz, hd, hp⟩ := hA
  obtain ⟨u, rfl, hg⟩ := litN hsz hd
  simp only [List.forall_mem_cons, hg] at hp
  obtain ⟨u1, u2, u8, u9, u11, -⟩ := hp
  clear hg hsz hd
  unfold q4_22 C4 Try.f16 seq1 seq2
  simp only [Option.getD_some, lits, Nat.reduceAdd, u1, u2, u8, u9, u11]
  clear u1 u2 u8 u9 u11
  go_wp2_with fail
  first
    | exact ⟨⟨rfl, rfl, by
      intro p hp
      simp only [List.mem_cons, List.not_mem_nil, or_false] at hp
      rcases hp with rfl | rfl | rfl | rfl | rfl | rfl <;> first | rfl | exact congrArg I (by omega) | exact congrArg Value.bool (by simp <;> omega) | exact congrArg Value.bool (by simp) | (simp; done)⟩, rfl⟩
    | exact ⟨rfl, rfl, by
      intro p hp
      simp only [List.mem_cons, List.not_mem_nil, or_false] at hp
      rcases hp with rfl | rfl | rfl | rfl | rfl | rfl <;> first | rfl | exact congrArg I (by omega) | exact congrArg Value.bool (by simp <;> omega) | exact congrArg Value.bool (by simp) | (simp; done)⟩
    | exact ⟨rfl, ⟨rfl, rfl, by
      intro p hp
      simp only [List.mem_cons, List.not_mem_nil, or_false] at hp
      rcases hp with rfl | rfl | rfl | rfl | rfl | rfl <;> first | rfl | exact congrArg I (by omega) | exact congrArg Value.bool (by simp <;> omega) | exact congrArg Value.bool (by simp) | (simp; done)⟩, rfl⟩

set_option maxHeartbeats 1000000 in
set_option maxRecDepth 100000 in
theorem p4_23 {v : World} {a : Act} {n N b o cap M wb G : Nat} {m : Nat}  (hA : Fl 262 [(1, I (n : Nat)), (2, .slice (some ⟨b, o, none⟩) N cap), (8, Pt wb 0), (9, .slice (some ⟨M, 0, none⟩) N N), (11, .slice (some ⟨G, 0, none⟩) n n), (16, I (m : Nat))] a) :
    q4_23.wp Try.prog (fun e a' w' => e = .normal ∧ (Fl 262 [(111, .bool (decide (m < n))), (1, I (n : Nat)), (2, .slice (some ⟨b, o, none⟩) N cap), (8, Pt wb 0), (9, .slice (some ⟨M, 0, none⟩) N N), (11, .slice (some ⟨G, 0, none⟩) n n), (16, I (m : Nat))] a' ∧ w' = v)) a v := by
  obtain ⟨hsz, hd, hp⟩ := hA
  obtain ⟨u, rfl, hg⟩ := litN hsz hd
  simp only [List.forall_mem_cons, hg] at hp
  obtain ⟨u1, u2, u8, u9, u11, u16, -⟩ := hp
  clear hg hsz hd
  unfold q4_23 C4 Try.f16 seq1 seq2 blockC loopC
  simp only [Option.getD_some, lits, Nat.reduceAdd, u1, u2, u8, u9, u11, u16]
  clear u1 u2 u8 u9 u11 u16
  go_wp2_with fail
  first
    | exact ⟨⟨rfl, rfl, by
      intro p hp
      simp only [List.mem_cons, List.not_mem_nil, or_false] at hp
      rcases hp with rfl | rfl | rfl | rfl | rfl | rfl | rfl <;> first | rfl | exact congrArg I (by omega) | exact congrArg Value.bool (by simp <;> omega) | exact congrArg Value.bool (by simp) | (simp; done)⟩, rfl⟩
    | exact ⟨rfl, rfl, by
      intro p hp
      simp only [List.mem_cons, List.not_mem_nil, or_false] at hp
      rcases hp with rfl | rfl | rfl | rfl | rfl | rfl | rfl <;> first | rfl | exact congrArg I (by omega) | exact congrArg Value.bool (by simp <;> omega) | exact congrArg Value.bool (by simp) | (simp; done)⟩
    | exact ⟨rfl, ⟨rfl, rfl, by
      intro p hp
      simp only [List.mem_cons, List.not_mem_nil, or_false] at hp
      rcases hp with rfl | rfl | rfl | rfl | rfl | rfl | rfl <;> first | rfl | exact congrArg I (by omega) | exact congrArg Value.bool (by simp <;> omega) | exact congrArg Value.bool (by simp) | (simp; done)⟩, rfl⟩

set_option maxHeartbeats 1000000 in
set_option maxRecDepth 100000 in
theorem p4_25 {v : World} {a : Act} {n N b o cap M wb G : Nat} {m : Nat}  (hA : Fl 262 [(1, I (n : Nat)), (2, .slice (some ⟨b, o, none⟩) N cap), (8, Pt wb 0), (9, .slice (some ⟨M, 0, none⟩) N N), (11, .slice (some ⟨G, 0, none⟩) n n), (16, I (m : Nat))] a) :
    q4_25.wp Try.prog (fun e a' w' => e = .normal ∧ (Fl 262 [(1, I (n : Nat)), (2, .slice (some ⟨b, o, none⟩) N cap), (8, Pt wb 0), (9, .slice (some ⟨M, 0, none⟩) N N), (11, .slice (some ⟨G, 0, none⟩) n n), (16, I (m : Nat)), (17, I ((0 : Nat) : Int))] a' ∧ w' = v)) a v := by
  obtain ⟨hsz, hd, hp⟩ := hA
  obtain ⟨u, rfl, hg⟩ := litN hsz hd
  simp only [List.forall_mem_cons, hg] at hp
  obtain ⟨u1, u2, u8, u9, u11, u16, -⟩ := hp
  clear hg hsz hd
  unfold q4_25 C4 Try.f16 seq1 seq2 blockC loopC
  simp only [Option.getD_some, lits, Nat.reduceAdd, u1, u2, u8, u9, u11, u16]
  clear u1 u2 u8 u9 u11 u16
  go_wp2_with fail
  first
    | exact ⟨⟨rfl, rfl, by
      intro p hp
      simp only [List.mem_cons, List.not_mem_nil, or_false] at hp
      rcases hp with rfl | rfl | rfl | rfl | rfl | rfl | rfl <;> first | rfl | exact congrArg I (by omega) | exact congrArg Value.bool (by simp <;> omega) | exact congrArg Value.bool (by simp) | (simp; done)⟩, rfl⟩
    | exact ⟨rfl, rfl, by
      intro p hp
      simp only [List.mem_cons, List.not_mem_nil, or_false] at hp
      rcases hp with rfl | rfl | rfl | rfl | rfl | rfl | rfl <;> first | rfl | exact congrArg I (by omega) | exact congrArg Value.bool (by simp <;> omega) | exact congrArg Value.bool (by simp) | (simp; done)⟩
    | exact ⟨rfl, ⟨rfl, rfl, by
      intro p hp
      simp only [List.mem_cons, List.not_mem_nil, or_false] at hp
      rcases hp with rfl | rfl | rfl | rfl | rfl | rfl | rfl <;> first | rfl | exact congrArg I (by omega) | exact congrArg Value.bool (by simp <;> omega) | exact congrArg Value.bool (by simp) | (simp; done)⟩, rfl⟩

set_option maxHeartbeats 1000000 in
set_option maxRecDepth 100000 in
theorem p4_26 {v : World} {a : Act} {n N b o cap M wb G : Nat} {m i : Nat}  (hA : Fl 262 [(1, I (n : Nat)), (2, .slice (some ⟨b, o, none⟩) N cap), (8, Pt wb 0), (9, .slice (some ⟨M, 0, none⟩) N N), (11, .slice (some ⟨G, 0, none⟩) n n), (16, I (m : Nat)), (17, I (i : Nat))] a) :
    q4_26.wp Try.prog (fun e a' w' => e = .normal ∧ (Fl 262 [(116, .bool (decide (i < n))), (1, I (n : Nat)), (2, .slice (some ⟨b, o, none⟩) N cap), (8, Pt wb 0), (9, .slice (some ⟨M, 0, none⟩) N N), (11, .slice (some ⟨G, 0, none⟩) n n), (16, I (m : Nat)), (17, I (i : Nat))] a' ∧ w' = v)) a v := by
  obtain ⟨hsz, hd, hp⟩ := hA
  obtain ⟨u, rfl, hg⟩ := litN hsz hd
  simp only [List.forall_mem_cons, hg] at hp
  obtain ⟨u1, u2, u8, u9, u11, u16, u17, -⟩ := hp
  clear hg hsz hd
  unfold q4_26 C4 Try.f16 seq1 seq2 blockC loopC
  simp only [Option.getD_some, lits, Nat.reduceAdd, u1, u2, u8, u9, u11, u16, u17]
  clear u1 u2 u8 u9 u11 u16 u17
  go_wp2_with fail
  first
    | exact ⟨⟨rfl, rfl, by
      intro p hp
      simp only [List.mem_cons, List.not_mem_nil, or_false] at hp
      rcases hp with rfl | rfl | rfl | rfl | rfl | rfl | rfl | rfl <;> first | rfl | exact congrArg I (by omega) | exact congrArg Value.bool (by simp <;> omega) | exact congrArg Value.bool (by simp) | (simp; done)⟩, rfl⟩
    | exact ⟨rfl, rfl, by
      intro p hp
      simp only [List.mem_cons, List.not_mem_nil, or_false] at hp
      rcases hp with rfl | rfl | rfl | rfl | rfl | rfl | rfl | rfl <;> first | rfl | exact congrArg I (by omega) | exact congrArg Value.bool (by simp <;> omega) | exact congrArg Value.bool (by simp) | (simp; done)⟩
    | exact ⟨rfl, ⟨rfl, rfl, by
      intro p hp
      simp only [List.mem_cons, List.not_mem_nil, or_false] at hp
      rcases hp with rfl | rfl | rfl | rfl | rfl | rfl | rfl | rfl <;> first | rfl | exact congrArg I (by omega) | exact congrArg Value.bool (by simp <;> omega) | exact congrArg Value.bool (by simp) | (simp; done)⟩, rfl⟩

set_option maxHeartbeats 1000000 in
set_option maxRecDepth 100000 in
theorem p4_28 {v : World} {a : Act} {n N b o cap M wb G : Nat} {m i : Nat}  (hA : Fl 262 [(1, I (n : Nat)), (2, .slice (some ⟨b, o, none⟩) N cap), (8, Pt wb 0), (9, .slice (some ⟨M, 0, none⟩) N N), (11, .slice (some ⟨G, 0, none⟩) n n), (16, I (m : Nat)), (17, I (i : Nat))] a) :
    q4_28.wp Try.prog (fun e a' w' => e = .normal ∧ (Fl 262 [(1, I (n : Nat)), (2, .slice (some ⟨b, o, none⟩) N cap), (8, Pt wb 0), (9, .slice (some ⟨M, 0, none⟩) N N), (11, .slice (some ⟨G, 0, none⟩) n n), (16, I (m : Nat)), (17, I (i : Nat)), (18, I ((0 : Nat) : Int))] a' ∧ w' = v)) a v := by
  obtain ⟨hsz, hd, hp⟩ := hA
  obtain ⟨u, rfl, hg⟩ := litN hsz hd
  simp only [List.forall_mem_cons, hg] at hp
  obtain ⟨u1, u2, u8, u9, u11, u16, u17, -⟩ := hp
  clear hg hsz hd
  unfold q4_28 C4 Try.f16 seq1 seq2 blockC loopC
  simp only [Option.getD_some, lits, Nat.reduceAdd, u1, u2, u8, u9, u11, u16, u17]
  clear u1 u2 u8 u9 u11 u16 u17
  go_wp2_with fail
  first
    | exact ⟨⟨rfl, rfl, by
      intro p hp
      simp only [List.mem_cons, List.not_mem_nil, or_false] at hp
      rcases hp with rfl | rfl | rfl | rfl | rfl | rfl | rfl | rfl <;> first | rfl | exact congrArg I (by omega) | exact congrArg Value.bool (by simp <;> omega) | exact congrArg Value.bool (by simp) | (simp; done)⟩, rfl⟩
    | exact ⟨rfl, rfl, by
      intro p hp
      simp only [List.mem_cons, List.not_mem_nil, or_false] at hp
      rcases hp with rfl | rfl | rfl | rfl | rfl | rfl | rfl | rfl <;> first | rfl | exact congrArg I (by omega) | exact congrArg Value.bool (by simp <;> omega) | exact congrArg Value.bool (by simp) | (simp; done)⟩
    | exact ⟨rfl, ⟨rfl, rfl, by
      intro p hp
      simp only [List.mem_cons, List.not_mem_nil, or_false] at hp
      rcases hp with rfl | rfl | rfl | rfl | rfl | rfl | rfl | rfl <;> first | rfl | exact congrArg I (by omega) | exact congrArg Value.bool (by simp <;> omega) | exact congrArg Value.bool (by simp) | (simp; done)⟩, rfl⟩

set_option maxHeartbeats 1000000 in
set_option maxRecDepth 100000 in
theorem p4_29 {v : World} {a : Act} {n N b o cap M wb G : Nat} {m i k : Nat}  (hA : Fl 262 [(1, I (n : Nat)), (2, .slice (some ⟨b, o, none⟩) N cap), (8, Pt wb 0), (9, .slice (some ⟨M, 0, none⟩) N N), (11, .slice (some ⟨G, 0, none⟩) n n), (16, I (m : Nat)), (17, I (i : Nat)), (18, I (k : Nat))] a) :
    q4_29.wp Try.prog (fun e a' w' => e = .normal ∧ (Fl 262 [(121, .bool (decide (k < n))), (1, I (n : Nat)), (2, .slice (some ⟨b, o, none⟩) N cap), (8, Pt wb 0), (9, .slice (some ⟨M, 0, none⟩) N N), (11, .slice (some ⟨G, 0, none⟩) n n), (16, I (m : Nat)), (17, I (i : Nat)), (18, I (k : Nat))] a' ∧ w' = v)) a v := by
  obtain ⟨hsz, hd, hp⟩ := hA
  obtain ⟨u, rfl, hg⟩ := litN hsz hd
  simp only [List.forall_mem_cons, hg] at hp
  obtain ⟨u1, u2, u8, u9, u11, u16, u17, u18, -⟩ := hp
  clear hg hsz hd
  unfold q4_29 C4 Try.f16 seq1 seq2 blockC loopC
  simp only [Option.getD_some, lits, Nat.reduceAdd, u1, u2, u8, u9, u11, u16, u17, u18]
  clear u1 u2 u8 u9 u11 u16 u17 u18
  go_wp2_with fail
  first
    | exact ⟨⟨rfl, rfl, by
      intro p hp
      simp only [List.mem_cons, List.not_mem_nil, or_false] at hp
      rcases hp with rfl | rfl | rfl | rfl | rfl | rfl | rfl | rfl | rfl <;> first | rfl | exact congrArg I (by omega) | exact congrArg Value.bool (by simp <;> omega) | exact congrArg Value.bool (by simp) | (simp; done)⟩, rfl⟩
    | exact ⟨rfl, rfl, by
      intro p hp
      simp only [List.mem_cons, List.not_mem_nil, or_false] at hp
      rcases hp with rfl | rfl | rfl | rfl | rfl | rfl | rfl | rfl | rfl <;> first | rfl | exact congrArg I (by omega) | exact congrArg Value.bool (by simp <;> omega) | exact congrArg Value.bool (by simp) | (simp; done)⟩
    | exact ⟨rfl, ⟨rfl, rfl, by
      intro p hp
      simp only [List.mem_cons, List.not_mem_nil, or_false] at hp
      rcases hp with rfl | rfl | rfl | rfl | rfl | rfl | rfl | rfl | rfl <;> first | rfl | exact congrArg I (by omega) | exact congrArg Value.bool (by simp <;> omega) | exact congrArg Value.bool (by simp) | (simp; done)⟩, rfl⟩

set_option maxHeartbeats 1000000 in
set_option maxRecDepth 100000 in
theorem p4_30 {v : World} {a : Act} {n N b o cap M wb G : Nat} {k : Nat} {m i : Nat} (hq : k < 1000000000) (hA : Fl 262 [(1, I (n : Nat)), (2, .slice (some ⟨b, o, none⟩) N cap), (8, Pt wb 0), (9, .slice (some ⟨M, 0, none⟩) N N), (11, .slice (some ⟨G, 0, none⟩) n n), (16, I (m : Nat)), (17, I (i : Nat)), (18, I (k : Nat))] a) :
    q4_30.wp Try.prog (fun e a' w' => e = .normal ∧ (Fl 262 [(1, I (n : Nat)), (2, .slice (some ⟨b, o, none⟩) N cap), (8, Pt wb 0), (9, .slice (some ⟨M, 0, none⟩) N N), (11, .slice (some ⟨G, 0, none⟩) n n), (16, I (m : Nat)), (17, I (i : Nat)), (18, I ((k + 1 : Nat) : Int))] a' ∧ w' = v)) a v := by
  have h9 : wrap64 ((k : Int) + 1) = ((k + 1 : Nat) : Int) := by unfold wrap64; omega
  obtain ⟨hsz, hd, hp⟩ := hA
  obtain ⟨u, rfl, hg⟩ := litN hsz hd
  simp only [List.forall_mem_cons, hg] at hp
  obtain ⟨u1, u2, u8, u9, u11, u16, u17, u18, -⟩ := hp
  clear hg hsz hd
  unfold q4_30 C4 Try.f16 seq1 seq2 blockC loopC
  simp only [Option.getD_some, lits, Nat.reduceAdd, u1, u2, u8, u9, u11, u16, u17, u18]
  clear u1 u2 u8 u9 u11 u16 u17 u18
  go_wp2_with fail
  first
    | exact ⟨⟨rfl, rfl, by
      intro p hp
      simp only [List.mem_cons, List.not_mem_nil, or_false] at hp
      rcases hp with rfl | rfl | rfl | rfl | rfl | rfl | rfl | rfl <;> first | rfl | exact congrArg I (by omega) | exact congrArg Value.bool (by simp <;> omega) | exact congrArg Value.bool (by simp) | (simp; done)⟩, rfl⟩
    | exact ⟨rfl, rfl, by
      intro p hp
      simp only [List.mem_cons, List.not_mem_nil, or_false] at hp
      rcases hp with rfl | rfl | rfl | rfl | rfl | rfl | rfl | rfl <;> first | rfl | exact congrArg I (by omega) | exact congrArg Value.bool (by simp <;> omega) | exact congrArg Value.bool (by simp) | (simp; done)⟩
    | exact ⟨rfl, ⟨rfl, rfl, by
      intro p hp
      simp only [List.mem_cons, List.not_mem_nil, or_false] at hp
      rcases hp with rfl | rfl | rfl | rfl | rfl | rfl | rfl | rfl <;> first | rfl | exact congrArg I (by omega) | exact congrArg Value.bool (by simp <;> omega) | exact congrArg Value.bool (by simp) | (simp; done)⟩, rfl⟩

set_option maxHeartbeats 1000000 in
set_option maxRecDepth 100000 in
theorem p4_27 {v : World} {a : Act} {n N b o cap M wb G : Nat} {i : Nat} {m : Nat} (hq : i < 1000000000) (hA : Fl 262 [(1, I (n : Nat)), (2, .slice (some ⟨b, o, none⟩) N cap), (8, Pt wb 0), (9, .slice (some ⟨M, 0, none⟩) N N), (11, .slice (some ⟨G, 0, none⟩) n n), (16, I (m : Nat)), (17, I (i : Nat))] a) :
    q4_27.wp Try.prog (fun e a' w' => e = .normal ∧ (Fl 262 [(1, I (n : Nat)), (2, .slice (some ⟨b, o, none⟩) N cap), (8, Pt wb 0), (9, .slice (some ⟨M, 0, none⟩) N N), (11, .slice (some ⟨G, 0, none⟩) n n), (16, I (m : Nat)), (17, I ((i + 1 : Nat) : Int))] a' ∧ w' = v)) a v := by
  have h9 : wrap64 ((i : Int) + 1) = ((i + 1 : Nat) : Int) := by unfold wrap64; omega
  obtain ⟨hsz, hd, hp⟩ := hA
  obtain ⟨u, rfl, hg⟩ := litN hsz hd
  simp only [List.forall_mem_cons, hg] at hp
  obtain ⟨u1, u2, u8, u9, u11, u16, u17, -⟩ := hp
  clear hg hsz hd
  unfold q4_27 C4 Try.f16 seq1 seq2 blockC loopC
  simp only [Option.getD_some, lits, Nat.reduceAdd, u1, u2, u8, u9, u11, u16, u17]
  clear u1 u2 u8 u9 u11 u16 u17
  go_wp2_with fail
  first
    | exact ⟨⟨rfl, rfl, by
      intro p hp
      simp only [List.mem_cons, List.not_mem_nil, or_false] at hp
      rcases hp with rfl | rfl | rfl | rfl | rfl | rfl | rfl <;> first | rfl | exact congrArg I (by omega) | exact congrArg Value.bool (by simp <;> omega) | exact congrArg Value.bool (by simp) | (simp; done)⟩, rfl⟩
    | exact ⟨rfl, rfl, by
      intro p hp
      simp only [List.mem_cons, List.not_mem_nil, or_false] at hp
      rcases hp with rfl | rfl | rfl | rfl | rfl | rfl | rfl <;> first | rfl | exact congrArg I (by omega) | exact congrArg Value.bool (by simp <;> omega) | exact congrArg Value.bool (by simp) | (simp; done)⟩
    | exact ⟨rfl, ⟨rfl, rfl, by
      intro p hp
      simp only [List.mem_cons, List.not_mem_nil, or_false] at hp
      rcases hp with rfl | rfl | rfl | rfl | rfl | rfl | rfl <;> first | rfl | exact congrArg I (by omega) | exact congrArg Value.bool (by simp <;> omega) | exact congrArg Value.bool (by simp) | (simp; done)⟩, rfl⟩

set_option maxHeartbeats 1000000 in
set_option maxRecDepth 100000 in
theorem p4_24 {v : World} {a : Act} {n N b o cap M wb G : Nat} {m : Nat} (hq : m < 1000000000) (hA : Fl 262 [(1, I (n : Nat)), (2, .slice (some ⟨b, o, none⟩) N cap), (8, Pt wb 0), (9, .slice (some ⟨M, 0, none⟩) N N), (11, .slice (some ⟨G, 0, none⟩) n n), (16, I (m : Nat))] a) :
    q4_24.wp Try.prog (fun e a' w' => e = .normal ∧ (Fl 262 [(1, I (n : Nat)), (2, .slice (some ⟨b, o, none⟩) N cap), (8, Pt wb 0), (9, .slice (some ⟨M, 0, none⟩) N N), (11, .slice (some ⟨G, 0, none⟩) n n), (16, I ((m + 1 : Nat) : Int))] a' ∧ w' = v)) a v := by
  have h9 : wrap64 ((m : Int) + 1) = ((m + 1 : Nat) : Int) := by unfold wrap64; omega
  obtain ⟨hsz, hd, hp⟩ := hA
  obtain ⟨u, rfl, hg⟩ := litN hsz hd
  simp only [List.forall_mem_cons, hg] at hp
  obtain ⟨u1, u2, u8, u9, u11, u16, -⟩ := hp
  clear hg hsz hd
  unfold q4_24 C4 Try.f16 seq1 seq2 blockC loopC
  simp only [Option.getD_some, lits, Nat.reduceAdd, u1, u2, u8, u9, u11, u16]
  clear u1 u2 u8 u9 u11 u16
  go_wp2_with fail
  first
    | exact ⟨⟨rfl, rfl, by
      intro p hp
      simp only [List.mem_cons, List.not_mem_nil, or_false] at hp
      rcases hp with rfl | rfl | rfl | rfl | rfl | rfl <;> first | rfl | exact congrArg I (by omega) | exact congrArg Value.bool (by simp <;> omega) | exact congrArg Value.bool (by simp) | (simp; done)⟩, rfl⟩
    | exact ⟨rfl, rfl, by
      intro p hp
      simp only [List.mem_cons, List.not_mem_nil, or_false] at hp
      rcases hp with rfl | rfl | rfl | rfl | rfl | rfl <;> first | rfl | exact congrArg I (by omega) | exact congrArg Value.bool (by simp <;> omega) | exact congrArg Value.bool (by simp) | (simp; done)⟩
    | exact ⟨rfl, ⟨rfl, rfl, by
      intro p hp
      simp only [List.mem_cons, List.not_mem_nil, or_false] at hp
      rcases hp with rfl | rfl | rfl | rfl | rfl | rfl <;> first | rfl | exact congrArg I (by omega) | exact congrArg Value.bool (by simp <;> omega) | exact congrArg Value.bool (by simp) | (simp; done)⟩, rfl⟩

set_option maxHeartbeats 1000000 in
set_option maxRecDepth 100000 in
theorem p4_32 {v : World} {a : Act} {n N b o cap M wb G : Nat}  (hA : Fl 262 [(1, I (n : Nat)), (2, .slice (some ⟨b, o, none⟩) N cap), (8, Pt wb 0), (9, .slice (some ⟨M, 0, none⟩) N N), (11, .slice (some ⟨G, 0, none⟩) n n)] a) :
    q4_32.wp Try.prog (fun e a' w' => e = .normal ∧ (Fl 262 [(1, I (n : Nat)), (2, .slice (some ⟨b, o, none⟩) N cap), (8, Pt wb 0), (9, .slice (some ⟨M, 0, none⟩) N N), (11, .slice (some ⟨G, 0, none⟩) n n), (19, I ((0 : Nat) : Int))] a' ∧ w' = v)) a v := by
  obtain ⟨hsz, hd, hp⟩ := hA
  obtain ⟨u, rfl, hg⟩ := litN hsz hd
  simp only [List.forall_mem_cons, hg] at hp
  obtain ⟨u1, u2, u8, u9, u11, -⟩ := hp
  clear hg hsz hd
  unfold q4_32 C4 Try.f16 seq1 seq2
  simp only [Option.getD_some, lits, Nat.reduceAdd, u1, u2, u8, u9, u11]
  clear u1 u2 u8 u9 u11
  go_wp2_with fail
  first
    | exact ⟨⟨rfl, rfl, by
      intro p hp
      simp only [List.mem_cons, List.not_mem_nil, or_false] at hp
      rcases hp with rfl | rfl | rfl | rfl | rfl | rfl <;> first | rfl | exact congrArg I (by omega) | exact congrArg Value.bool (by simp <;> omega) | exact congrArg Value.bool (by simp) | (simp; done)⟩, rfl⟩
    | exact ⟨rfl, rfl, by
      intro p hp
      simp only [List.mem_cons, List.not_mem_nil, or_false] at hp
      rcases hp with rfl | rfl | rfl | rfl | rfl | rfl <;> first | rfl | exact congrArg I (by omega) | exact congrArg Value.bool (by simp <;> omega) | exact congrArg Value.bool (by simp) | (simp; done)⟩
    | exact ⟨rfl, ⟨rfl, rfl, by
      intro p hp
      simp only [List.mem_cons, List.not_mem_nil, or_false] at hp
      rcases hp with rfl | rfl | rfl | rfl | rfl | rfl <;> first | rfl | exact congrArg I (by omega) | exact congrArg Value.bool (by simp <;> omega) | exact congrArg Value.bool (by simp) | (simp; done)⟩, rfl⟩

set_option maxHeartbeats 1000000 in
set_option maxRecDepth 100000 in
theorem p4_33 {v : World} {a : Act} {n N b o cap M wb G : Nat} {i : Nat}  (hA : Fl 262 [(1, I (n : Nat)), (2, .slice (some ⟨b, o, none⟩) N cap), (8, Pt wb 0), (9, .slice (some ⟨M, 0, none⟩) N N), (11, .slice (some ⟨G, 0, none⟩) n n), (19, I (i : Nat))] a) :
    q4_33.wp Try.prog (fun e a' w' => e = .normal ∧ (Fl 262 [(158, .bool (decide (i < N))), (1, I (n : Nat)), (2, .slice (some ⟨b, o, none⟩) N cap), (8, Pt wb 0), (9, .slice (some ⟨M, 0, none⟩) N N), (11, .slice (some ⟨G, 0, none⟩) n n), (19, I (i : Nat))] a' ∧ w' = v)) a v := by
  obtain ⟨hsz, hd, hp⟩ := hA
  obtain ⟨u, rfl, hg⟩ := litN hsz hd
  simp only [List.forall_mem_cons, hg] at hp
  obtain ⟨u1, u2, u8, u9, u11, u19, -⟩ := hp
  clear hg hsz hd
  unfold q4_33 C4 Try.f16 seq1 seq2 blockC loopC
  simp only [Option.getD_some, lits, Nat.reduceAdd, u1, u2, u8, u9, u11, u19]
  clear u1 u2 u8 u9 u11 u19
  go_wp2_with fail
  first
    | exact ⟨⟨rfl, rfl, by
      intro p hp
      simp only [List.mem_cons, List.not_mem_nil, or_false] at hp
      rcases hp with rfl | rfl | rfl | rfl | rfl | rfl | rfl <;> first | rfl | exact congrArg I (by omega) | exact congrArg Value.bool (by simp <;> omega) | exact congrArg Value.bool (by simp) | (simp; done)⟩, rfl⟩
    | exact ⟨rfl, rfl, by
      intro p hp
      simp only [List.mem_cons, List.not_mem_nil, or_false] at hp
      rcases hp with rfl | rfl | rfl | rfl | rfl | rfl | rfl <;> first | rfl | exact congrArg I (by omega) | exact congrArg Value.bool (by simp <;> omega) | exact congrArg Value.bool (by simp) | (simp; done)⟩
    | exact ⟨rfl, ⟨rfl, rfl, by
      intro p hp
      simp only [List.mem_cons, List.not_mem_nil, or_false] at hp
      rcases hp with rfl | rfl | rfl | rfl | rfl | rfl | rfl <;> first | rfl | exact congrArg I (by omega) | exact congrArg Value.bool (by simp <;> omega) | exact congrArg Value.bool (by simp) | (simp; done)⟩, rfl⟩

set_option maxHeartbeats 1000000 in
set_option maxRecDepth 100000 in
theorem p4_37 {v : World} {a : Act} {n N b o cap M wb G : Nat} {i : Nat}  (hA : Fl 262 [(1, I (n : Nat)), (2, .slice (some ⟨b, o, none⟩) N cap), (8, Pt wb 0), (9, .slice (some ⟨M, 0, none⟩) N N), (11, .slice (some ⟨G, 0, none⟩) n n), (19, I (i : Nat))] a) :
    q4_37.wp Try.prog (fun e a' w' => e = .normal ∧ (Fl 262 [(1, I (n : Nat)), (2, .slice (some ⟨b, o, none⟩) N cap), (8, Pt wb 0), (9, .slice (some ⟨M, 0, none⟩) N N), (11, .slice (some ⟨G, 0, none⟩) n n), (19, I (i : Nat)), (20, I ((0 : Nat) : Int))] a' ∧ w' = v)) a v := by
  obtain ⟨hsz, hd, hp⟩ := hA
  obtain ⟨u, rfl, hg⟩ := litN hsz hd
  simp only [List.forall_mem_cons, hg] at hp
  obtain ⟨u1, u2, u8, u9, u11, u19, -⟩ := hp
  clear hg hsz hd
  unfold q4_37 C4 Try.f16 seq1 seq2 blockC loopC
  simp only [Option.getD_some, lits, Nat.reduceAdd, u1, u2, u8, u9, u11, u19]
  clear u1 u2 u8 u9 u11 u19
  go_wp2_with fail
  first
    | exact ⟨⟨rfl, rfl, by
      intro p hp
      simp only [List.mem_cons, List.not_mem_nil, or_false] at hp
      rcases hp with rfl | rfl | rfl | rfl | rfl | rfl | rfl <;> first | rfl | exact congrArg I (by omega) | exact congrArg Value.bool (by simp <;> omega) | exact congrArg Value.bool (by simp) | (simp; done)⟩, rfl⟩
    | exact ⟨rfl, rfl, by
      intro p hp
      simp only [List.mem_cons, List.not_mem_nil, or_false] at hp
      rcases hp with rfl | rfl | rfl | rfl | rfl | rfl | rfl <;> first | rfl | exact congrArg I (by omega) | exact congrArg Value.bool (by simp <;> omega) | exact congrArg Value.bool (by simp) | (simp; done)⟩
    | exact ⟨rfl, ⟨rfl, rfl, by
      intro p hp
      simp only [List.mem_cons, List.not_mem_nil, or_false] at hp
      rcases hp with rfl | rfl | rfl | rfl | rfl | rfl | rfl <;> first | rfl | exact congrArg I (by omega) | exact congrArg Value.bool (by simp <;> omega) | exact congrArg Value.bool (by simp) | (simp; done)⟩, rfl⟩

set_option maxHeartbeats 1000000 in
set_option maxRecDepth 100000 in
theorem p4_38 {v : World} {a : Act} {n N b o cap M wb G : Nat} {i k : Nat} {L cc : Nat} {p : Option Addr} (hi : i < N) (c : v.cell? ⟨b, o + i, none⟩ = some (.slice p L cc)) (hA : Fl 262 [(1, I (n : Nat)), (2, .slice (some ⟨b, o, none⟩) N cap), (8, Pt wb 0), (9, .slice (some ⟨M, 0, none⟩) N N), (11, .slice (some ⟨G, 0, none⟩) n n), (19, I (i : Nat)), (20, I (k : Nat))] a) :
    q4_38.wp Try.prog (fun e a' w' => e = .normal ∧ (Fl 262 [(178, .bool (decide (k < L))), (1, I (n : Nat)), (2, .slice (some ⟨b, o, none⟩) N cap), (8, Pt wb 0), (9, .slice (some ⟨M, 0, none⟩) N N), (11, .slice (some ⟨G, 0, none⟩) n n), (19, I (i : Nat)), (20, I (k : Nat))] a' ∧ w' = v)) a v := by
  have hi' : (i : Int) < (N : Int) := by omega
  obtain ⟨hsz, hd, hp⟩ := hA
  obtain ⟨u, rfl, hg⟩ := litN hsz hd
  simp only [List.forall_mem_cons, hg] at hp
  obtain ⟨u1, u2, u8, u9, u11, u19, u20, -⟩ := hp
  clear hg hsz hd
  unfold q4_38 C4 Try.f16 seq1 seq2 blockC loopC
  simp only [Option.getD_some, lits, Nat.reduceAdd, u1, u2, u8, u9, u11, u19, u20]
  clear u1 u2 u8 u9 u11 u19 u20
  go_wp2_with fail
  first
    | exact ⟨⟨rfl, rfl, by
      intro p hp
      simp only [List.mem_cons, List.not_mem_nil, or_false] at hp
      rcases hp with rfl | rfl | rfl | rfl | rfl | rfl | rfl | rfl <;> first | rfl | exact congrArg I (by omega) | exact congrArg Value.bool (by simp <;> omega) | exact congrArg Value.bool (by simp) | (simp; done)⟩, rfl⟩
    | exact ⟨rfl, rfl, by
      intro p hp
      simp only [List.mem_cons, List.not_mem_nil, or_false] at hp
      rcases hp with rfl | rfl | rfl | rfl | rfl | rfl | rfl | rfl <;> first | rfl | exact congrArg I (by omega) | exact congrArg Value.bool (by simp <;> omega) | exact congrArg Value.bool (by simp) | (simp; done)⟩
    | exact ⟨rfl, ⟨rfl, rfl, by
      intro p hp
      simp only [List.mem_cons, List.not_mem_nil, or_false] at hp
      rcases hp with rfl | rfl | rfl | rfl | rfl | rfl | rfl | rfl <;> first | rfl | exact congrArg I (by omega) | exact congrArg Value.bool (by simp <;> omega) | exact congrArg Value.bool (by simp) | (simp; done)⟩, rfl⟩

set_option maxHeartbeats 1000000 in
set_option maxRecDepth 100000 in
theorem p4_40 {v : World} {a : Act} {n N b o cap M wb G : Nat} {i k : Nat} {L cc rb ro : Nat} {ca : Int} (hn0 : 0 < n) (hn1 : n ≤ 100) (hi : i < N) (c : v.cell? ⟨b, o + i, none⟩ = some (.slice (some ⟨rb, ro, none⟩) L cc)) (hk : k < L) (d1 : v.cell? ⟨rb, ro + k * 4 + 1, none⟩ = some (I ca)) (hA : Fl 262 [(1, I (n : Nat)), (2, .slice (some ⟨b, o, none⟩) N cap), (8, Pt wb 0), (9, .slice (some ⟨M, 0, none⟩) N N), (11, .slice (some ⟨G, 0, none⟩) n n), (19, I (i : Nat)), (20, I (k : Nat))] a) :
    q4_40.wp Try.prog (fun e a' w' => e = .normal ∧ (Fl 262 [(1, I (n : Nat)), (2, .slice (some ⟨b, o, none⟩) N cap), (8, Pt wb 0), (9, .slice (some ⟨M, 0, none⟩) N N), (11, .slice (some ⟨G, 0, none⟩) n n), (19, I (i : Nat)), (20, I (k : Nat)), (21, I (which ca n : Nat))] a' ∧ w' = v)) a v := by
  have hi' : (i : Int) < (N : Int) := by omega
  have hk' : (k : Int) < (L : Int) := by omega
  have H1 : Hid (∀ (w : World), Calls Try.prog 51 #[I ca, I (n : Nat)] w (fun e w' => ∃ r, e = .returned r ∧ (r = I (which ca n) ∧ w' = w))) := ⟨fun w => (body6w ca n hn0 (by omega) w).calls Try.func51 rfl⟩
  obtain ⟨hsz, hd, hp⟩ := hA
  obtain ⟨u, rfl, hg⟩ := litN hsz hd
  simp only [List.forall_mem_cons, hg] at hp
  obtain ⟨u1, u2, u8, u9, u11, u19, u20, -⟩ := hp
  clear hg hsz hd
  unfold q4_40 C4 Try.f16 seq1 seq2 blockC loopC
  simp only [Option.getD_some, lits, Nat.reduceAdd, u1, u2, u8, u9, u11, u19, u20]
  clear u1 u2 u8 u9 u11 u19 u20
  go_wp2_with (first | (go_at_call 51; refine (H1.out _).mono ?_; rintro e w1 ⟨_, rfl, rfl, rfl⟩))
  first
    | exact ⟨⟨rfl, rfl, by
      intro p hp
      simp only [List.mem_cons, List.not_mem_nil, or_false] at hp
      rcases hp with rfl | rfl | rfl | rfl | rfl | rfl | rfl | rfl <;> first | rfl | exact congrArg I (by omega) | exact congrArg Value.bool (by simp <;> omega) | exact congrArg Value.bool (by simp) | (simp; done)⟩, rfl⟩
    | exact ⟨rfl, rfl, by
      intro p hp
      simp only [List.mem_cons, List.not_mem_nil, or_false] at hp
      rcases hp with rfl | rfl | rfl | rfl | rfl | rfl | rfl | rfl <;> first | rfl | exact congrArg I (by omega) | exact congrArg Value.bool (by simp <;> omega) | exact congrArg Value.bool (by simp) | (simp; done)⟩
    | exact ⟨rfl, ⟨rfl, rfl, by
      intro p hp
      simp only [List.mem_cons, List.not_mem_nil, or_false] at hp
      rcases hp with rfl | rfl | rfl | rfl | rfl | rfl | rfl | rfl <;> first | rfl | exact congrArg I (by omega) | exact congrArg Value.bool (by simp <;> omega) | exact congrArg Value.bool (by simp) | (simp; done)⟩, rfl⟩

set_option maxHeartbeats 1000000 in
set_option maxRecDepth 100000 in
theorem p4_41z {v : World} {a : Act} {n N b o cap M wb G : Nat} {i k : Nat} {A L x : Nat} {y : Int} (hi : i < N) (d : v.cell? ⟨M, i, none⟩ = some (.slice (some ⟨A, 0, none⟩) L L)) (hk : k < L) (d1 : v.cell? ⟨A, k * 2 + 1, none⟩ = some (I y)) (hy : y = 0) (hA : Fl 262 [(1, I (n : Nat)), (2, .slice (some ⟨b, o, none⟩) N cap), (8, Pt wb 0), (9, .slice (some ⟨M, 0, none⟩) N N), (11, .slice (some ⟨G, 0, none⟩) n n), (19, I (i : Nat)), (20, I (k : Nat)), (21, I (x : Nat))] a) :
    q4_41.wp Try.prog (fun e a' w' => e = .normal ∧ (Fl 262 [(209, .bool false), (1, I (n : Nat)), (2, .slice (some ⟨b, o, none⟩) N cap), (8, Pt wb 0), (9, .slice (some ⟨M, 0, none⟩) N N), (11, .slice (some ⟨G, 0, none⟩) n n), (19, I (i : Nat)), (20, I (k : Nat))] a' ∧ w' = v)) a v := by
  subst hy
  have hi' : (i : Int) < (N : Int) := by omega
  have hk' : (k : Int) < (L : Int) := by omega
  obtain ⟨hsz, hd, hp⟩ := hA
  obtain ⟨u, rfl, hg⟩ := litN hsz hd
  simp only [List.forall_mem_cons, hg] at hp
  obtain ⟨u1, u2, u8, u9, u11, u19, u20, u21, -⟩ := hp
  clear hg hsz hd
  unfold q4_41 C4 Try.f16 seq1 seq2 blockC loopC
  simp only [Option.getD_some, lits, Nat.reduceAdd, u1, u2, u8, u9, u11, u19, u20, u21]
  clear u1 u2 u8 u9 u11 u19 u20 u21
  go_wp2_with fail
  first
    | exact ⟨⟨rfl, rfl, by
      intro p hp
      simp only [List.mem_cons, List.not_mem_nil, or_false] at hp
      rcases hp with rfl | rfl | rfl | rfl | rfl | rfl | rfl | rfl <;> first | rfl | exact congrArg I (by omega) | exact congrArg Value.bool (by simp <;> omega) | exact congrArg Value.bool (by simp) | (simp; done)⟩, rfl⟩
    | exact ⟨rfl, rfl, by
      intro p hp
      simp only [List.mem_cons, List.not_mem_nil, or_false] at hp
      rcases hp with rfl | rfl | rfl | rfl | rfl | rfl | rfl | rfl <;> first | rfl | exact congrArg I (by omega) | exact congrArg Value.bool (by simp <;> omega) | exact congrArg Value.bool (by simp) | (simp; done)⟩
    | exact ⟨rfl, ⟨rfl, rfl, by
      intro p hp
      simp only [List.mem_cons, List.not_mem_nil, or_false] at hp
      rcases hp with rfl | rfl | rfl | rfl | rfl | rfl | rfl | rfl <;> first | rfl | exact congrArg I (by omega) | exact congrArg Value.bool (by simp <;> omega) | exact congrArg Value.bool (by simp) | (simp; done)⟩, rfl⟩

set_option maxHeartbeats 1000000 in
set_option maxRecDepth 100000 in
theorem p4_41y {v : World} {a : Act} {n N b o cap M wb G : Nat} {i k : Nat} {A L x : Nat} {y : Int} {T : Nat → Nat → Bool} (hi : i < N) (d : v.cell? ⟨M, i, none⟩ = some (.slice (some ⟨A, 0, none⟩) L L)) (hk : k < L) (d1 : v.cell? ⟨A, k * 2 + 1, none⟩ = some (I y)) (hy : ¬ y = 0) (hx : x < n) (hT : Tb n G T v) (ht : T x x = true) (hA : Fl 262 [(1, I (n : Nat)), (2, .slice (some ⟨b, o, none⟩) N cap), (8, Pt wb 0), (9, .slice (some ⟨M, 0, none⟩) N N), (11, .slice (some ⟨G, 0, none⟩) n n), (19, I (i : Nat)), (20, I (k : Nat)), (21, I (x : Nat))] a) :
    q4_41.wp Try.prog (fun e a' w' => e = .normal ∧ (Fl 262 [(209, .bool false), (1, I (n : Nat)), (2, .slice (some ⟨b, o, none⟩) N cap), (8, Pt wb 0), (9, .slice (some ⟨M, 0, none⟩) N N), (11, .slice (some ⟨G, 0, none⟩) n n), (19, I (i : Nat)), (20, I (k : Nat))] a' ∧ w' = v)) a v := by
  have hi' : (i : Int) < (N : Int) := by omega
  have hk' : (k : Int) < (L : Int) := by omega
  have hx' : (x : Int) < (n : Int) := by omega
  have hy' : (y != 0) = true := by simp [hy]
  have e1 := hT.out.cell hx
  have e2 := (hT.row x hx).cell hx
  rw [ht] at e2
  clear hT
  obtain ⟨hsz, hd, hp⟩ := hA
  obtain ⟨u, rfl, hg⟩ := litN hsz hd
  simp only [List.forall_mem_cons, hg] at hp
  obtain ⟨u1, u2, u8, u9, u11, u19, u20, u21, -⟩ := hp
  clear hg hsz hd
  unfold q4_41 C4 Try.f16 seq1 seq2 blockC loopC
  simp only [Option.getD_some, lits, Nat.reduceAdd, u1, u2, u8, u9, u11, u19, u20, u21]
  clear u1 u2 u8 u9 u11 u19 u20 u21
  go_wp2_with fail
  first
    | exact ⟨⟨rfl, rfl, by
      intro p hp
      simp only [List.mem_cons, List.not_mem_nil, or_false] at hp
      rcases hp with rfl | rfl | rfl | rfl | rfl | rfl | rfl | rfl <;> first | rfl | exact congrArg I (by omega) | exact congrArg Value.bool (by simp <;> omega) | exact congrArg Value.bool (by simp) | (simp; done)⟩, rfl⟩
    | exact ⟨rfl, rfl, by
      intro p hp
      simp only [List.mem_cons, List.not_mem_nil, or_false] at hp
      rcases hp with rfl | rfl | rfl | rfl | rfl | rfl | rfl | rfl <;> first | rfl | exact congrArg I (by omega) | exact congrArg Value.bool (by simp <;> omega) | exact congrArg Value.bool (by simp) | (simp; done)⟩
    | exact ⟨rfl, ⟨rfl, rfl, by
      intro p hp
      simp only [List.mem_cons, List.not_mem_nil, or_false] at hp
      rcases hp with rfl | rfl | rfl | rfl | rfl | rfl | rfl | rfl <;> first | rfl | exact congrArg I (by omega) | exact congrArg Value.bool (by simp <;> omega) | exact congrArg Value.bool (by simp) | (simp; done)⟩, rfl⟩

set_option maxHeartbeats 1000000 in
set_option maxRecDepth 100000 in
theorem p4_39 {v : World} {a : Act} {n N b o cap M wb G : Nat} {k : Nat} {i : Nat} (hq : k < 1000000000) (hA : Fl 262 [(1, I (n : Nat)), (2, .slice (some ⟨b, o, none⟩) N cap), (8, Pt wb 0), (9, .slice (some ⟨M, 0, none⟩) N N), (11, .slice (some ⟨G, 0, none⟩) n n), (19, I (i : Nat)), (20, I (k : Nat))] a) :
    q4_39.wp Try.prog (fun e a' w' => e = .normal ∧ (Fl 262 [(1, I (n : Nat)), (2, .slice (some ⟨b, o, none⟩) N cap), (8, Pt wb 0), (9, .slice (some ⟨M, 0, none⟩) N N), (11, .slice (some ⟨G, 0, none⟩) n n), (19, I (i : Nat)), (20, I ((k + 1 : Nat) : Int))] a' ∧ w' = v)) a v := by
  have h9 : wrap64 ((k : Int) + 1) = ((k + 1 : Nat) : Int) := by unfold wrap64; omega
  obtain ⟨hsz, hd, hp⟩ := hA
  obtain ⟨u, rfl, hg⟩ := litN hsz hd
  simp only [List.forall_mem_cons, hg] at hp
  obtain ⟨u1, u2, u8, u9, u11, u19, u20, -⟩ := hp
  clear hg hsz hd
  unfold q4_39 C4 Try.f16 seq1 seq2 blockC loopC
  simp only [Option.getD_some, lits, Nat.reduceAdd, u1, u2, u8, u9, u11, u19, u20]
  clear u1 u2 u8 u9 u11 u19 u20
  go_wp2_with fail
  first
    | exact ⟨⟨rfl, rfl, by
      intro p hp
      simp only [List.mem_cons, List.not_mem_nil, or_false] at hp
      rcases hp with rfl | rfl | rfl | rfl | rfl | rfl | rfl <;> first | rfl | exact congrArg I (by omega) | exact congrArg Value.bool (by simp <;> omega) | exact congrArg Value.bool (by simp) | (simp; done)⟩, rfl⟩
    | exact ⟨rfl, rfl, by
      intro p hp
      simp only [List.mem_cons, List.not_mem_nil, or_false] at hp
      rcases hp with rfl | rfl | rfl | rfl | rfl | rfl | rfl <;> first | rfl | exact congrArg I (by omega) | exact congrArg Value.bool (by simp <;> omega) | exact congrArg Value.bool (by simp) | (simp; done)⟩
    | exact ⟨rfl, ⟨rfl, rfl, by
      intro p hp
      simp only [List.mem_cons, List.not_mem_nil, or_false] at hp
      rcases hp with rfl | rfl | rfl | rfl | rfl | rfl | rfl <;> first | rfl | exact congrArg I (by omega) | exact congrArg Value.bool (by simp <;> omega) | exact congrArg Value.bool (by simp) | (simp; done)⟩, rfl⟩

set_option maxHeartbeats 1000000 in
set_option maxRecDepth 100000 in
theorem p4_34 {v : World} {a : Act} {n N b o cap M wb G : Nat} {i : Nat} (hq : i < 1000000000) (hA : Fl 262 [(1, I (n : Nat)), (2, .slice (some ⟨b, o, none⟩) N cap), (8, Pt wb 0), (9, .slice (some ⟨M, 0, none⟩) N N), (11, .slice (some ⟨G, 0, none⟩) n n), (19, I (i : Nat))] a) :
    q4_34.wp Try.prog (fun e a' w' => e = .normal ∧ (Fl 262 [(1, I (n : Nat)), (2, .slice (some ⟨b, o, none⟩) N cap), (8, Pt wb 0), (9, .slice (some ⟨M, 0, none⟩) N N), (11, .slice (some ⟨G, 0, none⟩) n n), (19, I ((i + 1 : Nat) : Int))] a' ∧ w' = v)) a v := by
  have h9 : wrap64 ((i : Int) + 1) = ((i + 1 : Nat) : Int) := by unfold wrap64; omega
  obtain ⟨hsz, hd, hp⟩ := hA
  obtain ⟨u, rfl, hg⟩ := litN hsz hd
  simp only [List.forall_mem_cons, hg] at hp
  obtain ⟨u1, u2, u8, u9, u11, u19, -⟩ := hp
  clear hg hsz hd
  unfold q4_34 C4 Try.f16 seq1 seq2 blockC loopC
  simp only [Option.getD_some, lits, Nat.reduceAdd, u1, u2, u8, u9, u11, u19]
  clear u1 u2 u8 u9 u11 u19
  go_wp2_with fail
  first
    | exact ⟨⟨rfl, rfl, by
      intro p hp
      simp only [List.mem_cons, List.not_mem_nil, or_false] at hp
      rcases hp with rfl | rfl | rfl | rfl | rfl | rfl <;> first | rfl | exact congrArg I (by omega) | exact congrArg Value.bool (by simp <;> omega) | exact congrArg Value.bool (by simp) | (simp; done)⟩, rfl⟩
    | exact ⟨rfl, rfl, by
      intro p hp
      simp only [List.mem_cons, List.not_mem_nil, or_false] at hp
      rcases hp with rfl | rfl | rfl | rfl | rfl | rfl <;> first | rfl | exact congrArg I (by omega) | exact congrArg Value.bool (by simp <;> omega) | exact congrArg Value.bool (by simp) | (simp; done)⟩
    | exact ⟨rfl, ⟨rfl, rfl, by
      intro p hp
      simp only [List.mem_cons, List.not_mem_nil, or_false] at hp
      rcases hp with rfl | rfl | rfl | rfl | rfl | rfl <;> first | rfl | exact congrArg I (by omega) | exact congrArg Value.bool (by simp <;> omega) | exact congrArg Value.bool (by simp) | (simp; done)⟩, rfl⟩

set_option maxHeartbeats 1000000 in
set_option maxRecDepth 100000 in
theorem p4_43 {v : World} {a : Act} {n N b o cap M wb G : Nat} (hN : N ≤ 8) (hA : Fl 262 [(1, I (n : Nat)), (2, .slice (some ⟨b, o, none⟩) N cap), (8, Pt wb 0), (9, .slice (some ⟨M, 0, none⟩) N N), (11, .slice (some ⟨G, 0, none⟩) n n)] a) :
    q4_43.wp Try.prog (fun e a' w' => e = .normal ∧ (Fl 262 [(1, I (n : Nat)), (2, .slice (some ⟨b, o, none⟩) N cap), (8, Pt wb 0), (9, .slice (some ⟨M, 0, none⟩) N N), (11, .slice (some ⟨G, 0, none⟩) n n), (22, .slice (some ⟨v.heap.size, 0, none⟩) N N)] a' ∧ w' = v.alloc (.cells (madeCells #[I 0] N) 3))) a v := by
  have hmk := make_3 N (by omega)
  obtain ⟨hsz, hd, hp⟩ := hA
  obtain ⟨u, rfl, hg⟩ := litN hsz hd
  simp only [List.forall_mem_cons, hg] at hp
  obtain ⟨u1, u2, u8, u9, u11, -⟩ := hp
  clear hg hsz hd
  unfold q4_43 C4 Try.f16 seq1 seq2
  simp only [Option.getD_some, lits, Nat.reduceAdd, u1, u2, u8, u9, u11]
  clear u1 u2 u8 u9 u11
  go_wp2_with fail
  first
    | exact ⟨⟨rfl, rfl, by
      intro p hp
      simp only [List.mem_cons, List.not_mem_nil, or_false] at hp
      rcases hp with rfl | rfl | rfl | rfl | rfl | rfl <;> first | rfl | exact congrArg I (by omega) | exact congrArg Value.bool (by simp <;> omega) | exact congrArg Value.bool (by simp) | (simp; done)⟩, rfl⟩
    | exact ⟨rfl, rfl, by
      intro p hp
      simp only [List.mem_cons, List.not_mem_nil, or_false] at hp
      rcases hp with rfl | rfl | rfl | rfl | rfl | rfl <;> first | rfl | exact congrArg I (by omega) | exact congrArg Value.bool (by simp <;> omega) | exact congrArg Value.bool (by simp) | (simp; done)⟩
    | exact ⟨rfl, ⟨rfl, rfl, by
      intro p hp
      simp only [List.mem_cons, List.not_mem_nil, or_false] at hp
      rcases hp with rfl | rfl | rfl | rfl | rfl | rfl <;> first | rfl | exact congrArg I (by omega) | exact congrArg Value.bool (by simp <;> omega) | exact congrArg Value.bool (by simp) | (simp; done)⟩, rfl⟩

/-- A copy of the trace. -/
def Tr44 (n N b o cap M wb Z : Nat) (S : TS) (v : World) (a : Act) (w : World) : Prop := ∃ p g ct, Fl 262 [(1, I (n : Nat)), (2, .slice (some ⟨b, o, none⟩) N cap), (8, Pt wb 0), (9, .slice (some ⟨M, 0, none⟩) N N), (22, .slice (some ⟨Z, 0, none⟩) N N), (23, .slice p S.n ct)] a ∧ (0 < S.n → p = some ⟨g, 0, none⟩ ∧ v.heap.size ≤ g) ∧ (∀ j u, S.tr[j]? = some u → w.cell? ⟨g, j, none⟩ = some u) ∧ Grows v w
set_option maxHeartbeats 1000000 in
set_option maxRecDepth 100000 in
theorem p4_44 {v : World} {a : Act} {n N b o cap M wb G Z : Nat} {S : TS} (hR : Rep zn S v) (hwb : wb = S.wb) (hn : S.n * 40 ≤ 140737488355328) (h1 : ∀ u ∈ S.tr, u.oneCell' = true) (hA : Fl 262 [(1, I (n : Nat)), (2, .slice (some ⟨b, o, none⟩) N cap), (8, Pt wb 0), (9, .slice (some ⟨M, 0, none⟩) N N), (22, .slice (some ⟨Z, 0, none⟩) N N)] a) :
    q4_44.wp Try.prog (fun e a' w' => e = .normal ∧ Tr44 n N b o cap M wb Z S v a' w') a v := by
  subst hwb
  have H3 : Hid (Calls Try.prog 20 #[Pt S.wb 0] v _) := ⟨(body9A hR hn h1).calls Try.func20 rfl⟩
  clear hR hn h1
  obtain ⟨hsz, hd, hp⟩ := hA
  obtain ⟨u, rfl, hg⟩ := litN hsz hd
  simp only [List.forall_mem_cons, hg] at hp
  obtain ⟨u1, u2, u8, u9, u22, -⟩ := hp
  clear hg hsz hd
  unfold q4_44 C4 Try.f16 seq1 seq2
  simp only [Option.getD_some, lits, Nat.reduceAdd, u1, u2, u8, u9, u22]
  clear u1 u2 u8 u9 u22
  go_wp2_with (first | (go_at_call 20; refine H3.out.mono ?_; rintro e w1 ⟨_, rfl, p, g, ct, rfl, k1, k2, k3⟩))
  first | exact ⟨p, g, ct, ⟨rfl, rfl, by
      intro p hp
      simp only [List.mem_cons, List.not_mem_nil, or_false] at hp
      rcases hp with rfl | rfl | rfl | rfl | rfl | rfl <;> first | rfl | exact congrArg I (by omega) | exact congrArg Value.bool (by simp <;> omega) | exact congrArg Value.bool (by simp) | (simp; done)⟩, k1, k2, k3⟩ | exact ⟨rfl, p, g, ct, ⟨rfl, rfl, by
      intro p hp
      simp only [List.mem_cons, List.not_mem_nil, or_false] at hp
      rcases hp with rfl | rfl | rfl | rfl | rfl | rfl <;> first | rfl | exact congrArg I (by omega) | exact congrArg Value.bool (by simp <;> omega) | exact congrArg Value.bool (by simp) | (simp; done)⟩, k1, k2, k3⟩

set_option maxHeartbeats 1000000 in
set_option maxRecDepth 100000 in
theorem p4_45 {v : World} {a : Act} {n N b o cap M wb G Z : Nat} {p : Option Addr} {T ct : Nat}  (hA : Fl 262 [(1, I (n : Nat)), (2, .slice (some ⟨b, o, none⟩) N cap), (8, Pt wb 0), (9, .slice (some ⟨M, 0, none⟩) N N), (22, .slice (some ⟨Z, 0, none⟩) N N), (23, .slice p T ct)] a) :
    q4_45.wp Try.prog (fun e a' w' => e = .normal ∧ (Fl 262 [(1, I (n : Nat)), (2, .slice (some ⟨b, o, none⟩) N cap), (8, Pt wb 0), (9, .slice (some ⟨M, 0, none⟩) N N), (22, .slice (some ⟨Z, 0, none⟩) N N), (23, .slice p T ct), (24, I ((0 : Nat) : Int))] a' ∧ w' = v)) a v := by
  obtain ⟨hsz, hd, hp⟩ := hA
  obtain ⟨u, rfl, hg⟩ := litN hsz hd
  simp only [List.forall_mem_cons, hg] at hp
  obtain ⟨u1, u2, u8, u9, u22, u23, -⟩ := hp
  clear hg hsz hd
  unfold q4_45 C4 Try.f16 seq1 seq2
  simp only [Option.getD_some, lits, Nat.reduceAdd, u1, u2, u8, u9, u22, u23]
  clear u1 u2 u8 u9 u22 u23
  go_wp2_with fail
  first
    | exact ⟨⟨rfl, rfl, by
      intro p hp
      simp only [List.mem_cons, List.not_mem_nil, or_false] at hp
      rcases hp with rfl | rfl | rfl | rfl | rfl | rfl | rfl <;> first | rfl | exact congrArg I (by omega) | exact congrArg Value.bool (by simp <;> omega) | exact congrArg Value.bool (by simp) | (simp; done)⟩, rfl⟩
    | exact ⟨rfl, rfl, by
      intro p hp
      simp only [List.mem_cons, List.not_mem_nil, or_false] at hp
      rcases hp with rfl | rfl | rfl | rfl | rfl | rfl | rfl <;> first | rfl | exact congrArg I (by omega) | exact congrArg Value.bool (by simp <;> omega) | exact congrArg Value.bool (by simp) | (simp; done)⟩
    | exact ⟨rfl, ⟨rfl, rfl, by
      intro p hp
      simp only [List.mem_cons, List.not_mem_nil, or_false] at hp
      rcases hp with rfl | rfl | rfl | rfl | rfl | rfl | rfl <;> first | rfl | exact congrArg I (by omega) | exact congrArg Value.bool (by simp <;> omega) | exact congrArg Value.bool (by simp) | (simp; done)⟩, rfl⟩

set_option maxHeartbeats 1000000 in
set_option maxRecDepth 100000 in
theorem p4_46 {v : World} {a : Act} {n N b o cap M wb G Z : Nat} {p : Option Addr} {T ct : Nat} {k : Nat}  (hA : Fl 262 [(1, I (n : Nat)), (2, .slice (some ⟨b, o, none⟩) N cap), (8, Pt wb 0), (9, .slice (some ⟨M, 0, none⟩) N N), (22, .slice (some ⟨Z, 0, none⟩) N N), (23, .slice p T ct), (24, I (k : Nat))] a) :
    q4_46.wp Try.prog (fun e a' w' => e = .normal ∧ (Fl 262 [(218, .bool (decide (k < T))), (1, I (n : Nat)), (2, .slice (some ⟨b, o, none⟩) N cap), (8, Pt wb 0), (9, .slice (some ⟨M, 0, none⟩) N N), (22, .slice (some ⟨Z, 0, none⟩) N N), (23, .slice p T ct), (24, I (k : Nat))] a' ∧ w' = v)) a v := by
  obtain ⟨hsz, hd, hp⟩ := hA
  obtain ⟨u, rfl, hg⟩ := litN hsz hd
  simp only [List.forall_mem_cons, hg] at hp
  obtain ⟨u1, u2, u8, u9, u22, u23, u24, -⟩ := hp
  clear hg hsz hd
  unfold q4_46 C4 Try.f16 seq1 seq2 blockC loopC
  simp only [Option.getD_some, lits, Nat.reduceAdd, u1, u2, u8, u9, u22, u23, u24]
  clear u1 u2 u8 u9 u22 u23 u24
  go_wp2_with fail
  first
    | exact ⟨⟨rfl, rfl, by
      intro p hp
      simp only [List.mem_cons, List.not_mem_nil, or_false] at hp
      rcases hp with rfl | rfl | rfl | rfl | rfl | rfl | rfl | rfl <;> first | rfl | exact congrArg I (by omega) | exact congrArg Value.bool (by simp <;> omega) | exact congrArg Value.bool (by simp) | (simp; done)⟩, rfl⟩
    | exact ⟨rfl, rfl, by
      intro p hp
      simp only [List.mem_cons, List.not_mem_nil, or_false] at hp
      rcases hp with rfl | rfl | rfl | rfl | rfl | rfl | rfl | rfl <;> first | rfl | exact congrArg I (by omega) | exact congrArg Value.bool (by simp <;> omega) | exact congrArg Value.bool (by simp) | (simp; done)⟩
    | exact ⟨rfl, ⟨rfl, rfl, by
      intro p hp
      simp only [List.mem_cons, List.not_mem_nil, or_false] at hp
      rcases hp with rfl | rfl | rfl | rfl | rfl | rfl | rfl | rfl <;> first | rfl | exact congrArg I (by omega) | exact congrArg Value.bool (by simp <;> omega) | exact congrArg Value.bool (by simp) | (simp; done)⟩, rfl⟩

set_option maxHeartbeats 1000000 in
set_option maxRecDepth 100000 in
theorem p4_48 {v : World} {a : Act} {n N b o cap M wb G Z : Nat} {g T ct k : Nat} {th ce op ol ne : Int} (hk : k < T) (d0 : v.cell? ⟨g, k * 5, none⟩ = some (I th)) (d1 : v.cell? ⟨g, k * 5 + 1, none⟩ = some (I ce)) (d2 : v.cell? ⟨g, k * 5 + 2, none⟩ = some (I op)) (d3 : v.cell? ⟨g, k * 5 + 3, none⟩ = some (I ol)) (d4 : v.cell? ⟨g, k * 5 + 4, none⟩ = some (I ne)) (hA : Fl 262 [(1, I (n : Nat)), (2, .slice (some ⟨b, o, none⟩) N cap), (8, Pt wb 0), (9, .slice (some ⟨M, 0, none⟩) N N), (22, .slice (some ⟨Z, 0, none⟩) N N), (23, .slice (some ⟨g, 0, none⟩) T ct), (24, I (k : Nat))] a) :
    q4_48.wp Try.prog (fun e a' w' => e = .normal ∧ (Fl 262 [(1, I (n : Nat)), (2, .slice (some ⟨b, o, none⟩) N cap), (8, Pt wb 0), (9, .slice (some ⟨M, 0, none⟩) N N), (22, .slice (some ⟨Z, 0, none⟩) N N), (23, .slice (some ⟨g, 0, none⟩) T ct), (24, I (k : Nat)), (25, Pt v.heap.size 0)] a' ∧ w' = v.alloc (.cells #[I th, I ce, I op, I ol, I ne] 34))) a v := by
  have hk' : (k : Int) < (T : Int) := by omega
  obtain ⟨hsz, hd, hp⟩ := hA
  obtain ⟨u, rfl, hg⟩ := litN hsz hd
  simp only [List.forall_mem_cons, hg] at hp
  obtain ⟨u1, u2, u8, u9, u22, u23, u24, -⟩ := hp
  clear hg hsz hd
  unfold q4_48 C4 Try.f16 seq1 seq2 blockC loopC
  simp only [Option.getD_some, lits, Nat.reduceAdd, u1, u2, u8, u9, u22, u23, u24]
  clear u1 u2 u8 u9 u22 u23 u24
  go_wp2_with fail
  first
    | exact ⟨⟨rfl, rfl, by
      intro p hp
      simp only [List.mem_cons, List.not_mem_nil, or_false] at hp
      rcases hp with rfl | rfl | rfl | rfl | rfl | rfl | rfl | rfl <;> first | rfl | exact congrArg I (by omega) | exact congrArg Value.bool (by simp <;> omega) | exact congrArg Value.bool (by simp) | (simp; done)⟩, rfl⟩
    | exact ⟨rfl, rfl, by
      intro p hp
      simp only [List.mem_cons, List.not_mem_nil, or_false] at hp
      rcases hp with rfl | rfl | rfl | rfl | rfl | rfl | rfl | rfl <;> first | rfl | exact congrArg I (by omega) | exact congrArg Value.bool (by simp <;> omega) | exact congrArg Value.bool (by simp) | (simp; done)⟩
    | exact ⟨rfl, ⟨rfl, rfl, by
      intro p hp
      simp only [List.mem_cons, List.not_mem_nil, or_false] at hp
      rcases hp with rfl | rfl | rfl | rfl | rfl | rfl | rfl | rfl <;> first | rfl | exact congrArg I (by omega) | exact congrArg Value.bool (by simp <;> omega) | exact congrArg Value.bool (by simp) | (simp; done)⟩, rfl⟩

set_option maxHeartbeats 1000000 in
set_option maxRecDepth 100000 in
theorem p4_49 {v : World} {a : Act} {n N b o cap M wb G Z : Nat} {g T ct k : Nat} {x t : Nat} (c0 : v.cell? ⟨x, 0, none⟩ = some (I (t : Nat))) (ht : t < N) (hA : Fl 262 [(1, I (n : Nat)), (2, .slice (some ⟨b, o, none⟩) N cap), (8, Pt wb 0), (9, .slice (some ⟨M, 0, none⟩) N N), (22, .slice (some ⟨Z, 0, none⟩) N N), (23, .slice (some ⟨g, 0, none⟩) T ct), (24, I (k : Nat)), (25, Pt x 0)] a) :
    q4_49.wp Try.prog (fun e a' w' => e = .normal ∧ (Fl 262 [(234, .bool false), (1, I (n : Nat)), (2, .slice (some ⟨b, o, none⟩) N cap), (8, Pt wb 0), (9, .slice (some ⟨M, 0, none⟩) N N), (22, .slice (some ⟨Z, 0, none⟩) N N), (23, .slice (some ⟨g, 0, none⟩) T ct), (24, I (k : Nat)), (25, Pt x 0)] a' ∧ w' = v)) a v := by
  have h1 : ¬ (t : Int) < 0 := by omega
  have h2 : ¬ (t : Int) ≥ (N : Int) := by omega
  obtain ⟨hsz, hd, hp⟩ := hA
  obtain ⟨u, rfl, hg⟩ := litN hsz hd
  simp only [List.forall_mem_cons, hg] at hp
  obtain ⟨u1, u2, u8, u9, u22, u23, u24, u25, -⟩ := hp
  clear hg hsz hd
  unfold q4_49 C4 Try.f16 seq1 seq2 blockC loopC
  simp only [Option.getD_some, lits, Nat.reduceAdd, u1, u2, u8, u9, u22, u23, u24, u25]
  clear u1 u2 u8 u9 u22 u23 u24 u25
  go_wp2_with fail
  first
    | exact ⟨⟨rfl, rfl, by
      intro p hp
      simp only [List.mem_cons, List.not_mem_nil, or_false] at hp
      rcases hp with rfl | rfl | rfl | rfl | rfl | rfl | rfl | rfl | rfl <;> first | rfl | exact congrArg I (by omega) | exact congrArg Value.bool (by simp <;> omega) | exact congrArg Value.bool (by simp) | (simp; done)⟩, rfl⟩
    | exact ⟨rfl, rfl, by
      intro p hp
      simp only [List.mem_cons, List.not_mem_nil, or_false] at hp
      rcases hp with rfl | rfl | rfl | rfl | rfl | rfl | rfl | rfl | rfl <;> first | rfl | exact congrArg I (by omega) | exact congrArg Value.bool (by simp <;> omega) | exact congrArg Value.bool (by simp) | (simp; done)⟩
    | exact ⟨rfl, ⟨rfl, rfl, by
      intro p hp
      simp only [List.mem_cons, List.not_mem_nil, or_false] at hp
      rcases hp with rfl | rfl | rfl | rfl | rfl | rfl | rfl | rfl | rfl <;> first | rfl | exact congrArg I (by omega) | exact congrArg Value.bool (by simp <;> omega) | exact congrArg Value.bool (by simp) | (simp; done)⟩, rfl⟩

set_option maxHeartbeats 1000000 in
set_option maxRecDepth 100000 in
theorem p4_51 {v : World} {a : Act} {n N b o cap M wb G Z : Nat} {g T ct k : Nat} {x t c : Nat} (c0 : v.cell? ⟨x, 0, none⟩ = some (I (t : Nat))) (ht : t < N) (hc : c < 1000000000) (c1 : v.cell? ⟨Z, t, none⟩ = some (I (c : Nat))) (f1 : v.frozen? ⟨Z, t, none⟩ = false) (hA : Fl 262 [(1, I (n : Nat)), (2, .slice (some ⟨b, o, none⟩) N cap), (8, Pt wb 0), (9, .slice (some ⟨M, 0, none⟩) N N), (22, .slice (some ⟨Z, 0, none⟩) N N), (23, .slice (some ⟨g, 0, none⟩) T ct), (24, I (k : Nat)), (25, Pt x 0)] a) :
    q4_51.wp Try.prog (fun e a' w' => e = .normal ∧ (Fl 262 [(1, I (n : Nat)), (2, .slice (some ⟨b, o, none⟩) N cap), (8, Pt wb 0), (9, .slice (some ⟨M, 0, none⟩) N N), (22, .slice (some ⟨Z, 0, none⟩) N N), (23, .slice (some ⟨g, 0, none⟩) T ct), (24, I (k : Nat)), (25, Pt x 0)] a' ∧ w' = v.setCell ⟨Z, t, none⟩ (I ((c + 1 : Nat) : Int)))) a v := by
  have ht' : (t : Int) < (N : Int) := by omega
  have h9 : wrap64 ((c : Int) + 1) = ((c + 1 : Nat) : Int) := by unfold wrap64; omega
  obtain ⟨hsz, hd, hp⟩ := hA
  obtain ⟨u, rfl, hg⟩ := litN hsz hd
  simp only [List.forall_mem_cons, hg] at hp
  obtain ⟨u1, u2, u8, u9, u22, u23, u24, u25, -⟩ := hp
  clear hg hsz hd
  unfold q4_51 C4 Try.f16 seq1 seq2 blockC loopC
  simp only [Option.getD_some, lits, Nat.reduceAdd, u1, u2, u8, u9, u22, u23, u24, u25]
  clear u1 u2 u8 u9 u22 u23 u24 u25
  go_wp2_with fail
  first
    | exact ⟨⟨rfl, rfl, by
      intro p hp
      simp only [List.mem_cons, List.not_mem_nil, or_false] at hp
      rcases hp with rfl | rfl | rfl | rfl | rfl | rfl | rfl | rfl <;> first | rfl | exact congrArg I (by omega) | exact congrArg Value.bool (by simp <;> omega) | exact congrArg Value.bool (by simp) | (simp; done)⟩, rfl⟩
    | exact ⟨rfl, rfl, by
      intro p hp
      simp only [List.mem_cons, List.not_mem_nil, or_false] at hp
      rcases hp with rfl | rfl | rfl | rfl | rfl | rfl | rfl | rfl <;> first | rfl | exact congrArg I (by omega) | exact congrArg Value.bool (by simp <;> omega) | exact congrArg Value.bool (by simp) | (simp; done)⟩
    | exact ⟨rfl, ⟨rfl, rfl, by
      intro p hp
      simp only [List.mem_cons, List.not_mem_nil, or_false] at hp
      rcases hp with rfl | rfl | rfl | rfl | rfl | rfl | rfl | rfl <;> first | rfl | exact congrArg I (by omega) | exact congrArg Value.bool (by simp <;> omega) | exact congrArg Value.bool (by simp) | (simp; done)⟩, rfl⟩

set_option maxHeartbeats 1000000 in
set_option maxRecDepth 100000 in
theorem p4_52 {v : World} {a : Act} {n N b o cap M wb G Z : Nat} {g T ct k : Nat} {x : Nat} {op : Int} (c2 : v.cell? ⟨x, 2, none⟩ = some (I op)) (hA : Fl 262 [(1, I (n : Nat)), (2, .slice (some ⟨b, o, none⟩) N cap), (8, Pt wb 0), (9, .slice (some ⟨M, 0, none⟩) N N), (22, .slice (some ⟨Z, 0, none⟩) N N), (23, .slice (some ⟨g, 0, none⟩) T ct), (24, I (k : Nat)), (25, Pt x 0)] a) :
    q4_52.wp Try.prog (fun e a' w' => e = .normal ∧ (Fl 262 [(244, .bool (op == 9)), (1, I (n : Nat)), (2, .slice (some ⟨b, o, none⟩) N cap), (8, Pt wb 0), (9, .slice (some ⟨M, 0, none⟩) N N), (22, .slice (some ⟨Z, 0, none⟩) N N), (23, .slice (some ⟨g, 0, none⟩) T ct), (24, I (k : Nat)), (25, Pt x 0)] a' ∧ w' = v)) a v := by
  obtain ⟨hsz, hd, hp⟩ := hA
  obtain ⟨u, rfl, hg⟩ := litN hsz hd
  simp only [List.forall_mem_cons, hg] at hp
  obtain ⟨u1, u2, u8, u9, u22, u23, u24, u25, -⟩ := hp
  clear hg hsz hd
  unfold q4_52 C4 Try.f16 seq1 seq2 blockC loopC
  simp only [Option.getD_some, lits, Nat.reduceAdd, u1, u2, u8, u9, u22, u23, u24, u25]
  clear u1 u2 u8 u9 u22 u23 u24 u25
  go_wp2_with fail
  first
    | exact ⟨⟨rfl, rfl, by
      intro p hp
      simp only [List.mem_cons, List.not_mem_nil, or_false] at hp
      rcases hp with rfl | rfl | rfl | rfl | rfl | rfl | rfl | rfl | rfl <;> first | rfl | exact congrArg I (by omega) | exact congrArg Value.bool (by simp <;> omega) | exact congrArg Value.bool (by simp) | (simp; done)⟩, rfl⟩
    | exact ⟨rfl, rfl, by
      intro p hp
      simp only [List.mem_cons, List.not_mem_nil, or_false] at hp
      rcases hp with rfl | rfl | rfl | rfl | rfl | rfl | rfl | rfl | rfl <;> first | rfl | exact congrArg I (by omega) | exact congrArg Value.bool (by simp <;> omega) | exact congrArg Value.bool (by simp) | (simp; done)⟩
    | exact ⟨rfl, ⟨rfl, rfl, by
      intro p hp
      simp only [List.mem_cons, List.not_mem_nil, or_false] at hp
      rcases hp with rfl | rfl | rfl | rfl | rfl | rfl | rfl | rfl | rfl <;> first | rfl | exact congrArg I (by omega) | exact congrArg Value.bool (by simp <;> omega) | exact congrArg Value.bool (by simp) | (simp; done)⟩, rfl⟩

set_option maxHeartbeats 1000000 in
set_option maxRecDepth 100000 in
theorem p4_53 {v : World} {a : Act} {n N b o cap M wb G Z : Nat} {g T ct k : Nat} {x t : Nat} {c : Int} (c0 : v.cell? ⟨x, 0, none⟩ = some (I (t : Nat))) (ht : t < N) (c1 : v.cell? ⟨Z, t, none⟩ = some (I c)) (f1 : v.frozen? ⟨Z, t, none⟩ = false) (hA : Fl 262 [(1, I (n : Nat)), (2, .slice (some ⟨b, o, none⟩) N cap), (8, Pt wb 0), (9, .slice (some ⟨M, 0, none⟩) N N), (22, .slice (some ⟨Z, 0, none⟩) N N), (23, .slice (some ⟨g, 0, none⟩) T ct), (24, I (k : Nat)), (25, Pt x 0)] a) :
    q4_53.wp Try.prog (fun e a' w' => e = .normal ∧ (Fl 262 [(1, I (n : Nat)), (2, .slice (some ⟨b, o, none⟩) N cap), (8, Pt wb 0), (9, .slice (some ⟨M, 0, none⟩) N N), (22, .slice (some ⟨Z, 0, none⟩) N N), (23, .slice (some ⟨g, 0, none⟩) T ct), (24, I (k : Nat)), (25, Pt x 0)] a' ∧ w' = v.setCell ⟨Z, t, none⟩ (I ((0 : Nat) : Int)))) a v := by
  have ht' : (t : Int) < (N : Int) := by omega
  obtain ⟨hsz, hd, hp⟩ := hA
  obtain ⟨u, rfl, hg⟩ := litN hsz hd
  simp only [List.forall_mem_cons, hg] at hp
  obtain ⟨u1, u2, u8, u9, u22, u23, u24, u25, -⟩ := hp
  clear hg hsz hd
  unfold q4_53 C4 Try.f16 seq1 seq2 condA blockC loopC
  simp only [Option.getD_some, lits, Nat.reduceAdd, u1, u2, u8, u9, u22, u23, u24, u25]
  clear u1 u2 u8 u9 u22 u23 u24 u25
  go_wp2_with fail
  first
    | exact ⟨⟨rfl, rfl, by
      intro p hp
      simp only [List.mem_cons, List.not_mem_nil, or_false] at hp
      rcases hp with rfl | rfl | rfl | rfl | rfl | rfl | rfl | rfl <;> first | rfl | exact congrArg I (by omega) | exact congrArg Value.bool (by simp <;> omega) | exact congrArg Value.bool (by simp) | (simp; done)⟩, rfl⟩
    | exact ⟨rfl, rfl, by
      intro p hp
      simp only [List.mem_cons, List.not_mem_nil, or_false] at hp
      rcases hp with rfl | rfl | rfl | rfl | rfl | rfl | rfl | rfl <;> first | rfl | exact congrArg I (by omega) | exact congrArg Value.bool (by simp <;> omega) | exact congrArg Value.bool (by simp) | (simp; done)⟩
    | exact ⟨rfl, ⟨rfl, rfl, by
      intro p hp
      simp only [List.mem_cons, List.not_mem_nil, or_false] at hp
      rcases hp with rfl | rfl | rfl | rfl | rfl | rfl | rfl | rfl <;> first | rfl | exact congrArg I (by omega) | exact congrArg Value.bool (by simp <;> omega) | exact congrArg Value.bool (by simp) | (simp; done)⟩, rfl⟩

set_option maxHeartbeats 1000000 in
set_option maxRecDepth 100000 in
theorem p4_54e {v : World} {a : Act} {n N b o cap M wb G Z : Nat} {g T ct k : Nat} {x t c : Nat} (c2 : v.cell? ⟨x, 2, none⟩ = some (I 10)) (hA : Fl 262 [(1, I (n : Nat)), (2, .slice (some ⟨b, o, none⟩) N cap), (8, Pt wb 0), (9, .slice (some ⟨M, 0, none⟩) N N), (22, .slice (some ⟨Z, 0, none⟩) N N), (23, .slice (some ⟨g, 0, none⟩) T ct), (24, I (k : Nat)), (25, Pt x 0)] a) :
    q4_54.wp Try.prog (fun e a' w' => e = .normal ∧ (Fl 262 [(261, .bool false), (1, I (n : Nat)), (2, .slice (some ⟨b, o, none⟩) N cap), (8, Pt wb 0), (9, .slice (some ⟨M, 0, none⟩) N N), (22, .slice (some ⟨Z, 0, none⟩) N N), (23, .slice (some ⟨g, 0, none⟩) T ct), (24, I (k : Nat))] a' ∧ w' = v)) a v := by
  obtain ⟨hsz, hd, hp⟩ := hA
  obtain ⟨u, rfl, hg⟩ := litN hsz hd
  simp only [List.forall_mem_cons, hg] at hp
  obtain ⟨u1, u2, u8, u9, u22, u23, u24, u25, -⟩ := hp
  clear hg hsz hd
  unfold q4_54 C4 Try.f16 seq1 seq2 blockC loopC
  simp only [Option.getD_some, lits, Nat.reduceAdd, u1, u2, u8, u9, u22, u23, u24, u25]
  clear u1 u2 u8 u9 u22 u23 u24 u25
  go_wp2_with fail
  first
    | exact ⟨⟨rfl, rfl, by
      intro p hp
      simp only [List.mem_cons, List.not_mem_nil, or_false] at hp
      rcases hp with rfl | rfl | rfl | rfl | rfl | rfl | rfl | rfl <;> first | rfl | exact congrArg I (by omega) | exact congrArg Value.bool (by simp <;> omega) | exact congrArg Value.bool (by simp) | (simp; done)⟩, rfl⟩
    | exact ⟨rfl, rfl, by
      intro p hp
      simp only [List.mem_cons, List.not_mem_nil, or_false] at hp
      rcases hp with rfl | rfl | rfl | rfl | rfl | rfl | rfl | rfl <;> first | rfl | exact congrArg I (by omega) | exact congrArg Value.bool (by simp <;> omega) | exact congrArg Value.bool (by simp) | (simp; done)⟩
    | exact ⟨rfl, ⟨rfl, rfl, by
      intro p hp
      simp only [List.mem_cons, List.not_mem_nil, or_false] at hp
      rcases hp with rfl | rfl | rfl | rfl | rfl | rfl | rfl | rfl <;> first | rfl | exact congrArg I (by omega) | exact congrArg Value.bool (by simp <;> omega) | exact congrArg Value.bool (by simp) | (simp; done)⟩, rfl⟩

set_option maxHeartbeats 1000000 in
set_option maxRecDepth 100000 in
theorem p4_54n {v : World} {a : Act} {n N b o cap M wb G Z : Nat} {g T ct k : Nat} {x t c : Nat} {op : Int} (hn1 : n ≤ 100) (c2 : v.cell? ⟨x, 2, none⟩ = some (I op)) (hop : ¬ op = 10) (c0 : v.cell? ⟨x, 0, none⟩ = some (I (t : Nat))) (ht : t < N) (c1 : v.cell? ⟨Z, t, none⟩ = some (I (c : Nat))) (hc : c ≤ n + 1) (hA : Fl 262 [(1, I (n : Nat)), (2, .slice (some ⟨b, o, none⟩) N cap), (8, Pt wb 0), (9, .slice (some ⟨M, 0, none⟩) N N), (22, .slice (some ⟨Z, 0, none⟩) N N), (23, .slice (some ⟨g, 0, none⟩) T ct), (24, I (k : Nat)), (25, Pt x 0)] a) :
    q4_54.wp Try.prog (fun e a' w' => e = .normal ∧ (Fl 262 [(261, .bool false), (1, I (n : Nat)), (2, .slice (some ⟨b, o, none⟩) N cap), (8, Pt wb 0), (9, .slice (some ⟨M, 0, none⟩) N N), (22, .slice (some ⟨Z, 0, none⟩) N N), (23, .slice (some ⟨g, 0, none⟩) T ct), (24, I (k : Nat))] a' ∧ w' = v)) a v := by
  have ht' : (t : Int) < (N : Int) := by omega
  have h9 : wrap64 ((n : Int) + 1) = ((n + 1 : Nat) : Int) := by unfold wrap64; omega
  have h8 : ¬ (c : Int) > ((n + 1 : Nat) : Int) := by omega
  have h7 : (op != 10) = true := by simp [hop]
  obtain ⟨hsz, hd, hp⟩ := hA
  obtain ⟨u, rfl, hg⟩ := litN hsz hd
  simp only [List.forall_mem_cons, hg] at hp
  obtain ⟨u1, u2, u8, u9, u22, u23, u24, u25, -⟩ := hp
  clear hg hsz hd
  unfold q4_54 C4 Try.f16 seq1 seq2 blockC loopC
  simp only [Option.getD_some, lits, Nat.reduceAdd, u1, u2, u8, u9, u22, u23, u24, u25]
  clear u1 u2 u8 u9 u22 u23 u24 u25
  go_wp2_with fail
  first
    | exact ⟨⟨rfl, rfl, by
      intro p hp
      simp only [List.mem_cons, List.not_mem_nil, or_false] at hp
      rcases hp with rfl | rfl | rfl | rfl | rfl | rfl | rfl | rfl <;> first | rfl | exact congrArg I (by omega) | exact congrArg Value.bool (by simp <;> omega) | exact congrArg Value.bool (by simp) | (simp; done)⟩, rfl⟩
    | exact ⟨rfl, rfl, by
      intro p hp
      simp only [List.mem_cons, List.not_mem_nil, or_false] at hp
      rcases hp with rfl | rfl | rfl | rfl | rfl | rfl | rfl | rfl <;> first | rfl | exact congrArg I (by omega) | exact congrArg Value.bool (by simp <;> omega) | exact congrArg Value.bool (by simp) | (simp; done)⟩
    | exact ⟨rfl, ⟨rfl, rfl, by
      intro p hp
      simp only [List.mem_cons, List.not_mem_nil, or_false] at hp
      rcases hp with rfl | rfl | rfl | rfl | rfl | rfl | rfl | rfl <;> first | rfl | exact congrArg I (by omega) | exact congrArg Value.bool (by simp <;> omega) | exact congrArg Value.bool (by simp) | (simp; done)⟩, rfl⟩

set_option maxHeartbeats 1000000 in
set_option maxRecDepth 100000 in
theorem p4_47 {v : World} {a : Act} {n N b o cap M wb G Z : Nat} {p : Option Addr} {T ct : Nat} {k : Nat} (hq : k < 1000000000) (hA : Fl 262 [(1, I (n : Nat)), (2, .slice (some ⟨b, o, none⟩) N cap), (8, Pt wb 0), (9, .slice (some ⟨M, 0, none⟩) N N), (22, .slice (some ⟨Z, 0, none⟩) N N), (23, .slice p T ct), (24, I (k : Nat))] a) :
    q4_47.wp Try.prog (fun e a' w' => e = .normal ∧ (Fl 262 [(1, I (n : Nat)), (2, .slice (some ⟨b, o, none⟩) N cap), (8, Pt wb 0), (9, .slice (some ⟨M, 0, none⟩) N N), (22, .slice (some ⟨Z, 0, none⟩) N N), (23, .slice p T ct), (24, I ((k + 1 : Nat) : Int))] a' ∧ w' = v)) a v := by
  have h9 : wrap64 ((k : Int) + 1) = ((k + 1 : Nat) : Int) := by unfold wrap64; omega
  obtain ⟨hsz, hd, hp⟩ := hA
  obtain ⟨u, rfl, hg⟩ := litN hsz hd
  simp only [List.forall_mem_cons, hg] at hp
  obtain ⟨u1, u2, u8, u9, u22, u23, u24, -⟩ := hp
  clear hg hsz hd
  unfold q4_47 C4 Try.f16 seq1 seq2 blockC loopC
  simp only [Option.getD_some, lits, Nat.reduceAdd, u1, u2, u8, u9, u22, u23, u24]
  clear u1 u2 u8 u9 u22 u23 u24
  go_wp2_with fail
  first
    | exact ⟨⟨rfl, rfl, by
      intro p hp
      simp only [List.mem_cons, List.not_mem_nil, or_false] at hp
      rcases hp with rfl | rfl | rfl | rfl | rfl | rfl | rfl <;> first | rfl | exact congrArg I (by omega) | exact congrArg Value.bool (by simp <;> omega) | exact congrArg Value.bool (by simp) | (simp; done)⟩, rfl⟩
    | exact ⟨rfl, rfl, by
      intro p hp
      simp only [List.mem_cons, List.not_mem_nil, or_false] at hp
      rcases hp with rfl | rfl | rfl | rfl | rfl | rfl | rfl <;> first | rfl | exact congrArg I (by omega) | exact congrArg Value.bool (by simp <;> omega) | exact congrArg Value.bool (by simp) | (simp; done)⟩
    | exact ⟨rfl, ⟨rfl, rfl, by
      intro p hp
      simp only [List.mem_cons, List.not_mem_nil, or_false] at hp
      rcases hp with rfl | rfl | rfl | rfl | rfl | rfl | rfl <;> first | rfl | exact congrArg I (by omega) | exact congrArg Value.bool (by simp <;> omega) | exact congrArg Value.bool (by simp) | (simp; done)⟩, rfl⟩

set_option maxHeartbeats 1000000 in
set_option maxRecDepth 100000 in
theorem p4_56 {v : World} {a : Act}   (hA : Fl 262 [] a) :
    q4_56.wp Try.prog (fun e a' w' => e = .normal ∧ (Fl 262 [(6, .bool true)] a' ∧ w' = v)) a v := by
  obtain ⟨hsz, hd, hp⟩ := hA
  obtain ⟨u, rfl, hg⟩ := litN hsz hd
  clear hg hp hsz hd
  unfold q4_56 C4 Try.f16 seq1 seq2
  simp only [Option.getD_some, lits, Nat.reduceAdd]
  go_wp2_with fail
  first
    | exact ⟨⟨rfl, rfl, by
      intro p hp
      simp only [List.mem_cons, List.not_mem_nil, or_false] at hp
      rcases hp with rfl <;> first | rfl | exact congrArg I (by omega) | exact congrArg Value.bool (by simp <;> omega) | exact congrArg Value.bool (by simp) | (simp; done)⟩, rfl⟩
    | exact ⟨rfl, rfl, by
      intro p hp
      simp only [List.mem_cons, List.not_mem_nil, or_false] at hp
      rcases hp with rfl <;> first | rfl | exact congrArg I (by omega) | exact congrArg Value.bool (by simp <;> omega) | exact congrArg Value.bool (by simp) | (simp; done)⟩
    | exact ⟨rfl, ⟨rfl, rfl, by
      intro p hp
      simp only [List.mem_cons, List.not_mem_nil, or_false] at hp
      rcases hp with rfl <;> first | rfl | exact congrArg I (by omega) | exact congrArg Value.bool (by simp <;> omega) | exact congrArg Value.bool (by simp) | (simp; done)⟩, rfl⟩

end Go.Proofs.Ytfjjoohflcchnaa.Gen
