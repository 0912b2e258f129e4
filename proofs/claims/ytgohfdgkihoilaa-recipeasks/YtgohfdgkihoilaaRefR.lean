/- What the document's Right (18) does. (Made by wip/tools/mk18.py.) -/
import Derived.Test.YtgohfdgkihoilaaRt2
set_option linter.unusedSimpArgs false
set_option linter.unusedVariables false
namespace Go.Proofs.Ytgohfdgkihoilaa.Rcp
open Go Go.RowKit Go.Deep Go.Maps

noncomputable def C18 : Code := Try.f18.body.getD .skip
noncomputable def q18_0 : Code := (seq1 C18)
noncomputable def q18_1 : Code := (seq1 (seq1 (seq2 C18)))
noncomputable def q18_2 : Code := (seq1 (condA (seq2 (seq1 (seq2 C18)))))
noncomputable def q18_3 : Code := (seq1 (seq1 (seq2 (seq2 C18))))
noncomputable def q18_4 : Code := (seq1 (seq1 (loopC (blockC (seq2 (seq1 (seq2 (seq2 C18))))))))
noncomputable def q18_6 : Code := (seq1 (blockC (seq1 (seq2 (loopC (blockC (seq2 (seq1 (seq2 (seq2 C18))))))))))
noncomputable def q18_7 : Code := (seq1 (condA (seq2 (blockC (seq1 (seq2 (loopC (blockC (seq2 (seq1 (seq2 (seq2 C18))))))))))))
noncomputable def q18_5 : Code := (seq2 (seq2 (loopC (blockC (seq2 (seq1 (seq2 (seq2 C18))))))))
noncomputable def q18_8 : Code := (seq1 (seq1 (seq2 (seq2 (seq2 C18)))))
noncomputable def q18_9 : Code := (seq1 (seq1 (loopC (blockC (seq2 (seq1 (seq2 (seq2 (seq2 C18)))))))))
noncomputable def q18_11 : Code := (seq1 (blockC (seq1 (seq2 (loopC (blockC (seq2 (seq1 (seq2 (seq2 (seq2 C18)))))))))))
noncomputable def q18_12 : Code := (seq1 (seq1 (seq2 (blockC (seq1 (seq2 (loopC (blockC (seq2 (seq1 (seq2 (seq2 (seq2 C18)))))))))))))
noncomputable def q18_13 : Code := (seq1 (condA (seq2 (seq1 (seq2 (blockC (seq1 (seq2 (loopC (blockC (seq2 (seq1 (seq2 (seq2 (seq2 C18)))))))))))))))
noncomputable def q18_14 : Code := (seq1 (seq2 (seq2 (blockC (seq1 (seq2 (loopC (blockC (seq2 (seq1 (seq2 (seq2 (seq2 C18)))))))))))))
noncomputable def q18_15 : Code := (seq1 (seq1 (loopC (blockC (seq2 (seq2 (seq2 (blockC (seq1 (seq2 (loopC (blockC (seq2 (seq1 (seq2 (seq2 (seq2 C18)))))))))))))))))
noncomputable def q18_17 : Code := (seq1 (blockC (seq1 (seq2 (loopC (blockC (seq2 (seq2 (seq2 (blockC (seq1 (seq2 (loopC (blockC (seq2 (seq1 (seq2 (seq2 (seq2 C18)))))))))))))))))))
noncomputable def q18_18 : Code := (seq1 (seq2 (blockC (seq1 (seq2 (loopC (blockC (seq2 (seq2 (seq2 (blockC (seq1 (seq2 (loopC (blockC (seq2 (seq1 (seq2 (seq2 (seq2 C18))))))))))))))))))))
noncomputable def q18_19 : Code := (seq1 (condA (seq2 (seq2 (blockC (seq1 (seq2 (loopC (blockC (seq2 (seq2 (seq2 (blockC (seq1 (seq2 (loopC (blockC (seq2 (seq1 (seq2 (seq2 (seq2 C18))))))))))))))))))))))
noncomputable def q18_16 : Code := (seq2 (seq2 (loopC (blockC (seq2 (seq2 (seq2 (blockC (seq1 (seq2 (loopC (blockC (seq2 (seq1 (seq2 (seq2 (seq2 C18)))))))))))))))))
noncomputable def q18_10 : Code := (seq2 (seq2 (loopC (blockC (seq2 (seq1 (seq2 (seq2 (seq2 C18)))))))))
noncomputable def q18_20 : Code := (seq1 (seq1 (seq2 (seq2 (seq2 (seq2 C18))))))
noncomputable def q18_21 : Code := (seq1 (condA (seq2 (seq1 (seq2 (seq2 (seq2 (seq2 C18))))))))
noncomputable def q18_22 : Code := (seq1 (seq2 (seq2 (seq2 (seq2 (seq2 C18))))))
noncomputable def K18_1 : Code := (.seq q18_6 (.cond ( .tmp 23 ) (.seq q18_7 .ret) .skip))
noncomputable def K18_0 : Code := (.loop (.seq (.seq q18_4 (.cond ( .tmp 14 ) .skip (.exit 0))) (.seq (.block 1 K18_1) q18_5)))
noncomputable def K18_5 : Code := (.seq q18_17 (.seq q18_18 (.cond ( .tmp 101 ) (.seq q18_19 .ret) .skip)))
noncomputable def K18_4 : Code := (.loop (.seq (.seq q18_15 (.cond ( .tmp 76 ) .skip (.exit 4))) (.seq (.block 5 K18_5) q18_16)))
noncomputable def K18_3 : Code := (.seq q18_11 (.seq (.seq q18_12 (.cond ( .tmp 71 ) (.seq q18_13 .ret) .skip)) (.seq q18_14 (.block 4 K18_4))))
noncomputable def K18_2 : Code := (.loop (.seq (.seq q18_9 (.cond ( .tmp 27 ) .skip (.exit 2))) (.seq (.block 3 K18_3) q18_10)))
theorem e18 : C18 = (.seq q18_0 (.seq (.seq q18_1 (.cond ( .tmp 10 ) (.seq q18_2 .ret) .skip)) (.seq (.seq q18_3 (.block 0 K18_0)) (.seq (.seq q18_8 (.block 2 K18_2)) (.seq (.seq q18_20 (.cond ( .tmp 104 ) (.seq q18_21 .ret) .skip)) (.seq q18_22 .ret)))))) := by kernel_rfl

set_option maxHeartbeats 1000000 in
theorem p18_0 {v : World} {a : Act} {p : Option Addr} {n cap : Nat}  (hA : Fl 105 [(0, .slice p n cap)] a) :
    q18_0.wp Try.prog (fun e a' w' => e = .normal ∧ (Fl 105 [(0, .slice p n cap)] a' ∧ w' = v)) a v := by
  obtain ⟨hsz, hd, hp⟩ := hA
  obtain ⟨u, rfl, hg⟩ := litN hsz hd
  simp only [List.forall_mem_cons, hg] at hp
  obtain ⟨u0, -⟩ := hp
  clear hg hsz hd
  unfold q18_0 C18 Try.f18 seq1
  simp only [Option.getD_some, lits, Nat.reduceAdd, u0]
  clear u0
  go_wp2_with fail
  first
    | exact ⟨⟨rfl, rfl, by
      intro p hp
      simp only [List.mem_cons, List.not_mem_nil, or_false] at hp
      rcases hp with rfl <;> first | rfl | exact congrArg I (by omega) | exact congrArg Value.bool (by simp <;> omega) | exact congrArg Value.bool (by simp)⟩, rfl⟩
    | exact ⟨rfl, rfl, by
      intro p hp
      simp only [List.mem_cons, List.not_mem_nil, or_false] at hp
      rcases hp with rfl <;> first | rfl | exact congrArg I (by omega) | exact congrArg Value.bool (by simp <;> omega) | exact congrArg Value.bool (by simp)⟩
    | exact ⟨rfl, ⟨rfl, rfl, by
      intro p hp
      simp only [List.mem_cons, List.not_mem_nil, or_false] at hp
      rcases hp with rfl <;> first | rfl | exact congrArg I (by omega) | exact congrArg Value.bool (by simp <;> omega) | exact congrArg Value.bool (by simp)⟩, rfl⟩

set_option maxHeartbeats 1000000 in
theorem p18_1 {v : World} {a : Act} {p : Option Addr} {n cap : Nat} (hn : n ≤ 9223372036854775807) (hA : Fl 105 [(0, .slice p n cap)] a) :
    q18_1.wp Try.prog (fun e a' w' => e = .normal ∧ (Fl 105 [(10, Bl (decide (100 < n))), (0, .slice p n cap)] a' ∧ w' = v)) a v := by
  obtain ⟨hsz, hd, hp⟩ := hA
  obtain ⟨u, rfl, hg⟩ := litN hsz hd
  simp only [List.forall_mem_cons, hg] at hp
  obtain ⟨u0, -⟩ := hp
  clear hg hsz hd
  unfold q18_1 C18 Try.f18 seq1 seq2
  simp only [Option.getD_some, lits, Nat.reduceAdd, u0]
  clear u0
  go_wp2_with fail
  first
    | exact ⟨⟨rfl, rfl, by
      intro p hp
      simp only [List.mem_cons, List.not_mem_nil, or_false] at hp
      rcases hp with rfl | rfl <;> first | rfl | exact congrArg I (by omega) | exact congrArg Value.bool (by simp <;> omega) | exact congrArg Value.bool (by simp)⟩, rfl⟩
    | exact ⟨rfl, rfl, by
      intro p hp
      simp only [List.mem_cons, List.not_mem_nil, or_false] at hp
      rcases hp with rfl | rfl <;> first | rfl | exact congrArg I (by omega) | exact congrArg Value.bool (by simp <;> omega) | exact congrArg Value.bool (by simp)⟩
    | exact ⟨rfl, ⟨rfl, rfl, by
      intro p hp
      simp only [List.mem_cons, List.not_mem_nil, or_false] at hp
      rcases hp with rfl | rfl <;> first | rfl | exact congrArg I (by omega) | exact congrArg Value.bool (by simp <;> omega) | exact congrArg Value.bool (by simp)⟩, rfl⟩

set_option maxHeartbeats 1000000 in
theorem p18_2 {v : World} {a : Act}   (hA : Fl 105 [] a) :
    q18_2.wp Try.prog (fun e a' w' => e = .normal ∧ (Fl 105 [(2, I 2)] a' ∧ w' = v)) a v := by
  obtain ⟨hsz, hd, hp⟩ := hA
  obtain ⟨u, rfl, hg⟩ := litN hsz hd
  clear hg hp hsz hd
  unfold q18_2 C18 Try.f18 seq1 seq2 condA
  simp only [Option.getD_some, lits, Nat.reduceAdd]
  go_wp2_with fail
  first
    | exact ⟨⟨rfl, rfl, by
      intro p hp
      simp only [List.mem_cons, List.not_mem_nil, or_false] at hp
      rcases hp with rfl <;> first | rfl | exact congrArg I (by omega) | exact congrArg Value.bool (by simp <;> omega) | exact congrArg Value.bool (by simp)⟩, rfl⟩
    | exact ⟨rfl, rfl, by
      intro p hp
      simp only [List.mem_cons, List.not_mem_nil, or_false] at hp
      rcases hp with rfl <;> first | rfl | exact congrArg I (by omega) | exact congrArg Value.bool (by simp <;> omega) | exact congrArg Value.bool (by simp)⟩
    | exact ⟨rfl, ⟨rfl, rfl, by
      intro p hp
      simp only [List.mem_cons, List.not_mem_nil, or_false] at hp
      rcases hp with rfl <;> first | rfl | exact congrArg I (by omega) | exact congrArg Value.bool (by simp <;> omega) | exact congrArg Value.bool (by simp)⟩, rfl⟩

set_option maxHeartbeats 1000000 in
theorem p18_7 {v : World} {a : Act}   (hA : Fl 105 [] a) :
    q18_7.wp Try.prog (fun e a' w' => e = .normal ∧ (Fl 105 [(2, I 2)] a' ∧ w' = v)) a v := by
  obtain ⟨hsz, hd, hp⟩ := hA
  obtain ⟨u, rfl, hg⟩ := litN hsz hd
  clear hg hp hsz hd
  unfold q18_7 C18 Try.f18 seq1 seq2 condA blockC loopC
  simp only [Option.getD_some, lits, Nat.reduceAdd]
  go_wp2_with fail
  first
    | exact ⟨⟨rfl, rfl, by
      intro p hp
      simp only [List.mem_cons, List.not_mem_nil, or_false] at hp
      rcases hp with rfl <;> first | rfl | exact congrArg I (by omega) | exact congrArg Value.bool (by simp <;> omega) | exact congrArg Value.bool (by simp)⟩, rfl⟩
    | exact ⟨rfl, rfl, by
      intro p hp
      simp only [List.mem_cons, List.not_mem_nil, or_false] at hp
      rcases hp with rfl <;> first | rfl | exact congrArg I (by omega) | exact congrArg Value.bool (by simp <;> omega) | exact congrArg Value.bool (by simp)⟩
    | exact ⟨rfl, ⟨rfl, rfl, by
      intro p hp
      simp only [List.mem_cons, List.not_mem_nil, or_false] at hp
      rcases hp with rfl <;> first | rfl | exact congrArg I (by omega) | exact congrArg Value.bool (by simp <;> omega) | exact congrArg Value.bool (by simp)⟩, rfl⟩

set_option maxHeartbeats 1000000 in
theorem p18_13 {v : World} {a : Act}   (hA : Fl 105 [] a) :
    q18_13.wp Try.prog (fun e a' w' => e = .normal ∧ (Fl 105 [(2, I 110)] a' ∧ w' = v)) a v := by
  obtain ⟨hsz, hd, hp⟩ := hA
  obtain ⟨u, rfl, hg⟩ := litN hsz hd
  clear hg hp hsz hd
  unfold q18_13 C18 Try.f18 seq1 seq2 condA blockC loopC
  simp only [Option.getD_some, lits, Nat.reduceAdd]
  go_wp2_with fail
  first
    | exact ⟨⟨rfl, rfl, by
      intro p hp
      simp only [List.mem_cons, List.not_mem_nil, or_false] at hp
      rcases hp with rfl <;> first | rfl | exact congrArg I (by omega) | exact congrArg Value.bool (by simp <;> omega) | exact congrArg Value.bool (by simp)⟩, rfl⟩
    | exact ⟨rfl, rfl, by
      intro p hp
      simp only [List.mem_cons, List.not_mem_nil, or_false] at hp
      rcases hp with rfl <;> first | rfl | exact congrArg I (by omega) | exact congrArg Value.bool (by simp <;> omega) | exact congrArg Value.bool (by simp)⟩
    | exact ⟨rfl, ⟨rfl, rfl, by
      intro p hp
      simp only [List.mem_cons, List.not_mem_nil, or_false] at hp
      rcases hp with rfl <;> first | rfl | exact congrArg I (by omega) | exact congrArg Value.bool (by simp <;> omega) | exact congrArg Value.bool (by simp)⟩, rfl⟩

set_option maxHeartbeats 1000000 in
theorem p18_19 {v : World} {a : Act}   (hA : Fl 105 [] a) :
    q18_19.wp Try.prog (fun e a' w' => e = .normal ∧ (Fl 105 [(2, I 110)] a' ∧ w' = v)) a v := by
  obtain ⟨hsz, hd, hp⟩ := hA
  obtain ⟨u, rfl, hg⟩ := litN hsz hd
  clear hg hp hsz hd
  unfold q18_19 C18 Try.f18 seq1 seq2 condA blockC loopC
  simp only [Option.getD_some, lits, Nat.reduceAdd]
  go_wp2_with fail
  first
    | exact ⟨⟨rfl, rfl, by
      intro p hp
      simp only [List.mem_cons, List.not_mem_nil, or_false] at hp
      rcases hp with rfl <;> first | rfl | exact congrArg I (by omega) | exact congrArg Value.bool (by simp <;> omega) | exact congrArg Value.bool (by simp)⟩, rfl⟩
    | exact ⟨rfl, rfl, by
      intro p hp
      simp only [List.mem_cons, List.not_mem_nil, or_false] at hp
      rcases hp with rfl <;> first | rfl | exact congrArg I (by omega) | exact congrArg Value.bool (by simp <;> omega) | exact congrArg Value.bool (by simp)⟩
    | exact ⟨rfl, ⟨rfl, rfl, by
      intro p hp
      simp only [List.mem_cons, List.not_mem_nil, or_false] at hp
      rcases hp with rfl <;> first | rfl | exact congrArg I (by omega) | exact congrArg Value.bool (by simp <;> omega) | exact congrArg Value.bool (by simp)⟩, rfl⟩

set_option maxHeartbeats 1000000 in
theorem p18_21 {v : World} {a : Act}   (hA : Fl 105 [] a) :
    q18_21.wp Try.prog (fun e a' w' => e = .normal ∧ (Fl 105 [(2, I 110)] a' ∧ w' = v)) a v := by
  obtain ⟨hsz, hd, hp⟩ := hA
  obtain ⟨u, rfl, hg⟩ := litN hsz hd
  clear hg hp hsz hd
  unfold q18_21 C18 Try.f18 seq1 seq2 condA
  simp only [Option.getD_some, lits, Nat.reduceAdd]
  go_wp2_with fail
  first
    | exact ⟨⟨rfl, rfl, by
      intro p hp
      simp only [List.mem_cons, List.not_mem_nil, or_false] at hp
      rcases hp with rfl <;> first | rfl | exact congrArg I (by omega) | exact congrArg Value.bool (by simp <;> omega) | exact congrArg Value.bool (by simp)⟩, rfl⟩
    | exact ⟨rfl, rfl, by
      intro p hp
      simp only [List.mem_cons, List.not_mem_nil, or_false] at hp
      rcases hp with rfl <;> first | rfl | exact congrArg I (by omega) | exact congrArg Value.bool (by simp <;> omega) | exact congrArg Value.bool (by simp)⟩
    | exact ⟨rfl, ⟨rfl, rfl, by
      intro p hp
      simp only [List.mem_cons, List.not_mem_nil, or_false] at hp
      rcases hp with rfl <;> first | rfl | exact congrArg I (by omega) | exact congrArg Value.bool (by simp <;> omega) | exact congrArg Value.bool (by simp)⟩, rfl⟩

set_option maxHeartbeats 1000000 in
theorem p18_22 {v : World} {a : Act}   (hA : Fl 105 [] a) :
    q18_22.wp Try.prog (fun e a' w' => e = .normal ∧ (Fl 105 [(2, I 0)] a' ∧ w' = v)) a v := by
  obtain ⟨hsz, hd, hp⟩ := hA
  obtain ⟨u, rfl, hg⟩ := litN hsz hd
  clear hg hp hsz hd
  unfold q18_22 C18 Try.f18 seq1 seq2
  simp only [Option.getD_some, lits, Nat.reduceAdd]
  go_wp2_with fail
  first
    | exact ⟨⟨rfl, rfl, by
      intro p hp
      simp only [List.mem_cons, List.not_mem_nil, or_false] at hp
      rcases hp with rfl <;> first | rfl | exact congrArg I (by omega) | exact congrArg Value.bool (by simp <;> omega) | exact congrArg Value.bool (by simp)⟩, rfl⟩
    | exact ⟨rfl, rfl, by
      intro p hp
      simp only [List.mem_cons, List.not_mem_nil, or_false] at hp
      rcases hp with rfl <;> first | rfl | exact congrArg I (by omega) | exact congrArg Value.bool (by simp <;> omega) | exact congrArg Value.bool (by simp)⟩
    | exact ⟨rfl, ⟨rfl, rfl, by
      intro p hp
      simp only [List.mem_cons, List.not_mem_nil, or_false] at hp
      rcases hp with rfl <;> first | rfl | exact congrArg I (by omega) | exact congrArg Value.bool (by simp <;> omega) | exact congrArg Value.bool (by simp)⟩, rfl⟩

set_option maxHeartbeats 1000000 in
theorem p18_3 {v : World} {a : Act} {p : Option Addr} {n cap : Nat}  (hA : Fl 105 [(0, .slice p n cap)] a) :
    q18_3.wp Try.prog (fun e a' w' => e = .normal ∧ (Fl 105 [(0, .slice p n cap), (3, I (0 : Nat))] a' ∧ w' = v)) a v := by
  obtain ⟨hsz, hd, hp⟩ := hA
  obtain ⟨u, rfl, hg⟩ := litN hsz hd
  simp only [List.forall_mem_cons, hg] at hp
  obtain ⟨u0, -⟩ := hp
  clear hg hsz hd
  unfold q18_3 C18 Try.f18 seq1 seq2
  simp only [Option.getD_some, lits, Nat.reduceAdd, u0]
  clear u0
  go_wp2_with fail
  first
    | exact ⟨⟨rfl, rfl, by
      intro p hp
      simp only [List.mem_cons, List.not_mem_nil, or_false] at hp
      rcases hp with rfl | rfl <;> first | rfl | exact congrArg I (by omega) | exact congrArg Value.bool (by simp <;> omega) | exact congrArg Value.bool (by simp)⟩, rfl⟩
    | exact ⟨rfl, rfl, by
      intro p hp
      simp only [List.mem_cons, List.not_mem_nil, or_false] at hp
      rcases hp with rfl | rfl <;> first | rfl | exact congrArg I (by omega) | exact congrArg Value.bool (by simp <;> omega) | exact congrArg Value.bool (by simp)⟩
    | exact ⟨rfl, ⟨rfl, rfl, by
      intro p hp
      simp only [List.mem_cons, List.not_mem_nil, or_false] at hp
      rcases hp with rfl | rfl <;> first | rfl | exact congrArg I (by omega) | exact congrArg Value.bool (by simp <;> omega) | exact congrArg Value.bool (by simp)⟩, rfl⟩

set_option maxHeartbeats 1000000 in
theorem p18_4 {v : World} {a : Act} {p : Option Addr} {n cap : Nat} {i : Nat} (hn : n ≤ 9223372036854775807) (hA : Fl 105 [(0, .slice p n cap), (3, I (i : Nat))] a) :
    q18_4.wp Try.prog (fun e a' w' => e = .normal ∧ (Fl 105 [(14, Bl (decide (i < n))), (0, .slice p n cap), (3, I (i : Nat))] a' ∧ w' = v)) a v := by
  obtain ⟨hsz, hd, hp⟩ := hA
  obtain ⟨u, rfl, hg⟩ := litN hsz hd
  simp only [List.forall_mem_cons, hg] at hp
  obtain ⟨u0, u3, -⟩ := hp
  clear hg hsz hd
  unfold q18_4 C18 Try.f18 seq1 seq2 blockC loopC
  simp only [Option.getD_some, lits, Nat.reduceAdd, u0, u3]
  clear u0 u3
  go_wp2_with fail
  first
    | exact ⟨⟨rfl, rfl, by
      intro p hp
      simp only [List.mem_cons, List.not_mem_nil, or_false] at hp
      rcases hp with rfl | rfl | rfl <;> first | rfl | exact congrArg I (by omega) | exact congrArg Value.bool (by simp <;> omega) | exact congrArg Value.bool (by simp)⟩, rfl⟩
    | exact ⟨rfl, rfl, by
      intro p hp
      simp only [List.mem_cons, List.not_mem_nil, or_false] at hp
      rcases hp with rfl | rfl | rfl <;> first | rfl | exact congrArg I (by omega) | exact congrArg Value.bool (by simp <;> omega) | exact congrArg Value.bool (by simp)⟩
    | exact ⟨rfl, ⟨rfl, rfl, by
      intro p hp
      simp only [List.mem_cons, List.not_mem_nil, or_false] at hp
      rcases hp with rfl | rfl | rfl <;> first | rfl | exact congrArg I (by omega) | exact congrArg Value.bool (by simp <;> omega) | exact congrArg Value.bool (by simp)⟩, rfl⟩

set_option maxHeartbeats 1000000 in
theorem p18_6 {v : World} {a : Act} {b o n cap : Nat} {i : Nat} {q : Option Addr} {nn nc : Nat} (hi : i < n) (hnn : nn ≤ 9223372036854775807) (hn : n ≤ 9223372036854775807) (c0 : v.cell? ⟨b, o + i * 5, none⟩ = some (.slice q nn nc)) (hA : Fl 105 [(0, .slice (some ⟨b, o, none⟩) n cap), (3, I (i : Nat))] a) :
    q18_6.wp Try.prog (fun e a' w' => e = .normal ∧ (Fl 105 [(23, Bl (decide (20 < nn))), (0, .slice (some ⟨b, o, none⟩) n cap), (3, I (i : Nat))] a' ∧ w' = v)) a v := by
  obtain ⟨hsz, hd, hp⟩ := hA
  obtain ⟨u, rfl, hg⟩ := litN hsz hd
  simp only [List.forall_mem_cons, hg] at hp
  obtain ⟨u0, u3, -⟩ := hp
  clear hg hsz hd
  unfold q18_6 C18 Try.f18 seq1 seq2 blockC loopC
  simp only [Option.getD_some, lits, Nat.reduceAdd, u0, u3]
  clear u0 u3
  go_wp2_with fail
  first
    | exact ⟨⟨rfl, rfl, by
      intro p hp
      simp only [List.mem_cons, List.not_mem_nil, or_false] at hp
      rcases hp with rfl | rfl | rfl <;> first | rfl | exact congrArg I (by omega) | exact congrArg Value.bool (by simp <;> omega) | exact congrArg Value.bool (by simp)⟩, rfl⟩
    | exact ⟨rfl, rfl, by
      intro p hp
      simp only [List.mem_cons, List.not_mem_nil, or_false] at hp
      rcases hp with rfl | rfl | rfl <;> first | rfl | exact congrArg I (by omega) | exact congrArg Value.bool (by simp <;> omega) | exact congrArg Value.bool (by simp)⟩
    | exact ⟨rfl, ⟨rfl, rfl, by
      intro p hp
      simp only [List.mem_cons, List.not_mem_nil, or_false] at hp
      rcases hp with rfl | rfl | rfl <;> first | rfl | exact congrArg I (by omega) | exact congrArg Value.bool (by simp <;> omega) | exact congrArg Value.bool (by simp)⟩, rfl⟩

set_option maxHeartbeats 1000000 in
theorem p18_5 {v : World} {a : Act} {p : Option Addr} {n cap : Nat} {i : Nat} (hi : i < n) (hn : n ≤ 9223372036854775807) (hA : Fl 105 [(0, .slice p n cap), (3, I (i : Nat))] a) :
    q18_5.wp Try.prog (fun e a' w' => e = .normal ∧ (Fl 105 [(0, .slice p n cap), (3, I ((i + 1 : Nat) : Int))] a' ∧ w' = v)) a v := by
  obtain ⟨hsz, hd, hp⟩ := hA
  obtain ⟨u, rfl, hg⟩ := litN hsz hd
  simp only [List.forall_mem_cons, hg] at hp
  obtain ⟨u0, u3, -⟩ := hp
  clear hg hsz hd
  unfold q18_5 C18 Try.f18 seq1 seq2 blockC loopC
  simp only [Option.getD_some, lits, Nat.reduceAdd, u0, u3]
  clear u0 u3
  go_wp2_with fail
  first
    | exact ⟨⟨rfl, rfl, by
      intro p hp
      simp only [List.mem_cons, List.not_mem_nil, or_false] at hp
      rcases hp with rfl | rfl <;> first | rfl | exact congrArg I (by omega) | exact congrArg Value.bool (by simp <;> omega) | exact congrArg Value.bool (by simp)⟩, rfl⟩
    | exact ⟨rfl, rfl, by
      intro p hp
      simp only [List.mem_cons, List.not_mem_nil, or_false] at hp
      rcases hp with rfl | rfl <;> first | rfl | exact congrArg I (by omega) | exact congrArg Value.bool (by simp <;> omega) | exact congrArg Value.bool (by simp)⟩
    | exact ⟨rfl, ⟨rfl, rfl, by
      intro p hp
      simp only [List.mem_cons, List.not_mem_nil, or_false] at hp
      rcases hp with rfl | rfl <;> first | rfl | exact congrArg I (by omega) | exact congrArg Value.bool (by simp <;> omega) | exact congrArg Value.bool (by simp)⟩, rfl⟩

set_option maxHeartbeats 1000000 in
theorem p18_8 {v : World} {a : Act} {p : Option Addr} {n cap : Nat}  (hA : Fl 105 [(0, .slice p n cap)] a) :
    q18_8.wp Try.prog (fun e a' w' => e = .normal ∧ (Fl 105 [(0, .slice p n cap), (4, I (0 : Nat))] a' ∧ w' = v)) a v := by
  obtain ⟨hsz, hd, hp⟩ := hA
  obtain ⟨u, rfl, hg⟩ := litN hsz hd
  simp only [List.forall_mem_cons, hg] at hp
  obtain ⟨u0, -⟩ := hp
  clear hg hsz hd
  unfold q18_8 C18 Try.f18 seq1 seq2
  simp only [Option.getD_some, lits, Nat.reduceAdd, u0]
  clear u0
  go_wp2_with fail
  first
    | exact ⟨⟨rfl, rfl, by
      intro p hp
      simp only [List.mem_cons, List.not_mem_nil, or_false] at hp
      rcases hp with rfl | rfl <;> first | rfl | exact congrArg I (by omega) | exact congrArg Value.bool (by simp <;> omega) | exact congrArg Value.bool (by simp)⟩, rfl⟩
    | exact ⟨rfl, rfl, by
      intro p hp
      simp only [List.mem_cons, List.not_mem_nil, or_false] at hp
      rcases hp with rfl | rfl <;> first | rfl | exact congrArg I (by omega) | exact congrArg Value.bool (by simp <;> omega) | exact congrArg Value.bool (by simp)⟩
    | exact ⟨rfl, ⟨rfl, rfl, by
      intro p hp
      simp only [List.mem_cons, List.not_mem_nil, or_false] at hp
      rcases hp with rfl | rfl <;> first | rfl | exact congrArg I (by omega) | exact congrArg Value.bool (by simp <;> omega) | exact congrArg Value.bool (by simp)⟩, rfl⟩

set_option maxHeartbeats 1000000 in
theorem p18_9 {v : World} {a : Act} {p : Option Addr} {n cap : Nat} {i : Nat} (hn : n ≤ 9223372036854775807) (hA : Fl 105 [(0, .slice p n cap), (4, I (i : Nat))] a) :
    q18_9.wp Try.prog (fun e a' w' => e = .normal ∧ (Fl 105 [(27, Bl (decide (i < n))), (0, .slice p n cap), (4, I (i : Nat))] a' ∧ w' = v)) a v := by
  obtain ⟨hsz, hd, hp⟩ := hA
  obtain ⟨u, rfl, hg⟩ := litN hsz hd
  simp only [List.forall_mem_cons, hg] at hp
  obtain ⟨u0, u4, -⟩ := hp
  clear hg hsz hd
  unfold q18_9 C18 Try.f18 seq1 seq2 blockC loopC
  simp only [Option.getD_some, lits, Nat.reduceAdd, u0, u4]
  clear u0 u4
  go_wp2_with fail
  first
    | exact ⟨⟨rfl, rfl, by
      intro p hp
      simp only [List.mem_cons, List.not_mem_nil, or_false] at hp
      rcases hp with rfl | rfl | rfl <;> first | rfl | exact congrArg I (by omega) | exact congrArg Value.bool (by simp <;> omega) | exact congrArg Value.bool (by simp)⟩, rfl⟩
    | exact ⟨rfl, rfl, by
      intro p hp
      simp only [List.mem_cons, List.not_mem_nil, or_false] at hp
      rcases hp with rfl | rfl | rfl <;> first | rfl | exact congrArg I (by omega) | exact congrArg Value.bool (by simp <;> omega) | exact congrArg Value.bool (by simp)⟩
    | exact ⟨rfl, ⟨rfl, rfl, by
      intro p hp
      simp only [List.mem_cons, List.not_mem_nil, or_false] at hp
      rcases hp with rfl | rfl | rfl <;> first | rfl | exact congrArg I (by omega) | exact congrArg Value.bool (by simp <;> omega) | exact congrArg Value.bool (by simp)⟩, rfl⟩

set_option maxHeartbeats 1000000 in
theorem p18_11 {v : World} {a : Act} {b o n cap : Nat} {i : Nat} {r : Rc} {q : Option Addr} {nn nc : Nat} (hi : i < n) (hn : n ≤ 9223372036854775807) (c0 : v.cell? ⟨b, o + i * 5, none⟩ = some (.slice q nn nc)) (c1 : v.cell? ⟨b, o + i * 5 + 1, none⟩ = some (I r.level)) (c2 : v.cell? ⟨b, o + i * 5 + 2, none⟩ = some (I r.act)) (c3 : v.cell? ⟨b, o + i * 5 + 3, none⟩ = some (I r.value)) (c4 : v.cell? ⟨b, o + i * 5 + 4, none⟩ = some (I r.fin)) (hA : Fl 105 [(0, .slice (some ⟨b, o, none⟩) n cap), (4, I (i : Nat))] a) :
    q18_11.wp Try.prog (fun e a' w' => e = .normal ∧ (Fl 105 [(0, .slice (some ⟨b, o, none⟩) n cap), (4, I (i : Nat)), (5, P1 v.heap.size)] a' ∧ w' = v.alloc (.cells (rcC (.slice q nn nc) r) 43))) a v := by
  obtain ⟨hsz, hd, hp⟩ := hA
  obtain ⟨u, rfl, hg⟩ := litN hsz hd
  simp only [List.forall_mem_cons, hg] at hp
  obtain ⟨u0, u4, -⟩ := hp
  clear hg hsz hd
  unfold q18_11 C18 Try.f18 seq1 seq2 blockC loopC
  simp only [Option.getD_some, lits, Nat.reduceAdd, u0, u4]
  clear u0 u4
  go_wp2_with fail
  first
    | exact ⟨⟨rfl, rfl, by
      intro p hp
      simp only [List.mem_cons, List.not_mem_nil, or_false] at hp
      rcases hp with rfl | rfl | rfl <;> first | rfl | exact congrArg I (by omega) | exact congrArg Value.bool (by simp <;> omega) | exact congrArg Value.bool (by simp)⟩, rfl⟩
    | exact ⟨rfl, rfl, by
      intro p hp
      simp only [List.mem_cons, List.not_mem_nil, or_false] at hp
      rcases hp with rfl | rfl | rfl <;> first | rfl | exact congrArg I (by omega) | exact congrArg Value.bool (by simp <;> omega) | exact congrArg Value.bool (by simp)⟩
    | exact ⟨rfl, ⟨rfl, rfl, by
      intro p hp
      simp only [List.mem_cons, List.not_mem_nil, or_false] at hp
      rcases hp with rfl | rfl | rfl <;> first | rfl | exact congrArg I (by omega) | exact congrArg Value.bool (by simp <;> omega) | exact congrArg Value.bool (by simp)⟩, rfl⟩

set_option maxHeartbeats 1000000 in
theorem p18_12_0 {v : World} {a : Act} {b o n cap : Nat} {i b5 : Nat} {r : Rc} (d1 : v.cell? ⟨b5, 1, none⟩ = some (I r.level)) (d2 : v.cell? ⟨b5, 2, none⟩ = some (I r.act)) (d3 : v.cell? ⟨b5, 3, none⟩ = some (I r.value)) (d4 : v.cell? ⟨b5, 4, none⟩ = some (I r.fin)) (h0 : decide (r.level < 0) = true) (hA : Fl 105 [(0, .slice (some ⟨b, o, none⟩) n cap), (4, I (i : Nat)), (5, P1 b5)] a) :
    q18_12.wp Try.prog (fun e a' w' => e = .normal ∧ (Fl 105 [(71, Bl true), (0, .slice (some ⟨b, o, none⟩) n cap), (4, I (i : Nat)), (5, P1 b5)] a' ∧ w' = v)) a v := by
  obtain ⟨hsz, hd, hp⟩ := hA
  obtain ⟨u, rfl, hg⟩ := litN hsz hd
  simp only [List.forall_mem_cons, hg] at hp
  obtain ⟨u0, u4, u5, -⟩ := hp
  clear hg hsz hd
  unfold q18_12 C18 Try.f18 seq1 seq2 blockC loopC
  simp only [Option.getD_some, lits, Nat.reduceAdd, u0, u4, u5]
  clear u0 u4 u5
  go_wp2_with fail
  first
    | exact ⟨⟨rfl, rfl, by
      intro p hp
      simp only [List.mem_cons, List.not_mem_nil, or_false] at hp
      rcases hp with rfl | rfl | rfl | rfl <;> first | rfl | exact congrArg I (by omega) | exact congrArg Value.bool (by simp <;> omega) | exact congrArg Value.bool (by simp)⟩, rfl⟩
    | exact ⟨rfl, rfl, by
      intro p hp
      simp only [List.mem_cons, List.not_mem_nil, or_false] at hp
      rcases hp with rfl | rfl | rfl | rfl <;> first | rfl | exact congrArg I (by omega) | exact congrArg Value.bool (by simp <;> omega) | exact congrArg Value.bool (by simp)⟩
    | exact ⟨rfl, ⟨rfl, rfl, by
      intro p hp
      simp only [List.mem_cons, List.not_mem_nil, or_false] at hp
      rcases hp with rfl | rfl | rfl | rfl <;> first | rfl | exact congrArg I (by omega) | exact congrArg Value.bool (by simp <;> omega) | exact congrArg Value.bool (by simp)⟩, rfl⟩

set_option maxHeartbeats 1000000 in
theorem p18_12_1 {v : World} {a : Act} {b o n cap : Nat} {i b5 : Nat} {r : Rc} (d1 : v.cell? ⟨b5, 1, none⟩ = some (I r.level)) (d2 : v.cell? ⟨b5, 2, none⟩ = some (I r.act)) (d3 : v.cell? ⟨b5, 3, none⟩ = some (I r.value)) (d4 : v.cell? ⟨b5, 4, none⟩ = some (I r.fin)) (h0 : decide (r.level < 0) = false) (h1 : decide (8 ≤ r.level) = true) (hA : Fl 105 [(0, .slice (some ⟨b, o, none⟩) n cap), (4, I (i : Nat)), (5, P1 b5)] a) :
    q18_12.wp Try.prog (fun e a' w' => e = .normal ∧ (Fl 105 [(71, Bl true), (0, .slice (some ⟨b, o, none⟩) n cap), (4, I (i : Nat)), (5, P1 b5)] a' ∧ w' = v)) a v := by
  obtain ⟨hsz, hd, hp⟩ := hA
  obtain ⟨u, rfl, hg⟩ := litN hsz hd
  simp only [List.forall_mem_cons, hg] at hp
  obtain ⟨u0, u4, u5, -⟩ := hp
  clear hg hsz hd
  unfold q18_12 C18 Try.f18 seq1 seq2 blockC loopC
  simp only [Option.getD_some, lits, Nat.reduceAdd, u0, u4, u5]
  clear u0 u4 u5
  go_wp2_with fail
  first
    | exact ⟨⟨rfl, rfl, by
      intro p hp
      simp only [List.mem_cons, List.not_mem_nil, or_false] at hp
      rcases hp with rfl | rfl | rfl | rfl <;> first | rfl | exact congrArg I (by omega) | exact congrArg Value.bool (by simp <;> omega) | exact congrArg Value.bool (by simp)⟩, rfl⟩
    | exact ⟨rfl, rfl, by
      intro p hp
      simp only [List.mem_cons, List.not_mem_nil, or_false] at hp
      rcases hp with rfl | rfl | rfl | rfl <;> first | rfl | exact congrArg I (by omega) | exact congrArg Value.bool (by simp <;> omega) | exact congrArg Value.bool (by simp)⟩
    | exact ⟨rfl, ⟨rfl, rfl, by
      intro p hp
      simp only [List.mem_cons, List.not_mem_nil, or_false] at hp
      rcases hp with rfl | rfl | rfl | rfl <;> first | rfl | exact congrArg I (by omega) | exact congrArg Value.bool (by simp <;> omega) | exact congrArg Value.bool (by simp)⟩, rfl⟩

set_option maxHeartbeats 1000000 in
theorem p18_12_2 {v : World} {a : Act} {b o n cap : Nat} {i b5 : Nat} {r : Rc} (d1 : v.cell? ⟨b5, 1, none⟩ = some (I r.level)) (d2 : v.cell? ⟨b5, 2, none⟩ = some (I r.act)) (d3 : v.cell? ⟨b5, 3, none⟩ = some (I r.value)) (d4 : v.cell? ⟨b5, 4, none⟩ = some (I r.fin)) (h0 : decide (r.level < 0) = false) (h1 : decide (8 ≤ r.level) = false) (h2 : decide (r.act < 0) = true) (hA : Fl 105 [(0, .slice (some ⟨b, o, none⟩) n cap), (4, I (i : Nat)), (5, P1 b5)] a) :
    q18_12.wp Try.prog (fun e a' w' => e = .normal ∧ (Fl 105 [(71, Bl true), (0, .slice (some ⟨b, o, none⟩) n cap), (4, I (i : Nat)), (5, P1 b5)] a' ∧ w' = v)) a v := by
  obtain ⟨hsz, hd, hp⟩ := hA
  obtain ⟨u, rfl, hg⟩ := litN hsz hd
  simp only [List.forall_mem_cons, hg] at hp
  obtain ⟨u0, u4, u5, -⟩ := hp
  clear hg hsz hd
  unfold q18_12 C18 Try.f18 seq1 seq2 blockC loopC
  simp only [Option.getD_some, lits, Nat.reduceAdd, u0, u4, u5]
  clear u0 u4 u5
  go_wp2_with fail
  first
    | exact ⟨⟨rfl, rfl, by
      intro p hp
      simp only [List.mem_cons, List.not_mem_nil, or_false] at hp
      rcases hp with rfl | rfl | rfl | rfl <;> first | rfl | exact congrArg I (by omega) | exact congrArg Value.bool (by simp <;> omega) | exact congrArg Value.bool (by simp)⟩, rfl⟩
    | exact ⟨rfl, rfl, by
      intro p hp
      simp only [List.mem_cons, List.not_mem_nil, or_false] at hp
      rcases hp with rfl | rfl | rfl | rfl <;> first | rfl | exact congrArg I (by omega) | exact congrArg Value.bool (by simp <;> omega) | exact congrArg Value.bool (by simp)⟩
    | exact ⟨rfl, ⟨rfl, rfl, by
      intro p hp
      simp only [List.mem_cons, List.not_mem_nil, or_false] at hp
      rcases hp with rfl | rfl | rfl | rfl <;> first | rfl | exact congrArg I (by omega) | exact congrArg Value.bool (by simp <;> omega) | exact congrArg Value.bool (by simp)⟩, rfl⟩

set_option maxHeartbeats 1000000 in
theorem p18_12_3 {v : World} {a : Act} {b o n cap : Nat} {i b5 : Nat} {r : Rc} (d1 : v.cell? ⟨b5, 1, none⟩ = some (I r.level)) (d2 : v.cell? ⟨b5, 2, none⟩ = some (I r.act)) (d3 : v.cell? ⟨b5, 3, none⟩ = some (I r.value)) (d4 : v.cell? ⟨b5, 4, none⟩ = some (I r.fin)) (h0 : decide (r.level < 0) = false) (h1 : decide (8 ≤ r.level) = false) (h2 : decide (r.act < 0) = false) (h3 : decide (2 < r.act) = true) (hA : Fl 105 [(0, .slice (some ⟨b, o, none⟩) n cap), (4, I (i : Nat)), (5, P1 b5)] a) :
    q18_12.wp Try.prog (fun e a' w' => e = .normal ∧ (Fl 105 [(71, Bl true), (0, .slice (some ⟨b, o, none⟩) n cap), (4, I (i : Nat)), (5, P1 b5)] a' ∧ w' = v)) a v := by
  obtain ⟨hsz, hd, hp⟩ := hA
  obtain ⟨u, rfl, hg⟩ := litN hsz hd
  simp only [List.forall_mem_cons, hg] at hp
  obtain ⟨u0, u4, u5, -⟩ := hp
  clear hg hsz hd
  unfold q18_12 C18 Try.f18 seq1 seq2 blockC loopC
  simp only [Option.getD_some, lits, Nat.reduceAdd, u0, u4, u5]
  clear u0 u4 u5
  go_wp2_with fail
  first
    | exact ⟨⟨rfl, rfl, by
      intro p hp
      simp only [List.mem_cons, List.not_mem_nil, or_false] at hp
      rcases hp with rfl | rfl | rfl | rfl <;> first | rfl | exact congrArg I (by omega) | exact congrArg Value.bool (by simp <;> omega) | exact congrArg Value.bool (by simp)⟩, rfl⟩
    | exact ⟨rfl, rfl, by
      intro p hp
      simp only [List.mem_cons, List.not_mem_nil, or_false] at hp
      rcases hp with rfl | rfl | rfl | rfl <;> first | rfl | exact congrArg I (by omega) | exact congrArg Value.bool (by simp <;> omega) | exact congrArg Value.bool (by simp)⟩
    | exact ⟨rfl, ⟨rfl, rfl, by
      intro p hp
      simp only [List.mem_cons, List.not_mem_nil, or_false] at hp
      rcases hp with rfl | rfl | rfl | rfl <;> first | rfl | exact congrArg I (by omega) | exact congrArg Value.bool (by simp <;> omega) | exact congrArg Value.bool (by simp)⟩, rfl⟩

set_option maxHeartbeats 1000000 in
theorem p18_12_4 {v : World} {a : Act} {b o n cap : Nat} {i b5 : Nat} {r : Rc} (d1 : v.cell? ⟨b5, 1, none⟩ = some (I r.level)) (d2 : v.cell? ⟨b5, 2, none⟩ = some (I r.act)) (d3 : v.cell? ⟨b5, 3, none⟩ = some (I r.value)) (d4 : v.cell? ⟨b5, 4, none⟩ = some (I r.fin)) (h0 : decide (r.level < 0) = false) (h1 : decide (8 ≤ r.level) = false) (h2 : decide (r.act < 0) = false) (h3 : decide (2 < r.act) = false) (h4 : decide (r.fin < 0) = true) (hA : Fl 105 [(0, .slice (some ⟨b, o, none⟩) n cap), (4, I (i : Nat)), (5, P1 b5)] a) :
    q18_12.wp Try.prog (fun e a' w' => e = .normal ∧ (Fl 105 [(71, Bl true), (0, .slice (some ⟨b, o, none⟩) n cap), (4, I (i : Nat)), (5, P1 b5)] a' ∧ w' = v)) a v := by
  obtain ⟨hsz, hd, hp⟩ := hA
  obtain ⟨u, rfl, hg⟩ := litN hsz hd
  simp only [List.forall_mem_cons, hg] at hp
  obtain ⟨u0, u4, u5, -⟩ := hp
  clear hg hsz hd
  unfold q18_12 C18 Try.f18 seq1 seq2 blockC loopC
  simp only [Option.getD_some, lits, Nat.reduceAdd, u0, u4, u5]
  clear u0 u4 u5
  go_wp2_with fail
  first
    | exact ⟨⟨rfl, rfl, by
      intro p hp
      simp only [List.mem_cons, List.not_mem_nil, or_false] at hp
      rcases hp with rfl | rfl | rfl | rfl <;> first | rfl | exact congrArg I (by omega) | exact congrArg Value.bool (by simp <;> omega) | exact congrArg Value.bool (by simp)⟩, rfl⟩
    | exact ⟨rfl, rfl, by
      intro p hp
      simp only [List.mem_cons, List.not_mem_nil, or_false] at hp
      rcases hp with rfl | rfl | rfl | rfl <;> first | rfl | exact congrArg I (by omega) | exact congrArg Value.bool (by simp <;> omega) | exact congrArg Value.bool (by simp)⟩
    | exact ⟨rfl, ⟨rfl, rfl, by
      intro p hp
      simp only [List.mem_cons, List.not_mem_nil, or_false] at hp
      rcases hp with rfl | rfl | rfl | rfl <;> first | rfl | exact congrArg I (by omega) | exact congrArg Value.bool (by simp <;> omega) | exact congrArg Value.bool (by simp)⟩, rfl⟩

set_option maxHeartbeats 1000000 in
theorem p18_12_5 {v : World} {a : Act} {b o n cap : Nat} {i b5 : Nat} {r : Rc} (d1 : v.cell? ⟨b5, 1, none⟩ = some (I r.level)) (d2 : v.cell? ⟨b5, 2, none⟩ = some (I r.act)) (d3 : v.cell? ⟨b5, 3, none⟩ = some (I r.value)) (d4 : v.cell? ⟨b5, 4, none⟩ = some (I r.fin)) (h0 : decide (r.level < 0) = false) (h1 : decide (8 ≤ r.level) = false) (h2 : decide (r.act < 0) = false) (h3 : decide (2 < r.act) = false) (h4 : decide (r.fin < 0) = false) (h5 : decide (2 < r.fin) = true) (hA : Fl 105 [(0, .slice (some ⟨b, o, none⟩) n cap), (4, I (i : Nat)), (5, P1 b5)] a) :
    q18_12.wp Try.prog (fun e a' w' => e = .normal ∧ (Fl 105 [(71, Bl true), (0, .slice (some ⟨b, o, none⟩) n cap), (4, I (i : Nat)), (5, P1 b5)] a' ∧ w' = v)) a v := by
  obtain ⟨hsz, hd, hp⟩ := hA
  obtain ⟨u, rfl, hg⟩ := litN hsz hd
  simp only [List.forall_mem_cons, hg] at hp
  obtain ⟨u0, u4, u5, -⟩ := hp
  clear hg hsz hd
  unfold q18_12 C18 Try.f18 seq1 seq2 blockC loopC
  simp only [Option.getD_some, lits, Nat.reduceAdd, u0, u4, u5]
  clear u0 u4 u5
  go_wp2_with fail
  first
    | exact ⟨⟨rfl, rfl, by
      intro p hp
      simp only [List.mem_cons, List.not_mem_nil, or_false] at hp
      rcases hp with rfl | rfl | rfl | rfl <;> first | rfl | exact congrArg I (by omega) | exact congrArg Value.bool (by simp <;> omega) | exact congrArg Value.bool (by simp)⟩, rfl⟩
    | exact ⟨rfl, rfl, by
      intro p hp
      simp only [List.mem_cons, List.not_mem_nil, or_false] at hp
      rcases hp with rfl | rfl | rfl | rfl <;> first | rfl | exact congrArg I (by omega) | exact congrArg Value.bool (by simp <;> omega) | exact congrArg Value.bool (by simp)⟩
    | exact ⟨rfl, ⟨rfl, rfl, by
      intro p hp
      simp only [List.mem_cons, List.not_mem_nil, or_false] at hp
      rcases hp with rfl | rfl | rfl | rfl <;> first | rfl | exact congrArg I (by omega) | exact congrArg Value.bool (by simp <;> omega) | exact congrArg Value.bool (by simp)⟩, rfl⟩

set_option maxHeartbeats 1000000 in
theorem p18_12_6 {v : World} {a : Act} {b o n cap : Nat} {i b5 : Nat} {r : Rc} (d1 : v.cell? ⟨b5, 1, none⟩ = some (I r.level)) (d2 : v.cell? ⟨b5, 2, none⟩ = some (I r.act)) (d3 : v.cell? ⟨b5, 3, none⟩ = some (I r.value)) (d4 : v.cell? ⟨b5, 4, none⟩ = some (I r.fin)) (h0 : decide (r.level < 0) = false) (h1 : decide (8 ≤ r.level) = false) (h2 : decide (r.act < 0) = false) (h3 : decide (2 < r.act) = false) (h4 : decide (r.fin < 0) = false) (h5 : decide (2 < r.fin) = false) (h6 : decide (r.value < -1000) = true) (hA : Fl 105 [(0, .slice (some ⟨b, o, none⟩) n cap), (4, I (i : Nat)), (5, P1 b5)] a) :
    q18_12.wp Try.prog (fun e a' w' => e = .normal ∧ (Fl 105 [(71, Bl true), (0, .slice (some ⟨b, o, none⟩) n cap), (4, I (i : Nat)), (5, P1 b5)] a' ∧ w' = v)) a v := by
  obtain ⟨hsz, hd, hp⟩ := hA
  obtain ⟨u, rfl, hg⟩ := litN hsz hd
  simp only [List.forall_mem_cons, hg] at hp
  obtain ⟨u0, u4, u5, -⟩ := hp
  clear hg hsz hd
  unfold q18_12 C18 Try.f18 seq1 seq2 blockC loopC
  simp only [Option.getD_some, lits, Nat.reduceAdd, u0, u4, u5]
  clear u0 u4 u5
  go_wp2_with fail
  first
    | exact ⟨⟨rfl, rfl, by
      intro p hp
      simp only [List.mem_cons, List.not_mem_nil, or_false] at hp
      rcases hp with rfl | rfl | rfl | rfl <;> first | rfl | exact congrArg I (by omega) | exact congrArg Value.bool (by simp <;> omega) | exact congrArg Value.bool (by simp)⟩, rfl⟩
    | exact ⟨rfl, rfl, by
      intro p hp
      simp only [List.mem_cons, List.not_mem_nil, or_false] at hp
      rcases hp with rfl | rfl | rfl | rfl <;> first | rfl | exact congrArg I (by omega) | exact congrArg Value.bool (by simp <;> omega) | exact congrArg Value.bool (by simp)⟩
    | exact ⟨rfl, ⟨rfl, rfl, by
      intro p hp
      simp only [List.mem_cons, List.not_mem_nil, or_false] at hp
      rcases hp with rfl | rfl | rfl | rfl <;> first | rfl | exact congrArg I (by omega) | exact congrArg Value.bool (by simp <;> omega) | exact congrArg Value.bool (by simp)⟩, rfl⟩

set_option maxHeartbeats 1000000 in
theorem p18_12_7 {v : World} {a : Act} {b o n cap : Nat} {i b5 : Nat} {r : Rc} (d1 : v.cell? ⟨b5, 1, none⟩ = some (I r.level)) (d2 : v.cell? ⟨b5, 2, none⟩ = some (I r.act)) (d3 : v.cell? ⟨b5, 3, none⟩ = some (I r.value)) (d4 : v.cell? ⟨b5, 4, none⟩ = some (I r.fin)) (h0 : decide (r.level < 0) = false) (h1 : decide (8 ≤ r.level) = false) (h2 : decide (r.act < 0) = false) (h3 : decide (2 < r.act) = false) (h4 : decide (r.fin < 0) = false) (h5 : decide (2 < r.fin) = false) (h6 : decide (r.value < -1000) = false) (h7 : decide (1000 < r.value) = true) (hA : Fl 105 [(0, .slice (some ⟨b, o, none⟩) n cap), (4, I (i : Nat)), (5, P1 b5)] a) :
    q18_12.wp Try.prog (fun e a' w' => e = .normal ∧ (Fl 105 [(71, Bl true), (0, .slice (some ⟨b, o, none⟩) n cap), (4, I (i : Nat)), (5, P1 b5)] a' ∧ w' = v)) a v := by
  obtain ⟨hsz, hd, hp⟩ := hA
  obtain ⟨u, rfl, hg⟩ := litN hsz hd
  simp only [List.forall_mem_cons, hg] at hp
  obtain ⟨u0, u4, u5, -⟩ := hp
  clear hg hsz hd
  unfold q18_12 C18 Try.f18 seq1 seq2 blockC loopC
  simp only [Option.getD_some, lits, Nat.reduceAdd, u0, u4, u5]
  clear u0 u4 u5
  go_wp2_with fail
  first
    | exact ⟨⟨rfl, rfl, by
      intro p hp
      simp only [List.mem_cons, List.not_mem_nil, or_false] at hp
      rcases hp with rfl | rfl | rfl | rfl <;> first | rfl | exact congrArg I (by omega) | exact congrArg Value.bool (by simp <;> omega) | exact congrArg Value.bool (by simp)⟩, rfl⟩
    | exact ⟨rfl, rfl, by
      intro p hp
      simp only [List.mem_cons, List.not_mem_nil, or_false] at hp
      rcases hp with rfl | rfl | rfl | rfl <;> first | rfl | exact congrArg I (by omega) | exact congrArg Value.bool (by simp <;> omega) | exact congrArg Value.bool (by simp)⟩
    | exact ⟨rfl, ⟨rfl, rfl, by
      intro p hp
      simp only [List.mem_cons, List.not_mem_nil, or_false] at hp
      rcases hp with rfl | rfl | rfl | rfl <;> first | rfl | exact congrArg I (by omega) | exact congrArg Value.bool (by simp <;> omega) | exact congrArg Value.bool (by simp)⟩, rfl⟩

set_option maxHeartbeats 1000000 in
theorem p18_12_8 {v : World} {a : Act} {b o n cap : Nat} {i b5 : Nat} {r : Rc} (d1 : v.cell? ⟨b5, 1, none⟩ = some (I r.level)) (d2 : v.cell? ⟨b5, 2, none⟩ = some (I r.act)) (d3 : v.cell? ⟨b5, 3, none⟩ = some (I r.value)) (d4 : v.cell? ⟨b5, 4, none⟩ = some (I r.fin)) (h0 : decide (r.level < 0) = false) (h1 : decide (8 ≤ r.level) = false) (h2 : decide (r.act < 0) = false) (h3 : decide (2 < r.act) = false) (h4 : decide (r.fin < 0) = false) (h5 : decide (2 < r.fin) = false) (h6 : decide (r.value < -1000) = false) (h7 : decide (1000 < r.value) = false) (hA : Fl 105 [(0, .slice (some ⟨b, o, none⟩) n cap), (4, I (i : Nat)), (5, P1 b5)] a) :
    q18_12.wp Try.prog (fun e a' w' => e = .normal ∧ (Fl 105 [(71, Bl false), (0, .slice (some ⟨b, o, none⟩) n cap), (4, I (i : Nat)), (5, P1 b5)] a' ∧ w' = v)) a v := by
  obtain ⟨hsz, hd, hp⟩ := hA
  obtain ⟨u, rfl, hg⟩ := litN hsz hd
  simp only [List.forall_mem_cons, hg] at hp
  obtain ⟨u0, u4, u5, -⟩ := hp
  clear hg hsz hd
  unfold q18_12 C18 Try.f18 seq1 seq2 blockC loopC
  simp only [Option.getD_some, lits, Nat.reduceAdd, u0, u4, u5]
  clear u0 u4 u5
  go_wp2_with fail
  first
    | exact ⟨⟨rfl, rfl, by
      intro p hp
      simp only [List.mem_cons, List.not_mem_nil, or_false] at hp
      rcases hp with rfl | rfl | rfl | rfl <;> first | rfl | exact congrArg I (by omega) | exact congrArg Value.bool (by simp <;> omega) | exact congrArg Value.bool (by simp)⟩, rfl⟩
    | exact ⟨rfl, rfl, by
      intro p hp
      simp only [List.mem_cons, List.not_mem_nil, or_false] at hp
      rcases hp with rfl | rfl | rfl | rfl <;> first | rfl | exact congrArg I (by omega) | exact congrArg Value.bool (by simp <;> omega) | exact congrArg Value.bool (by simp)⟩
    | exact ⟨rfl, ⟨rfl, rfl, by
      intro p hp
      simp only [List.mem_cons, List.not_mem_nil, or_false] at hp
      rcases hp with rfl | rfl | rfl | rfl <;> first | rfl | exact congrArg I (by omega) | exact congrArg Value.bool (by simp <;> omega) | exact congrArg Value.bool (by simp)⟩, rfl⟩

theorem p18_12 {v : World} {a : Act} {b o n cap i b5 : Nat} {r : Rc} (d1 : v.cell? ⟨b5, 1, none⟩ = some (I r.level)) (d2 : v.cell? ⟨b5, 2, none⟩ = some (I r.act)) (d3 : v.cell? ⟨b5, 3, none⟩ = some (I r.value)) (d4 : v.cell? ⟨b5, 4, none⟩ = some (I r.fin)) (hA : Fl 105 [(0, .slice (some ⟨b, o, none⟩) n cap), (4, I (i : Nat)), (5, P1 b5)] a) :
    q18_12.wp Try.prog (fun e a' w' => e = .normal ∧ ∃ c, (Fl 105 [(71, Bl c), (0, .slice (some ⟨b, o, none⟩) n cap), (4, I (i : Nat)), (5, P1 b5)] a' ∧ (c = true ↔ ¬ okR r) ∧ w' = v)) a v := by
  by_cases g0 : r.level < 0
  · refine wp_mono (p18_12_0 d1 d2 d3 d4  (decide_eq_true g0) hA) fun e a w h => ?_
    obtain ⟨he, h1, h2⟩ := h
    exact ⟨he, true, h1, ⟨fun _ h => by unfold okR at h; omega, fun _ => rfl⟩, h2⟩
  by_cases g1 : 8 ≤ r.level
  · refine wp_mono (p18_12_1 d1 d2 d3 d4 (decide_eq_false g0) (decide_eq_true g1) hA) fun e a w h => ?_
    obtain ⟨he, h1, h2⟩ := h
    exact ⟨he, true, h1, ⟨fun _ h => by unfold okR at h; omega, fun _ => rfl⟩, h2⟩
  by_cases g2 : r.act < 0
  · refine wp_mono (p18_12_2 d1 d2 d3 d4 (decide_eq_false g0) (decide_eq_false g1) (decide_eq_true g2) hA) fun e a w h => ?_
    obtain ⟨he, h1, h2⟩ := h
    exact ⟨he, true, h1, ⟨fun _ h => by unfold okR at h; omega, fun _ => rfl⟩, h2⟩
  by_cases g3 : 2 < r.act
  · refine wp_mono (p18_12_3 d1 d2 d3 d4 (decide_eq_false g0) (decide_eq_false g1) (decide_eq_false g2) (decide_eq_true g3) hA) fun e a w h => ?_
    obtain ⟨he, h1, h2⟩ := h
    exact ⟨he, true, h1, ⟨fun _ h => by unfold okR at h; omega, fun _ => rfl⟩, h2⟩
  by_cases g4 : r.fin < 0
  · refine wp_mono (p18_12_4 d1 d2 d3 d4 (decide_eq_false g0) (decide_eq_false g1) (decide_eq_false g2) (decide_eq_false g3) (decide_eq_true g4) hA) fun e a w h => ?_
    obtain ⟨he, h1, h2⟩ := h
    exact ⟨he, true, h1, ⟨fun _ h => by unfold okR at h; omega, fun _ => rfl⟩, h2⟩
  by_cases g5 : 2 < r.fin
  · refine wp_mono (p18_12_5 d1 d2 d3 d4 (decide_eq_false g0) (decide_eq_false g1) (decide_eq_false g2) (decide_eq_false g3) (decide_eq_false g4) (decide_eq_true g5) hA) fun e a w h => ?_
    obtain ⟨he, h1, h2⟩ := h
    exact ⟨he, true, h1, ⟨fun _ h => by unfold okR at h; omega, fun _ => rfl⟩, h2⟩
  by_cases g6 : r.value < -1000
  · refine wp_mono (p18_12_6 d1 d2 d3 d4 (decide_eq_false g0) (decide_eq_false g1) (decide_eq_false g2) (decide_eq_false g3) (decide_eq_false g4) (decide_eq_false g5) (decide_eq_true g6) hA) fun e a w h => ?_
    obtain ⟨he, h1, h2⟩ := h
    exact ⟨he, true, h1, ⟨fun _ h => by unfold okR at h; omega, fun _ => rfl⟩, h2⟩
  by_cases g7 : 1000 < r.value
  · refine wp_mono (p18_12_7 d1 d2 d3 d4 (decide_eq_false g0) (decide_eq_false g1) (decide_eq_false g2) (decide_eq_false g3) (decide_eq_false g4) (decide_eq_false g5) (decide_eq_false g6) (decide_eq_true g7) hA) fun e a w h => ?_
    obtain ⟨he, h1, h2⟩ := h
    exact ⟨he, true, h1, ⟨fun _ h => by unfold okR at h; omega, fun _ => rfl⟩, h2⟩
  refine wp_mono (p18_12_8 d1 d2 d3 d4 (decide_eq_false g0) (decide_eq_false g1) (decide_eq_false g2) (decide_eq_false g3) (decide_eq_false g4) (decide_eq_false g5) (decide_eq_false g6) (decide_eq_false g7) hA) fun e a w h => ?_
  obtain ⟨he, h1, h2⟩ := h
  exact ⟨he, false, h1, ⟨fun h => (by cases h), fun h => absurd (by unfold okR; omega) h⟩, h2⟩

set_option maxHeartbeats 1000000 in
theorem p18_14 {v : World} {a : Act} {b o n cap : Nat} {i b5 : Nat}  (hA : Fl 105 [(0, .slice (some ⟨b, o, none⟩) n cap), (4, I (i : Nat)), (5, P1 b5)] a) :
    q18_14.wp Try.prog (fun e a' w' => e = .normal ∧ (Fl 105 [(0, .slice (some ⟨b, o, none⟩) n cap), (4, I (i : Nat)), (5, P1 b5), (6, I (0 : Nat))] a' ∧ w' = v)) a v := by
  obtain ⟨hsz, hd, hp⟩ := hA
  obtain ⟨u, rfl, hg⟩ := litN hsz hd
  simp only [List.forall_mem_cons, hg] at hp
  obtain ⟨u0, u4, u5, -⟩ := hp
  clear hg hsz hd
  unfold q18_14 C18 Try.f18 seq1 seq2 blockC loopC
  simp only [Option.getD_some, lits, Nat.reduceAdd, u0, u4, u5]
  clear u0 u4 u5
  go_wp2_with fail
  first
    | exact ⟨⟨rfl, rfl, by
      intro p hp
      simp only [List.mem_cons, List.not_mem_nil, or_false] at hp
      rcases hp with rfl | rfl | rfl | rfl <;> first | rfl | exact congrArg I (by omega) | exact congrArg Value.bool (by simp <;> omega) | exact congrArg Value.bool (by simp)⟩, rfl⟩
    | exact ⟨rfl, rfl, by
      intro p hp
      simp only [List.mem_cons, List.not_mem_nil, or_false] at hp
      rcases hp with rfl | rfl | rfl | rfl <;> first | rfl | exact congrArg I (by omega) | exact congrArg Value.bool (by simp <;> omega) | exact congrArg Value.bool (by simp)⟩
    | exact ⟨rfl, ⟨rfl, rfl, by
      intro p hp
      simp only [List.mem_cons, List.not_mem_nil, or_false] at hp
      rcases hp with rfl | rfl | rfl | rfl <;> first | rfl | exact congrArg I (by omega) | exact congrArg Value.bool (by simp <;> omega) | exact congrArg Value.bool (by simp)⟩, rfl⟩

set_option maxHeartbeats 1000000 in
theorem p18_15 {v : World} {a : Act} {b o n cap : Nat} {i b5 k : Nat} {q : Option Addr} {nn nc : Nat} (d0 : v.cell? ⟨b5, 0, none⟩ = some (.slice q nn nc)) (hnn : nn ≤ 9223372036854775807) (hA : Fl 105 [(0, .slice (some ⟨b, o, none⟩) n cap), (4, I (i : Nat)), (5, P1 b5), (6, I (k : Nat))] a) :
    q18_15.wp Try.prog (fun e a' w' => e = .normal ∧ (Fl 105 [(76, Bl (decide (k < nn))), (0, .slice (some ⟨b, o, none⟩) n cap), (4, I (i : Nat)), (5, P1 b5), (6, I (k : Nat))] a' ∧ w' = v)) a v := by
  obtain ⟨hsz, hd, hp⟩ := hA
  obtain ⟨u, rfl, hg⟩ := litN hsz hd
  simp only [List.forall_mem_cons, hg] at hp
  obtain ⟨u0, u4, u5, u6, -⟩ := hp
  clear hg hsz hd
  unfold q18_15 C18 Try.f18 seq1 seq2 blockC loopC
  simp only [Option.getD_some, lits, Nat.reduceAdd, u0, u4, u5, u6]
  clear u0 u4 u5 u6
  go_wp2_with fail
  first
    | exact ⟨⟨rfl, rfl, by
      intro p hp
      simp only [List.mem_cons, List.not_mem_nil, or_false] at hp
      rcases hp with rfl | rfl | rfl | rfl | rfl <;> first | rfl | exact congrArg I (by omega) | exact congrArg Value.bool (by simp <;> omega) | exact congrArg Value.bool (by simp)⟩, rfl⟩
    | exact ⟨rfl, rfl, by
      intro p hp
      simp only [List.mem_cons, List.not_mem_nil, or_false] at hp
      rcases hp with rfl | rfl | rfl | rfl | rfl <;> first | rfl | exact congrArg I (by omega) | exact congrArg Value.bool (by simp <;> omega) | exact congrArg Value.bool (by simp)⟩
    | exact ⟨rfl, ⟨rfl, rfl, by
      intro p hp
      simp only [List.mem_cons, List.not_mem_nil, or_false] at hp
      rcases hp with rfl | rfl | rfl | rfl | rfl <;> first | rfl | exact congrArg I (by omega) | exact congrArg Value.bool (by simp <;> omega) | exact congrArg Value.bool (by simp)⟩, rfl⟩

set_option maxHeartbeats 1000000 in
theorem p18_17 {v : World} {a : Act} {b o n cap : Nat} {i b5 k nb no nn nc : Nat} {x : Int} (d0 : v.cell? ⟨b5, 0, none⟩ = some (.slice (some ⟨nb, no, none⟩) nn nc)) (hk : k < nn) (hnn : nn ≤ 9223372036854775807) (hx : v.cell? ⟨nb, no + k, none⟩ = some (I x)) (hA : Fl 105 [(0, .slice (some ⟨b, o, none⟩) n cap), (4, I (i : Nat)), (5, P1 b5), (6, I (k : Nat))] a) :
    q18_17.wp Try.prog (fun e a' w' => e = .normal ∧ (Fl 105 [(0, .slice (some ⟨b, o, none⟩) n cap), (4, I (i : Nat)), (5, P1 b5), (6, I (k : Nat)), (7, I x)] a' ∧ w' = v)) a v := by
  obtain ⟨hsz, hd, hp⟩ := hA
  obtain ⟨u, rfl, hg⟩ := litN hsz hd
  simp only [List.forall_mem_cons, hg] at hp
  obtain ⟨u0, u4, u5, u6, -⟩ := hp
  clear hg hsz hd
  unfold q18_17 C18 Try.f18 seq1 seq2 blockC loopC
  simp only [Option.getD_some, lits, Nat.reduceAdd, u0, u4, u5, u6]
  clear u0 u4 u5 u6
  go_wp2_with fail
  first
    | exact ⟨⟨rfl, rfl, by
      intro p hp
      simp only [List.mem_cons, List.not_mem_nil, or_false] at hp
      rcases hp with rfl | rfl | rfl | rfl | rfl <;> first | rfl | exact congrArg I (by omega) | exact congrArg Value.bool (by simp <;> omega) | exact congrArg Value.bool (by simp)⟩, rfl⟩
    | exact ⟨rfl, rfl, by
      intro p hp
      simp only [List.mem_cons, List.not_mem_nil, or_false] at hp
      rcases hp with rfl | rfl | rfl | rfl | rfl <;> first | rfl | exact congrArg I (by omega) | exact congrArg Value.bool (by simp <;> omega) | exact congrArg Value.bool (by simp)⟩
    | exact ⟨rfl, ⟨rfl, rfl, by
      intro p hp
      simp only [List.mem_cons, List.not_mem_nil, or_false] at hp
      rcases hp with rfl | rfl | rfl | rfl | rfl <;> first | rfl | exact congrArg I (by omega) | exact congrArg Value.bool (by simp <;> omega) | exact congrArg Value.bool (by simp)⟩, rfl⟩

set_option maxHeartbeats 1000000 in
theorem p18_18_a {v : World} {a : Act} {b o n cap : Nat} {i b5 k : Nat} {x : Int} (hn : n ≤ 9223372036854775807) (h1 : x < 0) (hA : Fl 105 [(0, .slice (some ⟨b, o, none⟩) n cap), (4, I (i : Nat)), (5, P1 b5), (6, I (k : Nat)), (7, I x)] a) :
    q18_18.wp Try.prog (fun e a' w' => e = .normal ∧ (Fl 105 [(101, Bl true), (0, .slice (some ⟨b, o, none⟩) n cap), (4, I (i : Nat)), (5, P1 b5), (6, I (k : Nat))] a' ∧ ∃ m, w' = v.drewN m)) a v := by
  obtain ⟨hsz, hd, hp⟩ := hA
  obtain ⟨u, rfl, hg⟩ := litN hsz hd
  simp only [List.forall_mem_cons, hg] at hp
  obtain ⟨u0, u4, u5, u6, u7, -⟩ := hp
  clear hg hsz hd
  unfold q18_18 C18 Try.f18 seq1 seq2 blockC loopC
  simp only [Option.getD_some, lits, Nat.reduceAdd, u0, u4, u5, u6, u7]
  clear u0 u4 u5 u6 u7
  go_quiet (fail)
  first
    | exact ⟨⟨rfl, rfl, by
      intro p hp
      simp only [List.mem_cons, List.not_mem_nil, or_false] at hp
      rcases hp with rfl | rfl | rfl | rfl | rfl <;> first | rfl | exact congrArg I (by omega) | exact congrArg Value.bool (by simp <;> omega) | exact congrArg Value.bool (by simp)⟩, ⟨_, rfl⟩⟩
    | exact ⟨rfl, rfl, by
      intro p hp
      simp only [List.mem_cons, List.not_mem_nil, or_false] at hp
      rcases hp with rfl | rfl | rfl | rfl | rfl <;> first | rfl | exact congrArg I (by omega) | exact congrArg Value.bool (by simp <;> omega) | exact congrArg Value.bool (by simp)⟩
    | exact ⟨rfl, ⟨rfl, rfl, by
      intro p hp
      simp only [List.mem_cons, List.not_mem_nil, or_false] at hp
      rcases hp with rfl | rfl | rfl | rfl | rfl <;> first | rfl | exact congrArg I (by omega) | exact congrArg Value.bool (by simp <;> omega) | exact congrArg Value.bool (by simp)⟩, ⟨_, rfl⟩⟩

set_option maxHeartbeats 1000000 in
theorem p18_18_b {v : World} {a : Act} {b o n cap : Nat} {i b5 k : Nat} {x : Int} (hn : n ≤ 9223372036854775807) (h1 : decide (x < 0) = false) (h2 : (n : Int) ≤ x) (hA : Fl 105 [(0, .slice (some ⟨b, o, none⟩) n cap), (4, I (i : Nat)), (5, P1 b5), (6, I (k : Nat)), (7, I x)] a) :
    q18_18.wp Try.prog (fun e a' w' => e = .normal ∧ (Fl 105 [(101, Bl true), (0, .slice (some ⟨b, o, none⟩) n cap), (4, I (i : Nat)), (5, P1 b5), (6, I (k : Nat))] a' ∧ ∃ m, w' = v.drewN m)) a v := by
  obtain ⟨hsz, hd, hp⟩ := hA
  obtain ⟨u, rfl, hg⟩ := litN hsz hd
  simp only [List.forall_mem_cons, hg] at hp
  obtain ⟨u0, u4, u5, u6, u7, -⟩ := hp
  clear hg hsz hd
  unfold q18_18 C18 Try.f18 seq1 seq2 blockC loopC
  simp only [Option.getD_some, lits, Nat.reduceAdd, u0, u4, u5, u6, u7]
  clear u0 u4 u5 u6 u7
  go_quiet (fail)
  first
    | exact ⟨⟨rfl, rfl, by
      intro p hp
      simp only [List.mem_cons, List.not_mem_nil, or_false] at hp
      rcases hp with rfl | rfl | rfl | rfl | rfl <;> first | rfl | exact congrArg I (by omega) | exact congrArg Value.bool (by simp <;> omega) | exact congrArg Value.bool (by simp)⟩, ⟨_, rfl⟩⟩
    | exact ⟨rfl, rfl, by
      intro p hp
      simp only [List.mem_cons, List.not_mem_nil, or_false] at hp
      rcases hp with rfl | rfl | rfl | rfl | rfl <;> first | rfl | exact congrArg I (by omega) | exact congrArg Value.bool (by simp <;> omega) | exact congrArg Value.bool (by simp)⟩
    | exact ⟨rfl, ⟨rfl, rfl, by
      intro p hp
      simp only [List.mem_cons, List.not_mem_nil, or_false] at hp
      rcases hp with rfl | rfl | rfl | rfl | rfl <;> first | rfl | exact congrArg I (by omega) | exact congrArg Value.bool (by simp <;> omega) | exact congrArg Value.bool (by simp)⟩, ⟨_, rfl⟩⟩

set_option maxHeartbeats 1000000 in
theorem p18_18_c {v : World} {a : Act} {b o n cap : Nat} {i b5 k x : Nat} {lx : Int} {r : Rc} (hn : n ≤ 9223372036854775807) (h2 : x < n) (e1 : v.cell? ⟨b, o + x * 5 + 1, none⟩ = some (I lx)) (d1 : v.cell? ⟨b5, 1, none⟩ = some (I r.level)) (hA : Fl 105 [(0, .slice (some ⟨b, o, none⟩) n cap), (4, I (i : Nat)), (5, P1 b5), (6, I (k : Nat)), (7, I (x : Nat))] a) :
    q18_18.wp Try.prog (fun e a' w' => e = .normal ∧ (Fl 105 [(101, Bl (decide (lx > r.level))), (0, .slice (some ⟨b, o, none⟩) n cap), (4, I (i : Nat)), (5, P1 b5), (6, I (k : Nat))] a' ∧ ∃ m, w' = v.drewN m)) a v := by
  obtain ⟨hsz, hd, hp⟩ := hA
  obtain ⟨u, rfl, hg⟩ := litN hsz hd
  simp only [List.forall_mem_cons, hg] at hp
  obtain ⟨u0, u4, u5, u6, u7, -⟩ := hp
  clear hg hsz hd
  unfold q18_18 C18 Try.f18 seq1 seq2 blockC loopC
  simp only [Option.getD_some, lits, Nat.reduceAdd, u0, u4, u5, u6, u7]
  clear u0 u4 u5 u6 u7
  have h1 : decide ((x : Int) < 0) = false := by simp
  have h3 : ¬ ((n : Int) ≤ (x : Int)) := by omega
  go_quiet (fail)
  first
    | exact ⟨⟨rfl, rfl, by
      intro p hp
      simp only [List.mem_cons, List.not_mem_nil, or_false] at hp
      rcases hp with rfl | rfl | rfl | rfl | rfl <;> first | rfl | exact congrArg I (by omega) | exact congrArg Value.bool (by simp <;> omega) | exact congrArg Value.bool (by simp)⟩, ⟨_, rfl⟩⟩
    | exact ⟨rfl, rfl, by
      intro p hp
      simp only [List.mem_cons, List.not_mem_nil, or_false] at hp
      rcases hp with rfl | rfl | rfl | rfl | rfl <;> first | rfl | exact congrArg I (by omega) | exact congrArg Value.bool (by simp <;> omega) | exact congrArg Value.bool (by simp)⟩
    | exact ⟨rfl, ⟨rfl, rfl, by
      intro p hp
      simp only [List.mem_cons, List.not_mem_nil, or_false] at hp
      rcases hp with rfl | rfl | rfl | rfl | rfl <;> first | rfl | exact congrArg I (by omega) | exact congrArg Value.bool (by simp <;> omega) | exact congrArg Value.bool (by simp)⟩, ⟨_, rfl⟩⟩

set_option maxHeartbeats 1000000 in
theorem p18_16 {v : World} {a : Act} {b o n cap : Nat} {i b5 k : Nat} (hk : k < 9223372036854775807) (hA : Fl 105 [(0, .slice (some ⟨b, o, none⟩) n cap), (4, I (i : Nat)), (5, P1 b5), (6, I (k : Nat))] a) :
    q18_16.wp Try.prog (fun e a' w' => e = .normal ∧ (Fl 105 [(0, .slice (some ⟨b, o, none⟩) n cap), (4, I (i : Nat)), (5, P1 b5), (6, I ((k + 1 : Nat) : Int))] a' ∧ w' = v)) a v := by
  obtain ⟨hsz, hd, hp⟩ := hA
  obtain ⟨u, rfl, hg⟩ := litN hsz hd
  simp only [List.forall_mem_cons, hg] at hp
  obtain ⟨u0, u4, u5, u6, -⟩ := hp
  clear hg hsz hd
  unfold q18_16 C18 Try.f18 seq1 seq2 blockC loopC
  simp only [Option.getD_some, lits, Nat.reduceAdd, u0, u4, u5, u6]
  clear u0 u4 u5 u6
  go_wp2_with fail
  first
    | exact ⟨⟨rfl, rfl, by
      intro p hp
      simp only [List.mem_cons, List.not_mem_nil, or_false] at hp
      rcases hp with rfl | rfl | rfl | rfl <;> first | rfl | exact congrArg I (by omega) | exact congrArg Value.bool (by simp <;> omega) | exact congrArg Value.bool (by simp)⟩, rfl⟩
    | exact ⟨rfl, rfl, by
      intro p hp
      simp only [List.mem_cons, List.not_mem_nil, or_false] at hp
      rcases hp with rfl | rfl | rfl | rfl <;> first | rfl | exact congrArg I (by omega) | exact congrArg Value.bool (by simp <;> omega) | exact congrArg Value.bool (by simp)⟩
    | exact ⟨rfl, ⟨rfl, rfl, by
      intro p hp
      simp only [List.mem_cons, List.not_mem_nil, or_false] at hp
      rcases hp with rfl | rfl | rfl | rfl <;> first | rfl | exact congrArg I (by omega) | exact congrArg Value.bool (by simp <;> omega) | exact congrArg Value.bool (by simp)⟩, rfl⟩

set_option maxHeartbeats 1000000 in
theorem p18_10 {v : World} {a : Act} {b o n cap : Nat} {i : Nat} (hi : i < n) (hn : n ≤ 9223372036854775807) (hA : Fl 105 [(0, .slice (some ⟨b, o, none⟩) n cap), (4, I (i : Nat))] a) :
    q18_10.wp Try.prog (fun e a' w' => e = .normal ∧ (Fl 105 [(0, .slice (some ⟨b, o, none⟩) n cap), (4, I ((i + 1 : Nat) : Int))] a' ∧ w' = v)) a v := by
  obtain ⟨hsz, hd, hp⟩ := hA
  obtain ⟨u, rfl, hg⟩ := litN hsz hd
  simp only [List.forall_mem_cons, hg] at hp
  obtain ⟨u0, u4, -⟩ := hp
  clear hg hsz hd
  unfold q18_10 C18 Try.f18 seq1 seq2 blockC loopC
  simp only [Option.getD_some, lits, Nat.reduceAdd, u0, u4]
  clear u0 u4
  go_wp2_with fail
  first
    | exact ⟨⟨rfl, rfl, by
      intro p hp
      simp only [List.mem_cons, List.not_mem_nil, or_false] at hp
      rcases hp with rfl | rfl <;> first | rfl | exact congrArg I (by omega) | exact congrArg Value.bool (by simp <;> omega) | exact congrArg Value.bool (by simp)⟩, rfl⟩
    | exact ⟨rfl, rfl, by
      intro p hp
      simp only [List.mem_cons, List.not_mem_nil, or_false] at hp
      rcases hp with rfl | rfl <;> first | rfl | exact congrArg I (by omega) | exact congrArg Value.bool (by simp <;> omega) | exact congrArg Value.bool (by simp)⟩
    | exact ⟨rfl, ⟨rfl, rfl, by
      intro p hp
      simp only [List.mem_cons, List.not_mem_nil, or_false] at hp
      rcases hp with rfl | rfl <;> first | rfl | exact congrArg I (by omega) | exact congrArg Value.bool (by simp <;> omega) | exact congrArg Value.bool (by simp)⟩, rfl⟩

set_option maxHeartbeats 1000000 in
theorem p18_20 {v : World} {a : Act} {p : Option Addr} {n cap : Nat} (hn : n ≤ 9223372036854775807) (hA : Fl 105 [(0, .slice p n cap)] a) :
    q18_20.wp Try.prog (fun e a' w' => e = .normal ∧ (Fl 105 [(104, Bl ((n : Int) == 0)), (0, .slice p n cap)] a' ∧ w' = v)) a v := by
  obtain ⟨hsz, hd, hp⟩ := hA
  obtain ⟨u, rfl, hg⟩ := litN hsz hd
  simp only [List.forall_mem_cons, hg] at hp
  obtain ⟨u0, -⟩ := hp
  clear hg hsz hd
  unfold q18_20 C18 Try.f18 seq1 seq2
  simp only [Option.getD_some, lits, Nat.reduceAdd, u0]
  clear u0
  go_wp2_with fail
  first
    | exact ⟨⟨rfl, rfl, by
      intro p hp
      simp only [List.mem_cons, List.not_mem_nil, or_false] at hp
      rcases hp with rfl | rfl <;> first | rfl | exact congrArg I (by omega) | exact congrArg Value.bool (by simp <;> omega) | exact congrArg Value.bool (by simp)⟩, rfl⟩
    | exact ⟨rfl, rfl, by
      intro p hp
      simp only [List.mem_cons, List.not_mem_nil, or_false] at hp
      rcases hp with rfl | rfl <;> first | rfl | exact congrArg I (by omega) | exact congrArg Value.bool (by simp <;> omega) | exact congrArg Value.bool (by simp)⟩
    | exact ⟨rfl, ⟨rfl, rfl, by
      intro p hp
      simp only [List.mem_cons, List.not_mem_nil, or_false] at hp
      rcases hp with rfl | rfl <;> first | rfl | exact congrArg I (by omega) | exact congrArg Value.bool (by simp <;> omega) | exact congrArg Value.bool (by simp)⟩, rfl⟩

theorem in18 {w : World} {R : Value → World → Prop} {x0 : Value} (h : ∀ a, Fl 105 [(0, x0)] a → C18.wp Try.prog (bodyPost Try.prog Try.f18 (Ret R)) a w) : Calls Try.prog 18 #[x0] w (Ret R) :=
  calls_of_wp Try.func18 (show Try.f18.body = some C18 by kernel_rfl) (by
    rw [Try.ntmps18]
    exact h _ (fl_enter _ _ 105 (by simp) _ (by intro p hp; simp only [List.mem_cons, List.not_mem_nil, or_false] at hp; rcases hp with rfl <;> rfl)))

end Go.Proofs.Ytgohfdgkihoilaa.Rcp
