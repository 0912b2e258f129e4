/- What the document's fates (35) does: its pieces. (Made by wip/tools/mk35.py.) -/
import Derived.Test.YtgohfdgkihoilaaTabP
import Derived.Test.YtgohfdgkihoilaaAskB
set_option linter.unusedSimpArgs false
set_option linter.unusedVariables false
namespace Go.Proofs.Ytgohfdgkihoilaa.Rcp
open Go Go.RowKit Go.Deep Go.Maps

noncomputable def C35 : Code := Try.f35.body.getD .skip
noncomputable def q35_0 : Code := (seq1 C35)
noncomputable def q35_1 : Code := (seq1 (seq2 C35))
noncomputable def q35_2 : Code := (seq1 (seq2 (seq2 C35)))
noncomputable def q35_3 : Code := (seq1 (seq2 (seq2 (seq2 C35))))
noncomputable def q35_4 : Code := (seq1 (seq1 (loopC (blockC (seq1 (seq2 (seq2 (seq2 (seq2 C35)))))))))
noncomputable def q35_5 : Code := (seq1 (blockC (seq2 (loopC (blockC (seq1 (seq2 (seq2 (seq2 (seq2 C35))))))))))
noncomputable def q35_6 : Code := (seq1 (seq2 (blockC (seq2 (loopC (blockC (seq1 (seq2 (seq2 (seq2 (seq2 C35)))))))))))
noncomputable def q35_7 : Code := (seq1 (seq1 (loopC (blockC (seq2 (seq2 (blockC (seq2 (loopC (blockC (seq1 (seq2 (seq2 (seq2 (seq2 C35)))))))))))))))
noncomputable def q35_9 : Code := (seq1 (blockC (seq1 (seq2 (loopC (blockC (seq2 (seq2 (blockC (seq2 (loopC (blockC (seq1 (seq2 (seq2 (seq2 (seq2 C35)))))))))))))))))
noncomputable def q35_10 : Code := (seq1 (seq2 (blockC (seq1 (seq2 (loopC (blockC (seq2 (seq2 (blockC (seq2 (loopC (blockC (seq1 (seq2 (seq2 (seq2 (seq2 C35))))))))))))))))))
noncomputable def q35_11 : Code := (seq1 (seq1 (seq2 (seq2 (blockC (seq1 (seq2 (loopC (blockC (seq2 (seq2 (blockC (seq2 (loopC (blockC (seq1 (seq2 (seq2 (seq2 (seq2 C35))))))))))))))))))))
noncomputable def q35_12 : Code := (seq1 (seq1 (loopC (blockC (seq2 (seq1 (seq2 (seq2 (blockC (seq1 (seq2 (loopC (blockC (seq2 (seq2 (blockC (seq2 (loopC (blockC (seq1 (seq2 (seq2 (seq2 (seq2 C35))))))))))))))))))))))))
noncomputable def q35_14 : Code := (seq1 (blockC (seq1 (seq2 (loopC (blockC (seq2 (seq1 (seq2 (seq2 (blockC (seq1 (seq2 (loopC (blockC (seq2 (seq2 (blockC (seq2 (loopC (blockC (seq1 (seq2 (seq2 (seq2 (seq2 C35))))))))))))))))))))))))))
noncomputable def q35_15 : Code := (seq1 (seq2 (blockC (seq1 (seq2 (loopC (blockC (seq2 (seq1 (seq2 (seq2 (blockC (seq1 (seq2 (loopC (blockC (seq2 (seq2 (blockC (seq2 (loopC (blockC (seq1 (seq2 (seq2 (seq2 (seq2 C35)))))))))))))))))))))))))))
noncomputable def q35_16 : Code := (seq2 (seq2 (blockC (seq1 (seq2 (loopC (blockC (seq2 (seq1 (seq2 (seq2 (blockC (seq1 (seq2 (loopC (blockC (seq2 (seq2 (blockC (seq2 (loopC (blockC (seq1 (seq2 (seq2 (seq2 (seq2 C35)))))))))))))))))))))))))))
noncomputable def q35_13 : Code := (seq2 (seq2 (loopC (blockC (seq2 (seq1 (seq2 (seq2 (blockC (seq1 (seq2 (loopC (blockC (seq2 (seq2 (blockC (seq2 (loopC (blockC (seq1 (seq2 (seq2 (seq2 (seq2 C35))))))))))))))))))))))))
noncomputable def q35_17 : Code := (seq1 (seq2 (seq2 (seq2 (blockC (seq1 (seq2 (loopC (blockC (seq2 (seq2 (blockC (seq2 (loopC (blockC (seq1 (seq2 (seq2 (seq2 (seq2 C35))))))))))))))))))))
noncomputable def q35_18 : Code := (seq1 (condA (seq2 (seq2 (seq2 (seq2 (blockC (seq1 (seq2 (loopC (blockC (seq2 (seq2 (blockC (seq2 (loopC (blockC (seq1 (seq2 (seq2 (seq2 (seq2 C35))))))))))))))))))))))
noncomputable def q35_19 : Code := (seq1 (seq2 (condA (seq2 (seq2 (seq2 (seq2 (blockC (seq1 (seq2 (loopC (blockC (seq2 (seq2 (blockC (seq2 (loopC (blockC (seq1 (seq2 (seq2 (seq2 (seq2 C35)))))))))))))))))))))))
noncomputable def q35_20 : Code := (seq2 (seq2 (condA (seq2 (seq2 (seq2 (seq2 (blockC (seq1 (seq2 (loopC (blockC (seq2 (seq2 (blockC (seq2 (loopC (blockC (seq1 (seq2 (seq2 (seq2 (seq2 C35)))))))))))))))))))))))
noncomputable def q35_8 : Code := (seq2 (seq2 (loopC (blockC (seq2 (seq2 (blockC (seq2 (loopC (blockC (seq1 (seq2 (seq2 (seq2 (seq2 C35)))))))))))))))
noncomputable def q35_21 : Code := (seq1 (seq2 (seq2 (seq2 (seq2 (seq2 C35))))))
noncomputable def K35_5 : Code := (.seq q35_14 (.seq q35_15 q35_16))
noncomputable def K35_4 : Code := (.loop (.seq (.seq q35_12 (.cond ( .tmp 53 ) .skip (.exit 4))) (.seq (.block 5 K35_5) q35_13)))
noncomputable def K35_3 : Code := (.seq q35_9 (.seq q35_10 (.seq (.seq q35_11 (.block 4 K35_4)) (.seq q35_17 (.cond ( .tmp 74 ) (.seq q35_18 (.seq q35_19 q35_20)) .skip)))))
noncomputable def K35_2 : Code := (.loop (.seq (.seq q35_7 (.cond ( .tmp 22 ) .skip (.exit 2))) (.seq (.block 3 K35_3) q35_8)))
noncomputable def K35_1 : Code := (.seq q35_5 (.seq q35_6 (.block 2 K35_2)))
noncomputable def K35_0 : Code := (.loop (.seq (.seq q35_4 (.cond ( .tmp 18 ) .skip (.exit 0))) (.block 1 K35_1)))
theorem e35 : C35 = (.seq q35_0 (.seq q35_1 (.seq q35_2 (.seq q35_3 (.seq (.block 0 K35_0) (.seq q35_21 .ret)))))) := by kernel_rfl

set_option maxHeartbeats 1000000 in
set_option maxRecDepth 100000 in
theorem p35_0 {v : World} {a : Act} {b o n cap : Nat}  (hA : Fl 87 [(0, .slice (some ⟨b, o, none⟩) n cap)] a) :
    q35_0.wp Try.prog (fun e a' w' => e = .normal ∧ (Fl 87 [(0, .slice (some ⟨b, o, none⟩) n cap)] a' ∧ w' = v)) a v := by
  obtain ⟨hsz, hd, hp⟩ := hA
  obtain ⟨u, rfl, hg⟩ := litN hsz hd
  simp only [List.forall_mem_cons, hg] at hp
  obtain ⟨u0, -⟩ := hp
  clear hg hsz hd
  unfold q35_0 C35 Try.f35 seq1
  simp only [Option.getD_some, lits, Nat.reduceAdd, u0]
  clear u0
  go_wp2_with fail
  first
    | exact ⟨⟨rfl, rfl, by
      intro p hp
      simp only [List.mem_cons, List.not_mem_nil, or_false] at hp
      rcases hp with rfl <;> first | rfl | exact congrArg I (by omega) | exact congrArg Value.bool (by simp <;> omega) | exact congrArg Value.bool (by simp)⟩, rfl⟩
    | exact ⟨rfl, rfl, by
      intro p hp
      simp only [List.mem_cons, List.not_mem_nil, or_false] at hp
      rcases hp with rfl <;> first | rfl | exact congrArg I (by omega) | exact congrArg Value.bool (by simp <;> omega) | exact congrArg Value.bool (by simp)⟩
    | exact ⟨rfl, ⟨rfl, rfl, by
      intro p hp
      simp only [List.mem_cons, List.not_mem_nil, or_false] at hp
      rcases hp with rfl <;> first | rfl | exact congrArg I (by omega) | exact congrArg Value.bool (by simp <;> omega) | exact congrArg Value.bool (by simp)⟩, rfl⟩

set_option maxHeartbeats 1000000 in
set_option maxRecDepth 100000 in
theorem p35_1 {v : World} {a : Act} {b o n cap : Nat} (hn : n ≤ 100) (hA : Fl 87 [(0, .slice (some ⟨b, o, none⟩) n cap)] a) :
    q35_1.wp Try.prog (fun e a' w' => e = .normal ∧ (Fl 87 [(0, .slice (some ⟨b, o, none⟩) n cap), (4, .slice (some ⟨v.heap.size, 0, none⟩) n n)] a' ∧ w' = v.alloc (.cells (madeCells #[.bool false] n) 4))) a v := by
  obtain ⟨hsz, hd, hp⟩ := hA
  obtain ⟨u, rfl, hg⟩ := litN hsz hd
  simp only [List.forall_mem_cons, hg] at hp
  obtain ⟨u0, -⟩ := hp
  clear hg hsz hd
  unfold q35_1 C35 Try.f35 seq1 seq2
  simp only [Option.getD_some, lits, Nat.reduceAdd, u0]
  clear u0
  have hmk := run_make_row' (P := Try.prog) 41 4 (.bool false) 1 Try.underlying41 info4 rfl .i64 .i64 n (by omega) (by omega)
  go_wp2_with fail
  first
    | exact ⟨⟨rfl, rfl, by
      intro p hp
      simp only [List.mem_cons, List.not_mem_nil, or_false] at hp
      rcases hp with rfl | rfl <;> first | rfl | exact congrArg I (by omega) | exact congrArg Value.bool (by simp <;> omega) | exact congrArg Value.bool (by simp)⟩, rfl⟩
    | exact ⟨rfl, rfl, by
      intro p hp
      simp only [List.mem_cons, List.not_mem_nil, or_false] at hp
      rcases hp with rfl | rfl <;> first | rfl | exact congrArg I (by omega) | exact congrArg Value.bool (by simp <;> omega) | exact congrArg Value.bool (by simp)⟩
    | exact ⟨rfl, ⟨rfl, rfl, by
      intro p hp
      simp only [List.mem_cons, List.not_mem_nil, or_false] at hp
      rcases hp with rfl | rfl <;> first | rfl | exact congrArg I (by omega) | exact congrArg Value.bool (by simp <;> omega) | exact congrArg Value.bool (by simp)⟩, rfl⟩

set_option maxHeartbeats 1000000 in
set_option maxRecDepth 100000 in
theorem p35_2 {v : World} {a : Act} {b o n cap : Nat} {cb : Nat} (hn : n ≤ 100) (hA : Fl 87 [(0, .slice (some ⟨b, o, none⟩) n cap), (4, .slice (some ⟨cb, 0, none⟩) n n)] a) :
    q35_2.wp Try.prog (fun e a' w' => e = .normal ∧ (Fl 87 [(0, .slice (some ⟨b, o, none⟩) n cap), (4, .slice (some ⟨cb, 0, none⟩) n n), (5, .slice (some ⟨v.heap.size, 0, none⟩) n n)] a' ∧ w' = v.alloc (.cells (madeCells #[.int .i64 0] n) 3))) a v := by
  obtain ⟨hsz, hd, hp⟩ := hA
  obtain ⟨u, rfl, hg⟩ := litN hsz hd
  simp only [List.forall_mem_cons, hg] at hp
  obtain ⟨u0, u4, -⟩ := hp
  clear hg hsz hd
  unfold q35_2 C35 Try.f35 seq1 seq2
  simp only [Option.getD_some, lits, Nat.reduceAdd, u0, u4]
  clear u0 u4
  have hmk := run_make_row' (P := Try.prog) 26 3 (.int .i64 0) 8 Try.underlying26 info3 rfl .i64 .i64 n (by omega) (by omega)
  go_wp2_with fail
  first
    | exact ⟨⟨rfl, rfl, by
      intro p hp
      simp only [List.mem_cons, List.not_mem_nil, or_false] at hp
      rcases hp with rfl | rfl | rfl <;> first | rfl | exact congrArg I (by omega) | exact congrArg Value.bool (by simp <;> omega) | exact congrArg Value.bool (by simp)⟩, rfl⟩
    | exact ⟨rfl, rfl, by
      intro p hp
      simp only [List.mem_cons, List.not_mem_nil, or_false] at hp
      rcases hp with rfl | rfl | rfl <;> first | rfl | exact congrArg I (by omega) | exact congrArg Value.bool (by simp <;> omega) | exact congrArg Value.bool (by simp)⟩
    | exact ⟨rfl, ⟨rfl, rfl, by
      intro p hp
      simp only [List.mem_cons, List.not_mem_nil, or_false] at hp
      rcases hp with rfl | rfl | rfl <;> first | rfl | exact congrArg I (by omega) | exact congrArg Value.bool (by simp <;> omega) | exact congrArg Value.bool (by simp)⟩, rfl⟩

set_option maxHeartbeats 1000000 in
set_option maxRecDepth 100000 in
theorem p35_3 {v : World} {a : Act} {b o n cap : Nat} {cb gb : Nat}  (hA : Fl 87 [(0, .slice (some ⟨b, o, none⟩) n cap), (4, .slice (some ⟨cb, 0, none⟩) n n), (5, .slice (some ⟨gb, 0, none⟩) n n)] a) :
    q35_3.wp Try.prog (fun e a' w' => e = .normal ∧ (Fl 87 [(0, .slice (some ⟨b, o, none⟩) n cap), (4, .slice (some ⟨cb, 0, none⟩) n n), (5, .slice (some ⟨gb, 0, none⟩) n n), (6, .bool true)] a' ∧ w' = v)) a v := by
  obtain ⟨hsz, hd, hp⟩ := hA
  obtain ⟨u, rfl, hg⟩ := litN hsz hd
  simp only [List.forall_mem_cons, hg] at hp
  obtain ⟨u0, u4, u5, -⟩ := hp
  clear hg hsz hd
  unfold q35_3 C35 Try.f35 seq1 seq2
  simp only [Option.getD_some, lits, Nat.reduceAdd, u0, u4, u5]
  clear u0 u4 u5
  go_wp2_with fail
  first
    | exact ⟨⟨rfl, rfl, by
      intro p hp
      simp only [List.mem_cons, List.not_mem_nil, or_false] at hp
      rcases hp with rfl | rfl | rfl | rfl <;> first | rfl | exact congrArg I (by omega) | exact congrArg Value.bool (by simp <;> omega) | exact congrArg Value.bool (by simp)⟩, rfl⟩
    | exact ⟨rfl, rfl, by
      intro p hp
      simp only [List.mem_cons, List.not_mem_nil, or_false] at hp
      rcases hp with rfl | rfl | rfl | rfl <;> first | rfl | exact congrArg I (by omega) | exact congrArg Value.bool (by simp <;> omega) | exact congrArg Value.bool (by simp)⟩
    | exact ⟨rfl, ⟨rfl, rfl, by
      intro p hp
      simp only [List.mem_cons, List.not_mem_nil, or_false] at hp
      rcases hp with rfl | rfl | rfl | rfl <;> first | rfl | exact congrArg I (by omega) | exact congrArg Value.bool (by simp <;> omega) | exact congrArg Value.bool (by simp)⟩, rfl⟩

set_option maxHeartbeats 1000000 in
set_option maxRecDepth 100000 in
theorem p35_4 {v : World} {a : Act} {b o n cap : Nat} {cb gb : Nat} {more : Bool}  (hA : Fl 87 [(0, .slice (some ⟨b, o, none⟩) n cap), (4, .slice (some ⟨cb, 0, none⟩) n n), (5, .slice (some ⟨gb, 0, none⟩) n n), (6, .bool more)] a) :
    q35_4.wp Try.prog (fun e a' w' => e = .normal ∧ (Fl 87 [(18, .bool more), (0, .slice (some ⟨b, o, none⟩) n cap), (4, .slice (some ⟨cb, 0, none⟩) n n), (5, .slice (some ⟨gb, 0, none⟩) n n)] a' ∧ w' = v)) a v := by
  obtain ⟨hsz, hd, hp⟩ := hA
  obtain ⟨u, rfl, hg⟩ := litN hsz hd
  simp only [List.forall_mem_cons, hg] at hp
  obtain ⟨u0, u4, u5, u6, -⟩ := hp
  clear hg hsz hd
  unfold q35_4 C35 Try.f35 seq1 seq2 blockC loopC
  simp only [Option.getD_some, lits, Nat.reduceAdd, u0, u4, u5, u6]
  clear u0 u4 u5 u6
  go_wp2_with fail
  first
    | exact ⟨⟨rfl, rfl, by
      intro p hp
      simp only [List.mem_cons, List.not_mem_nil, or_false] at hp
      rcases hp with rfl | rfl | rfl | rfl <;> first | rfl | exact congrArg I (by omega) | exact congrArg Value.bool (by simp <;> omega) | exact congrArg Value.bool (by simp)⟩, rfl⟩
    | exact ⟨rfl, rfl, by
      intro p hp
      simp only [List.mem_cons, List.not_mem_nil, or_false] at hp
      rcases hp with rfl | rfl | rfl | rfl <;> first | rfl | exact congrArg I (by omega) | exact congrArg Value.bool (by simp <;> omega) | exact congrArg Value.bool (by simp)⟩
    | exact ⟨rfl, ⟨rfl, rfl, by
      intro p hp
      simp only [List.mem_cons, List.not_mem_nil, or_false] at hp
      rcases hp with rfl | rfl | rfl | rfl <;> first | rfl | exact congrArg I (by omega) | exact congrArg Value.bool (by simp <;> omega) | exact congrArg Value.bool (by simp)⟩, rfl⟩

set_option maxHeartbeats 1000000 in
set_option maxRecDepth 100000 in
theorem p35_5 {v : World} {a : Act} {b o n cap : Nat} {cb gb : Nat}  (hA : Fl 87 [(0, .slice (some ⟨b, o, none⟩) n cap), (4, .slice (some ⟨cb, 0, none⟩) n n), (5, .slice (some ⟨gb, 0, none⟩) n n)] a) :
    q35_5.wp Try.prog (fun e a' w' => e = .normal ∧ (Fl 87 [(0, .slice (some ⟨b, o, none⟩) n cap), (4, .slice (some ⟨cb, 0, none⟩) n n), (5, .slice (some ⟨gb, 0, none⟩) n n), (6, .bool false)] a' ∧ w' = v)) a v := by
  obtain ⟨hsz, hd, hp⟩ := hA
  obtain ⟨u, rfl, hg⟩ := litN hsz hd
  simp only [List.forall_mem_cons, hg] at hp
  obtain ⟨u0, u4, u5, -⟩ := hp
  clear hg hsz hd
  unfold q35_5 C35 Try.f35 seq1 seq2 blockC loopC
  simp only [Option.getD_some, lits, Nat.reduceAdd, u0, u4, u5]
  clear u0 u4 u5
  go_wp2_with fail
  first
    | exact ⟨⟨rfl, rfl, by
      intro p hp
      simp only [List.mem_cons, List.not_mem_nil, or_false] at hp
      rcases hp with rfl | rfl | rfl | rfl <;> first | rfl | exact congrArg I (by omega) | exact congrArg Value.bool (by simp <;> omega) | exact congrArg Value.bool (by simp)⟩, rfl⟩
    | exact ⟨rfl, rfl, by
      intro p hp
      simp only [List.mem_cons, List.not_mem_nil, or_false] at hp
      rcases hp with rfl | rfl | rfl | rfl <;> first | rfl | exact congrArg I (by omega) | exact congrArg Value.bool (by simp <;> omega) | exact congrArg Value.bool (by simp)⟩
    | exact ⟨rfl, ⟨rfl, rfl, by
      intro p hp
      simp only [List.mem_cons, List.not_mem_nil, or_false] at hp
      rcases hp with rfl | rfl | rfl | rfl <;> first | rfl | exact congrArg I (by omega) | exact congrArg Value.bool (by simp <;> omega) | exact congrArg Value.bool (by simp)⟩, rfl⟩

set_option maxHeartbeats 1000000 in
set_option maxRecDepth 100000 in
theorem p35_6 {v : World} {a : Act} {b o n cap : Nat} {cb gb : Nat} {more : Bool}  (hA : Fl 87 [(0, .slice (some ⟨b, o, none⟩) n cap), (4, .slice (some ⟨cb, 0, none⟩) n n), (5, .slice (some ⟨gb, 0, none⟩) n n), (6, .bool more)] a) :
    q35_6.wp Try.prog (fun e a' w' => e = .normal ∧ (Fl 87 [(0, .slice (some ⟨b, o, none⟩) n cap), (4, .slice (some ⟨cb, 0, none⟩) n n), (5, .slice (some ⟨gb, 0, none⟩) n n), (6, .bool more), (7, I (0 : Nat))] a' ∧ w' = v)) a v := by
  obtain ⟨hsz, hd, hp⟩ := hA
  obtain ⟨u, rfl, hg⟩ := litN hsz hd
  simp only [List.forall_mem_cons, hg] at hp
  obtain ⟨u0, u4, u5, u6, -⟩ := hp
  clear hg hsz hd
  unfold q35_6 C35 Try.f35 seq1 seq2 blockC loopC
  simp only [Option.getD_some, lits, Nat.reduceAdd, u0, u4, u5, u6]
  clear u0 u4 u5 u6
  go_wp2_with fail
  first
    | exact ⟨⟨rfl, rfl, by
      intro p hp
      simp only [List.mem_cons, List.not_mem_nil, or_false] at hp
      rcases hp with rfl | rfl | rfl | rfl | rfl <;> first | rfl | exact congrArg I (by omega) | exact congrArg Value.bool (by simp <;> omega) | exact congrArg Value.bool (by simp)⟩, rfl⟩
    | exact ⟨rfl, rfl, by
      intro p hp
      simp only [List.mem_cons, List.not_mem_nil, or_false] at hp
      rcases hp with rfl | rfl | rfl | rfl | rfl <;> first | rfl | exact congrArg I (by omega) | exact congrArg Value.bool (by simp <;> omega) | exact congrArg Value.bool (by simp)⟩
    | exact ⟨rfl, ⟨rfl, rfl, by
      intro p hp
      simp only [List.mem_cons, List.not_mem_nil, or_false] at hp
      rcases hp with rfl | rfl | rfl | rfl | rfl <;> first | rfl | exact congrArg I (by omega) | exact congrArg Value.bool (by simp <;> omega) | exact congrArg Value.bool (by simp)⟩, rfl⟩

set_option maxHeartbeats 1000000 in
set_option maxRecDepth 100000 in
theorem p35_7 {v : World} {a : Act} {b o n cap : Nat} {cb gb : Nat} {more : Bool} {i : Nat} (hn : n ≤ 100) (hA : Fl 87 [(0, .slice (some ⟨b, o, none⟩) n cap), (4, .slice (some ⟨cb, 0, none⟩) n n), (5, .slice (some ⟨gb, 0, none⟩) n n), (6, .bool more), (7, I (i : Nat))] a) :
    q35_7.wp Try.prog (fun e a' w' => e = .normal ∧ (Fl 87 [(22, .bool (decide (i < n))), (0, .slice (some ⟨b, o, none⟩) n cap), (4, .slice (some ⟨cb, 0, none⟩) n n), (5, .slice (some ⟨gb, 0, none⟩) n n), (6, .bool more), (7, I (i : Nat))] a' ∧ w' = v)) a v := by
  obtain ⟨hsz, hd, hp⟩ := hA
  obtain ⟨u, rfl, hg⟩ := litN hsz hd
  simp only [List.forall_mem_cons, hg] at hp
  obtain ⟨u0, u4, u5, u6, u7, -⟩ := hp
  clear hg hsz hd
  unfold q35_7 C35 Try.f35 seq1 seq2 blockC loopC
  simp only [Option.getD_some, lits, Nat.reduceAdd, u0, u4, u5, u6, u7]
  clear u0 u4 u5 u6 u7
  go_wp2_with fail
  first
    | exact ⟨⟨rfl, rfl, by
      intro p hp
      simp only [List.mem_cons, List.not_mem_nil, or_false] at hp
      rcases hp with rfl | rfl | rfl | rfl | rfl | rfl <;> first | rfl | exact congrArg I (by omega) | exact congrArg Value.bool (by simp <;> omega) | exact congrArg Value.bool (by simp)⟩, rfl⟩
    | exact ⟨rfl, rfl, by
      intro p hp
      simp only [List.mem_cons, List.not_mem_nil, or_false] at hp
      rcases hp with rfl | rfl | rfl | rfl | rfl | rfl <;> first | rfl | exact congrArg I (by omega) | exact congrArg Value.bool (by simp <;> omega) | exact congrArg Value.bool (by simp)⟩
    | exact ⟨rfl, ⟨rfl, rfl, by
      intro p hp
      simp only [List.mem_cons, List.not_mem_nil, or_false] at hp
      rcases hp with rfl | rfl | rfl | rfl | rfl | rfl <;> first | rfl | exact congrArg I (by omega) | exact congrArg Value.bool (by simp <;> omega) | exact congrArg Value.bool (by simp)⟩, rfl⟩

set_option maxHeartbeats 1000000 in
set_option maxRecDepth 100000 in
theorem p35_9_a {v : World} {a : Act} {b o n cap : Nat} {cb gb : Nat} {more : Bool} {i : Nat} (hn : n ≤ 100) (hi : i < n) (cc : v.cell? ⟨cb, i, none⟩ = some (.bool true)) (hA : Fl 87 [(0, .slice (some ⟨b, o, none⟩) n cap), (4, .slice (some ⟨cb, 0, none⟩) n n), (5, .slice (some ⟨gb, 0, none⟩) n n), (6, .bool more), (7, I (i : Nat))] a) :
    q35_9.wp Try.prog (fun e a' w' => e = .normal ∧ (Fl 87 [(0, .slice (some ⟨b, o, none⟩) n cap), (4, .slice (some ⟨cb, 0, none⟩) n n), (5, .slice (some ⟨gb, 0, none⟩) n n), (6, .bool more), (7, I (i : Nat)), (8, .bool false)] a' ∧ w' = v)) a v := by
  obtain ⟨hsz, hd, hp⟩ := hA
  obtain ⟨u, rfl, hg⟩ := litN hsz hd
  simp only [List.forall_mem_cons, hg] at hp
  obtain ⟨u0, u4, u5, u6, u7, -⟩ := hp
  clear hg hsz hd
  unfold q35_9 C35 Try.f35 seq1 seq2 blockC loopC
  simp only [Option.getD_some, lits, Nat.reduceAdd, u0, u4, u5, u6, u7]
  clear u0 u4 u5 u6 u7
  go_wp2_with fail
  first
    | exact ⟨⟨rfl, rfl, by
      intro p hp
      simp only [List.mem_cons, List.not_mem_nil, or_false] at hp
      rcases hp with rfl | rfl | rfl | rfl | rfl | rfl <;> first | rfl | exact congrArg I (by omega) | exact congrArg Value.bool (by simp <;> omega) | exact congrArg Value.bool (by simp)⟩, rfl⟩
    | exact ⟨rfl, rfl, by
      intro p hp
      simp only [List.mem_cons, List.not_mem_nil, or_false] at hp
      rcases hp with rfl | rfl | rfl | rfl | rfl | rfl <;> first | rfl | exact congrArg I (by omega) | exact congrArg Value.bool (by simp <;> omega) | exact congrArg Value.bool (by simp)⟩
    | exact ⟨rfl, ⟨rfl, rfl, by
      intro p hp
      simp only [List.mem_cons, List.not_mem_nil, or_false] at hp
      rcases hp with rfl | rfl | rfl | rfl | rfl | rfl <;> first | rfl | exact congrArg I (by omega) | exact congrArg Value.bool (by simp <;> omega) | exact congrArg Value.bool (by simp)⟩, rfl⟩

set_option maxHeartbeats 1000000 in
set_option maxRecDepth 100000 in
theorem p35_9_b {v : World} {a : Act} {b o n cap : Nat} {cb gb : Nat} {more : Bool} {i : Nat} {ac : Int} (hn : n ≤ 100) (hi : i < n) (cc : v.cell? ⟨cb, i, none⟩ = some (.bool false)) (ca : v.cell? ⟨b, o + i * 5 + 2, none⟩ = some (I ac)) (hA : Fl 87 [(0, .slice (some ⟨b, o, none⟩) n cap), (4, .slice (some ⟨cb, 0, none⟩) n n), (5, .slice (some ⟨gb, 0, none⟩) n n), (6, .bool more), (7, I (i : Nat))] a) :
    q35_9.wp Try.prog (fun e a' w' => e = .normal ∧ (Fl 87 [(0, .slice (some ⟨b, o, none⟩) n cap), (4, .slice (some ⟨cb, 0, none⟩) n n), (5, .slice (some ⟨gb, 0, none⟩) n n), (6, .bool more), (7, I (i : Nat)), (8, .bool (ac == 0))] a' ∧ w' = v)) a v := by
  obtain ⟨hsz, hd, hp⟩ := hA
  obtain ⟨u, rfl, hg⟩ := litN hsz hd
  simp only [List.forall_mem_cons, hg] at hp
  obtain ⟨u0, u4, u5, u6, u7, -⟩ := hp
  clear hg hsz hd
  unfold q35_9 C35 Try.f35 seq1 seq2 blockC loopC
  simp only [Option.getD_some, lits, Nat.reduceAdd, u0, u4, u5, u6, u7]
  clear u0 u4 u5 u6 u7
  go_wp2_with fail
  first
    | exact ⟨⟨rfl, rfl, by
      intro p hp
      simp only [List.mem_cons, List.not_mem_nil, or_false] at hp
      rcases hp with rfl | rfl | rfl | rfl | rfl | rfl <;> first | rfl | exact congrArg I (by omega) | exact congrArg Value.bool (by simp <;> omega) | exact congrArg Value.bool (by simp)⟩, rfl⟩
    | exact ⟨rfl, rfl, by
      intro p hp
      simp only [List.mem_cons, List.not_mem_nil, or_false] at hp
      rcases hp with rfl | rfl | rfl | rfl | rfl | rfl <;> first | rfl | exact congrArg I (by omega) | exact congrArg Value.bool (by simp <;> omega) | exact congrArg Value.bool (by simp)⟩
    | exact ⟨rfl, ⟨rfl, rfl, by
      intro p hp
      simp only [List.mem_cons, List.not_mem_nil, or_false] at hp
      rcases hp with rfl | rfl | rfl | rfl | rfl | rfl <;> first | rfl | exact congrArg I (by omega) | exact congrArg Value.bool (by simp <;> omega) | exact congrArg Value.bool (by simp)⟩, rfl⟩

set_option maxHeartbeats 1000000 in
set_option maxRecDepth 100000 in
theorem p35_10 {v : World} {a : Act} {b o n cap : Nat} {cb gb : Nat} {more : Bool} {i : Nat} {al : Bool} {vv : Int} (hn : n ≤ 100) (hi : i < n) (cv : v.cell? ⟨b, o + i * 5 + 3, none⟩ = some (I vv)) (hA : Fl 87 [(0, .slice (some ⟨b, o, none⟩) n cap), (4, .slice (some ⟨cb, 0, none⟩) n n), (5, .slice (some ⟨gb, 0, none⟩) n n), (6, .bool more), (7, I (i : Nat)), (8, .bool al)] a) :
    q35_10.wp Try.prog (fun e a' w' => e = .normal ∧ (Fl 87 [(0, .slice (some ⟨b, o, none⟩) n cap), (4, .slice (some ⟨cb, 0, none⟩) n n), (5, .slice (some ⟨gb, 0, none⟩) n n), (6, .bool more), (7, I (i : Nat)), (8, .bool al), (9, I vv)] a' ∧ w' = v)) a v := by
  obtain ⟨hsz, hd, hp⟩ := hA
  obtain ⟨u, rfl, hg⟩ := litN hsz hd
  simp only [List.forall_mem_cons, hg] at hp
  obtain ⟨u0, u4, u5, u6, u7, u8, -⟩ := hp
  clear hg hsz hd
  unfold q35_10 C35 Try.f35 seq1 seq2 blockC loopC
  simp only [Option.getD_some, lits, Nat.reduceAdd, u0, u4, u5, u6, u7, u8]
  clear u0 u4 u5 u6 u7 u8
  go_wp2_with fail
  first
    | exact ⟨⟨rfl, rfl, by
      intro p hp
      simp only [List.mem_cons, List.not_mem_nil, or_false] at hp
      rcases hp with rfl | rfl | rfl | rfl | rfl | rfl | rfl <;> first | rfl | exact congrArg I (by omega) | exact congrArg Value.bool (by simp <;> omega) | exact congrArg Value.bool (by simp)⟩, rfl⟩
    | exact ⟨rfl, rfl, by
      intro p hp
      simp only [List.mem_cons, List.not_mem_nil, or_false] at hp
      rcases hp with rfl | rfl | rfl | rfl | rfl | rfl | rfl <;> first | rfl | exact congrArg I (by omega) | exact congrArg Value.bool (by simp <;> omega) | exact congrArg Value.bool (by simp)⟩
    | exact ⟨rfl, ⟨rfl, rfl, by
      intro p hp
      simp only [List.mem_cons, List.not_mem_nil, or_false] at hp
      rcases hp with rfl | rfl | rfl | rfl | rfl | rfl | rfl <;> first | rfl | exact congrArg I (by omega) | exact congrArg Value.bool (by simp <;> omega) | exact congrArg Value.bool (by simp)⟩, rfl⟩

set_option maxHeartbeats 1000000 in
set_option maxRecDepth 100000 in
theorem p35_11 {v : World} {a : Act} {b o n cap : Nat} {cb gb : Nat} {more : Bool} {i : Nat} {al : Bool} {sm : Int}  (hA : Fl 87 [(0, .slice (some ⟨b, o, none⟩) n cap), (4, .slice (some ⟨cb, 0, none⟩) n n), (5, .slice (some ⟨gb, 0, none⟩) n n), (6, .bool more), (7, I (i : Nat)), (8, .bool al), (9, I sm)] a) :
    q35_11.wp Try.prog (fun e a' w' => e = .normal ∧ (Fl 87 [(0, .slice (some ⟨b, o, none⟩) n cap), (4, .slice (some ⟨cb, 0, none⟩) n n), (5, .slice (some ⟨gb, 0, none⟩) n n), (6, .bool more), (7, I (i : Nat)), (8, .bool al), (9, I sm), (10, I (0 : Nat))] a' ∧ w' = v)) a v := by
  obtain ⟨hsz, hd, hp⟩ := hA
  obtain ⟨u, rfl, hg⟩ := litN hsz hd
  simp only [List.forall_mem_cons, hg] at hp
  obtain ⟨u0, u4, u5, u6, u7, u8, u9, -⟩ := hp
  clear hg hsz hd
  unfold q35_11 C35 Try.f35 seq1 seq2 blockC loopC
  simp only [Option.getD_some, lits, Nat.reduceAdd, u0, u4, u5, u6, u7, u8, u9]
  clear u0 u4 u5 u6 u7 u8 u9
  go_wp2_with fail
  first
    | exact ⟨⟨rfl, rfl, by
      intro p hp
      simp only [List.mem_cons, List.not_mem_nil, or_false] at hp
      rcases hp with rfl | rfl | rfl | rfl | rfl | rfl | rfl | rfl <;> first | rfl | exact congrArg I (by omega) | exact congrArg Value.bool (by simp <;> omega) | exact congrArg Value.bool (by simp)⟩, rfl⟩
    | exact ⟨rfl, rfl, by
      intro p hp
      simp only [List.mem_cons, List.not_mem_nil, or_false] at hp
      rcases hp with rfl | rfl | rfl | rfl | rfl | rfl | rfl | rfl <;> first | rfl | exact congrArg I (by omega) | exact congrArg Value.bool (by simp <;> omega) | exact congrArg Value.bool (by simp)⟩
    | exact ⟨rfl, ⟨rfl, rfl, by
      intro p hp
      simp only [List.mem_cons, List.not_mem_nil, or_false] at hp
      rcases hp with rfl | rfl | rfl | rfl | rfl | rfl | rfl | rfl <;> first | rfl | exact congrArg I (by omega) | exact congrArg Value.bool (by simp <;> omega) | exact congrArg Value.bool (by simp)⟩, rfl⟩

set_option maxHeartbeats 1000000 in
set_option maxRecDepth 100000 in
theorem p35_12_a {v : World} {a : Act} {b o n cap : Nat} {cb gb : Nat} {more : Bool} {i : Nat} {al : Bool} {sm : Int} {k : Nat} {q : Option Addr} {nn nc : Nat} (hn : n ≤ 100) (hi : i < n) (hnn : nn ≤ 20) (c0 : v.cell? ⟨b, o + i * 5, none⟩ = some (.slice q nn nc)) (hk : k < nn) (hA : Fl 87 [(0, .slice (some ⟨b, o, none⟩) n cap), (4, .slice (some ⟨cb, 0, none⟩) n n), (5, .slice (some ⟨gb, 0, none⟩) n n), (6, .bool more), (7, I (i : Nat)), (8, .bool al), (9, I sm), (10, I (k : Nat))] a) :
    q35_12.wp Try.prog (fun e a' w' => e = .normal ∧ (Fl 87 [(53, .bool al), (0, .slice (some ⟨b, o, none⟩) n cap), (4, .slice (some ⟨cb, 0, none⟩) n n), (5, .slice (some ⟨gb, 0, none⟩) n n), (6, .bool more), (7, I (i : Nat)), (8, .bool al), (9, I sm), (10, I (k : Nat))] a' ∧ w' = v)) a v := by
  obtain ⟨hsz, hd, hp⟩ := hA
  obtain ⟨u, rfl, hg⟩ := litN hsz hd
  simp only [List.forall_mem_cons, hg] at hp
  obtain ⟨u0, u4, u5, u6, u7, u8, u9, u10, -⟩ := hp
  clear hg hsz hd
  unfold q35_12 C35 Try.f35 seq1 seq2 blockC loopC
  simp only [Option.getD_some, lits, Nat.reduceAdd, u0, u4, u5, u6, u7, u8, u9, u10]
  clear u0 u4 u5 u6 u7 u8 u9 u10
  go_wp2_with fail
  first
    | exact ⟨⟨rfl, rfl, by
      intro p hp
      simp only [List.mem_cons, List.not_mem_nil, or_false] at hp
      rcases hp with rfl | rfl | rfl | rfl | rfl | rfl | rfl | rfl | rfl <;> first | rfl | exact congrArg I (by omega) | exact congrArg Value.bool (by simp <;> omega) | exact congrArg Value.bool (by simp)⟩, rfl⟩
    | exact ⟨rfl, rfl, by
      intro p hp
      simp only [List.mem_cons, List.not_mem_nil, or_false] at hp
      rcases hp with rfl | rfl | rfl | rfl | rfl | rfl | rfl | rfl | rfl <;> first | rfl | exact congrArg I (by omega) | exact congrArg Value.bool (by simp <;> omega) | exact congrArg Value.bool (by simp)⟩
    | exact ⟨rfl, ⟨rfl, rfl, by
      intro p hp
      simp only [List.mem_cons, List.not_mem_nil, or_false] at hp
      rcases hp with rfl | rfl | rfl | rfl | rfl | rfl | rfl | rfl | rfl <;> first | rfl | exact congrArg I (by omega) | exact congrArg Value.bool (by simp <;> omega) | exact congrArg Value.bool (by simp)⟩, rfl⟩

set_option maxHeartbeats 1000000 in
set_option maxRecDepth 100000 in
theorem p35_12_b {v : World} {a : Act} {b o n cap : Nat} {cb gb : Nat} {more : Bool} {i : Nat} {al : Bool} {sm : Int} {k : Nat} {q : Option Addr} {nn nc : Nat} (hn : n ≤ 100) (hi : i < n) (hnn : nn ≤ 20) (c0 : v.cell? ⟨b, o + i * 5, none⟩ = some (.slice q nn nc)) (hk : ¬ (k : Int) < (nn : Int)) (hA : Fl 87 [(0, .slice (some ⟨b, o, none⟩) n cap), (4, .slice (some ⟨cb, 0, none⟩) n n), (5, .slice (some ⟨gb, 0, none⟩) n n), (6, .bool more), (7, I (i : Nat)), (8, .bool al), (9, I sm), (10, I (k : Nat))] a) :
    q35_12.wp Try.prog (fun e a' w' => e = .normal ∧ (Fl 87 [(53, .bool false), (0, .slice (some ⟨b, o, none⟩) n cap), (4, .slice (some ⟨cb, 0, none⟩) n n), (5, .slice (some ⟨gb, 0, none⟩) n n), (6, .bool more), (7, I (i : Nat)), (8, .bool al), (9, I sm), (10, I (k : Nat))] a' ∧ w' = v)) a v := by
  obtain ⟨hsz, hd, hp⟩ := hA
  obtain ⟨u, rfl, hg⟩ := litN hsz hd
  simp only [List.forall_mem_cons, hg] at hp
  obtain ⟨u0, u4, u5, u6, u7, u8, u9, u10, -⟩ := hp
  clear hg hsz hd
  unfold q35_12 C35 Try.f35 seq1 seq2 blockC loopC
  simp only [Option.getD_some, lits, Nat.reduceAdd, u0, u4, u5, u6, u7, u8, u9, u10]
  clear u0 u4 u5 u6 u7 u8 u9 u10
  go_wp2_with fail
  first
    | exact ⟨⟨rfl, rfl, by
      intro p hp
      simp only [List.mem_cons, List.not_mem_nil, or_false] at hp
      rcases hp with rfl | rfl | rfl | rfl | rfl | rfl | rfl | rfl | rfl <;> first | rfl | exact congrArg I (by omega) | exact congrArg Value.bool (by simp <;> omega) | exact congrArg Value.bool (by simp)⟩, rfl⟩
    | exact ⟨rfl, rfl, by
      intro p hp
      simp only [List.mem_cons, List.not_mem_nil, or_false] at hp
      rcases hp with rfl | rfl | rfl | rfl | rfl | rfl | rfl | rfl | rfl <;> first | rfl | exact congrArg I (by omega) | exact congrArg Value.bool (by simp <;> omega) | exact congrArg Value.bool (by simp)⟩
    | exact ⟨rfl, ⟨rfl, rfl, by
      intro p hp
      simp only [List.mem_cons, List.not_mem_nil, or_false] at hp
      rcases hp with rfl | rfl | rfl | rfl | rfl | rfl | rfl | rfl | rfl <;> first | rfl | exact congrArg I (by omega) | exact congrArg Value.bool (by simp <;> omega) | exact congrArg Value.bool (by simp)⟩, rfl⟩

set_option maxHeartbeats 1000000 in
set_option maxRecDepth 100000 in
theorem p35_14 {v : World} {a : Act} {b o n cap : Nat} {cb gb : Nat} {more : Bool} {i : Nat} {al : Bool} {sm : Int} {k : Nat} {nb no nn nc x : Nat} (hn : n ≤ 100) (hi : i < n) (hnn : nn ≤ 20) (c0 : v.cell? ⟨b, o + i * 5, none⟩ = some (.slice (some ⟨nb, no, none⟩) nn nc)) (hk : k < nn) (cx : v.cell? ⟨nb, no + k, none⟩ = some (I (x : Nat))) (hA : Fl 87 [(0, .slice (some ⟨b, o, none⟩) n cap), (4, .slice (some ⟨cb, 0, none⟩) n n), (5, .slice (some ⟨gb, 0, none⟩) n n), (6, .bool more), (7, I (i : Nat)), (8, .bool al), (9, I sm), (10, I (k : Nat))] a) :
    q35_14.wp Try.prog (fun e a' w' => e = .normal ∧ (Fl 87 [(0, .slice (some ⟨b, o, none⟩) n cap), (4, .slice (some ⟨cb, 0, none⟩) n n), (5, .slice (some ⟨gb, 0, none⟩) n n), (6, .bool more), (7, I (i : Nat)), (8, .bool al), (9, I sm), (10, I (k : Nat)), (11, I (x : Nat))] a' ∧ w' = v)) a v := by
  obtain ⟨hsz, hd, hp⟩ := hA
  obtain ⟨u, rfl, hg⟩ := litN hsz hd
  simp only [List.forall_mem_cons, hg] at hp
  obtain ⟨u0, u4, u5, u6, u7, u8, u9, u10, -⟩ := hp
  clear hg hsz hd
  unfold q35_14 C35 Try.f35 seq1 seq2 blockC loopC
  simp only [Option.getD_some, lits, Nat.reduceAdd, u0, u4, u5, u6, u7, u8, u9, u10]
  clear u0 u4 u5 u6 u7 u8 u9 u10
  go_wp2_with fail
  first
    | exact ⟨⟨rfl, rfl, by
      intro p hp
      simp only [List.mem_cons, List.not_mem_nil, or_false] at hp
      rcases hp with rfl | rfl | rfl | rfl | rfl | rfl | rfl | rfl | rfl <;> first | rfl | exact congrArg I (by omega) | exact congrArg Value.bool (by simp <;> omega) | exact congrArg Value.bool (by simp)⟩, rfl⟩
    | exact ⟨rfl, rfl, by
      intro p hp
      simp only [List.mem_cons, List.not_mem_nil, or_false] at hp
      rcases hp with rfl | rfl | rfl | rfl | rfl | rfl | rfl | rfl | rfl <;> first | rfl | exact congrArg I (by omega) | exact congrArg Value.bool (by simp <;> omega) | exact congrArg Value.bool (by simp)⟩
    | exact ⟨rfl, ⟨rfl, rfl, by
      intro p hp
      simp only [List.mem_cons, List.not_mem_nil, or_false] at hp
      rcases hp with rfl | rfl | rfl | rfl | rfl | rfl | rfl | rfl | rfl <;> first | rfl | exact congrArg I (by omega) | exact congrArg Value.bool (by simp <;> omega) | exact congrArg Value.bool (by simp)⟩, rfl⟩

set_option maxHeartbeats 1000000 in
set_option maxRecDepth 100000 in
theorem p35_15 {v : World} {a : Act} {b o n cap : Nat} {cb gb : Nat} {more : Bool} {i : Nat} {al : Bool} {sm : Int} {k : Nat} {x : Nat} {cx : Bool} (hn : n ≤ 100) (hx : x < n) (c : v.cell? ⟨cb, x, none⟩ = some (.bool cx)) (hA : Fl 87 [(0, .slice (some ⟨b, o, none⟩) n cap), (4, .slice (some ⟨cb, 0, none⟩) n n), (5, .slice (some ⟨gb, 0, none⟩) n n), (6, .bool more), (7, I (i : Nat)), (8, .bool al), (9, I sm), (10, I (k : Nat)), (11, I (x : Nat))] a) :
    q35_15.wp Try.prog (fun e a' w' => e = .normal ∧ (Fl 87 [(0, .slice (some ⟨b, o, none⟩) n cap), (4, .slice (some ⟨cb, 0, none⟩) n n), (5, .slice (some ⟨gb, 0, none⟩) n n), (6, .bool more), (7, I (i : Nat)), (8, .bool cx), (9, I sm), (10, I (k : Nat)), (11, I (x : Nat))] a' ∧ w' = v)) a v := by
  obtain ⟨hsz, hd, hp⟩ := hA
  obtain ⟨u, rfl, hg⟩ := litN hsz hd
  simp only [List.forall_mem_cons, hg] at hp
  obtain ⟨u0, u4, u5, u6, u7, u8, u9, u10, u11, -⟩ := hp
  clear hg hsz hd
  unfold q35_15 C35 Try.f35 seq1 seq2 blockC loopC
  simp only [Option.getD_some, lits, Nat.reduceAdd, u0, u4, u5, u6, u7, u8, u9, u10, u11]
  clear u0 u4 u5 u6 u7 u8 u9 u10 u11
  go_wp2_with fail
  first
    | exact ⟨⟨rfl, rfl, by
      intro p hp
      simp only [List.mem_cons, List.not_mem_nil, or_false] at hp
      rcases hp with rfl | rfl | rfl | rfl | rfl | rfl | rfl | rfl | rfl <;> first | rfl | exact congrArg I (by omega) | exact congrArg Value.bool (by simp <;> omega) | exact congrArg Value.bool (by simp)⟩, rfl⟩
    | exact ⟨rfl, rfl, by
      intro p hp
      simp only [List.mem_cons, List.not_mem_nil, or_false] at hp
      rcases hp with rfl | rfl | rfl | rfl | rfl | rfl | rfl | rfl | rfl <;> first | rfl | exact congrArg I (by omega) | exact congrArg Value.bool (by simp <;> omega) | exact congrArg Value.bool (by simp)⟩
    | exact ⟨rfl, ⟨rfl, rfl, by
      intro p hp
      simp only [List.mem_cons, List.not_mem_nil, or_false] at hp
      rcases hp with rfl | rfl | rfl | rfl | rfl | rfl | rfl | rfl | rfl <;> first | rfl | exact congrArg I (by omega) | exact congrArg Value.bool (by simp <;> omega) | exact congrArg Value.bool (by simp)⟩, rfl⟩

set_option maxHeartbeats 1000000 in
set_option maxRecDepth 100000 in
theorem p35_16 {v : World} {a : Act} {b o n cap : Nat} {cb gb : Nat} {more : Bool} {i : Nat} {al : Bool} {sm : Int} {k : Nat} {x : Nat} {gx : Int} (hn : n ≤ 100) (hx : x < n) (c : v.cell? ⟨gb, x, none⟩ = some (I gx)) (h1 : -1000 ≤ sm ∧ sm ≤ 20001040) (h2 : 0 ≤ gx ∧ gx < 1000003) (hA : Fl 87 [(0, .slice (some ⟨b, o, none⟩) n cap), (4, .slice (some ⟨cb, 0, none⟩) n n), (5, .slice (some ⟨gb, 0, none⟩) n n), (6, .bool more), (7, I (i : Nat)), (8, .bool al), (9, I sm), (10, I (k : Nat)), (11, I (x : Nat))] a) :
    q35_16.wp Try.prog (fun e a' w' => e = .normal ∧ (Fl 87 [(0, .slice (some ⟨b, o, none⟩) n cap), (4, .slice (some ⟨cb, 0, none⟩) n n), (5, .slice (some ⟨gb, 0, none⟩) n n), (6, .bool more), (7, I (i : Nat)), (8, .bool al), (9, I (sm + gx)), (10, I (k : Nat))] a' ∧ w' = v)) a v := by
  obtain ⟨hsz, hd, hp⟩ := hA
  obtain ⟨u, rfl, hg⟩ := litN hsz hd
  simp only [List.forall_mem_cons, hg] at hp
  obtain ⟨u0, u4, u5, u6, u7, u8, u9, u10, u11, -⟩ := hp
  clear hg hsz hd
  unfold q35_16 C35 Try.f35 seq1 seq2 blockC loopC
  simp only [Option.getD_some, lits, Nat.reduceAdd, u0, u4, u5, u6, u7, u8, u9, u10, u11]
  clear u0 u4 u5 u6 u7 u8 u9 u10 u11
  go_wp2_with fail
  first
    | exact ⟨⟨rfl, rfl, by
      intro p hp
      simp only [List.mem_cons, List.not_mem_nil, or_false] at hp
      rcases hp with rfl | rfl | rfl | rfl | rfl | rfl | rfl | rfl <;> first | rfl | exact congrArg I (by omega) | exact congrArg Value.bool (by simp <;> omega) | exact congrArg Value.bool (by simp)⟩, rfl⟩
    | exact ⟨rfl, rfl, by
      intro p hp
      simp only [List.mem_cons, List.not_mem_nil, or_false] at hp
      rcases hp with rfl | rfl | rfl | rfl | rfl | rfl | rfl | rfl <;> first | rfl | exact congrArg I (by omega) | exact congrArg Value.bool (by simp <;> omega) | exact congrArg Value.bool (by simp)⟩
    | exact ⟨rfl, ⟨rfl, rfl, by
      intro p hp
      simp only [List.mem_cons, List.not_mem_nil, or_false] at hp
      rcases hp with rfl | rfl | rfl | rfl | rfl | rfl | rfl | rfl <;> first | rfl | exact congrArg I (by omega) | exact congrArg Value.bool (by simp <;> omega) | exact congrArg Value.bool (by simp)⟩, rfl⟩

set_option maxHeartbeats 1000000 in
set_option maxRecDepth 100000 in
theorem p35_13 {v : World} {a : Act} {b o n cap : Nat} {cb gb : Nat} {more : Bool} {i : Nat} {al : Bool} {sm : Int} {k : Nat} (hk : k < 100) (hA : Fl 87 [(0, .slice (some ⟨b, o, none⟩) n cap), (4, .slice (some ⟨cb, 0, none⟩) n n), (5, .slice (some ⟨gb, 0, none⟩) n n), (6, .bool more), (7, I (i : Nat)), (8, .bool al), (9, I sm), (10, I (k : Nat))] a) :
    q35_13.wp Try.prog (fun e a' w' => e = .normal ∧ (Fl 87 [(0, .slice (some ⟨b, o, none⟩) n cap), (4, .slice (some ⟨cb, 0, none⟩) n n), (5, .slice (some ⟨gb, 0, none⟩) n n), (6, .bool more), (7, I (i : Nat)), (8, .bool al), (9, I sm), (10, I ((k + 1 : Nat) : Int))] a' ∧ w' = v)) a v := by
  obtain ⟨hsz, hd, hp⟩ := hA
  obtain ⟨u, rfl, hg⟩ := litN hsz hd
  simp only [List.forall_mem_cons, hg] at hp
  obtain ⟨u0, u4, u5, u6, u7, u8, u9, u10, -⟩ := hp
  clear hg hsz hd
  unfold q35_13 C35 Try.f35 seq1 seq2 blockC loopC
  simp only [Option.getD_some, lits, Nat.reduceAdd, u0, u4, u5, u6, u7, u8, u9, u10]
  clear u0 u4 u5 u6 u7 u8 u9 u10
  go_wp2_with fail
  first
    | exact ⟨⟨rfl, rfl, by
      intro p hp
      simp only [List.mem_cons, List.not_mem_nil, or_false] at hp
      rcases hp with rfl | rfl | rfl | rfl | rfl | rfl | rfl | rfl <;> first | rfl | exact congrArg I (by omega) | exact congrArg Value.bool (by simp <;> omega) | exact congrArg Value.bool (by simp)⟩, rfl⟩
    | exact ⟨rfl, rfl, by
      intro p hp
      simp only [List.mem_cons, List.not_mem_nil, or_false] at hp
      rcases hp with rfl | rfl | rfl | rfl | rfl | rfl | rfl | rfl <;> first | rfl | exact congrArg I (by omega) | exact congrArg Value.bool (by simp <;> omega) | exact congrArg Value.bool (by simp)⟩
    | exact ⟨rfl, ⟨rfl, rfl, by
      intro p hp
      simp only [List.mem_cons, List.not_mem_nil, or_false] at hp
      rcases hp with rfl | rfl | rfl | rfl | rfl | rfl | rfl | rfl <;> first | rfl | exact congrArg I (by omega) | exact congrArg Value.bool (by simp <;> omega) | exact congrArg Value.bool (by simp)⟩, rfl⟩

set_option maxHeartbeats 1000000 in
set_option maxRecDepth 100000 in
theorem p35_17 {v : World} {a : Act} {b o n cap : Nat} {cb gb : Nat} {more : Bool} {i : Nat} {al : Bool} {sm : Int}  (hA : Fl 87 [(0, .slice (some ⟨b, o, none⟩) n cap), (4, .slice (some ⟨cb, 0, none⟩) n n), (5, .slice (some ⟨gb, 0, none⟩) n n), (6, .bool more), (7, I (i : Nat)), (8, .bool al), (9, I sm)] a) :
    q35_17.wp Try.prog (fun e a' w' => e = .normal ∧ (Fl 87 [(74, .bool al), (0, .slice (some ⟨b, o, none⟩) n cap), (4, .slice (some ⟨cb, 0, none⟩) n n), (5, .slice (some ⟨gb, 0, none⟩) n n), (6, .bool more), (7, I (i : Nat)), (8, .bool al), (9, I sm)] a' ∧ w' = v)) a v := by
  obtain ⟨hsz, hd, hp⟩ := hA
  obtain ⟨u, rfl, hg⟩ := litN hsz hd
  simp only [List.forall_mem_cons, hg] at hp
  obtain ⟨u0, u4, u5, u6, u7, u8, u9, -⟩ := hp
  clear hg hsz hd
  unfold q35_17 C35 Try.f35 seq1 seq2 blockC loopC
  simp only [Option.getD_some, lits, Nat.reduceAdd, u0, u4, u5, u6, u7, u8, u9]
  clear u0 u4 u5 u6 u7 u8 u9
  go_wp2_with fail
  first
    | exact ⟨⟨rfl, rfl, by
      intro p hp
      simp only [List.mem_cons, List.not_mem_nil, or_false] at hp
      rcases hp with rfl | rfl | rfl | rfl | rfl | rfl | rfl | rfl <;> first | rfl | exact congrArg I (by omega) | exact congrArg Value.bool (by simp <;> omega) | exact congrArg Value.bool (by simp)⟩, rfl⟩
    | exact ⟨rfl, rfl, by
      intro p hp
      simp only [List.mem_cons, List.not_mem_nil, or_false] at hp
      rcases hp with rfl | rfl | rfl | rfl | rfl | rfl | rfl | rfl <;> first | rfl | exact congrArg I (by omega) | exact congrArg Value.bool (by simp <;> omega) | exact congrArg Value.bool (by simp)⟩
    | exact ⟨rfl, ⟨rfl, rfl, by
      intro p hp
      simp only [List.mem_cons, List.not_mem_nil, or_false] at hp
      rcases hp with rfl | rfl | rfl | rfl | rfl | rfl | rfl | rfl <;> first | rfl | exact congrArg I (by omega) | exact congrArg Value.bool (by simp <;> omega) | exact congrArg Value.bool (by simp)⟩, rfl⟩

set_option maxHeartbeats 1000000 in
set_option maxRecDepth 100000 in
theorem p35_18 {v : World} {a : Act} {b o n cap : Nat} {cb gb : Nat} {more : Bool} {i : Nat} {sm : Int} {cn : Bool} (hn : n ≤ 100) (hi : i < n) (cc : v.cell? ⟨cb, i, none⟩ = some (.bool cn)) (f : v.frozen? ⟨cb, i, none⟩ = false) (hA : Fl 87 [(0, .slice (some ⟨b, o, none⟩) n cap), (4, .slice (some ⟨cb, 0, none⟩) n n), (5, .slice (some ⟨gb, 0, none⟩) n n), (6, .bool more), (7, I (i : Nat)), (9, I sm)] a) :
    q35_18.wp Try.prog (fun e a' w' => e = .normal ∧ (Fl 87 [(0, .slice (some ⟨b, o, none⟩) n cap), (4, .slice (some ⟨cb, 0, none⟩) n n), (5, .slice (some ⟨gb, 0, none⟩) n n), (6, .bool more), (7, I (i : Nat)), (9, I sm)] a' ∧ w' = v.setCell ⟨cb, i, none⟩ (.bool true))) a v := by
  obtain ⟨hsz, hd, hp⟩ := hA
  obtain ⟨u, rfl, hg⟩ := litN hsz hd
  simp only [List.forall_mem_cons, hg] at hp
  obtain ⟨u0, u4, u5, u6, u7, u9, -⟩ := hp
  clear hg hsz hd
  unfold q35_18 C35 Try.f35 seq1 seq2 condA blockC loopC
  simp only [Option.getD_some, lits, Nat.reduceAdd, u0, u4, u5, u6, u7, u9]
  clear u0 u4 u5 u6 u7 u9
  go_wp2_with fail
  first
    | exact ⟨⟨rfl, rfl, by
      intro p hp
      simp only [List.mem_cons, List.not_mem_nil, or_false] at hp
      rcases hp with rfl | rfl | rfl | rfl | rfl | rfl <;> first | rfl | exact congrArg I (by omega) | exact congrArg Value.bool (by simp <;> omega) | exact congrArg Value.bool (by simp)⟩, rfl⟩
    | exact ⟨rfl, rfl, by
      intro p hp
      simp only [List.mem_cons, List.not_mem_nil, or_false] at hp
      rcases hp with rfl | rfl | rfl | rfl | rfl | rfl <;> first | rfl | exact congrArg I (by omega) | exact congrArg Value.bool (by simp <;> omega) | exact congrArg Value.bool (by simp)⟩
    | exact ⟨rfl, ⟨rfl, rfl, by
      intro p hp
      simp only [List.mem_cons, List.not_mem_nil, or_false] at hp
      rcases hp with rfl | rfl | rfl | rfl | rfl | rfl <;> first | rfl | exact congrArg I (by omega) | exact congrArg Value.bool (by simp <;> omega) | exact congrArg Value.bool (by simp)⟩, rfl⟩

set_option maxHeartbeats 1000000 in
set_option maxRecDepth 100000 in
theorem p35_19 {v : World} {a : Act} {b o n cap : Nat} {cb gb : Nat} {more : Bool} {i : Nat} {sm : Int} {gx : Value} (hn : n ≤ 100) (hi : i < n) (c : v.cell? ⟨gb, i, none⟩ = some gx) (f : v.frozen? ⟨gb, i, none⟩ = false) (hA : Fl 87 [(0, .slice (some ⟨b, o, none⟩) n cap), (4, .slice (some ⟨cb, 0, none⟩) n n), (5, .slice (some ⟨gb, 0, none⟩) n n), (6, .bool more), (7, I (i : Nat)), (9, I sm)] a) :
    q35_19.wp Try.prog (fun e a' w' => e = .normal ∧ (Fl 87 [(0, .slice (some ⟨b, o, none⟩) n cap), (4, .slice (some ⟨cb, 0, none⟩) n n), (5, .slice (some ⟨gb, 0, none⟩) n n), (6, .bool more), (7, I (i : Nat))] a' ∧ w' = v.setCell ⟨gb, i, none⟩ (I ((wrap64 (sm.tmod 1000003 + 1000003)).tmod 1000003)))) a v := by
  obtain ⟨hsz, hd, hp⟩ := hA
  obtain ⟨u, rfl, hg⟩ := litN hsz hd
  simp only [List.forall_mem_cons, hg] at hp
  obtain ⟨u0, u4, u5, u6, u7, u9, -⟩ := hp
  clear hg hsz hd
  unfold q35_19 C35 Try.f35 seq1 seq2 condA blockC loopC
  simp only [Option.getD_some, lits, Nat.reduceAdd, u0, u4, u5, u6, u7, u9]
  clear u0 u4 u5 u6 u7 u9
  go_wp2_with fail
  first
    | exact ⟨⟨rfl, rfl, by
      intro p hp
      simp only [List.mem_cons, List.not_mem_nil, or_false] at hp
      rcases hp with rfl | rfl | rfl | rfl | rfl <;> first | rfl | exact congrArg I (by omega) | exact congrArg Value.bool (by simp <;> omega) | exact congrArg Value.bool (by simp)⟩, rfl⟩
    | exact ⟨rfl, rfl, by
      intro p hp
      simp only [List.mem_cons, List.not_mem_nil, or_false] at hp
      rcases hp with rfl | rfl | rfl | rfl | rfl <;> first | rfl | exact congrArg I (by omega) | exact congrArg Value.bool (by simp <;> omega) | exact congrArg Value.bool (by simp)⟩
    | exact ⟨rfl, ⟨rfl, rfl, by
      intro p hp
      simp only [List.mem_cons, List.not_mem_nil, or_false] at hp
      rcases hp with rfl | rfl | rfl | rfl | rfl <;> first | rfl | exact congrArg I (by omega) | exact congrArg Value.bool (by simp <;> omega) | exact congrArg Value.bool (by simp)⟩, rfl⟩

set_option maxHeartbeats 1000000 in
set_option maxRecDepth 100000 in
theorem p35_20 {v : World} {a : Act} {b o n cap : Nat} {cb gb : Nat} {more : Bool} {i : Nat}  (hA : Fl 87 [(0, .slice (some ⟨b, o, none⟩) n cap), (4, .slice (some ⟨cb, 0, none⟩) n n), (5, .slice (some ⟨gb, 0, none⟩) n n), (6, .bool more), (7, I (i : Nat))] a) :
    q35_20.wp Try.prog (fun e a' w' => e = .normal ∧ (Fl 87 [(0, .slice (some ⟨b, o, none⟩) n cap), (4, .slice (some ⟨cb, 0, none⟩) n n), (5, .slice (some ⟨gb, 0, none⟩) n n), (6, .bool true), (7, I (i : Nat))] a' ∧ w' = v)) a v := by
  obtain ⟨hsz, hd, hp⟩ := hA
  obtain ⟨u, rfl, hg⟩ := litN hsz hd
  simp only [List.forall_mem_cons, hg] at hp
  obtain ⟨u0, u4, u5, u6, u7, -⟩ := hp
  clear hg hsz hd
  unfold q35_20 C35 Try.f35 seq1 seq2 condA blockC loopC
  simp only [Option.getD_some, lits, Nat.reduceAdd, u0, u4, u5, u6, u7]
  clear u0 u4 u5 u6 u7
  go_wp2_with fail
  first
    | exact ⟨⟨rfl, rfl, by
      intro p hp
      simp only [List.mem_cons, List.not_mem_nil, or_false] at hp
      rcases hp with rfl | rfl | rfl | rfl | rfl <;> first | rfl | exact congrArg I (by omega) | exact congrArg Value.bool (by simp <;> omega) | exact congrArg Value.bool (by simp)⟩, rfl⟩
    | exact ⟨rfl, rfl, by
      intro p hp
      simp only [List.mem_cons, List.not_mem_nil, or_false] at hp
      rcases hp with rfl | rfl | rfl | rfl | rfl <;> first | rfl | exact congrArg I (by omega) | exact congrArg Value.bool (by simp <;> omega) | exact congrArg Value.bool (by simp)⟩
    | exact ⟨rfl, ⟨rfl, rfl, by
      intro p hp
      simp only [List.mem_cons, List.not_mem_nil, or_false] at hp
      rcases hp with rfl | rfl | rfl | rfl | rfl <;> first | rfl | exact congrArg I (by omega) | exact congrArg Value.bool (by simp <;> omega) | exact congrArg Value.bool (by simp)⟩, rfl⟩

set_option maxHeartbeats 1000000 in
set_option maxRecDepth 100000 in
theorem p35_8 {v : World} {a : Act} {b o n cap : Nat} {cb gb : Nat} {more : Bool} {i : Nat} (hi : i < 100) (hA : Fl 87 [(0, .slice (some ⟨b, o, none⟩) n cap), (4, .slice (some ⟨cb, 0, none⟩) n n), (5, .slice (some ⟨gb, 0, none⟩) n n), (6, .bool more), (7, I (i : Nat))] a) :
    q35_8.wp Try.prog (fun e a' w' => e = .normal ∧ (Fl 87 [(0, .slice (some ⟨b, o, none⟩) n cap), (4, .slice (some ⟨cb, 0, none⟩) n n), (5, .slice (some ⟨gb, 0, none⟩) n n), (6, .bool more), (7, I ((i + 1 : Nat) : Int))] a' ∧ w' = v)) a v := by
  obtain ⟨hsz, hd, hp⟩ := hA
  obtain ⟨u, rfl, hg⟩ := litN hsz hd
  simp only [List.forall_mem_cons, hg] at hp
  obtain ⟨u0, u4, u5, u6, u7, -⟩ := hp
  clear hg hsz hd
  unfold q35_8 C35 Try.f35 seq1 seq2 blockC loopC
  simp only [Option.getD_some, lits, Nat.reduceAdd, u0, u4, u5, u6, u7]
  clear u0 u4 u5 u6 u7
  go_wp2_with fail
  first
    | exact ⟨⟨rfl, rfl, by
      intro p hp
      simp only [List.mem_cons, List.not_mem_nil, or_false] at hp
      rcases hp with rfl | rfl | rfl | rfl | rfl <;> first | rfl | exact congrArg I (by omega) | exact congrArg Value.bool (by simp <;> omega) | exact congrArg Value.bool (by simp)⟩, rfl⟩
    | exact ⟨rfl, rfl, by
      intro p hp
      simp only [List.mem_cons, List.not_mem_nil, or_false] at hp
      rcases hp with rfl | rfl | rfl | rfl | rfl <;> first | rfl | exact congrArg I (by omega) | exact congrArg Value.bool (by simp <;> omega) | exact congrArg Value.bool (by simp)⟩
    | exact ⟨rfl, ⟨rfl, rfl, by
      intro p hp
      simp only [List.mem_cons, List.not_mem_nil, or_false] at hp
      rcases hp with rfl | rfl | rfl | rfl | rfl <;> first | rfl | exact congrArg I (by omega) | exact congrArg Value.bool (by simp <;> omega) | exact congrArg Value.bool (by simp)⟩, rfl⟩

set_option maxHeartbeats 1000000 in
set_option maxRecDepth 100000 in
theorem p35_21 {v : World} {a : Act} {b o n cap : Nat} {cb gb : Nat}  (hA : Fl 87 [(0, .slice (some ⟨b, o, none⟩) n cap), (4, .slice (some ⟨cb, 0, none⟩) n n), (5, .slice (some ⟨gb, 0, none⟩) n n)] a) :
    q35_21.wp Try.prog (fun e a' w' => e = .normal ∧ (Fl 87 [(2, .slice (some ⟨cb, 0, none⟩) n n), (3, .slice (some ⟨gb, 0, none⟩) n n)] a' ∧ w' = v)) a v := by
  obtain ⟨hsz, hd, hp⟩ := hA
  obtain ⟨u, rfl, hg⟩ := litN hsz hd
  simp only [List.forall_mem_cons, hg] at hp
  obtain ⟨u0, u4, u5, -⟩ := hp
  clear hg hsz hd
  unfold q35_21 C35 Try.f35 seq1 seq2
  simp only [Option.getD_some, lits, Nat.reduceAdd, u0, u4, u5]
  clear u0 u4 u5
  go_wp2_with fail
  first
    | exact ⟨⟨rfl, rfl, by
      intro p hp
      simp only [List.mem_cons, List.not_mem_nil, or_false] at hp
      rcases hp with rfl | rfl <;> first | rfl | exact congrArg I (by omega) | exact congrArg Value.bool (by simp <;> omega) | exact congrArg Value.bool (by simp)⟩, rfl⟩
    | exact ⟨rfl, rfl, by
      intro p hp
      simp only [List.mem_cons, List.not_mem_nil, or_false] at hp
      rcases hp with rfl | rfl <;> first | rfl | exact congrArg I (by omega) | exact congrArg Value.bool (by simp <;> omega) | exact congrArg Value.bool (by simp)⟩
    | exact ⟨rfl, ⟨rfl, rfl, by
      intro p hp
      simp only [List.mem_cons, List.not_mem_nil, or_false] at hp
      rcases hp with rfl | rfl <;> first | rfl | exact congrArg I (by omega) | exact congrArg Value.bool (by simp <;> omega) | exact congrArg Value.bool (by simp)⟩, rfl⟩

theorem in35 {w : World} {R : Value → World → Prop} {x0 : Value} (h : ∀ a, Fl 87 [(0, x0)] a → C35.wp Try.prog (bodyPost Try.prog Try.f35 (Ret R)) a w) : Calls Try.prog 35 #[x0] w (Ret R) :=
  calls_of_wp Try.func35 (show Try.f35.body = some C35 by kernel_rfl) (by
    rw [Try.ntmps35]
    exact h _ (fl_enter _ _ 87 (by simp) _ (by intro p hp; simp only [List.mem_cons, List.not_mem_nil, or_false] at hp; rcases hp with rfl <;> rfl)))

end Go.Proofs.Ytgohfdgkihoilaa.Rcp
