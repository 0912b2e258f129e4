/- What the document's reached (34) does: its pieces. (Made by wip/tools/mk34.py.) -/
import Derived.Test.YtgohfdgkihoilaaAsdP
set_option linter.unusedSimpArgs false
set_option linter.unusedVariables false
namespace Go.Proofs.Ytgohfdgkihoilaa.Rcp
open Go Go.RowKit Go.Deep Go.Maps

noncomputable def C34 : Code := Try.f34.body.getD .skip
noncomputable def q34_0 : Code := (seq1 C34)
noncomputable def q34_1 : Code := (seq1 (seq2 C34))
noncomputable def q34_2 : Code := (seq1 (seq2 (seq2 C34)))
noncomputable def q34_3 : Code := (seq1 (seq1 (loopC (blockC (seq1 (seq2 (seq2 (seq2 C34))))))))
noncomputable def q34_4 : Code := (seq1 (blockC (seq2 (loopC (blockC (seq1 (seq2 (seq2 (seq2 C34)))))))))
noncomputable def q34_5 : Code := (seq1 (seq2 (blockC (seq2 (loopC (blockC (seq1 (seq2 (seq2 (seq2 C34))))))))))
noncomputable def q34_6 : Code := (seq1 (seq2 (seq2 (blockC (seq2 (loopC (blockC (seq1 (seq2 (seq2 (seq2 C34)))))))))))
noncomputable def q34_7 : Code := (seq1 (seq1 (loopC (blockC (seq2 (seq2 (seq2 (blockC (seq2 (loopC (blockC (seq1 (seq2 (seq2 (seq2 C34)))))))))))))))
noncomputable def q34_9 : Code := (seq1 (blockC (seq1 (seq2 (loopC (blockC (seq2 (seq2 (seq2 (blockC (seq2 (loopC (blockC (seq1 (seq2 (seq2 (seq2 C34)))))))))))))))))
noncomputable def q34_10 : Code := (seq1 (seq2 (blockC (seq1 (seq2 (loopC (blockC (seq2 (seq2 (seq2 (blockC (seq2 (loopC (blockC (seq1 (seq2 (seq2 (seq2 C34))))))))))))))))))
noncomputable def q34_11 : Code := (seq1 (condA (seq2 (seq2 (blockC (seq1 (seq2 (loopC (blockC (seq2 (seq2 (seq2 (blockC (seq2 (loopC (blockC (seq1 (seq2 (seq2 (seq2 C34))))))))))))))))))))
noncomputable def q34_12 : Code := (seq2 (condA (seq2 (seq2 (blockC (seq1 (seq2 (loopC (blockC (seq2 (seq2 (seq2 (blockC (seq2 (loopC (blockC (seq1 (seq2 (seq2 (seq2 C34))))))))))))))))))))
noncomputable def q34_8 : Code := (seq2 (seq2 (loopC (blockC (seq2 (seq2 (seq2 (blockC (seq2 (loopC (blockC (seq1 (seq2 (seq2 (seq2 C34)))))))))))))))
noncomputable def q34_13 : Code := (seq1 (seq2 (seq2 (seq2 (seq2 C34)))))
noncomputable def K34_3 : Code := (.seq q34_9 (.seq q34_10 (.cond ( .tmp 45 ) (.seq q34_11 q34_12) .skip)))
noncomputable def K34_2 : Code := (.loop (.seq (.seq q34_7 (.cond ( .tmp 30 ) .skip (.exit 2))) (.seq (.block 3 K34_3) q34_8)))
noncomputable def K34_1 : Code := (.seq q34_4 (.seq q34_5 (.seq q34_6 (.block 2 K34_2))))
noncomputable def K34_0 : Code := (.loop (.seq (.seq q34_3 (.cond ( .tmp 17 ) .skip (.exit 0))) (.block 1 K34_1)))
theorem e34 : C34 = (.seq q34_0 (.seq q34_1 (.seq q34_2 (.seq (.block 0 K34_0) (.seq q34_13 .ret))))) := by kernel_rfl

set_option maxHeartbeats 1000000 in
set_option maxRecDepth 100000 in
theorem p34_0 {v : World} {a : Act} {b o n cap key : Nat}  (hA : Fl 54 [(0, .slice (some ⟨b, o, none⟩) n cap), (1, I (key : Nat))] a) :
    q34_0.wp Try.prog (fun e a' w' => e = .normal ∧ (Fl 54 [(0, .slice (some ⟨b, o, none⟩) n cap), (1, I (key : Nat))] a' ∧ w' = v)) a v := by
  obtain ⟨hsz, hd, hp⟩ := hA
  obtain ⟨u, rfl, hg⟩ := litN hsz hd
  simp only [List.forall_mem_cons, hg] at hp
  obtain ⟨u0, u1, -⟩ := hp
  clear hg hsz hd
  unfold q34_0 C34 Try.f34 seq1
  simp only [Option.getD_some, lits, Nat.reduceAdd, u0, u1]
  clear u0 u1
  go_wp2_with fail
  first
    | exact ⟨⟨rfl, rfl, by
      intro p hp
      simp only [List.mem_cons, List.not_mem_nil, or_false] at hp
      rcases hp with rfl | rfl <;> first | rfl | exact congrArg I (by omega) | exact congrArg Value.bool (by simp <;> omega) | exact congrArg Value.bool (by simp)⟩, rfl⟩
    | exact ⟨rfl, rfl, by
      intro p hp
      simp only [List.mem_cons, List.not_mem_nil, or_false] at hp
      rcases hp with rfl | rfl <;> first | rfl | exact congrArg I (by omega) | exact congrArg Value.bool (by simp <;> omega) | exact congrArg Value.bool (by simp)⟩
    | exact ⟨rfl, ⟨rfl, rfl, by
      intro p hp
      simp only [List.mem_cons, List.not_mem_nil, or_false] at hp
      rcases hp with rfl | rfl <;> first | rfl | exact congrArg I (by omega) | exact congrArg Value.bool (by simp <;> omega) | exact congrArg Value.bool (by simp)⟩, rfl⟩

set_option maxHeartbeats 1000000 in
set_option maxRecDepth 100000 in
theorem p34_1 {v : World} {a : Act} {b o n cap key : Nat} (hn : n ≤ 100) (hA : Fl 54 [(0, .slice (some ⟨b, o, none⟩) n cap), (1, I (key : Nat))] a) :
    q34_1.wp Try.prog (fun e a' w' => e = .normal ∧ (Fl 54 [(0, .slice (some ⟨b, o, none⟩) n cap), (1, I (key : Nat)), (5, .slice (some ⟨v.heap.size, 0, none⟩) n n)] a' ∧ w' = v.alloc (.cells (madeCells #[.bool false] n) 4))) a v := by
  obtain ⟨hsz, hd, hp⟩ := hA
  obtain ⟨u, rfl, hg⟩ := litN hsz hd
  simp only [List.forall_mem_cons, hg] at hp
  obtain ⟨u0, u1, -⟩ := hp
  clear hg hsz hd
  unfold q34_1 C34 Try.f34 seq1 seq2
  simp only [Option.getD_some, lits, Nat.reduceAdd, u0, u1]
  clear u0 u1
  have hmk := run_make_row' (P := Try.prog) 41 4 (.bool false) 1 Try.underlying41 info4 rfl .i64 .i64 n (by omega) (by omega)
  go_wp2_with fail
  first
    | exact ⟨⟨rfl, rfl, by
      intro p hp
      simp only [List.mem_cons, List.not_mem_nil, or_false] at hp
      rcases hp with rfl | rfl | rfl <;> first | rfl | exact congrArg I (by omega) | exact congrArg Value.bool (by simp <;> omega) | exact congrArg Value.bool (by simp)⟩, rfl⟩
    | exact ⟨rfl, rfl, by
      intro p hp
      simp only [List.mem_cons, List.not_mem_nil, or_false] at hp
      rcases hp with rfl | rfl | rfl <;> first | rfl | exact congrArg I (by omega) | exact congrArg Value.bool (by simp <;> omega) | exact congrArg Value.bool (by simp)⟩
    | exact ⟨rfl, ⟨rfl, rfl, by
      intro p hp
      simp only [List.mem_cons, List.not_mem_nil, or_false] at hp
      rcases hp with rfl | rfl | rfl <;> first | rfl | exact congrArg I (by omega) | exact congrArg Value.bool (by simp <;> omega) | exact congrArg Value.bool (by simp)⟩, rfl⟩

set_option maxHeartbeats 1000000 in
set_option maxRecDepth 100000 in
theorem p34_2 {v : World} {a : Act} {b o n cap key : Nat} {ob : Nat}  (hA : Fl 54 [(0, .slice (some ⟨b, o, none⟩) n cap), (1, I (key : Nat)), (5, .slice (some ⟨ob, 0, none⟩) n n)] a) :
    q34_2.wp Try.prog (fun e a' w' => e = .normal ∧ (Fl 54 [(0, .slice (some ⟨b, o, none⟩) n cap), (5, .slice (some ⟨ob, 0, none⟩) n n), (6, .slice (some ⟨v.heap.size, 0, none⟩) 1 1)] a' ∧ w' = v.alloc (.cells #[I (key : Nat)] 3))) a v := by
  obtain ⟨hsz, hd, hp⟩ := hA
  obtain ⟨u, rfl, hg⟩ := litN hsz hd
  simp only [List.forall_mem_cons, hg] at hp
  obtain ⟨u0, u1, u5, -⟩ := hp
  clear hg hsz hd
  unfold q34_2 C34 Try.f34 seq1 seq2
  simp only [Option.getD_some, lits, Nat.reduceAdd, u0, u1, u5]
  clear u0 u1 u5
  go_wp2_with fail
  first
    | exact ⟨⟨rfl, rfl, by
      intro p hp
      simp only [List.mem_cons, List.not_mem_nil, or_false] at hp
      rcases hp with rfl | rfl | rfl <;> first | rfl | exact congrArg I (by omega) | exact congrArg Value.bool (by simp <;> omega) | exact congrArg Value.bool (by simp)⟩, rfl⟩
    | exact ⟨rfl, rfl, by
      intro p hp
      simp only [List.mem_cons, List.not_mem_nil, or_false] at hp
      rcases hp with rfl | rfl | rfl <;> first | rfl | exact congrArg I (by omega) | exact congrArg Value.bool (by simp <;> omega) | exact congrArg Value.bool (by simp)⟩
    | exact ⟨rfl, ⟨rfl, rfl, by
      intro p hp
      simp only [List.mem_cons, List.not_mem_nil, or_false] at hp
      rcases hp with rfl | rfl | rfl <;> first | rfl | exact congrArg I (by omega) | exact congrArg Value.bool (by simp <;> omega) | exact congrArg Value.bool (by simp)⟩, rfl⟩

set_option maxHeartbeats 1000000 in
set_option maxRecDepth 100000 in
theorem p34_3 {v : World} {a : Act} {b o n cap ob : Nat} {tp : Option Addr} {tn tc : Nat} (ht : tn ≤ 1000000) (hA : Fl 54 [(0, .slice (some ⟨b, o, none⟩) n cap), (5, .slice (some ⟨ob, 0, none⟩) n n), (6, .slice tp tn tc)] a) :
    q34_3.wp Try.prog (fun e a' w' => e = .normal ∧ (Fl 54 [(17, .bool (decide (0 < tn))), (0, .slice (some ⟨b, o, none⟩) n cap), (5, .slice (some ⟨ob, 0, none⟩) n n), (6, .slice tp tn tc)] a' ∧ w' = v)) a v := by
  obtain ⟨hsz, hd, hp⟩ := hA
  obtain ⟨u, rfl, hg⟩ := litN hsz hd
  simp only [List.forall_mem_cons, hg] at hp
  obtain ⟨u0, u5, u6, -⟩ := hp
  clear hg hsz hd
  unfold q34_3 C34 Try.f34 seq1 seq2 blockC loopC
  simp only [Option.getD_some, lits, Nat.reduceAdd, u0, u5, u6]
  clear u0 u5 u6
  go_wp2_with fail
  first
    | exact ⟨⟨rfl, rfl, by
      intro p hp
      simp only [List.mem_cons, List.not_mem_nil, or_false] at hp
      rcases hp with rfl | rfl | rfl | rfl <;> first | rfl | exact congrArg I (by omega) | exact congrArg Value.bool (by simp <;> omega) | exact congrArg Value.bool (by simp)⟩, rfl⟩
    | exact ⟨rfl, rfl, by
      intro p hp
      simp only [List.mem_cons, List.not_mem_nil, or_false] at hp
      rcases hp with rfl | rfl | rfl | rfl <;> first | rfl | exact congrArg I (by omega) | exact congrArg Value.bool (by simp <;> omega) | exact congrArg Value.bool (by simp)⟩
    | exact ⟨rfl, ⟨rfl, rfl, by
      intro p hp
      simp only [List.mem_cons, List.not_mem_nil, or_false] at hp
      rcases hp with rfl | rfl | rfl | rfl <;> first | rfl | exact congrArg I (by omega) | exact congrArg Value.bool (by simp <;> omega) | exact congrArg Value.bool (by simp)⟩, rfl⟩

set_option maxHeartbeats 1000000 in
set_option maxRecDepth 100000 in
theorem p34_4 {v : World} {a : Act} {b o n cap ob : Nat} {tg to tn tc : Nat} {x : Int} (ht : tn ≤ 1000000) (cx : v.cell? ⟨tg, to, none⟩ = some (I x)) (hA : Fl 54 [(0, .slice (some ⟨b, o, none⟩) n cap), (5, .slice (some ⟨ob, 0, none⟩) n n), (6, .slice (some ⟨tg, to, none⟩) (tn + 1) (tc + 1))] a) :
    q34_4.wp Try.prog (fun e a' w' => e = .normal ∧ (Fl 54 [(0, .slice (some ⟨b, o, none⟩) n cap), (5, .slice (some ⟨ob, 0, none⟩) n n), (6, .slice (some ⟨tg, to, none⟩) (tn + 1) (tc + 1)), (7, I x)] a' ∧ w' = v)) a v := by
  obtain ⟨hsz, hd, hp⟩ := hA
  obtain ⟨u, rfl, hg⟩ := litN hsz hd
  simp only [List.forall_mem_cons, hg] at hp
  obtain ⟨u0, u5, u6, -⟩ := hp
  clear hg hsz hd
  unfold q34_4 C34 Try.f34 seq1 seq2 blockC loopC
  simp only [Option.getD_some, lits, Nat.reduceAdd, u0, u5, u6]
  clear u0 u5 u6
  go_wp2_with fail
  first
    | exact ⟨⟨rfl, rfl, by
      intro p hp
      simp only [List.mem_cons, List.not_mem_nil, or_false] at hp
      rcases hp with rfl | rfl | rfl | rfl <;> first | rfl | exact congrArg I (by omega) | exact congrArg Value.bool (by simp <;> omega) | exact congrArg Value.bool (by simp)⟩, rfl⟩
    | exact ⟨rfl, rfl, by
      intro p hp
      simp only [List.mem_cons, List.not_mem_nil, or_false] at hp
      rcases hp with rfl | rfl | rfl | rfl <;> first | rfl | exact congrArg I (by omega) | exact congrArg Value.bool (by simp <;> omega) | exact congrArg Value.bool (by simp)⟩
    | exact ⟨rfl, ⟨rfl, rfl, by
      intro p hp
      simp only [List.mem_cons, List.not_mem_nil, or_false] at hp
      rcases hp with rfl | rfl | rfl | rfl <;> first | rfl | exact congrArg I (by omega) | exact congrArg Value.bool (by simp <;> omega) | exact congrArg Value.bool (by simp)⟩, rfl⟩

set_option maxHeartbeats 1000000 in
set_option maxRecDepth 100000 in
theorem p34_5_a {v : World} {a : Act} {b o n cap ob : Nat} {tg to tn tc : Nat} {x : Int} (ht : tn ≤ tc) (htc : tc < 9223372036854775807) (h0 : ¬ tc = 0) (hA : Fl 54 [(0, .slice (some ⟨b, o, none⟩) n cap), (5, .slice (some ⟨ob, 0, none⟩) n n), (6, .slice (some ⟨tg, to, none⟩) (tn + 1) (tc + 1)), (7, I x)] a) :
    q34_5.wp Try.prog (fun e a' w' => e = .normal ∧ (Fl 54 [(0, .slice (some ⟨b, o, none⟩) n cap), (5, .slice (some ⟨ob, 0, none⟩) n n), (6, .slice (some ⟨tg, to + 1, none⟩) tn tc), (7, I x)] a' ∧ w' = v)) a v := by
  obtain ⟨hsz, hd, hp⟩ := hA
  obtain ⟨u, rfl, hg⟩ := litN hsz hd
  simp only [List.forall_mem_cons, hg] at hp
  obtain ⟨u0, u5, u6, u7, -⟩ := hp
  clear hg hsz hd
  unfold q34_5 C34 Try.f34 seq1 seq2 blockC loopC
  simp only [Option.getD_some, lits, Nat.reduceAdd, u0, u5, u6, u7]
  clear u0 u5 u6 u7
  go_wp2_with fail
  first
    | exact ⟨⟨rfl, rfl, by
      intro p hp
      simp only [List.mem_cons, List.not_mem_nil, or_false] at hp
      rcases hp with rfl | rfl | rfl | rfl <;> first | rfl | exact congrArg I (by omega) | exact congrArg Value.bool (by simp <;> omega) | exact congrArg Value.bool (by simp)⟩, rfl⟩
    | exact ⟨rfl, rfl, by
      intro p hp
      simp only [List.mem_cons, List.not_mem_nil, or_false] at hp
      rcases hp with rfl | rfl | rfl | rfl <;> first | rfl | exact congrArg I (by omega) | exact congrArg Value.bool (by simp <;> omega) | exact congrArg Value.bool (by simp)⟩
    | exact ⟨rfl, ⟨rfl, rfl, by
      intro p hp
      simp only [List.mem_cons, List.not_mem_nil, or_false] at hp
      rcases hp with rfl | rfl | rfl | rfl <;> first | rfl | exact congrArg I (by omega) | exact congrArg Value.bool (by simp <;> omega) | exact congrArg Value.bool (by simp)⟩, rfl⟩

set_option maxHeartbeats 1000000 in
set_option maxRecDepth 100000 in
theorem p34_5_b {v : World} {a : Act} {b o n cap ob : Nat} {tg to : Nat} {x : Int}  (hA : Fl 54 [(0, .slice (some ⟨b, o, none⟩) n cap), (5, .slice (some ⟨ob, 0, none⟩) n n), (6, .slice (some ⟨tg, to, none⟩) (0 + 1) (0 + 1)), (7, I x)] a) :
    q34_5.wp Try.prog (fun e a' w' => e = .normal ∧ (Fl 54 [(0, .slice (some ⟨b, o, none⟩) n cap), (5, .slice (some ⟨ob, 0, none⟩) n n), (6, .slice (some ⟨tg, to, none⟩) 0 0), (7, I x)] a' ∧ w' = v)) a v := by
  obtain ⟨hsz, hd, hp⟩ := hA
  obtain ⟨u, rfl, hg⟩ := litN hsz hd
  simp only [List.forall_mem_cons, hg] at hp
  obtain ⟨u0, u5, u6, u7, -⟩ := hp
  clear hg hsz hd
  unfold q34_5 C34 Try.f34 seq1 seq2 blockC loopC
  simp only [Option.getD_some, lits, Nat.reduceAdd, u0, u5, u6, u7]
  clear u0 u5 u6 u7
  go_wp2_with fail
  first
    | exact ⟨⟨rfl, rfl, by
      intro p hp
      simp only [List.mem_cons, List.not_mem_nil, or_false] at hp
      rcases hp with rfl | rfl | rfl | rfl <;> first | rfl | exact congrArg I (by omega) | exact congrArg Value.bool (by simp <;> omega) | exact congrArg Value.bool (by simp)⟩, rfl⟩
    | exact ⟨rfl, rfl, by
      intro p hp
      simp only [List.mem_cons, List.not_mem_nil, or_false] at hp
      rcases hp with rfl | rfl | rfl | rfl <;> first | rfl | exact congrArg I (by omega) | exact congrArg Value.bool (by simp <;> omega) | exact congrArg Value.bool (by simp)⟩
    | exact ⟨rfl, ⟨rfl, rfl, by
      intro p hp
      simp only [List.mem_cons, List.not_mem_nil, or_false] at hp
      rcases hp with rfl | rfl | rfl | rfl <;> first | rfl | exact congrArg I (by omega) | exact congrArg Value.bool (by simp <;> omega) | exact congrArg Value.bool (by simp)⟩, rfl⟩

set_option maxHeartbeats 1000000 in
set_option maxRecDepth 100000 in
theorem p34_6 {v : World} {a : Act} {b o n cap ob : Nat} {tq : Value} {k : Nat}  (hA : Fl 54 [(0, .slice (some ⟨b, o, none⟩) n cap), (5, .slice (some ⟨ob, 0, none⟩) n n), (6, tq), (7, I (k : Nat))] a) :
    q34_6.wp Try.prog (fun e a' w' => e = .normal ∧ (Fl 54 [(0, .slice (some ⟨b, o, none⟩) n cap), (5, .slice (some ⟨ob, 0, none⟩) n n), (6, tq), (7, I (k : Nat)), (8, I (0 : Nat))] a' ∧ w' = v)) a v := by
  obtain ⟨hsz, hd, hp⟩ := hA
  obtain ⟨u, rfl, hg⟩ := litN hsz hd
  simp only [List.forall_mem_cons, hg] at hp
  obtain ⟨u0, u5, u6, u7, -⟩ := hp
  clear hg hsz hd
  unfold q34_6 C34 Try.f34 seq1 seq2 blockC loopC
  simp only [Option.getD_some, lits, Nat.reduceAdd, u0, u5, u6, u7]
  clear u0 u5 u6 u7
  go_wp2_with fail
  first
    | exact ⟨⟨rfl, rfl, by
      intro p hp
      simp only [List.mem_cons, List.not_mem_nil, or_false] at hp
      rcases hp with rfl | rfl | rfl | rfl | rfl <;> first | rfl | exact congrArg I (by omega) | exact congrArg Value.bool (by simp <;> omega) | exact congrArg Value.bool (by simp)⟩, rfl⟩
    | exact ⟨rfl, rfl, by
      intro p hp
      simp only [List.mem_cons, List.not_mem_nil, or_false] at hp
      rcases hp with rfl | rfl | rfl | rfl | rfl <;> first | rfl | exact congrArg I (by omega) | exact congrArg Value.bool (by simp <;> omega) | exact congrArg Value.bool (by simp)⟩
    | exact ⟨rfl, ⟨rfl, rfl, by
      intro p hp
      simp only [List.mem_cons, List.not_mem_nil, or_false] at hp
      rcases hp with rfl | rfl | rfl | rfl | rfl <;> first | rfl | exact congrArg I (by omega) | exact congrArg Value.bool (by simp <;> omega) | exact congrArg Value.bool (by simp)⟩, rfl⟩

set_option maxHeartbeats 1000000 in
set_option maxRecDepth 100000 in
theorem p34_7 {v : World} {a : Act} {b o n cap ob : Nat} {tq : Value} {k : Nat} {t : Nat} {q : Option Addr} {nn nc : Nat} (hn : n ≤ 100) (c0 : v.cell? ⟨b, o + k * 5, none⟩ = some (.slice q nn nc)) (hk : k < n) (hnn : nn ≤ 20) (hA : Fl 54 [(0, .slice (some ⟨b, o, none⟩) n cap), (5, .slice (some ⟨ob, 0, none⟩) n n), (6, tq), (7, I (k : Nat)), (8, I (t : Nat))] a) :
    q34_7.wp Try.prog (fun e a' w' => e = .normal ∧ (Fl 54 [(30, .bool (decide (t < nn))), (0, .slice (some ⟨b, o, none⟩) n cap), (5, .slice (some ⟨ob, 0, none⟩) n n), (6, tq), (7, I (k : Nat)), (8, I (t : Nat))] a' ∧ w' = v)) a v := by
  obtain ⟨hsz, hd, hp⟩ := hA
  obtain ⟨u, rfl, hg⟩ := litN hsz hd
  simp only [List.forall_mem_cons, hg] at hp
  obtain ⟨u0, u5, u6, u7, u8, -⟩ := hp
  clear hg hsz hd
  unfold q34_7 C34 Try.f34 seq1 seq2 blockC loopC
  simp only [Option.getD_some, lits, Nat.reduceAdd, u0, u5, u6, u7, u8]
  clear u0 u5 u6 u7 u8
  go_wp2_with fail
  first
    | exact ⟨⟨rfl, rfl, by
      intro p hp
      simp only [List.mem_cons, List.not_mem_nil, or_false] at hp
      rcases hp with rfl | rfl | rfl | rfl | rfl | rfl <;> first | rfl | exact congrArg I (by omega) | exact congrArg Value.bool (by simp <;> omega) | exact congrArg Value.bool (by simp)⟩, rfl⟩
    | exact ⟨rfl, rfl, by
      intro p hp
      simp only [List.mem_cons, List.not_mem_nil, or_false] at hp
      rcases hp with rfl | rfl | rfl | rfl | rfl | rfl <;> first | rfl | exact congrArg I (by omega) | exact congrArg Value.bool (by simp <;> omega) | exact congrArg Value.bool (by simp)⟩
    | exact ⟨rfl, ⟨rfl, rfl, by
      intro p hp
      simp only [List.mem_cons, List.not_mem_nil, or_false] at hp
      rcases hp with rfl | rfl | rfl | rfl | rfl | rfl <;> first | rfl | exact congrArg I (by omega) | exact congrArg Value.bool (by simp <;> omega) | exact congrArg Value.bool (by simp)⟩, rfl⟩

set_option maxHeartbeats 1000000 in
set_option maxRecDepth 100000 in
theorem p34_9 {v : World} {a : Act} {b o n cap ob : Nat} {tq : Value} {k : Nat} {t : Nat} {nb no nn nc x : Nat} (hn : n ≤ 100) (c0 : v.cell? ⟨b, o + k * 5, none⟩ = some (.slice (some ⟨nb, no, none⟩) nn nc)) (hk : k < n) (hnn : nn ≤ 20) (ht : t < nn) (cx : v.cell? ⟨nb, no + t, none⟩ = some (I (x : Nat))) (hA : Fl 54 [(0, .slice (some ⟨b, o, none⟩) n cap), (5, .slice (some ⟨ob, 0, none⟩) n n), (6, tq), (7, I (k : Nat)), (8, I (t : Nat))] a) :
    q34_9.wp Try.prog (fun e a' w' => e = .normal ∧ (Fl 54 [(0, .slice (some ⟨b, o, none⟩) n cap), (5, .slice (some ⟨ob, 0, none⟩) n n), (6, tq), (7, I (k : Nat)), (8, I (t : Nat)), (9, I (x : Nat))] a' ∧ w' = v)) a v := by
  obtain ⟨hsz, hd, hp⟩ := hA
  obtain ⟨u, rfl, hg⟩ := litN hsz hd
  simp only [List.forall_mem_cons, hg] at hp
  obtain ⟨u0, u5, u6, u7, u8, -⟩ := hp
  clear hg hsz hd
  unfold q34_9 C34 Try.f34 seq1 seq2 blockC loopC
  simp only [Option.getD_some, lits, Nat.reduceAdd, u0, u5, u6, u7, u8]
  clear u0 u5 u6 u7 u8
  go_wp2_with fail
  first
    | exact ⟨⟨rfl, rfl, by
      intro p hp
      simp only [List.mem_cons, List.not_mem_nil, or_false] at hp
      rcases hp with rfl | rfl | rfl | rfl | rfl | rfl <;> first | rfl | exact congrArg I (by omega) | exact congrArg Value.bool (by simp <;> omega) | exact congrArg Value.bool (by simp)⟩, rfl⟩
    | exact ⟨rfl, rfl, by
      intro p hp
      simp only [List.mem_cons, List.not_mem_nil, or_false] at hp
      rcases hp with rfl | rfl | rfl | rfl | rfl | rfl <;> first | rfl | exact congrArg I (by omega) | exact congrArg Value.bool (by simp <;> omega) | exact congrArg Value.bool (by simp)⟩
    | exact ⟨rfl, ⟨rfl, rfl, by
      intro p hp
      simp only [List.mem_cons, List.not_mem_nil, or_false] at hp
      rcases hp with rfl | rfl | rfl | rfl | rfl | rfl <;> first | rfl | exact congrArg I (by omega) | exact congrArg Value.bool (by simp <;> omega) | exact congrArg Value.bool (by simp)⟩, rfl⟩

set_option maxHeartbeats 1000000 in
set_option maxRecDepth 100000 in
theorem p34_10 {v : World} {a : Act} {b o n cap ob : Nat} {tq : Value} {k : Nat} {t : Nat} {x : Nat} {y : Bool} (hn : n ≤ 100) (hx : x < n) (c : v.cell? ⟨ob, x, none⟩ = some (.bool y)) (hA : Fl 54 [(0, .slice (some ⟨b, o, none⟩) n cap), (5, .slice (some ⟨ob, 0, none⟩) n n), (6, tq), (7, I (k : Nat)), (8, I (t : Nat)), (9, I (x : Nat))] a) :
    q34_10.wp Try.prog (fun e a' w' => e = .normal ∧ (Fl 54 [(45, .bool (!y)), (0, .slice (some ⟨b, o, none⟩) n cap), (5, .slice (some ⟨ob, 0, none⟩) n n), (6, tq), (7, I (k : Nat)), (8, I (t : Nat)), (9, I (x : Nat))] a' ∧ w' = v)) a v := by
  obtain ⟨hsz, hd, hp⟩ := hA
  obtain ⟨u, rfl, hg⟩ := litN hsz hd
  simp only [List.forall_mem_cons, hg] at hp
  obtain ⟨u0, u5, u6, u7, u8, u9, -⟩ := hp
  clear hg hsz hd
  unfold q34_10 C34 Try.f34 seq1 seq2 blockC loopC
  simp only [Option.getD_some, lits, Nat.reduceAdd, u0, u5, u6, u7, u8, u9]
  clear u0 u5 u6 u7 u8 u9
  go_wp2_with fail
  first
    | exact ⟨⟨rfl, rfl, by
      intro p hp
      simp only [List.mem_cons, List.not_mem_nil, or_false] at hp
      rcases hp with rfl | rfl | rfl | rfl | rfl | rfl | rfl <;> first | rfl | exact congrArg I (by omega) | exact congrArg Value.bool (by simp <;> omega) | exact congrArg Value.bool (by simp)⟩, rfl⟩
    | exact ⟨rfl, rfl, by
      intro p hp
      simp only [List.mem_cons, List.not_mem_nil, or_false] at hp
      rcases hp with rfl | rfl | rfl | rfl | rfl | rfl | rfl <;> first | rfl | exact congrArg I (by omega) | exact congrArg Value.bool (by simp <;> omega) | exact congrArg Value.bool (by simp)⟩
    | exact ⟨rfl, ⟨rfl, rfl, by
      intro p hp
      simp only [List.mem_cons, List.not_mem_nil, or_false] at hp
      rcases hp with rfl | rfl | rfl | rfl | rfl | rfl | rfl <;> first | rfl | exact congrArg I (by omega) | exact congrArg Value.bool (by simp <;> omega) | exact congrArg Value.bool (by simp)⟩, rfl⟩

set_option maxHeartbeats 1000000 in
set_option maxRecDepth 100000 in
theorem p34_11 {v : World} {a : Act} {b o n cap ob : Nat} {tq : Value} {k : Nat} {t : Nat} {x : Nat} {y : Bool} (hn : n ≤ 100) (hx : x < n) (c : v.cell? ⟨ob, x, none⟩ = some (.bool y)) (f : v.frozen? ⟨ob, x, none⟩ = false) (hA : Fl 54 [(0, .slice (some ⟨b, o, none⟩) n cap), (5, .slice (some ⟨ob, 0, none⟩) n n), (6, tq), (7, I (k : Nat)), (8, I (t : Nat)), (9, I (x : Nat))] a) :
    q34_11.wp Try.prog (fun e a' w' => e = .normal ∧ (Fl 54 [(0, .slice (some ⟨b, o, none⟩) n cap), (5, .slice (some ⟨ob, 0, none⟩) n n), (6, tq), (7, I (k : Nat)), (8, I (t : Nat)), (9, I (x : Nat))] a' ∧ w' = v.setCell ⟨ob, x, none⟩ (.bool true))) a v := by
  obtain ⟨hsz, hd, hp⟩ := hA
  obtain ⟨u, rfl, hg⟩ := litN hsz hd
  simp only [List.forall_mem_cons, hg] at hp
  obtain ⟨u0, u5, u6, u7, u8, u9, -⟩ := hp
  clear hg hsz hd
  unfold q34_11 C34 Try.f34 seq1 seq2 condA blockC loopC
  simp only [Option.getD_some, lits, Nat.reduceAdd, u0, u5, u6, u7, u8, u9]
  clear u0 u5 u6 u7 u8 u9
  go_wp2_with fail
  first
    | exact ⟨⟨rfl, rfl, by
      intro p hp
      simp only [List.mem_cons, List.not_mem_nil, or_false] at hp
      rcases hp with rfl | rfl | rfl | rfl | rfl | rfl <;> first | rfl | exact congrArg I (by omega) | exact congrArg Value.bool (by simp <;> omega) | exact congrArg Value.bool (by simp)⟩, rfl⟩
    | exact ⟨rfl, rfl, by
      intro p hp
      simp only [List.mem_cons, List.not_mem_nil, or_false] at hp
      rcases hp with rfl | rfl | rfl | rfl | rfl | rfl <;> first | rfl | exact congrArg I (by omega) | exact congrArg Value.bool (by simp <;> omega) | exact congrArg Value.bool (by simp)⟩
    | exact ⟨rfl, ⟨rfl, rfl, by
      intro p hp
      simp only [List.mem_cons, List.not_mem_nil, or_false] at hp
      rcases hp with rfl | rfl | rfl | rfl | rfl | rfl <;> first | rfl | exact congrArg I (by omega) | exact congrArg Value.bool (by simp <;> omega) | exact congrArg Value.bool (by simp)⟩, rfl⟩

set_option maxHeartbeats 1000000 in
set_option maxRecDepth 100000 in
theorem p34_12 {v : World} {a : Act} {b o n cap ob : Nat} {tq : Value} {k : Nat} {t : Nat} {x : Nat} {Z : Nat → Prop} {xs : List Int} (hO : QI Z v tq xs) (hZ : ∀ i, Z i → i < v.heap.size) (hl : xs.length ≤ 1000000) (hA : Fl 54 [(0, .slice (some ⟨b, o, none⟩) n cap), (5, .slice (some ⟨ob, 0, none⟩) n n), (6, tq), (7, I (k : Nat)), (8, I (t : Nat)), (9, I (x : Nat))] a) :
    q34_12.wp Try.prog (fun e a' w' => e = .normal ∧ ∃ tq', (Fl 54 [(0, .slice (some ⟨b, o, none⟩) n cap), (5, .slice (some ⟨ob, 0, none⟩) n n), (6, tq'), (7, I (k : Nat)), (8, I (t : Nat))] a' ∧ QI Z w' tq' (xs ++ [((x : Nat) : Int)]) ∧ Kp Z v w')) a v := by
  have HO : Hid (QI Z v tq xs) := hO
  have HZ : Hid (∀ i, Z i → i < v.heap.size) := hZ
  clear hO hZ
  obtain ⟨hsz, hd, hp⟩ := hA
  obtain ⟨u, rfl, hg⟩ := litN hsz hd
  simp only [List.forall_mem_cons, hg] at hp
  obtain ⟨u0, u5, u6, u7, u8, u9, -⟩ := hp
  clear hg hsz hd
  unfold q34_12 C34 Try.f34 seq1 seq2 condA blockC loopC
  simp only [Option.getD_some, lits, Nat.reduceAdd, u0, u5, u6, u7, u8, u9]
  clear u0 u5 u6 u7 u8 u9
  go_wp2_with (first
    | (at_builtin; refine wp_appQ (n := (x : Nat)) rfl (.tmp 49) (.tmp 51) rfl rfl rfl HO.out HZ.out hl ?_; intro tq' w' hO' hk' hb' hsz'; have H' : Hid (QI Z w' tq' (xs ++ [((x : Nat) : Int)]) ∧ Kp Z v w') := ⟨hO', hk'⟩; clear hO' hk' hb' hsz'))
  exact ⟨tq', ⟨rfl, rfl, by
    intro p hp
    simp only [List.mem_cons, List.not_mem_nil, or_false] at hp
    rcases hp with rfl | rfl | rfl | rfl | rfl <;> first | rfl | exact congrArg I (by omega) | exact congrArg Value.bool (by simp <;> omega) | exact congrArg Value.bool (by simp)⟩, H'.out⟩

set_option maxHeartbeats 1000000 in
set_option maxRecDepth 100000 in
theorem p34_8 {v : World} {a : Act} {b o n cap ob : Nat} {tq : Value} {k : Nat} {t : Nat} (ht : t < 100) (hA : Fl 54 [(0, .slice (some ⟨b, o, none⟩) n cap), (5, .slice (some ⟨ob, 0, none⟩) n n), (6, tq), (7, I (k : Nat)), (8, I (t : Nat))] a) :
    q34_8.wp Try.prog (fun e a' w' => e = .normal ∧ (Fl 54 [(0, .slice (some ⟨b, o, none⟩) n cap), (5, .slice (some ⟨ob, 0, none⟩) n n), (6, tq), (7, I (k : Nat)), (8, I ((t + 1 : Nat) : Int))] a' ∧ w' = v)) a v := by
  obtain ⟨hsz, hd, hp⟩ := hA
  obtain ⟨u, rfl, hg⟩ := litN hsz hd
  simp only [List.forall_mem_cons, hg] at hp
  obtain ⟨u0, u5, u6, u7, u8, -⟩ := hp
  clear hg hsz hd
  unfold q34_8 C34 Try.f34 seq1 seq2 blockC loopC
  simp only [Option.getD_some, lits, Nat.reduceAdd, u0, u5, u6, u7, u8]
  clear u0 u5 u6 u7 u8
  go_wp2_with fail
  first
    | exact ⟨⟨rfl, rfl, by
      intro p hp
      simp only [List.mem_cons, List.not_mem_nil, or_false] at hp
      rcases hp with rfl | rfl | rfl | rfl | rfl <;> first | rfl | exact congrArg I (by omega) | exact congrArg Value.bool (by simp <;> omega) | exact congrArg Value.bool (by simp)⟩, rfl⟩
    | exact ⟨rfl, rfl, by
      intro p hp
      simp only [List.mem_cons, List.not_mem_nil, or_false] at hp
      rcases hp with rfl | rfl | rfl | rfl | rfl <;> first | rfl | exact congrArg I (by omega) | exact congrArg Value.bool (by simp <;> omega) | exact congrArg Value.bool (by simp)⟩
    | exact ⟨rfl, ⟨rfl, rfl, by
      intro p hp
      simp only [List.mem_cons, List.not_mem_nil, or_false] at hp
      rcases hp with rfl | rfl | rfl | rfl | rfl <;> first | rfl | exact congrArg I (by omega) | exact congrArg Value.bool (by simp <;> omega) | exact congrArg Value.bool (by simp)⟩, rfl⟩

set_option maxHeartbeats 1000000 in
set_option maxRecDepth 100000 in
theorem p34_13 {v : World} {a : Act} {b o n cap ob : Nat}  (hA : Fl 54 [(0, .slice (some ⟨b, o, none⟩) n cap), (5, .slice (some ⟨ob, 0, none⟩) n n)] a) :
    q34_13.wp Try.prog (fun e a' w' => e = .normal ∧ (Fl 54 [(4, .slice (some ⟨ob, 0, none⟩) n n)] a' ∧ w' = v)) a v := by
  obtain ⟨hsz, hd, hp⟩ := hA
  obtain ⟨u, rfl, hg⟩ := litN hsz hd
  simp only [List.forall_mem_cons, hg] at hp
  obtain ⟨u0, u5, -⟩ := hp
  clear hg hsz hd
  unfold q34_13 C34 Try.f34 seq1 seq2
  simp only [Option.getD_some, lits, Nat.reduceAdd, u0, u5]
  clear u0 u5
  go_wp2_with fail
  first
    | exact ⟨⟨rfl, rfl, by
      intro p hp
      simp only [List.mem_cons, List.not_mem_nil, or_false] at hp
      rcases hp with rfl <;> first | rfl | exact congrArg I (by omega) | exact congrArg Value.bool (by simp <;> omega) | exact congrArg Value.bool (by simp)⟩, rfl⟩
    | exact ⟨rfl, rfl, by
      intro p hp
      simp only [List.mem_cons, List.not_mem_nil, or_false] at hp
      rcases hp with rfl <;> first | rfl | exact congrArg I (by omega) | exact congrArg Value.bool (by simp <;> omega) | exact congrArg Value.bool (by simp)⟩
    | exact ⟨rfl, ⟨rfl, rfl, by
      intro p hp
      simp only [List.mem_cons, List.not_mem_nil, or_false] at hp
      rcases hp with rfl <;> first | rfl | exact congrArg I (by omega) | exact congrArg Value.bool (by simp <;> omega) | exact congrArg Value.bool (by simp)⟩, rfl⟩

theorem in34 {w : World} {R : Value → World → Prop} {x0 x1 : Value} (h : ∀ a, Fl 54 [(0, x0), (1, x1)] a → C34.wp Try.prog (bodyPost Try.prog Try.f34 (Ret R)) a w) : Calls Try.prog 34 #[x0, x1] w (Ret R) :=
  calls_of_wp Try.func34 (show Try.f34.body = some C34 by kernel_rfl) (by
    rw [Try.ntmps34]
    exact h _ (fl_enter _ _ 54 (by simp) _ (by intro p hp; simp only [List.mem_cons, List.not_mem_nil, or_false] at hp; rcases hp with rfl | rfl <;> rfl)))

/-- What is marked, and what is to be gone on from. -/
structure Wq (N : Nat → List Nat) (n key : Nat) (M : Nat → Bool) (L : List Nat) : Prop where
  marks : ∀ k, M k = true → k < n ∧ Rch N key k
  todo : ∀ k ∈ L, k < n ∧ (k = key ∨ M k = true)
  clo : ∀ j, j = key ∨ M j = true → j ∈ L ∨ ∀ i ∈ N j, M i = true
theorem Wq.done {N : Nat → List Nat} {n key : Nat} {M : Nat → Bool} (h : Wq N n key M []) (k : Nat) : M k = true ↔ Rch N key k := by
  refine ⟨fun hk => (h.marks k hk).2, fun hk => ?_⟩
  have : ∀ a b, Rch N a b → (a = key ∨ M a = true) → M b = true := by
    intro a b hr
    induction hr with
    | one hj => exact fun ha => ((h.clo _ ha).resolve_left (by simp)) _ hj
    | step hj _ ih => exact fun ha => ih (.inr (((h.clo _ ha).resolve_left (by simp)) _ hj))
  exact this key k hk (.inl rfl)
/-- While the needs of k are gone through. -/
structure Wt (N : Nat → List Nat) (n key k t : Nat) (M : Nat → Bool) (L : List Nat) : Prop where
  marks : ∀ k, M k = true → k < n ∧ Rch N key k
  todo : ∀ k ∈ L, k < n ∧ (k = key ∨ M k = true)
  clo : ∀ j, j = key ∨ M j = true → j = k ∨ j ∈ L ∨ ∀ i ∈ N j, M i = true
  here : ∀ i ∈ (N k).take t, M i = true
  from_ : k = key ∨ M k = true
theorem Wq.pop {N : Nat → List Nat} {n key k : Nat} {M : Nat → Bool} {L : List Nat} (h : Wq N n key M (k :: L)) : Wt N n key k 0 M L :=
  ⟨h.marks, fun j hj => h.todo j (by simp [hj]), fun j hj => by
    rcases h.clo j hj with h | h
    · rcases List.mem_cons.1 h with rfl | h
      · exact .inl rfl
      · exact .inr (.inl h)
    · exact .inr (.inr h), fun i hi => by simp at hi, (h.todo k (by simp)).2⟩
theorem Wt.old {N : Nat → List Nat} {n key k t x : Nat} {M : Nat → Bool} {L : List Nat} (h : Wt N n key k t M L) (hx : (N k)[t]? = some x) (hm : M x = true) : Wt N n key k (t + 1) M L :=
  ⟨h.marks, h.todo, h.clo, fun i hi => by
    rw [List.take_add_one, hx] at hi
    rcases List.mem_append.1 hi with hi | hi
    · exact h.here i hi
    · simp at hi; subst hi; exact hm, h.from_⟩
theorem Wt.new {N : Nat → List Nat} {n key k t x : Nat} {M : Nat → Bool} {L : List Nat} (h : Wt N n key k t M L) (hx : (N k)[t]? = some x) (hxn : x < n) : Wt N n key k (t + 1) (fun i => i == x || M i) (L ++ [x]) := by
  have hr : Rch N key x := by
    have hm : x ∈ N k := List.mem_of_getElem? hx
    rcases h.from_ with rfl | hk
    · exact .one hm
    · exact (h.marks k hk).2.snoc hm
  refine ⟨fun i hi => ?_, fun i hi => ?_, fun j hj => ?_, fun i hi => ?_, h.from_.imp id (fun h => by simp [h])⟩
  · simp at hi
    rcases hi with rfl | hi
    · exact ⟨hxn, hr⟩
    · exact h.marks i hi
  · rcases List.mem_append.1 hi with hi | hi
    · exact ⟨(h.todo i hi).1, (h.todo i hi).2.imp id (fun h => by simp [h])⟩
    · simp at hi; subst hi; exact ⟨hxn, .inr (by simp)⟩
  · by_cases e : j = x
    · subst e; exact .inr (.inl (by simp))
    · have hj' : j = key ∨ M j = true := hj.imp id (fun h => by simp [e] at h; exact h)
      rcases h.clo j hj' with h | h | h
      · exact .inl h
      · exact .inr (.inl (by simp [h]))
      · exact .inr (.inr fun i hi => by simp [h i hi])
  · rw [List.take_add_one, hx] at hi
    rcases List.mem_append.1 hi with hi | hi
    · simp [h.here i hi]
    · simp at hi; simp [hi]
theorem Wt.end_ {N : Nat → List Nat} {n key k t : Nat} {M : Nat → Bool} {L : List Nat} (h : Wt N n key k t M L) (ht : (N k).length ≤ t) : Wq N n key M L :=
  ⟨h.marks, h.todo, fun j hj => by
    rcases h.clo j hj with rfl | h' | h'
    · refine .inr fun i hi => h.here i ?_
      rw [List.take_of_length_le ht]; exact hi
    · exact .inl h'
    · exact .inr h'⟩
theorem rowIs_kp' {Z : Nat → Prop} {w w' : World} {b t n : Nat} {f : Nat → Value} (h : w.rowIs b t n f) (k : Kp Z w w') (hb : Z b) : w'.rowIs b t n f := h.of_block (k.block b hb)

set_option maxHeartbeats 2000000 in
theorem reached_any {Z : Nat → Prop} {w : World} {x0 : Value} {l : List Rc} {key : Nat} (hl : RL Z w x0 l) (hZ : ∀ i, Z i → i < w.heap.size) (hR : RIGHT l) (hkey : key < l.length) :
    Calls Try.prog 34 #[x0, I (key : Nat)] w (Ret fun r w' => (∃ (ob : Nat) (M : Nat → Bool), r = .slice (some ⟨ob, 0, none⟩) l.length l.length ∧ w.heap.size ≤ ob ∧ w'.rowIs ob 4 l.length (fun k => .bool (M k)) ∧ ∀ k, M k = true ↔ Rch (nd l) key k) ∧ Kp (fun i => i < w.heap.size) w w') := by
  have h100 := short100 hR
  have hN := nd_lt hR
  obtain ⟨b, o, nv, hv, -⟩ : ∃ b o nv, x0 = .slice (some ⟨b, o, none⟩) l.length nv ∧ True := by
    obtain ⟨p, cap, rfl, -, h2⟩ := hl
    obtain ⟨blk, off, nv, rfl, -⟩ := h2 key _ (getD_some hkey r0)
    exact ⟨blk, off, cap, rfl, trivial⟩
  subst hv
  generalize nv = cap at hl
  refine in34 fun a hA => ?_
  rw [e34]
  refine wp_then (p34_0 hA) fun a0 w0 h => ?_
  obtain ⟨h0, rfl⟩ := h
  refine wp_then (p34_1 h100 h0) fun a1 w1 h => ?_
  obtain ⟨h1, rfl⟩ := h
  have hmade := World.rowIs_made w0 (.bool false) l.length 4
  have kA : Kp (fun i => i < w0.heap.size) w0 (w0.alloc (.cells (madeCells #[.bool false] l.length) 4)) := Kp.alloc (fun _ h => h) _
  have sA : (w0.alloc (.cells (madeCells #[.bool false] l.length) 4)).heap.size = w0.heap.size + 1 := by simp
  generalize w0.alloc (.cells (madeCells #[.bool false] l.length) 4) = W at hmade kA sA
  refine wp_then (p34_2 h1) fun a2 w2 h => ?_
  obtain ⟨h2, rfl⟩ := h
  have hq0 : QI (fun j => j < w0.heap.size ∨ j = w0.heap.size) (W.alloc (.cells #[I (key : Nat)] 3)) (.slice (some ⟨W.heap.size, 0, none⟩) 1 1) ([key].map Int.ofNat) := .inr ⟨W.heap.size, 0, 1, _, rfl, by omega, heap_alloc_new _ _, by simp, by simp, by unfold maxLen; omega, fun i x hi => by
    match i, hi with
    | 0, hi => cases hi; rfl
    | i + 1, hi => simp at hi⟩
  have hrow0 := hmade.alloc (.cells #[I (key : Nat)] 3)
  have k0 : Kp (fun i => i < w0.heap.size) w0 (W.alloc (.cells #[I (key : Nat)] 3)) := kA.trans (Kp.alloc (fun j hj => by omega) _)
  generalize W.alloc (.cells #[I (key : Nat)] 3) = W2 at hq0 hrow0 k0
  refine wp_seq (wp_while (t := 17) (fun c a u => ∃ (tq : Value) (M : Nat → Bool) (L : List Nat), c = 2 * cnt l.length (fun k => M k = false) + L.length ∧ c ≤ 300 ∧ Fl 54 [(0, .slice (some ⟨b, o, none⟩) l.length cap), (5, .slice (some ⟨w0.heap.size, 0, none⟩) l.length l.length), (6, tq)] a ∧ QI (fun j => j < w0.heap.size ∨ j = w0.heap.size) u tq (L.map Int.ofNat) ∧ u.rowIs w0.heap.size 4 l.length (fun k => .bool (M k)) ∧ Wq (nd l) l.length key M L ∧ Kp (fun j => j < w0.heap.size) w0 u) _
    ⟨_, fun _ => false, [key], rfl, ?_, h2, hq0, hrow0, ⟨fun k hk => (by cases hk), fun k hk => by simp at hk; subst hk; exact ⟨hkey, .inl rfl⟩, fun j hj => .inl (by rcases hj with rfl | h; simp; cases h)⟩, k0⟩ ?_)
  · refine Nat.le_trans (Nat.add_le_add_right (Nat.mul_le_mul_left 2 (cnt_le_m _ _)) _) ?_
    show 2 * l.length + 1 ≤ 300
    omega
  clear h2 h1 h0 hA hq0 hrow0 k0 hmade kA
  rintro c a6 u ⟨tq, M, L, rfl, hc, h6, hq, hrow, hW, ku⟩
  obtain ⟨tp, tc, rfl⟩ := hq.shape
  rw [List.length_map] at h6 hq
  refine ⟨_, p34_3 (by omega) h6, ?_⟩
  rintro a7 w7 ⟨h7, rfl⟩
  cases L with
  | nil =>
    refine .inl ⟨h7.hf (by simp), ?_⟩
    show Code.wp _ _ _ _ _
    refine wp_then (p34_13 (b := b) (o := o) (n := l.length) (cap := cap) (ob := w0.heap.size) (h7.sub (by simp))) fun a8 w8 h => ?_
    obtain ⟨h8, rfl⟩ := h
    exact wp_ret (fin1 rfl h8 _ (.head _) ⟨⟨w0.heap.size, M, rfl, Nat.le_refl _, hrow, hW.done⟩, ku⟩)
  | cons k L =>
    refine .inr ⟨h7.hd (by simp), ?_⟩
    refine wp_block ?_
    obtain ⟨g, off, cp, e, hcx, hq', hcp, hlc⟩ := QI.head (x := (k : Int)) (xs := L.map Int.ofNat) hq
    have hkn : k < l.length := (hW.todo k (by simp)).1
    rw [List.length_map] at e hq' hlc
    have e' : tp = some ⟨g, off, none⟩ ∧ tc = cp + 1 := by injection e with e1 e2 e3; exact ⟨e1, e3⟩
    obtain ⟨rfl, rfl⟩ := e'
    refine wp_then (p34_4 (tn := L.length) (by simp at hc; omega) hcx h7.tl) fun a8 w8 h => ?_
    obtain ⟨h8, rfl⟩ := h
    have popped : q34_5.wp Try.prog (fun e a' w' => e = .normal ∧ ∃ tq', (Fl 54 [(0, .slice (some ⟨b, o, none⟩) l.length cap), (5, .slice (some ⟨w0.heap.size, 0, none⟩) l.length l.length), (6, tq'), (7, I (k : Nat))] a' ∧ QI (fun j => j < w0.heap.size ∨ j = w0.heap.size) w8 tq' (L.map Int.ofNat) ∧ w' = w8)) a8 w8 := by
      by_cases h0 : cp = 0
      · subst h0
        have hL0 : L = [] := List.eq_nil_of_length_eq_zero (by omega)
        subst hL0
        refine wp_mono (p34_5_b h8) fun e a w h => ?_
        obtain ⟨he, h1, h2⟩ := h
        refine ⟨he, _, h1, ?_, h2⟩
        rcases hq' with ⟨h, _⟩ | ⟨g', off', cap', cur, e, hz, hb, x1, x2, x3, x4⟩
        · cases h
        · cases e
          exact .inr ⟨g, off, 0, cur, rfl, hz, hb, by omega, Nat.le_refl _, by unfold maxLen; omega, fun i y hi => by simp at hi⟩
      · refine wp_mono (p34_5_a hlc hcp h0 h8) fun e a w h => ?_
        obtain ⟨he, h1, h2⟩ := h
        exact ⟨he, _, h1, hq', h2⟩
    refine wp_then popped fun a9 w9 h => ?_
    obtain ⟨tq, h9, hq9, rfl⟩ := h
    clear popped hq hq' hcx
    refine wp_then (p34_6 h9) fun a10 w10 h => ?_
    obtain ⟨h10, rfl⟩ := h
    have hndl : (nd l k).length = (l.getD k r0).needs.length := by simp [nd]
    have hnd20 := nd_len hR hkn
    refine wp_while (t := 30) (fun c a u => ∃ (t : Nat) (tq : Value) (M' : Nat → Bool) (L' : List Nat), t ≤ (l.getD k r0).needs.length ∧ c = (l.getD k r0).needs.length - t ∧ Fl 54 [(0, .slice (some ⟨b, o, none⟩) l.length cap), (5, .slice (some ⟨w0.heap.size, 0, none⟩) l.length l.length), (6, tq), (7, I (k : Nat)), (8, I (t : Nat))] a ∧ QI (fun j => j < w0.heap.size ∨ j = w0.heap.size) u tq (L'.map Int.ofNat) ∧ u.rowIs w0.heap.size 4 l.length (fun k => .bool (M' k)) ∧ Wt (nd l) l.length key k t M' L' ∧ 2 * cnt l.length (fun k => M' k = false) + L'.length ≤ 2 * cnt l.length (fun k => M k = false) + L.length ∧ Kp (fun j => j < w0.heap.size) w0 u) _
      ⟨0, tq, M, L, Nat.zero_le _, rfl, h10, hq9, hrow, hW.pop, Nat.le_refl _, ku⟩ ?_
    clear h10 h9 h8 h7 h6 hq9 hrow ku
    rintro c a13 u ⟨t, tq, M', L', ht, rfl, h13, hq, hrow, hWt, hms, ku⟩
    have hlu := hl.kp (ku.mono hZ)
    obtain ⟨b', o', nv, e, -, -, hn, c0, -⟩ := hlu.at hkn
    cases e
    have hn' := hn
    obtain ⟨q, nc, rfl, hqq, -⟩ := hn
    have hnn : (l.getD k r0).needs.length ≤ 20 := by omega
    refine ⟨_, p34_7 h100 c0 hkn hnn h13, ?_⟩
    rintro a14 w14 ⟨h14, rfl⟩
    by_cases hlt : t < (l.getD k r0).needs.length
    · refine .inr ⟨h14.hd (by simp only [decide_eq_true_eq]; exact hlt), ?_⟩
      obtain ⟨nb, no, rfl, -, hx⟩ := hn'.at hlt
      obtain ⟨x, hxe, hxl, hxm, -⟩ := needs_ok hR hkn hlt
      rw [hxe] at hx
      have hnx : (nd l k)[t]? = some x := by unfold nd; rw [List.getElem?_map, getD_some hlt 0, hxe]; simp
      refine wp_seq (wp_block ?_)
      refine wp_then (p34_9 h100 c0 hkn hnn hlt hx h14.tl) fun a15 w15 h => ?_
      obtain ⟨h15, rfl⟩ := h
      refine wp_then (p34_10 (y := M' x) h100 hxl (hrow.cell hxl) h15) fun a16 w16 h => ?_
      obtain ⟨h16, rfl⟩ := h
      have next : ∀ {a' : Act} {v' : World} {tq' : Value} {M'' : Nat → Bool} {L'' : List Nat}, Fl 54 [(0, .slice (some ⟨b, o, none⟩) l.length cap), (5, .slice (some ⟨w0.heap.size, 0, none⟩) l.length l.length), (6, tq'), (7, I (k : Nat)), (8, I (t : Nat))] a' → QI (fun j => j < w0.heap.size ∨ j = w0.heap.size) v' tq' (L''.map Int.ofNat) → v'.rowIs w0.heap.size 4 l.length (fun k => .bool (M'' k)) → Wt (nd l) l.length key k (t + 1) M'' L'' → 2 * cnt l.length (fun k => M'' k = false) + L''.length ≤ 2 * cnt l.length (fun k => M k = false) + L.length → Kp (fun j => j < w0.heap.size) w0 v' →
          q34_8.wp Try.prog (fun e a'' w'' => e = .normal ∧ (∃ n', n' < (l.getD k r0).needs.length - t ∧ ∃ (t : Nat) (tq : Value) (M' : Nat → Bool) (L' : List Nat), t ≤ (l.getD k r0).needs.length ∧ n' = (l.getD k r0).needs.length - t ∧ Fl 54 [(0, .slice (some ⟨b, o, none⟩) l.length cap), (5, .slice (some ⟨w0.heap.size, 0, none⟩) l.length l.length), (6, tq), (7, I (k : Nat)), (8, I (t : Nat))] a'' ∧ QI (fun j => j < w0.heap.size ∨ j = w0.heap.size) w'' tq (L'.map Int.ofNat) ∧ w''.rowIs w0.heap.size 4 l.length (fun k => .bool (M' k)) ∧ Wt (nd l) l.length key k t M' L' ∧ 2 * cnt l.length (fun k => M' k = false) + L'.length ≤ 2 * cnt l.length (fun k => M k = false) + L.length ∧ Kp (fun j => j < w0.heap.size) w0 w'')) a' v' := by
        intro a' v' tq' M'' L'' hA' x1 x2 x3 x4 x5
        refine wp_last (p34_8 (by omega) hA') fun a18 w18 h => ?_
        obtain ⟨h18, rfl⟩ := h
        exact ⟨rfl, (l.getD k r0).needs.length - (t + 1), by omega, t + 1, tq', M'', L'', by omega, rfl, h18, x1, x2, x3, x4, x5⟩
      cases hMx : M' x with
      | true =>
        refine wp_cond_false (h16.hf (by rw [hMx]; rfl)) (wp_skip ?_)
        show Code.wp _ _ _ _ _
        refine wp_mono (next (h16.sub (by simp)) hq hrow (hWt.old hnx hMx) hms ku) fun e a w h => ?_
        obtain ⟨rfl, h⟩ := h
        exact h
      | false =>
        refine wp_cond_true (h16.hd (by rw [hMx]; rfl)) ?_
        refine wp_then (p34_11 h100 hxl (hrow.cell hxl) (hrow.frozen x) h16.tl) fun a17 w17 h => ?_
        obtain ⟨h17, rfl⟩ := h
        have hrow1 : (w16.setCell ⟨w0.heap.size, x, none⟩ (.bool true)).rowIs w0.heap.size 4 l.length (fun i => .bool (i == x || M' i)) := (hrow.set x (.bool true)).congr fun i hi => by
          by_cases e : i = x
          · simp [e]
          · simp [e]
        have hq1 : QI (fun j => j < w0.heap.size ∨ j = w0.heap.size) (w16.setCell ⟨w0.heap.size, x, none⟩ (.bool true)) tq (L'.map Int.ofNat) := hq.stay fun g hg => Below.heap_setCell _ _ _ _ (fun e => (hq.lt g hg).2 (.inr e))
        have ku1 : Kp (fun j => j < w0.heap.size) w0 (w16.setCell ⟨w0.heap.size, x, none⟩ (.bool true)) := ku.trans (Kp.setCell (Z := fun j => j < w0.heap.size) (p := ⟨w0.heap.size, x, none⟩) (show ¬ w0.heap.size < w0.heap.size from Nat.lt_irrefl _) _)
        generalize w16.setCell ⟨w0.heap.size, x, none⟩ (.bool true) = W3 at hrow1 hq1 ku1
        have hcnt : cnt l.length (fun i => (i == x || M' i) = false) < cnt l.length (fun i => M' i = false) := cnt_lt (fun i _ h => by simp at h; exact h.2) hxl (by simp) hMx
        refine wp_last (p34_12 hq1 (fun j hj => by rcases hj with hj | rfl; exact Nat.lt_of_lt_of_le hj ku1.size; exact hrow1.lt) (by rw [List.length_map]; simp only [List.length_cons] at hc; omega) h17) fun a18 w18 h => ?_
        obtain ⟨tq', h18, hq18, k18⟩ := h
        show Code.wp _ _ _ _ _
        refine wp_mono (next (M'' := fun i => (i == x || M' i)) (L'' := L' ++ [x]) h18 (by rw [List.map_append]; exact hq18) (rowIs_kp' hrow1 k18 (.inr rfl)) (hWt.new hnx hxl) (by simp only [List.length_append, List.length_cons, List.length_nil]; omega) (ku1.trans (k18.mono fun j hj => .inl hj))) fun e a w h => ?_
        obtain ⟨rfl, h⟩ := h
        exact h
    · refine .inl ⟨h14.hf (by simp only [decide_eq_false_iff_not]; exact hlt), ?_⟩
      refine ⟨2 * cnt l.length (fun k => M' k = false) + L'.length, by simp only [List.length_cons]; omega, tq, M', L', rfl, by simp only [List.length_cons] at hc; omega, h14.sub (by simp), hq, hrow, hWt.end_ (by omega), ku⟩
end Go.Proofs.Ytgohfdgkihoilaa.Rcp
