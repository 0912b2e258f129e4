/- What sameInts (17) and same (33) do: their pieces. (Made by wip/tools/mk17.py.) -/
import Derived.Test.YtgohfdgkihoilaaROd
set_option linter.unusedSimpArgs false
set_option linter.unusedVariables false
namespace Go.Proofs.Ytgohfdgkihoilaa.Rcp
open Go Go.RowKit Go.Deep Go.Maps

noncomputable def C17 : Code := Try.f17.body.getD .skip
noncomputable def q17_0 : Code := (seq1 C17)
noncomputable def q17_1 : Code := (seq1 (seq1 (seq2 C17)))
noncomputable def q17_2 : Code := (seq1 (condA (seq2 (seq1 (seq2 C17)))))
noncomputable def q17_3 : Code := (seq1 (seq1 (seq2 (seq2 C17))))
noncomputable def q17_4 : Code := (seq1 (seq1 (loopC (blockC (seq2 (seq1 (seq2 (seq2 C17))))))))
noncomputable def q17_6 : Code := (seq1 (blockC (seq1 (seq2 (loopC (blockC (seq2 (seq1 (seq2 (seq2 C17))))))))))
noncomputable def q17_7 : Code := (seq1 (condA (seq2 (blockC (seq1 (seq2 (loopC (blockC (seq2 (seq1 (seq2 (seq2 C17))))))))))))
noncomputable def q17_5 : Code := (seq2 (seq2 (loopC (blockC (seq2 (seq1 (seq2 (seq2 C17))))))))
noncomputable def q17_8 : Code := (seq1 (seq2 (seq2 (seq2 C17))))
noncomputable def K17_1 : Code := (.seq q17_6 (.cond ( .tmp 25 ) (.seq q17_7 .ret) .skip))
noncomputable def K17_0 : Code := (.loop (.seq (.seq q17_4 (.cond ( .tmp 14 ) .skip (.exit 0))) (.seq (.block 1 K17_1) q17_5)))
theorem e17 : C17 = (.seq q17_0 (.seq (.seq q17_1 (.cond ( .tmp 10 ) (.seq q17_2 .ret) .skip)) (.seq (.seq q17_3 (.block 0 K17_0)) (.seq q17_8 .ret)))) := by kernel_rfl

set_option maxHeartbeats 1000000 in
set_option maxRecDepth 100000 in
theorem p17_0 {v : World} {a : Act} {p q : Option Addr} {n c d : Nat}  (hA : Fl 26 [(0, .slice p n c), (1, .slice q n d)] a) :
    q17_0.wp Try.prog (fun e a' w' => e = .normal ∧ (Fl 26 [(0, .slice p n c), (1, .slice q n d)] a' ∧ w' = v)) a v := by
  obtain ⟨hsz, hd, hp⟩ := hA
  obtain ⟨u, rfl, hg⟩ := litN hsz hd
  simp only [List.forall_mem_cons, hg] at hp
  obtain ⟨u0, u1, -⟩ := hp
  clear hg hsz hd
  unfold q17_0 C17 Try.f17 seq1
  simp only [Option.getD_some, lits, Nat.reduceAdd, u0, u1]
  clear u0 u1
  go_wp2_with fail
  first
    | exact ⟨⟨rfl, rfl, by
      intro p hp
      simp only [List.mem_cons, List.not_mem_nil, or_false] at hp
      rcases hp with rfl | rfl <;> first | rfl | exact congrArg I (by omega) | exact congrArg Value.bool (by simp <;> omega) | exact congrArg Value.bool (by simp)⟩, rfl⟩
    | exact ⟨rfl, rfl, by
      intro p hp
      simp only [List.mem_cons, List.not_mem_nil, or_false] at hp
      rcases hp with rfl | rfl <;> first | rfl | exact congrArg I (by omega) | exact congrArg Value.bool (by simp <;> omega) | exact congrArg Value.bool (by simp)⟩
    | exact ⟨rfl, ⟨rfl, rfl, by
      intro p hp
      simp only [List.mem_cons, List.not_mem_nil, or_false] at hp
      rcases hp with rfl | rfl <;> first | rfl | exact congrArg I (by omega) | exact congrArg Value.bool (by simp <;> omega) | exact congrArg Value.bool (by simp)⟩, rfl⟩

set_option maxHeartbeats 1000000 in
set_option maxRecDepth 100000 in
theorem p17_1 {v : World} {a : Act} {p q : Option Addr} {n c d : Nat} (hn : n ≤ 17592186044416) (hA : Fl 26 [(0, .slice p n c), (1, .slice q n d)] a) :
    q17_1.wp Try.prog (fun e a' w' => e = .normal ∧ (Fl 26 [(10, .bool false), (0, .slice p n c), (1, .slice q n d)] a' ∧ w' = v)) a v := by
  obtain ⟨hsz, hd, hp⟩ := hA
  obtain ⟨u, rfl, hg⟩ := litN hsz hd
  simp only [List.forall_mem_cons, hg] at hp
  obtain ⟨u0, u1, -⟩ := hp
  clear hg hsz hd
  unfold q17_1 C17 Try.f17 seq1 seq2
  simp only [Option.getD_some, lits, Nat.reduceAdd, u0, u1]
  clear u0 u1
  go_wp2_with fail
  first
    | exact ⟨⟨rfl, rfl, by
      intro p hp
      simp only [List.mem_cons, List.not_mem_nil, or_false] at hp
      rcases hp with rfl | rfl | rfl <;> first | rfl | exact congrArg I (by omega) | exact congrArg Value.bool (by simp <;> omega) | exact congrArg Value.bool (by simp)⟩, rfl⟩
    | exact ⟨rfl, rfl, by
      intro p hp
      simp only [List.mem_cons, List.not_mem_nil, or_false] at hp
      rcases hp with rfl | rfl | rfl <;> first | rfl | exact congrArg I (by omega) | exact congrArg Value.bool (by simp <;> omega) | exact congrArg Value.bool (by simp)⟩
    | exact ⟨rfl, ⟨rfl, rfl, by
      intro p hp
      simp only [List.mem_cons, List.not_mem_nil, or_false] at hp
      rcases hp with rfl | rfl | rfl <;> first | rfl | exact congrArg I (by omega) | exact congrArg Value.bool (by simp <;> omega) | exact congrArg Value.bool (by simp)⟩, rfl⟩

set_option maxHeartbeats 1000000 in
set_option maxRecDepth 100000 in
theorem p17_3 {v : World} {a : Act} {p q : Option Addr} {n c d : Nat}  (hA : Fl 26 [(0, .slice p n c), (1, .slice q n d)] a) :
    q17_3.wp Try.prog (fun e a' w' => e = .normal ∧ (Fl 26 [(0, .slice p n c), (1, .slice q n d), (5, I (0 : Nat))] a' ∧ w' = v)) a v := by
  obtain ⟨hsz, hd, hp⟩ := hA
  obtain ⟨u, rfl, hg⟩ := litN hsz hd
  simp only [List.forall_mem_cons, hg] at hp
  obtain ⟨u0, u1, -⟩ := hp
  clear hg hsz hd
  unfold q17_3 C17 Try.f17 seq1 seq2
  simp only [Option.getD_some, lits, Nat.reduceAdd, u0, u1]
  clear u0 u1
  go_wp2_with fail
  first
    | exact ⟨⟨rfl, rfl, by
      intro p hp
      simp only [List.mem_cons, List.not_mem_nil, or_false] at hp
      rcases hp with rfl | rfl | rfl <;> first | rfl | exact congrArg I (by omega) | exact congrArg Value.bool (by simp <;> omega) | exact congrArg Value.bool (by simp)⟩, rfl⟩
    | exact ⟨rfl, rfl, by
      intro p hp
      simp only [List.mem_cons, List.not_mem_nil, or_false] at hp
      rcases hp with rfl | rfl | rfl <;> first | rfl | exact congrArg I (by omega) | exact congrArg Value.bool (by simp <;> omega) | exact congrArg Value.bool (by simp)⟩
    | exact ⟨rfl, ⟨rfl, rfl, by
      intro p hp
      simp only [List.mem_cons, List.not_mem_nil, or_false] at hp
      rcases hp with rfl | rfl | rfl <;> first | rfl | exact congrArg I (by omega) | exact congrArg Value.bool (by simp <;> omega) | exact congrArg Value.bool (by simp)⟩, rfl⟩

set_option maxHeartbeats 1000000 in
set_option maxRecDepth 100000 in
theorem p17_4 {v : World} {a : Act} {p q : Option Addr} {n c d : Nat} {i : Nat} (hn : n ≤ 17592186044416) (hA : Fl 26 [(0, .slice p n c), (1, .slice q n d), (5, I (i : Nat))] a) :
    q17_4.wp Try.prog (fun e a' w' => e = .normal ∧ (Fl 26 [(14, .bool (decide (i < n))), (0, .slice p n c), (1, .slice q n d), (5, I (i : Nat))] a' ∧ w' = v)) a v := by
  obtain ⟨hsz, hd, hp⟩ := hA
  obtain ⟨u, rfl, hg⟩ := litN hsz hd
  simp only [List.forall_mem_cons, hg] at hp
  obtain ⟨u0, u1, u5, -⟩ := hp
  clear hg hsz hd
  unfold q17_4 C17 Try.f17 seq1 seq2 blockC loopC
  simp only [Option.getD_some, lits, Nat.reduceAdd, u0, u1, u5]
  clear u0 u1 u5
  go_wp2_with fail
  first
    | exact ⟨⟨rfl, rfl, by
      intro p hp
      simp only [List.mem_cons, List.not_mem_nil, or_false] at hp
      rcases hp with rfl | rfl | rfl | rfl <;> first | rfl | exact congrArg I (by omega) | exact congrArg Value.bool (by simp <;> omega) | exact congrArg Value.bool (by simp)⟩, rfl⟩
    | exact ⟨rfl, rfl, by
      intro p hp
      simp only [List.mem_cons, List.not_mem_nil, or_false] at hp
      rcases hp with rfl | rfl | rfl | rfl <;> first | rfl | exact congrArg I (by omega) | exact congrArg Value.bool (by simp <;> omega) | exact congrArg Value.bool (by simp)⟩
    | exact ⟨rfl, ⟨rfl, rfl, by
      intro p hp
      simp only [List.mem_cons, List.not_mem_nil, or_false] at hp
      rcases hp with rfl | rfl | rfl | rfl <;> first | rfl | exact congrArg I (by omega) | exact congrArg Value.bool (by simp <;> omega) | exact congrArg Value.bool (by simp)⟩, rfl⟩

set_option maxHeartbeats 1000000 in
set_option maxRecDepth 100000 in
theorem p17_6 {v : World} {a : Act} {sb so tb to n c d i : Nat} {x : Int} (hn : n ≤ 17592186044416) (hi : i < n) (c1 : v.cell? ⟨sb, so + i, none⟩ = some (I x)) (c2 : v.cell? ⟨tb, to + i, none⟩ = some (I x)) (hA : Fl 26 [(0, .slice (some ⟨sb, so, none⟩) n c), (1, .slice (some ⟨tb, to, none⟩) n d), (5, I (i : Nat))] a) :
    q17_6.wp Try.prog (fun e a' w' => e = .normal ∧ (Fl 26 [(25, .bool false), (0, .slice (some ⟨sb, so, none⟩) n c), (1, .slice (some ⟨tb, to, none⟩) n d), (5, I (i : Nat))] a' ∧ ∃ m, w' = v.drewN m)) a v := by
  obtain ⟨hsz, hd, hp⟩ := hA
  obtain ⟨u, rfl, hg⟩ := litN hsz hd
  simp only [List.forall_mem_cons, hg] at hp
  obtain ⟨u0, u1, u5, -⟩ := hp
  clear hg hsz hd
  unfold q17_6 C17 Try.f17 seq1 seq2 blockC loopC
  simp only [Option.getD_some, lits, Nat.reduceAdd, u0, u1, u5]
  clear u0 u1 u5
  go_quiet (fail)
  first
    | exact ⟨⟨rfl, rfl, by
      intro p hp
      simp only [List.mem_cons, List.not_mem_nil, or_false] at hp
      rcases hp with rfl | rfl | rfl | rfl <;> first | rfl | exact congrArg I (by omega) | exact congrArg Value.bool (by simp <;> omega) | exact congrArg Value.bool (by simp)⟩, ⟨_, rfl⟩⟩
    | exact ⟨rfl, rfl, by
      intro p hp
      simp only [List.mem_cons, List.not_mem_nil, or_false] at hp
      rcases hp with rfl | rfl | rfl | rfl <;> first | rfl | exact congrArg I (by omega) | exact congrArg Value.bool (by simp <;> omega) | exact congrArg Value.bool (by simp)⟩
    | exact ⟨rfl, ⟨rfl, rfl, by
      intro p hp
      simp only [List.mem_cons, List.not_mem_nil, or_false] at hp
      rcases hp with rfl | rfl | rfl | rfl <;> first | rfl | exact congrArg I (by omega) | exact congrArg Value.bool (by simp <;> omega) | exact congrArg Value.bool (by simp)⟩, ⟨_, rfl⟩⟩

set_option maxHeartbeats 1000000 in
set_option maxRecDepth 100000 in
theorem p17_5 {v : World} {a : Act} {p q : Option Addr} {n c d : Nat} {i : Nat} (hi : i < 17592186044416) (hA : Fl 26 [(0, .slice p n c), (1, .slice q n d), (5, I (i : Nat))] a) :
    q17_5.wp Try.prog (fun e a' w' => e = .normal ∧ (Fl 26 [(0, .slice p n c), (1, .slice q n d), (5, I ((i + 1 : Nat) : Int))] a' ∧ w' = v)) a v := by
  obtain ⟨hsz, hd, hp⟩ := hA
  obtain ⟨u, rfl, hg⟩ := litN hsz hd
  simp only [List.forall_mem_cons, hg] at hp
  obtain ⟨u0, u1, u5, -⟩ := hp
  clear hg hsz hd
  unfold q17_5 C17 Try.f17 seq1 seq2 blockC loopC
  simp only [Option.getD_some, lits, Nat.reduceAdd, u0, u1, u5]
  clear u0 u1 u5
  go_wp2_with fail
  first
    | exact ⟨⟨rfl, rfl, by
      intro p hp
      simp only [List.mem_cons, List.not_mem_nil, or_false] at hp
      rcases hp with rfl | rfl | rfl <;> first | rfl | exact congrArg I (by omega) | exact congrArg Value.bool (by simp <;> omega) | exact congrArg Value.bool (by simp)⟩, rfl⟩
    | exact ⟨rfl, rfl, by
      intro p hp
      simp only [List.mem_cons, List.not_mem_nil, or_false] at hp
      rcases hp with rfl | rfl | rfl <;> first | rfl | exact congrArg I (by omega) | exact congrArg Value.bool (by simp <;> omega) | exact congrArg Value.bool (by simp)⟩
    | exact ⟨rfl, ⟨rfl, rfl, by
      intro p hp
      simp only [List.mem_cons, List.not_mem_nil, or_false] at hp
      rcases hp with rfl | rfl | rfl <;> first | rfl | exact congrArg I (by omega) | exact congrArg Value.bool (by simp <;> omega) | exact congrArg Value.bool (by simp)⟩, rfl⟩

set_option maxHeartbeats 1000000 in
set_option maxRecDepth 100000 in
theorem p17_8 {v : World} {a : Act}   (hA : Fl 26 [] a) :
    q17_8.wp Try.prog (fun e a' w' => e = .normal ∧ (Fl 26 [(4, .bool true)] a' ∧ w' = v)) a v := by
  obtain ⟨hsz, hd, hp⟩ := hA
  obtain ⟨u, rfl, hg⟩ := litN hsz hd
  clear hg hp hsz hd
  unfold q17_8 C17 Try.f17 seq1 seq2
  simp only [Option.getD_some, lits, Nat.reduceAdd]
  go_wp2_with fail
  first
    | exact ⟨⟨rfl, rfl, by
      intro p hp
      simp only [List.mem_cons, List.not_mem_nil, or_false] at hp
      rcases hp with rfl <;> first | rfl | exact congrArg I (by omega) | exact congrArg Value.bool (by simp <;> omega) | exact congrArg Value.bool (by simp)⟩, rfl⟩
    | exact ⟨rfl, rfl, by
      intro p hp
      simp only [List.mem_cons, List.not_mem_nil, or_false] at hp
      rcases hp with rfl <;> first | rfl | exact congrArg I (by omega) | exact congrArg Value.bool (by simp <;> omega) | exact congrArg Value.bool (by simp)⟩
    | exact ⟨rfl, ⟨rfl, rfl, by
      intro p hp
      simp only [List.mem_cons, List.not_mem_nil, or_false] at hp
      rcases hp with rfl <;> first | rfl | exact congrArg I (by omega) | exact congrArg Value.bool (by simp <;> omega) | exact congrArg Value.bool (by simp)⟩, rfl⟩

theorem in17 {w : World} {R : Value → World → Prop} {x0 x1 : Value} (h : ∀ a, Fl 26 [(0, x0), (1, x1)] a → C17.wp Try.prog (bodyPost Try.prog Try.f17 (Ret R)) a w) : Calls Try.prog 17 #[x0, x1] w (Ret R) :=
  calls_of_wp Try.func17 (show Try.f17.body = some C17 by kernel_rfl) (by
    rw [Try.ntmps17]
    exact h _ (fl_enter _ _ 26 (by simp) _ (by intro p hp; simp only [List.mem_cons, List.not_mem_nil, or_false] at hp; rcases hp with rfl | rfl <;> rfl)))

noncomputable def C33 : Code := Try.f33.body.getD .skip
noncomputable def q33_0 : Code := (seq1 C33)
noncomputable def q33_1 : Code := (seq1 (seq1 (seq2 C33)))
noncomputable def q33_2 : Code := (seq1 (condA (seq2 (seq1 (seq2 C33)))))
noncomputable def q33_3 : Code := (seq1 (seq1 (seq2 (seq2 C33))))
noncomputable def q33_4 : Code := (seq1 (seq1 (loopC (blockC (seq2 (seq1 (seq2 (seq2 C33))))))))
noncomputable def q33_6 : Code := (seq1 (blockC (seq1 (seq2 (loopC (blockC (seq2 (seq1 (seq2 (seq2 C33))))))))))
noncomputable def q33_7 : Code := (seq1 (condA (seq2 (blockC (seq1 (seq2 (loopC (blockC (seq2 (seq1 (seq2 (seq2 C33))))))))))))
noncomputable def q33_5 : Code := (seq2 (seq2 (loopC (blockC (seq2 (seq1 (seq2 (seq2 C33))))))))
noncomputable def q33_8 : Code := (seq1 (seq2 (seq2 (seq2 C33))))
noncomputable def K33_1 : Code := (.seq q33_6 (.cond ( .tmp 58 ) (.seq q33_7 .ret) .skip))
noncomputable def K33_0 : Code := (.loop (.seq (.seq q33_4 (.cond ( .tmp 45 ) .skip (.exit 0))) (.seq (.block 1 K33_1) q33_5)))
theorem e33 : C33 = (.seq q33_0 (.seq (.seq q33_1 (.cond ( .tmp 40 ) (.seq q33_2 .ret) .skip)) (.seq (.seq q33_3 (.block 0 K33_0)) (.seq q33_8 .ret)))) := by kernel_rfl

set_option maxHeartbeats 1000000 in
set_option maxRecDepth 100000 in
theorem p33_0 {v : World} {a : Act} {na nb : Value} {r : Rc}  (hA : Fl 59 [(0, .agg #[na, I r.level, I r.act, I r.value, I r.fin]), (1, .agg #[nb, I r.level, I r.act, I r.value, I r.fin])] a) :
    q33_0.wp Try.prog (fun e a' w' => e = .normal ∧ (Fl 59 [(2, P1 v.heap.size), (3, P1 (v.heap.size + 1))] a' ∧ w' = (v.alloc (.cells (rcC na r) 43)).alloc (.cells (rcC nb r) 43))) a v := by
  obtain ⟨hsz, hd, hp⟩ := hA
  obtain ⟨u, rfl, hg⟩ := litN hsz hd
  simp only [List.forall_mem_cons, hg] at hp
  obtain ⟨u0, u1, -⟩ := hp
  clear hg hsz hd
  unfold q33_0 C33 Try.f33 seq1
  simp only [Option.getD_some, lits, Nat.reduceAdd, u0, u1]
  clear u0 u1
  go_wp2_with fail
  first
    | exact ⟨⟨rfl, rfl, by
      intro p hp
      simp only [List.mem_cons, List.not_mem_nil, or_false] at hp
      rcases hp with rfl | rfl <;> first | rfl | exact congrArg I (by omega) | exact congrArg Value.bool (by simp <;> omega) | exact congrArg Value.bool (by simp)⟩, rfl⟩
    | exact ⟨rfl, rfl, by
      intro p hp
      simp only [List.mem_cons, List.not_mem_nil, or_false] at hp
      rcases hp with rfl | rfl <;> first | rfl | exact congrArg I (by omega) | exact congrArg Value.bool (by simp <;> omega) | exact congrArg Value.bool (by simp)⟩
    | exact ⟨rfl, ⟨rfl, rfl, by
      intro p hp
      simp only [List.mem_cons, List.not_mem_nil, or_false] at hp
      rcases hp with rfl | rfl <;> first | rfl | exact congrArg I (by omega) | exact congrArg Value.bool (by simp <;> omega) | exact congrArg Value.bool (by simp)⟩, rfl⟩

set_option maxHeartbeats 1000000 in
set_option maxRecDepth 100000 in
theorem p33_1 {v : World} {a : Act} {ba bb : Nat} {p q : Option Addr} {n c d : Nat} {r : Rc} (hn : n ≤ 17592186044416) (d0 : v.cell? ⟨ba, 0, none⟩ = some (.slice p n c)) (d1 : v.cell? ⟨ba, 1, none⟩ = some (I r.level)) (d2 : v.cell? ⟨ba, 2, none⟩ = some (I r.act)) (d3 : v.cell? ⟨ba, 3, none⟩ = some (I r.value)) (d4 : v.cell? ⟨ba, 4, none⟩ = some (I r.fin)) (e0 : v.cell? ⟨bb, 0, none⟩ = some (.slice q n d)) (e1 : v.cell? ⟨bb, 1, none⟩ = some (I r.level)) (e2 : v.cell? ⟨bb, 2, none⟩ = some (I r.act)) (e3 : v.cell? ⟨bb, 3, none⟩ = some (I r.value)) (e4 : v.cell? ⟨bb, 4, none⟩ = some (I r.fin)) (hA : Fl 59 [(2, P1 ba), (3, P1 bb)] a) :
    q33_1.wp Try.prog (fun e a' w' => e = .normal ∧ (Fl 59 [(40, .bool false), (2, P1 ba), (3, P1 bb)] a' ∧ w' = v)) a v := by
  obtain ⟨hsz, hd, hp⟩ := hA
  obtain ⟨u, rfl, hg⟩ := litN hsz hd
  simp only [List.forall_mem_cons, hg] at hp
  obtain ⟨u2, u3, -⟩ := hp
  clear hg hsz hd
  unfold q33_1 C33 Try.f33 seq1 seq2
  simp only [Option.getD_some, lits, Nat.reduceAdd, u2, u3]
  clear u2 u3
  go_wp2_with fail
  first
    | exact ⟨⟨rfl, rfl, by
      intro p hp
      simp only [List.mem_cons, List.not_mem_nil, or_false] at hp
      rcases hp with rfl | rfl | rfl <;> first | rfl | exact congrArg I (by omega) | exact congrArg Value.bool (by simp <;> omega) | exact congrArg Value.bool (by simp)⟩, rfl⟩
    | exact ⟨rfl, rfl, by
      intro p hp
      simp only [List.mem_cons, List.not_mem_nil, or_false] at hp
      rcases hp with rfl | rfl | rfl <;> first | rfl | exact congrArg I (by omega) | exact congrArg Value.bool (by simp <;> omega) | exact congrArg Value.bool (by simp)⟩
    | exact ⟨rfl, ⟨rfl, rfl, by
      intro p hp
      simp only [List.mem_cons, List.not_mem_nil, or_false] at hp
      rcases hp with rfl | rfl | rfl <;> first | rfl | exact congrArg I (by omega) | exact congrArg Value.bool (by simp <;> omega) | exact congrArg Value.bool (by simp)⟩, rfl⟩

set_option maxHeartbeats 1000000 in
set_option maxRecDepth 100000 in
theorem p33_3 {v : World} {a : Act} {ba bb : Nat}  (hA : Fl 59 [(2, P1 ba), (3, P1 bb)] a) :
    q33_3.wp Try.prog (fun e a' w' => e = .normal ∧ (Fl 59 [(2, P1 ba), (3, P1 bb), (5, I (0 : Nat))] a' ∧ w' = v)) a v := by
  obtain ⟨hsz, hd, hp⟩ := hA
  obtain ⟨u, rfl, hg⟩ := litN hsz hd
  simp only [List.forall_mem_cons, hg] at hp
  obtain ⟨u2, u3, -⟩ := hp
  clear hg hsz hd
  unfold q33_3 C33 Try.f33 seq1 seq2
  simp only [Option.getD_some, lits, Nat.reduceAdd, u2, u3]
  clear u2 u3
  go_wp2_with fail
  first
    | exact ⟨⟨rfl, rfl, by
      intro p hp
      simp only [List.mem_cons, List.not_mem_nil, or_false] at hp
      rcases hp with rfl | rfl | rfl <;> first | rfl | exact congrArg I (by omega) | exact congrArg Value.bool (by simp <;> omega) | exact congrArg Value.bool (by simp)⟩, rfl⟩
    | exact ⟨rfl, rfl, by
      intro p hp
      simp only [List.mem_cons, List.not_mem_nil, or_false] at hp
      rcases hp with rfl | rfl | rfl <;> first | rfl | exact congrArg I (by omega) | exact congrArg Value.bool (by simp <;> omega) | exact congrArg Value.bool (by simp)⟩
    | exact ⟨rfl, ⟨rfl, rfl, by
      intro p hp
      simp only [List.mem_cons, List.not_mem_nil, or_false] at hp
      rcases hp with rfl | rfl | rfl <;> first | rfl | exact congrArg I (by omega) | exact congrArg Value.bool (by simp <;> omega) | exact congrArg Value.bool (by simp)⟩, rfl⟩

set_option maxHeartbeats 1000000 in
set_option maxRecDepth 100000 in
theorem p33_4 {v : World} {a : Act} {ba bb : Nat} {p q : Option Addr} {n c d : Nat} {i : Nat} (hn : n ≤ 17592186044416) (d0 : v.cell? ⟨ba, 0, none⟩ = some (.slice p n c)) (hA : Fl 59 [(2, P1 ba), (3, P1 bb), (5, I (i : Nat))] a) :
    q33_4.wp Try.prog (fun e a' w' => e = .normal ∧ (Fl 59 [(45, .bool (decide (i < n))), (2, P1 ba), (3, P1 bb), (5, I (i : Nat))] a' ∧ w' = v)) a v := by
  obtain ⟨hsz, hd, hp⟩ := hA
  obtain ⟨u, rfl, hg⟩ := litN hsz hd
  simp only [List.forall_mem_cons, hg] at hp
  obtain ⟨u2, u3, u5, -⟩ := hp
  clear hg hsz hd
  unfold q33_4 C33 Try.f33 seq1 seq2 blockC loopC
  simp only [Option.getD_some, lits, Nat.reduceAdd, u2, u3, u5]
  clear u2 u3 u5
  go_wp2_with fail
  first
    | exact ⟨⟨rfl, rfl, by
      intro p hp
      simp only [List.mem_cons, List.not_mem_nil, or_false] at hp
      rcases hp with rfl | rfl | rfl | rfl <;> first | rfl | exact congrArg I (by omega) | exact congrArg Value.bool (by simp <;> omega) | exact congrArg Value.bool (by simp)⟩, rfl⟩
    | exact ⟨rfl, rfl, by
      intro p hp
      simp only [List.mem_cons, List.not_mem_nil, or_false] at hp
      rcases hp with rfl | rfl | rfl | rfl <;> first | rfl | exact congrArg I (by omega) | exact congrArg Value.bool (by simp <;> omega) | exact congrArg Value.bool (by simp)⟩
    | exact ⟨rfl, ⟨rfl, rfl, by
      intro p hp
      simp only [List.mem_cons, List.not_mem_nil, or_false] at hp
      rcases hp with rfl | rfl | rfl | rfl <;> first | rfl | exact congrArg I (by omega) | exact congrArg Value.bool (by simp <;> omega) | exact congrArg Value.bool (by simp)⟩, rfl⟩

set_option maxHeartbeats 1000000 in
set_option maxRecDepth 100000 in
theorem p33_6 {v : World} {a : Act} {ba bb sb so tb to n c d i : Nat} {x : Int} (hn : n ≤ 17592186044416) (d0 : v.cell? ⟨ba, 0, none⟩ = some (.slice (some ⟨sb, so, none⟩) n c)) (e0 : v.cell? ⟨bb, 0, none⟩ = some (.slice (some ⟨tb, to, none⟩) n d)) (hi : i < n) (c1 : v.cell? ⟨sb, so + i, none⟩ = some (I x)) (c2 : v.cell? ⟨tb, to + i, none⟩ = some (I x)) (hA : Fl 59 [(2, P1 ba), (3, P1 bb), (5, I (i : Nat))] a) :
    q33_6.wp Try.prog (fun e a' w' => e = .normal ∧ (Fl 59 [(58, .bool false), (2, P1 ba), (3, P1 bb), (5, I (i : Nat))] a' ∧ ∃ m, w' = v.drewN m)) a v := by
  obtain ⟨hsz, hd, hp⟩ := hA
  obtain ⟨u, rfl, hg⟩ := litN hsz hd
  simp only [List.forall_mem_cons, hg] at hp
  obtain ⟨u2, u3, u5, -⟩ := hp
  clear hg hsz hd
  unfold q33_6 C33 Try.f33 seq1 seq2 blockC loopC
  simp only [Option.getD_some, lits, Nat.reduceAdd, u2, u3, u5]
  clear u2 u3 u5
  go_quiet (fail)
  first
    | exact ⟨⟨rfl, rfl, by
      intro p hp
      simp only [List.mem_cons, List.not_mem_nil, or_false] at hp
      rcases hp with rfl | rfl | rfl | rfl <;> first | rfl | exact congrArg I (by omega) | exact congrArg Value.bool (by simp <;> omega) | exact congrArg Value.bool (by simp)⟩, ⟨_, rfl⟩⟩
    | exact ⟨rfl, rfl, by
      intro p hp
      simp only [List.mem_cons, List.not_mem_nil, or_false] at hp
      rcases hp with rfl | rfl | rfl | rfl <;> first | rfl | exact congrArg I (by omega) | exact congrArg Value.bool (by simp <;> omega) | exact congrArg Value.bool (by simp)⟩
    | exact ⟨rfl, ⟨rfl, rfl, by
      intro p hp
      simp only [List.mem_cons, List.not_mem_nil, or_false] at hp
      rcases hp with rfl | rfl | rfl | rfl <;> first | rfl | exact congrArg I (by omega) | exact congrArg Value.bool (by simp <;> omega) | exact congrArg Value.bool (by simp)⟩, ⟨_, rfl⟩⟩

set_option maxHeartbeats 1000000 in
set_option maxRecDepth 100000 in
theorem p33_5 {v : World} {a : Act} {ba bb i : Nat} (hi : i < 17592186044416) (hA : Fl 59 [(2, P1 ba), (3, P1 bb), (5, I (i : Nat))] a) :
    q33_5.wp Try.prog (fun e a' w' => e = .normal ∧ (Fl 59 [(2, P1 ba), (3, P1 bb), (5, I ((i + 1 : Nat) : Int))] a' ∧ w' = v)) a v := by
  obtain ⟨hsz, hd, hp⟩ := hA
  obtain ⟨u, rfl, hg⟩ := litN hsz hd
  simp only [List.forall_mem_cons, hg] at hp
  obtain ⟨u2, u3, u5, -⟩ := hp
  clear hg hsz hd
  unfold q33_5 C33 Try.f33 seq1 seq2 blockC loopC
  simp only [Option.getD_some, lits, Nat.reduceAdd, u2, u3, u5]
  clear u2 u3 u5
  go_wp2_with fail
  first
    | exact ⟨⟨rfl, rfl, by
      intro p hp
      simp only [List.mem_cons, List.not_mem_nil, or_false] at hp
      rcases hp with rfl | rfl | rfl <;> first | rfl | exact congrArg I (by omega) | exact congrArg Value.bool (by simp <;> omega) | exact congrArg Value.bool (by simp)⟩, rfl⟩
    | exact ⟨rfl, rfl, by
      intro p hp
      simp only [List.mem_cons, List.not_mem_nil, or_false] at hp
      rcases hp with rfl | rfl | rfl <;> first | rfl | exact congrArg I (by omega) | exact congrArg Value.bool (by simp <;> omega) | exact congrArg Value.bool (by simp)⟩
    | exact ⟨rfl, ⟨rfl, rfl, by
      intro p hp
      simp only [List.mem_cons, List.not_mem_nil, or_false] at hp
      rcases hp with rfl | rfl | rfl <;> first | rfl | exact congrArg I (by omega) | exact congrArg Value.bool (by simp <;> omega) | exact congrArg Value.bool (by simp)⟩, rfl⟩

set_option maxHeartbeats 1000000 in
set_option maxRecDepth 100000 in
theorem p33_8 {v : World} {a : Act}   (hA : Fl 59 [] a) :
    q33_8.wp Try.prog (fun e a' w' => e = .normal ∧ (Fl 59 [(4, .bool true)] a' ∧ w' = v)) a v := by
  obtain ⟨hsz, hd, hp⟩ := hA
  obtain ⟨u, rfl, hg⟩ := litN hsz hd
  clear hg hp hsz hd
  unfold q33_8 C33 Try.f33 seq1 seq2
  simp only [Option.getD_some, lits, Nat.reduceAdd]
  go_wp2_with fail
  first
    | exact ⟨⟨rfl, rfl, by
      intro p hp
      simp only [List.mem_cons, List.not_mem_nil, or_false] at hp
      rcases hp with rfl <;> first | rfl | exact congrArg I (by omega) | exact congrArg Value.bool (by simp <;> omega) | exact congrArg Value.bool (by simp)⟩, rfl⟩
    | exact ⟨rfl, rfl, by
      intro p hp
      simp only [List.mem_cons, List.not_mem_nil, or_false] at hp
      rcases hp with rfl <;> first | rfl | exact congrArg I (by omega) | exact congrArg Value.bool (by simp <;> omega) | exact congrArg Value.bool (by simp)⟩
    | exact ⟨rfl, ⟨rfl, rfl, by
      intro p hp
      simp only [List.mem_cons, List.not_mem_nil, or_false] at hp
      rcases hp with rfl <;> first | rfl | exact congrArg I (by omega) | exact congrArg Value.bool (by simp <;> omega) | exact congrArg Value.bool (by simp)⟩, rfl⟩

theorem in33 {w : World} {R : Value → World → Prop} {x0 x1 : Value} (h : ∀ a, Fl 59 [(0, x0), (1, x1)] a → C33.wp Try.prog (bodyPost Try.prog Try.f33 (Ret R)) a w) : Calls Try.prog 33 #[x0, x1] w (Ret R) :=
  calls_of_wp Try.func33 (show Try.f33.body = some C33 by kernel_rfl) (by
    rw [Try.ntmps33]
    exact h _ (fl_enter _ _ 59 (by simp) _ (by intro p hp; simp only [List.mem_cons, List.not_mem_nil, or_false] at hp; rcases hp with rfl | rfl <;> rfl)))

end Go.Proofs.Ytgohfdgkihoilaa.Rcp
