/- What Kept (15) and Spoil (16) do: their pieces. (Made by wip/tools/mk15.py.) -/
import Derived.Test.YtgohfdgkihoilaaLen
import Derived.Deep.RegionHeld3
set_option linter.unusedSimpArgs false
set_option linter.unusedVariables false
namespace Go.Proofs.Ytgohfdgkihoilaa.Rcp
open Go Go.RowKit Go.Deep Go.Maps

noncomputable def C15 : Code := Try.f15.body.getD .skip
noncomputable def q15_0 : Code := (seq1 C15)
noncomputable def q15_1 : Code := (seq1 (seq2 C15))
noncomputable def q15_2 : Code := (seq1 (seq1 (seq2 (seq2 C15))))
noncomputable def q15_3 : Code := (seq1 (condA (seq2 (seq1 (seq2 (seq2 C15))))))
noncomputable def q15_4 : Code := (seq1 (seq1 (seq2 (seq2 (seq2 C15)))))
noncomputable def q15_5 : Code := (seq1 (seq1 (loopC (blockC (seq2 (seq1 (seq2 (seq2 (seq2 C15)))))))))
noncomputable def q15_7 : Code := (seq1 (blockC (seq1 (seq2 (loopC (blockC (seq2 (seq1 (seq2 (seq2 (seq2 C15)))))))))))
noncomputable def q15_8 : Code := (seq1 (seq2 (blockC (seq1 (seq2 (loopC (blockC (seq2 (seq1 (seq2 (seq2 (seq2 C15))))))))))))
noncomputable def q15_9 : Code := (seq1 (seq1 (seq2 (seq2 (blockC (seq1 (seq2 (loopC (blockC (seq2 (seq1 (seq2 (seq2 (seq2 C15))))))))))))))
noncomputable def q15_10 : Code := (seq1 (condA (seq2 (seq1 (seq2 (seq2 (blockC (seq1 (seq2 (loopC (blockC (seq2 (seq1 (seq2 (seq2 (seq2 C15))))))))))))))))
noncomputable def q15_11 : Code := (seq1 (seq2 (seq2 (seq2 (blockC (seq1 (seq2 (loopC (blockC (seq2 (seq1 (seq2 (seq2 (seq2 C15))))))))))))))
noncomputable def q15_12 : Code := (seq1 (seq2 (seq2 (seq2 (seq2 (blockC (seq1 (seq2 (loopC (blockC (seq2 (seq1 (seq2 (seq2 (seq2 C15)))))))))))))))
noncomputable def q15_13 : Code := (seq1 (condA (seq2 (seq2 (seq2 (seq2 (seq2 (blockC (seq1 (seq2 (loopC (blockC (seq2 (seq1 (seq2 (seq2 (seq2 C15)))))))))))))))))
noncomputable def q15_6 : Code := (seq2 (seq2 (loopC (blockC (seq2 (seq1 (seq2 (seq2 (seq2 C15)))))))))
noncomputable def q15_14 : Code := (seq1 (seq2 (seq2 (seq2 (seq2 C15)))))
noncomputable def K15_1 : Code := (.seq q15_7 (.seq q15_8 (.seq (.seq q15_9 (.cond ( .tmp 44 ) (.seq q15_10 .ret) .skip)) (.seq q15_11 (.seq q15_12 (.cond ( .tmp 65 ) (.seq q15_13 .ret) .skip))))))
noncomputable def K15_0 : Code := (.loop (.seq (.seq q15_5 (.cond ( .tmp 25 ) .skip (.exit 0))) (.seq (.block 1 K15_1) q15_6)))
theorem e15 : C15 = (.seq q15_0 (.seq q15_1 (.seq (.seq q15_2 (.cond ( .tmp 21 ) (.seq q15_3 .ret) .skip)) (.seq (.seq q15_4 (.block 0 K15_0)) (.seq q15_14 .ret))))) := by kernel_rfl

set_option maxHeartbeats 1000000 in
set_option maxRecDepth 100000 in
theorem p15_0 {v : World} {a : Act} {p : Option Addr} {n cap gr : Nat}  (hA : Fl 66 [(0, .slice (some ⟨gr, 0, none⟩) n (n + 1)), (1, .slice p n cap)] a) :
    q15_0.wp Try.prog (fun e a' w' => e = .normal ∧ (Fl 66 [(0, .slice (some ⟨gr, 0, none⟩) n (n + 1)), (1, .slice p n cap)] a' ∧ w' = v)) a v := by
  obtain ⟨hsz, hd, hp⟩ := hA
  obtain ⟨u, rfl, hg⟩ := litN hsz hd
  simp only [List.forall_mem_cons, hg] at hp
  obtain ⟨u0, u1, -⟩ := hp
  clear hg hsz hd
  unfold q15_0 C15 Try.f15 seq1
  simp only [Option.getD_some, lits, Nat.reduceAdd, u0, u1]
  clear u0 u1
  go_wp2_with fail
  first
    | exact ⟨⟨rfl, rfl, by
      intro p hp
      simp only [List.mem_cons, List.not_mem_nil, or_false] at hp
      rcases hp with rfl | rfl <;> first | rfl | exact congrArg I (by omega) | exact congrArg Value.bool (by simp <;> omega) | exact congrArg Value.bool (by simp)⟩, rfl⟩
    | exact ⟨rfl, rfl, by
      intro p hp
      simp only [List.mem_cons, List.not_mem_nil, or_false] at hp
      rcases hp with rfl | rfl <;> first | rfl | exact congrArg I (by omega) | exact congrArg Value.bool (by simp <;> omega) | exact congrArg Value.bool (by simp)⟩
    | exact ⟨rfl, ⟨rfl, rfl, by
      intro p hp
      simp only [List.mem_cons, List.not_mem_nil, or_false] at hp
      rcases hp with rfl | rfl <;> first | rfl | exact congrArg I (by omega) | exact congrArg Value.bool (by simp <;> omega) | exact congrArg Value.bool (by simp)⟩, rfl⟩

set_option maxHeartbeats 1000000 in
set_option maxRecDepth 100000 in
theorem p15_1 {v : World} {a : Act} {p : Option Addr} {n cap gr : Nat} (hn : n ≤ 2600000000000) (hA : Fl 66 [(0, .slice (some ⟨gr, 0, none⟩) n (n + 1)), (1, .slice p n cap)] a) :
    q15_1.wp Try.prog (fun e a' w' => e = .normal ∧ (Fl 66 [(0, .slice (some ⟨gr, 0, none⟩) n (n + 1)), (1, .slice p n cap), (5, .slice (some ⟨gr, 0, none⟩) (n + 1) (n + 1))] a' ∧ w' = v)) a v := by
  obtain ⟨hsz, hd, hp⟩ := hA
  obtain ⟨u, rfl, hg⟩ := litN hsz hd
  simp only [List.forall_mem_cons, hg] at hp
  obtain ⟨u0, u1, -⟩ := hp
  clear hg hsz hd
  unfold q15_1 C15 Try.f15 seq1 seq2
  simp only [Option.getD_some, lits, Nat.reduceAdd, u0, u1]
  clear u0 u1
  go_wp2_with fail
  first
    | exact ⟨⟨rfl, rfl, by
      intro p hp
      simp only [List.mem_cons, List.not_mem_nil, or_false] at hp
      rcases hp with rfl | rfl | rfl <;> first | rfl | exact congrArg I (by omega) | exact congrArg Value.bool (by simp <;> omega) | exact congrArg Value.bool (by simp)⟩, rfl⟩
    | exact ⟨rfl, rfl, by
      intro p hp
      simp only [List.mem_cons, List.not_mem_nil, or_false] at hp
      rcases hp with rfl | rfl | rfl <;> first | rfl | exact congrArg I (by omega) | exact congrArg Value.bool (by simp <;> omega) | exact congrArg Value.bool (by simp)⟩
    | exact ⟨rfl, ⟨rfl, rfl, by
      intro p hp
      simp only [List.mem_cons, List.not_mem_nil, or_false] at hp
      rcases hp with rfl | rfl | rfl <;> first | rfl | exact congrArg I (by omega) | exact congrArg Value.bool (by simp <;> omega) | exact congrArg Value.bool (by simp)⟩, rfl⟩

set_option maxHeartbeats 1000000 in
set_option maxRecDepth 100000 in
theorem p15_2 {v : World} {a : Act} {p : Option Addr} {n cap gr : Nat} (hn : n ≤ 2600000000000) (c : v.cell? ⟨gr, n * 5 + 2, none⟩ = some (I (-73))) (hA : Fl 66 [(0, .slice (some ⟨gr, 0, none⟩) n (n + 1)), (1, .slice p n cap), (5, .slice (some ⟨gr, 0, none⟩) (n + 1) (n + 1))] a) :
    q15_2.wp Try.prog (fun e a' w' => e = .normal ∧ (Fl 66 [(21, .bool false), (0, .slice (some ⟨gr, 0, none⟩) n (n + 1)), (1, .slice p n cap)] a' ∧ w' = v)) a v := by
  obtain ⟨hsz, hd, hp⟩ := hA
  obtain ⟨u, rfl, hg⟩ := litN hsz hd
  simp only [List.forall_mem_cons, hg] at hp
  obtain ⟨u0, u1, u5, -⟩ := hp
  clear hg hsz hd
  unfold q15_2 C15 Try.f15 seq1 seq2
  simp only [Option.getD_some, lits, Nat.reduceAdd, u0, u1, u5]
  clear u0 u1 u5
  go_wp2_with fail
  first
    | exact ⟨⟨rfl, rfl, by
      intro p hp
      simp only [List.mem_cons, List.not_mem_nil, or_false] at hp
      rcases hp with rfl | rfl | rfl <;> first | rfl | exact congrArg I (by omega) | exact congrArg Value.bool (by simp <;> omega) | exact congrArg Value.bool (by simp)⟩, rfl⟩
    | exact ⟨rfl, rfl, by
      intro p hp
      simp only [List.mem_cons, List.not_mem_nil, or_false] at hp
      rcases hp with rfl | rfl | rfl <;> first | rfl | exact congrArg I (by omega) | exact congrArg Value.bool (by simp <;> omega) | exact congrArg Value.bool (by simp)⟩
    | exact ⟨rfl, ⟨rfl, rfl, by
      intro p hp
      simp only [List.mem_cons, List.not_mem_nil, or_false] at hp
      rcases hp with rfl | rfl | rfl <;> first | rfl | exact congrArg I (by omega) | exact congrArg Value.bool (by simp <;> omega) | exact congrArg Value.bool (by simp)⟩, rfl⟩

set_option maxHeartbeats 1000000 in
set_option maxRecDepth 100000 in
theorem p15_4 {v : World} {a : Act} {p : Option Addr} {n cap gr : Nat}  (hA : Fl 66 [(0, .slice (some ⟨gr, 0, none⟩) n (n + 1)), (1, .slice p n cap)] a) :
    q15_4.wp Try.prog (fun e a' w' => e = .normal ∧ (Fl 66 [(0, .slice (some ⟨gr, 0, none⟩) n (n + 1)), (1, .slice p n cap), (6, I (0 : Nat))] a' ∧ w' = v)) a v := by
  obtain ⟨hsz, hd, hp⟩ := hA
  obtain ⟨u, rfl, hg⟩ := litN hsz hd
  simp only [List.forall_mem_cons, hg] at hp
  obtain ⟨u0, u1, -⟩ := hp
  clear hg hsz hd
  unfold q15_4 C15 Try.f15 seq1 seq2
  simp only [Option.getD_some, lits, Nat.reduceAdd, u0, u1]
  clear u0 u1
  go_wp2_with fail
  first
    | exact ⟨⟨rfl, rfl, by
      intro p hp
      simp only [List.mem_cons, List.not_mem_nil, or_false] at hp
      rcases hp with rfl | rfl | rfl <;> first | rfl | exact congrArg I (by omega) | exact congrArg Value.bool (by simp <;> omega) | exact congrArg Value.bool (by simp)⟩, rfl⟩
    | exact ⟨rfl, rfl, by
      intro p hp
      simp only [List.mem_cons, List.not_mem_nil, or_false] at hp
      rcases hp with rfl | rfl | rfl <;> first | rfl | exact congrArg I (by omega) | exact congrArg Value.bool (by simp <;> omega) | exact congrArg Value.bool (by simp)⟩
    | exact ⟨rfl, ⟨rfl, rfl, by
      intro p hp
      simp only [List.mem_cons, List.not_mem_nil, or_false] at hp
      rcases hp with rfl | rfl | rfl <;> first | rfl | exact congrArg I (by omega) | exact congrArg Value.bool (by simp <;> omega) | exact congrArg Value.bool (by simp)⟩, rfl⟩

set_option maxHeartbeats 1000000 in
set_option maxRecDepth 100000 in
theorem p15_5 {v : World} {a : Act} {p : Option Addr} {n cap gr : Nat} {i : Nat} (hn : n ≤ 2600000000000) (hA : Fl 66 [(0, .slice (some ⟨gr, 0, none⟩) n (n + 1)), (1, .slice p n cap), (6, I (i : Nat))] a) :
    q15_5.wp Try.prog (fun e a' w' => e = .normal ∧ (Fl 66 [(25, .bool (decide (i < n))), (0, .slice (some ⟨gr, 0, none⟩) n (n + 1)), (1, .slice p n cap), (6, I (i : Nat))] a' ∧ w' = v)) a v := by
  obtain ⟨hsz, hd, hp⟩ := hA
  obtain ⟨u, rfl, hg⟩ := litN hsz hd
  simp only [List.forall_mem_cons, hg] at hp
  obtain ⟨u0, u1, u6, -⟩ := hp
  clear hg hsz hd
  unfold q15_5 C15 Try.f15 seq1 seq2 blockC loopC
  simp only [Option.getD_some, lits, Nat.reduceAdd, u0, u1, u6]
  clear u0 u1 u6
  go_wp2_with fail
  first
    | exact ⟨⟨rfl, rfl, by
      intro p hp
      simp only [List.mem_cons, List.not_mem_nil, or_false] at hp
      rcases hp with rfl | rfl | rfl | rfl <;> first | rfl | exact congrArg I (by omega) | exact congrArg Value.bool (by simp <;> omega) | exact congrArg Value.bool (by simp)⟩, rfl⟩
    | exact ⟨rfl, rfl, by
      intro p hp
      simp only [List.mem_cons, List.not_mem_nil, or_false] at hp
      rcases hp with rfl | rfl | rfl | rfl <;> first | rfl | exact congrArg I (by omega) | exact congrArg Value.bool (by simp <;> omega) | exact congrArg Value.bool (by simp)⟩
    | exact ⟨rfl, ⟨rfl, rfl, by
      intro p hp
      simp only [List.mem_cons, List.not_mem_nil, or_false] at hp
      rcases hp with rfl | rfl | rfl | rfl <;> first | rfl | exact congrArg I (by omega) | exact congrArg Value.bool (by simp <;> omega) | exact congrArg Value.bool (by simp)⟩, rfl⟩

set_option maxHeartbeats 1000000 in
set_option maxRecDepth 100000 in
theorem p15_6 {v : World} {a : Act} {p : Option Addr} {n cap gr : Nat} {i : Nat} (hi : i < 17592186044416) (hA : Fl 66 [(0, .slice (some ⟨gr, 0, none⟩) n (n + 1)), (1, .slice p n cap), (6, I (i : Nat))] a) :
    q15_6.wp Try.prog (fun e a' w' => e = .normal ∧ (Fl 66 [(0, .slice (some ⟨gr, 0, none⟩) n (n + 1)), (1, .slice p n cap), (6, I ((i + 1 : Nat) : Int))] a' ∧ w' = v)) a v := by
  obtain ⟨hsz, hd, hp⟩ := hA
  obtain ⟨u, rfl, hg⟩ := litN hsz hd
  simp only [List.forall_mem_cons, hg] at hp
  obtain ⟨u0, u1, u6, -⟩ := hp
  clear hg hsz hd
  unfold q15_6 C15 Try.f15 seq1 seq2 blockC loopC
  simp only [Option.getD_some, lits, Nat.reduceAdd, u0, u1, u6]
  clear u0 u1 u6
  go_wp2_with fail
  first
    | exact ⟨⟨rfl, rfl, by
      intro p hp
      simp only [List.mem_cons, List.not_mem_nil, or_false] at hp
      rcases hp with rfl | rfl | rfl <;> first | rfl | exact congrArg I (by omega) | exact congrArg Value.bool (by simp <;> omega) | exact congrArg Value.bool (by simp)⟩, rfl⟩
    | exact ⟨rfl, rfl, by
      intro p hp
      simp only [List.mem_cons, List.not_mem_nil, or_false] at hp
      rcases hp with rfl | rfl | rfl <;> first | rfl | exact congrArg I (by omega) | exact congrArg Value.bool (by simp <;> omega) | exact congrArg Value.bool (by simp)⟩
    | exact ⟨rfl, ⟨rfl, rfl, by
      intro p hp
      simp only [List.mem_cons, List.not_mem_nil, or_false] at hp
      rcases hp with rfl | rfl | rfl <;> first | rfl | exact congrArg I (by omega) | exact congrArg Value.bool (by simp <;> omega) | exact congrArg Value.bool (by simp)⟩, rfl⟩

set_option maxHeartbeats 1000000 in
set_option maxRecDepth 100000 in
theorem p15_7 {v : World} {a : Act} {b o n cap gr i : Nat} {r : Rc} {q : Option Addr} {c nn nc : Nat} {R : World → Prop} (hn : n ≤ 2600000000000) (hi : i < n) (d0 : v.cell? ⟨gr, i * 5, none⟩ = some (.slice (some ⟨c, 0, none⟩) nn (nn + 2))) (d1 : v.cell? ⟨gr, i * 5 + 1, none⟩ = some (I r.level)) (d2 : v.cell? ⟨gr, i * 5 + 2, none⟩ = some (I r.act)) (d3 : v.cell? ⟨gr, i * 5 + 3, none⟩ = some (I r.value)) (d4 : v.cell? ⟨gr, i * 5 + 4, none⟩ = some (I r.fin)) (e0 : v.cell? ⟨b, o + i * 5, none⟩ = some (.slice q nn nc)) (e1 : v.cell? ⟨b, o + i * 5 + 1, none⟩ = some (I r.level)) (e2 : v.cell? ⟨b, o + i * 5 + 2, none⟩ = some (I r.act)) (e3 : v.cell? ⟨b, o + i * 5 + 3, none⟩ = some (I r.value)) (e4 : v.cell? ⟨b, o + i * 5 + 4, none⟩ = some (I r.fin)) (hC : Calls Try.prog 33 #[.agg #[.slice (some ⟨c, 0, none⟩) nn (nn + 2), I r.level, I r.act, I r.value, I r.fin], .agg #[.slice q nn nc, I r.level, I r.act, I r.value, I r.fin]] v.drew (Ret fun x w' => x = .bool true ∧ R w')) (hS : ∀ u, R u → u.cell? ⟨gr, i * 5, none⟩ = some (.slice (some ⟨c, 0, none⟩) nn (nn + 2)) ∧ u.cell? ⟨gr, i * 5 + 1, none⟩ = some (I r.level) ∧ u.cell? ⟨gr, i * 5 + 2, none⟩ = some (I r.act) ∧ u.cell? ⟨gr, i * 5 + 3, none⟩ = some (I r.value) ∧ u.cell? ⟨gr, i * 5 + 4, none⟩ = some (I r.fin) ∧ u.cell? ⟨b, o + i * 5, none⟩ = some (.slice q nn nc) ∧ u.cell? ⟨b, o + i * 5 + 1, none⟩ = some (I r.level) ∧ u.cell? ⟨b, o + i * 5 + 2, none⟩ = some (I r.act) ∧ u.cell? ⟨b, o + i * 5 + 3, none⟩ = some (I r.value) ∧ u.cell? ⟨b, o + i * 5 + 4, none⟩ = some (I r.fin)) (hA : Fl 66 [(0, .slice (some ⟨gr, 0, none⟩) n (n + 1)), (1, .slice (some ⟨b, o, none⟩) n cap), (6, I (i : Nat))] a) :
    q15_7.wp Try.prog (fun e a' w' => e = .normal ∧ (Fl 66 [(0, .slice (some ⟨gr, 0, none⟩) n (n + 1)), (1, .slice (some ⟨b, o, none⟩) n cap), (6, I (i : Nat)), (7, .bool true)] a' ∧ R w')) a v := by
  have HC : Hid (Calls Try.prog 33 #[.agg #[.slice (some ⟨c, 0, none⟩) nn (nn + 2), I r.level, I r.act, I r.value, I r.fin], .agg #[.slice q nn nc, I r.level, I r.act, I r.value, I r.fin]] v.drew (Ret fun x w' => x = .bool true ∧ R w')) := hC
  have HS : Hid (∀ u, R u → u.cell? ⟨gr, i * 5, none⟩ = some (.slice (some ⟨c, 0, none⟩) nn (nn + 2)) ∧ u.cell? ⟨gr, i * 5 + 1, none⟩ = some (I r.level) ∧ u.cell? ⟨gr, i * 5 + 2, none⟩ = some (I r.act) ∧ u.cell? ⟨gr, i * 5 + 3, none⟩ = some (I r.value) ∧ u.cell? ⟨gr, i * 5 + 4, none⟩ = some (I r.fin) ∧ u.cell? ⟨b, o + i * 5, none⟩ = some (.slice q nn nc) ∧ u.cell? ⟨b, o + i * 5 + 1, none⟩ = some (I r.level) ∧ u.cell? ⟨b, o + i * 5 + 2, none⟩ = some (I r.act) ∧ u.cell? ⟨b, o + i * 5 + 3, none⟩ = some (I r.value) ∧ u.cell? ⟨b, o + i * 5 + 4, none⟩ = some (I r.fin)) := hS
  clear hC hS
  obtain ⟨hsz, hd, hp⟩ := hA
  obtain ⟨u, rfl, hg⟩ := litN hsz hd
  simp only [List.forall_mem_cons, hg] at hp
  obtain ⟨u0, u1, u6, -⟩ := hp
  clear hg hsz hd
  unfold q15_7 C15 Try.f15 seq1 seq2 blockC loopC
  simp only [Option.getD_some, lits, Nat.reduceAdd, u0, u1, u6]
  clear u0 u1 u6
  go_wp2_with fail
  go_region_held3 (fun u => u.cell? ⟨gr, i * 5, none⟩ = some (.slice (some ⟨c, 0, none⟩) nn (nn + 2)) ∧ u.cell? ⟨gr, i * 5 + 1, none⟩ = some (I r.level) ∧ u.cell? ⟨gr, i * 5 + 2, none⟩ = some (I r.act) ∧ u.cell? ⟨gr, i * 5 + 3, none⟩ = some (I r.value) ∧ u.cell? ⟨gr, i * 5 + 4, none⟩ = some (I r.fin) ∧ u.cell? ⟨b, o + i * 5, none⟩ = some (.slice q nn nc) ∧ u.cell? ⟨b, o + i * 5 + 1, none⟩ = some (I r.level) ∧ u.cell? ⟨b, o + i * 5 + 2, none⟩ = some (I r.act) ∧ u.cell? ⟨b, o + i * 5 + 3, none⟩ = some (I r.value) ∧ u.cell? ⟨b, o + i * 5 + 4, none⟩ = some (I r.fin))
    (first | (exact HS.out _ HK.out) | (simp [go_sem, *]; done))
    (first
      | (go_at_call 33; refine HC.out.mono ?_; rintro e w5 ⟨_, rfl, rfl, hk⟩; have HK : Hid (R w5) := hk; clear hk))
  first
    | exact ⟨⟨rfl, rfl, by
      intro p hp
      simp only [List.mem_cons, List.not_mem_nil, or_false] at hp
      rcases hp with rfl | rfl | rfl | rfl <;> first | rfl | exact congrArg I (by omega) | exact congrArg Value.bool (by simp <;> omega) | exact congrArg Value.bool (by simp)⟩, HK.out⟩
    | exact ⟨rfl, rfl, by
      intro p hp
      simp only [List.mem_cons, List.not_mem_nil, or_false] at hp
      rcases hp with rfl | rfl | rfl | rfl <;> first | rfl | exact congrArg I (by omega) | exact congrArg Value.bool (by simp <;> omega) | exact congrArg Value.bool (by simp)⟩
    | exact ⟨rfl, ⟨rfl, rfl, by
      intro p hp
      simp only [List.mem_cons, List.not_mem_nil, or_false] at hp
      rcases hp with rfl | rfl | rfl | rfl <;> first | rfl | exact congrArg I (by omega) | exact congrArg Value.bool (by simp <;> omega) | exact congrArg Value.bool (by simp)⟩, HK.out⟩

set_option maxHeartbeats 1000000 in
set_option maxRecDepth 100000 in
theorem p15_8 {v : World} {a : Act} {b o n cap gr i : Nat} {q : Option Addr} {nn nc : Nat} (hn : n ≤ 2600000000000) (hm : nn ≤ 17592186044416) (hi : i < n) (c0 : v.cell? ⟨b, o + i * 5, none⟩ = some (.slice q nn nc)) (hA : Fl 66 [(0, .slice (some ⟨gr, 0, none⟩) n (n + 1)), (1, .slice (some ⟨b, o, none⟩) n cap), (6, I (i : Nat)), (7, .bool true)] a) :
    q15_8.wp Try.prog (fun e a' w' => e = .normal ∧ (Fl 66 [(0, .slice (some ⟨gr, 0, none⟩) n (n + 1)), (1, .slice (some ⟨b, o, none⟩) n cap), (6, I (i : Nat)), (7, .bool true), (8, I (nn : Nat))] a' ∧ w' = v)) a v := by
  obtain ⟨hsz, hd, hp⟩ := hA
  obtain ⟨u, rfl, hg⟩ := litN hsz hd
  simp only [List.forall_mem_cons, hg] at hp
  obtain ⟨u0, u1, u6, u7, -⟩ := hp
  clear hg hsz hd
  unfold q15_8 C15 Try.f15 seq1 seq2 blockC loopC
  simp only [Option.getD_some, lits, Nat.reduceAdd, u0, u1, u6, u7]
  clear u0 u1 u6 u7
  go_wp2_with fail
  first
    | exact ⟨⟨rfl, rfl, by
      intro p hp
      simp only [List.mem_cons, List.not_mem_nil, or_false] at hp
      rcases hp with rfl | rfl | rfl | rfl | rfl <;> first | rfl | exact congrArg I (by omega) | exact congrArg Value.bool (by simp <;> omega) | exact congrArg Value.bool (by simp)⟩, rfl⟩
    | exact ⟨rfl, rfl, by
      intro p hp
      simp only [List.mem_cons, List.not_mem_nil, or_false] at hp
      rcases hp with rfl | rfl | rfl | rfl | rfl <;> first | rfl | exact congrArg I (by omega) | exact congrArg Value.bool (by simp <;> omega) | exact congrArg Value.bool (by simp)⟩
    | exact ⟨rfl, ⟨rfl, rfl, by
      intro p hp
      simp only [List.mem_cons, List.not_mem_nil, or_false] at hp
      rcases hp with rfl | rfl | rfl | rfl | rfl <;> first | rfl | exact congrArg I (by omega) | exact congrArg Value.bool (by simp <;> omega) | exact congrArg Value.bool (by simp)⟩, rfl⟩

set_option maxHeartbeats 1000000 in
set_option maxRecDepth 100000 in
theorem p15_9 {v : World} {a : Act} {b o n cap gr i : Nat} {nn : Nat}  (hA : Fl 66 [(0, .slice (some ⟨gr, 0, none⟩) n (n + 1)), (1, .slice (some ⟨b, o, none⟩) n cap), (6, I (i : Nat)), (7, .bool true), (8, I (nn : Nat))] a) :
    q15_9.wp Try.prog (fun e a' w' => e = .normal ∧ (Fl 66 [(44, .bool false), (0, .slice (some ⟨gr, 0, none⟩) n (n + 1)), (1, .slice (some ⟨b, o, none⟩) n cap), (6, I (i : Nat)), (7, .bool true), (8, I (nn : Nat))] a' ∧ w' = v)) a v := by
  obtain ⟨hsz, hd, hp⟩ := hA
  obtain ⟨u, rfl, hg⟩ := litN hsz hd
  simp only [List.forall_mem_cons, hg] at hp
  obtain ⟨u0, u1, u6, u7, u8, -⟩ := hp
  clear hg hsz hd
  unfold q15_9 C15 Try.f15 seq1 seq2 blockC loopC
  simp only [Option.getD_some, lits, Nat.reduceAdd, u0, u1, u6, u7, u8]
  clear u0 u1 u6 u7 u8
  go_wp2_with fail
  first
    | exact ⟨⟨rfl, rfl, by
      intro p hp
      simp only [List.mem_cons, List.not_mem_nil, or_false] at hp
      rcases hp with rfl | rfl | rfl | rfl | rfl | rfl <;> first | rfl | exact congrArg I (by omega) | exact congrArg Value.bool (by simp <;> omega) | exact congrArg Value.bool (by simp)⟩, rfl⟩
    | exact ⟨rfl, rfl, by
      intro p hp
      simp only [List.mem_cons, List.not_mem_nil, or_false] at hp
      rcases hp with rfl | rfl | rfl | rfl | rfl | rfl <;> first | rfl | exact congrArg I (by omega) | exact congrArg Value.bool (by simp <;> omega) | exact congrArg Value.bool (by simp)⟩
    | exact ⟨rfl, ⟨rfl, rfl, by
      intro p hp
      simp only [List.mem_cons, List.not_mem_nil, or_false] at hp
      rcases hp with rfl | rfl | rfl | rfl | rfl | rfl <;> first | rfl | exact congrArg I (by omega) | exact congrArg Value.bool (by simp <;> omega) | exact congrArg Value.bool (by simp)⟩, rfl⟩

set_option maxHeartbeats 1000000 in
set_option maxRecDepth 100000 in
theorem p15_11 {v : World} {a : Act} {b o n cap gr i : Nat} {c nn : Nat} (hn : n ≤ 2600000000000) (hm : nn ≤ 17592186044416) (hi : i < n) (d0 : v.cell? ⟨gr, i * 5, none⟩ = some (.slice (some ⟨c, 0, none⟩) nn (nn + 2))) (hA : Fl 66 [(0, .slice (some ⟨gr, 0, none⟩) n (n + 1)), (1, .slice (some ⟨b, o, none⟩) n cap), (6, I (i : Nat)), (7, .bool true), (8, I (nn : Nat))] a) :
    q15_11.wp Try.prog (fun e a' w' => e = .normal ∧ (Fl 66 [(0, .slice (some ⟨gr, 0, none⟩) n (n + 1)), (1, .slice (some ⟨b, o, none⟩) n cap), (6, I (i : Nat)), (8, I (nn : Nat)), (9, .slice (some ⟨c, 0, none⟩) (nn + 2) (nn + 2))] a' ∧ w' = v)) a v := by
  obtain ⟨hsz, hd, hp⟩ := hA
  obtain ⟨u, rfl, hg⟩ := litN hsz hd
  simp only [List.forall_mem_cons, hg] at hp
  obtain ⟨u0, u1, u6, u7, u8, -⟩ := hp
  clear hg hsz hd
  unfold q15_11 C15 Try.f15 seq1 seq2 blockC loopC
  simp only [Option.getD_some, lits, Nat.reduceAdd, u0, u1, u6, u7, u8]
  clear u0 u1 u6 u7 u8
  go_wp2_with fail
  first
    | exact ⟨⟨rfl, rfl, by
      intro p hp
      simp only [List.mem_cons, List.not_mem_nil, or_false] at hp
      rcases hp with rfl | rfl | rfl | rfl | rfl <;> first | rfl | exact congrArg I (by omega) | exact congrArg Value.bool (by simp <;> omega) | exact congrArg Value.bool (by simp)⟩, rfl⟩
    | exact ⟨rfl, rfl, by
      intro p hp
      simp only [List.mem_cons, List.not_mem_nil, or_false] at hp
      rcases hp with rfl | rfl | rfl | rfl | rfl <;> first | rfl | exact congrArg I (by omega) | exact congrArg Value.bool (by simp <;> omega) | exact congrArg Value.bool (by simp)⟩
    | exact ⟨rfl, ⟨rfl, rfl, by
      intro p hp
      simp only [List.mem_cons, List.not_mem_nil, or_false] at hp
      rcases hp with rfl | rfl | rfl | rfl | rfl <;> first | rfl | exact congrArg I (by omega) | exact congrArg Value.bool (by simp <;> omega) | exact congrArg Value.bool (by simp)⟩, rfl⟩

set_option maxHeartbeats 1000000 in
set_option maxRecDepth 100000 in
theorem p15_12 {v : World} {a : Act} {b o n cap gr i : Nat} {c nn : Nat} (hn : n ≤ 2600000000000) (hm : nn ≤ 17592186044416) (m1 : v.cell? ⟨c, nn, none⟩ = some (I (-71))) (m2 : v.cell? ⟨c, nn + 1, none⟩ = some (I (-72))) (hA : Fl 66 [(0, .slice (some ⟨gr, 0, none⟩) n (n + 1)), (1, .slice (some ⟨b, o, none⟩) n cap), (6, I (i : Nat)), (8, I (nn : Nat)), (9, .slice (some ⟨c, 0, none⟩) (nn + 2) (nn + 2))] a) :
    q15_12.wp Try.prog (fun e a' w' => e = .normal ∧ (Fl 66 [(65, .bool false), (0, .slice (some ⟨gr, 0, none⟩) n (n + 1)), (1, .slice (some ⟨b, o, none⟩) n cap), (6, I (i : Nat))] a' ∧ w' = v)) a v := by
  obtain ⟨hsz, hd, hp⟩ := hA
  obtain ⟨u, rfl, hg⟩ := litN hsz hd
  simp only [List.forall_mem_cons, hg] at hp
  obtain ⟨u0, u1, u6, u8, u9, -⟩ := hp
  clear hg hsz hd
  unfold q15_12 C15 Try.f15 seq1 seq2 blockC loopC
  simp only [Option.getD_some, lits, Nat.reduceAdd, u0, u1, u6, u8, u9]
  clear u0 u1 u6 u8 u9
  go_wp2_with fail
  first
    | exact ⟨⟨rfl, rfl, by
      intro p hp
      simp only [List.mem_cons, List.not_mem_nil, or_false] at hp
      rcases hp with rfl | rfl | rfl | rfl <;> first | rfl | exact congrArg I (by omega) | exact congrArg Value.bool (by simp <;> omega) | exact congrArg Value.bool (by simp)⟩, rfl⟩
    | exact ⟨rfl, rfl, by
      intro p hp
      simp only [List.mem_cons, List.not_mem_nil, or_false] at hp
      rcases hp with rfl | rfl | rfl | rfl <;> first | rfl | exact congrArg I (by omega) | exact congrArg Value.bool (by simp <;> omega) | exact congrArg Value.bool (by simp)⟩
    | exact ⟨rfl, ⟨rfl, rfl, by
      intro p hp
      simp only [List.mem_cons, List.not_mem_nil, or_false] at hp
      rcases hp with rfl | rfl | rfl | rfl <;> first | rfl | exact congrArg I (by omega) | exact congrArg Value.bool (by simp <;> omega) | exact congrArg Value.bool (by simp)⟩, rfl⟩

set_option maxHeartbeats 1000000 in
set_option maxRecDepth 100000 in
theorem p15_14 {v : World} {a : Act}   (hA : Fl 66 [] a) :
    q15_14.wp Try.prog (fun e a' w' => e = .normal ∧ (Fl 66 [(4, .bool true)] a' ∧ w' = v)) a v := by
  obtain ⟨hsz, hd, hp⟩ := hA
  obtain ⟨u, rfl, hg⟩ := litN hsz hd
  clear hg hp hsz hd
  unfold q15_14 C15 Try.f15 seq1 seq2
  simp only [Option.getD_some, lits, Nat.reduceAdd]
  go_wp2_with fail
  first
    | exact ⟨⟨rfl, rfl, by
      intro p hp
      simp only [List.mem_cons, List.not_mem_nil, or_false] at hp
      rcases hp with rfl <;> first | rfl | exact congrArg I (by omega) | exact congrArg Value.bool (by simp <;> omega) | exact congrArg Value.bool (by simp)⟩, rfl⟩
    | exact ⟨rfl, rfl, by
      intro p hp
      simp only [List.mem_cons, List.not_mem_nil, or_false] at hp
      rcases hp with rfl <;> first | rfl | exact congrArg I (by omega) | exact congrArg Value.bool (by simp <;> omega) | exact congrArg Value.bool (by simp)⟩
    | exact ⟨rfl, ⟨rfl, rfl, by
      intro p hp
      simp only [List.mem_cons, List.not_mem_nil, or_false] at hp
      rcases hp with rfl <;> first | rfl | exact congrArg I (by omega) | exact congrArg Value.bool (by simp <;> omega) | exact congrArg Value.bool (by simp)⟩, rfl⟩

theorem in15 {w : World} {R : Value → World → Prop} {x0 x1 : Value} (h : ∀ a, Fl 66 [(0, x0), (1, x1)] a → C15.wp Try.prog (bodyPost Try.prog Try.f15 (Ret R)) a w) : Calls Try.prog 15 #[x0, x1] w (Ret R) :=
  calls_of_wp Try.func15 (show Try.f15.body = some C15 by kernel_rfl) (by
    rw [Try.ntmps15]
    exact h _ (fl_enter _ _ 66 (by simp) _ (by intro p hp; simp only [List.mem_cons, List.not_mem_nil, or_false] at hp; rcases hp with rfl | rfl <;> rfl)))

noncomputable def C16 : Code := Try.f16.body.getD .skip
noncomputable def q16_0 : Code := (seq1 C16)
noncomputable def q16_1 : Code := (seq1 (seq1 (loopC (blockC (seq2 C16)))))
noncomputable def q16_3 : Code := (seq1 (seq1 (blockC (seq1 (seq2 (loopC (blockC (seq2 C16))))))))
noncomputable def q16_4 : Code := (seq1 (seq1 (loopC (blockC (seq2 (seq1 (blockC (seq1 (seq2 (loopC (blockC (seq2 C16))))))))))))
noncomputable def q16_6 : Code := (blockC (seq1 (seq2 (loopC (blockC (seq2 (seq1 (blockC (seq1 (seq2 (loopC (blockC (seq2 C16)))))))))))))
noncomputable def q16_5 : Code := (seq2 (seq2 (loopC (blockC (seq2 (seq1 (blockC (seq1 (seq2 (loopC (blockC (seq2 C16))))))))))))
noncomputable def q16_7 : Code := (seq2 (blockC (seq1 (seq2 (loopC (blockC (seq2 C16)))))))
noncomputable def q16_2 : Code := (seq2 (seq2 (loopC (blockC (seq2 C16)))))
noncomputable def K16_3 : Code := q16_6
noncomputable def K16_2 : Code := (.loop (.seq (.seq q16_4 (.cond ( .tmp 17 ) .skip (.exit 2))) (.seq (.block 3 K16_3) q16_5)))
noncomputable def K16_1 : Code := (.seq (.seq q16_3 (.block 2 K16_2)) q16_7)
noncomputable def K16_0 : Code := (.loop (.seq (.seq q16_1 (.cond ( .tmp 7 ) .skip (.exit 0))) (.seq (.block 1 K16_1) q16_2)))
theorem e16 : C16 = (.seq q16_0 (.block 0 K16_0)) := by kernel_rfl

set_option maxHeartbeats 1000000 in
set_option maxRecDepth 100000 in
theorem p16_0 {v : World} {a : Act} {n gr : Nat}  (hA : Fl 31 [(0, .slice (some ⟨gr, 0, none⟩) n (n + 1))] a) :
    q16_0.wp Try.prog (fun e a' w' => e = .normal ∧ (Fl 31 [(0, .slice (some ⟨gr, 0, none⟩) n (n + 1)), (2, I (0 : Nat))] a' ∧ w' = v)) a v := by
  obtain ⟨hsz, hd, hp⟩ := hA
  obtain ⟨u, rfl, hg⟩ := litN hsz hd
  simp only [List.forall_mem_cons, hg] at hp
  obtain ⟨u0, -⟩ := hp
  clear hg hsz hd
  unfold q16_0 C16 Try.f16 seq1
  simp only [Option.getD_some, lits, Nat.reduceAdd, u0]
  clear u0
  go_wp2_with fail
  first
    | exact ⟨⟨rfl, rfl, by
      intro p hp
      simp only [List.mem_cons, List.not_mem_nil, or_false] at hp
      rcases hp with rfl | rfl <;> first | rfl | exact congrArg I (by omega) | exact congrArg Value.bool (by simp <;> omega) | exact congrArg Value.bool (by simp)⟩, rfl⟩
    | exact ⟨rfl, rfl, by
      intro p hp
      simp only [List.mem_cons, List.not_mem_nil, or_false] at hp
      rcases hp with rfl | rfl <;> first | rfl | exact congrArg I (by omega) | exact congrArg Value.bool (by simp <;> omega) | exact congrArg Value.bool (by simp)⟩
    | exact ⟨rfl, ⟨rfl, rfl, by
      intro p hp
      simp only [List.mem_cons, List.not_mem_nil, or_false] at hp
      rcases hp with rfl | rfl <;> first | rfl | exact congrArg I (by omega) | exact congrArg Value.bool (by simp <;> omega) | exact congrArg Value.bool (by simp)⟩, rfl⟩

set_option maxHeartbeats 1000000 in
set_option maxRecDepth 100000 in
theorem p16_1 {v : World} {a : Act} {n gr : Nat} {i : Nat} (hn : n ≤ 2600000000000) (hA : Fl 31 [(0, .slice (some ⟨gr, 0, none⟩) n (n + 1)), (2, I (i : Nat))] a) :
    q16_1.wp Try.prog (fun e a' w' => e = .normal ∧ (Fl 31 [(7, .bool (decide (i < n))), (0, .slice (some ⟨gr, 0, none⟩) n (n + 1)), (2, I (i : Nat))] a' ∧ w' = v)) a v := by
  obtain ⟨hsz, hd, hp⟩ := hA
  obtain ⟨u, rfl, hg⟩ := litN hsz hd
  simp only [List.forall_mem_cons, hg] at hp
  obtain ⟨u0, u2, -⟩ := hp
  clear hg hsz hd
  unfold q16_1 C16 Try.f16 seq1 seq2 blockC loopC
  simp only [Option.getD_some, lits, Nat.reduceAdd, u0, u2]
  clear u0 u2
  go_wp2_with fail
  first
    | exact ⟨⟨rfl, rfl, by
      intro p hp
      simp only [List.mem_cons, List.not_mem_nil, or_false] at hp
      rcases hp with rfl | rfl | rfl <;> first | rfl | exact congrArg I (by omega) | exact congrArg Value.bool (by simp <;> omega) | exact congrArg Value.bool (by simp)⟩, rfl⟩
    | exact ⟨rfl, rfl, by
      intro p hp
      simp only [List.mem_cons, List.not_mem_nil, or_false] at hp
      rcases hp with rfl | rfl | rfl <;> first | rfl | exact congrArg I (by omega) | exact congrArg Value.bool (by simp <;> omega) | exact congrArg Value.bool (by simp)⟩
    | exact ⟨rfl, ⟨rfl, rfl, by
      intro p hp
      simp only [List.mem_cons, List.not_mem_nil, or_false] at hp
      rcases hp with rfl | rfl | rfl <;> first | rfl | exact congrArg I (by omega) | exact congrArg Value.bool (by simp <;> omega) | exact congrArg Value.bool (by simp)⟩, rfl⟩

set_option maxHeartbeats 1000000 in
set_option maxRecDepth 100000 in
theorem p16_2 {v : World} {a : Act} {n gr : Nat} {i : Nat} (hi : i < 17592186044416) (hA : Fl 31 [(0, .slice (some ⟨gr, 0, none⟩) n (n + 1)), (2, I (i : Nat))] a) :
    q16_2.wp Try.prog (fun e a' w' => e = .normal ∧ (Fl 31 [(0, .slice (some ⟨gr, 0, none⟩) n (n + 1)), (2, I ((i + 1 : Nat) : Int))] a' ∧ w' = v)) a v := by
  obtain ⟨hsz, hd, hp⟩ := hA
  obtain ⟨u, rfl, hg⟩ := litN hsz hd
  simp only [List.forall_mem_cons, hg] at hp
  obtain ⟨u0, u2, -⟩ := hp
  clear hg hsz hd
  unfold q16_2 C16 Try.f16 seq2 blockC loopC
  simp only [Option.getD_some, lits, Nat.reduceAdd, u0, u2]
  clear u0 u2
  go_wp2_with fail
  first
    | exact ⟨⟨rfl, rfl, by
      intro p hp
      simp only [List.mem_cons, List.not_mem_nil, or_false] at hp
      rcases hp with rfl | rfl <;> first | rfl | exact congrArg I (by omega) | exact congrArg Value.bool (by simp <;> omega) | exact congrArg Value.bool (by simp)⟩, rfl⟩
    | exact ⟨rfl, rfl, by
      intro p hp
      simp only [List.mem_cons, List.not_mem_nil, or_false] at hp
      rcases hp with rfl | rfl <;> first | rfl | exact congrArg I (by omega) | exact congrArg Value.bool (by simp <;> omega) | exact congrArg Value.bool (by simp)⟩
    | exact ⟨rfl, ⟨rfl, rfl, by
      intro p hp
      simp only [List.mem_cons, List.not_mem_nil, or_false] at hp
      rcases hp with rfl | rfl <;> first | rfl | exact congrArg I (by omega) | exact congrArg Value.bool (by simp <;> omega) | exact congrArg Value.bool (by simp)⟩, rfl⟩

set_option maxHeartbeats 1000000 in
set_option maxRecDepth 100000 in
theorem p16_3 {v : World} {a : Act} {n gr : Nat} {i : Nat}  (hA : Fl 31 [(0, .slice (some ⟨gr, 0, none⟩) n (n + 1)), (2, I (i : Nat))] a) :
    q16_3.wp Try.prog (fun e a' w' => e = .normal ∧ (Fl 31 [(0, .slice (some ⟨gr, 0, none⟩) n (n + 1)), (2, I (i : Nat)), (3, I (0 : Nat))] a' ∧ w' = v)) a v := by
  obtain ⟨hsz, hd, hp⟩ := hA
  obtain ⟨u, rfl, hg⟩ := litN hsz hd
  simp only [List.forall_mem_cons, hg] at hp
  obtain ⟨u0, u2, -⟩ := hp
  clear hg hsz hd
  unfold q16_3 C16 Try.f16 seq1 seq2 blockC loopC
  simp only [Option.getD_some, lits, Nat.reduceAdd, u0, u2]
  clear u0 u2
  go_wp2_with fail
  first
    | exact ⟨⟨rfl, rfl, by
      intro p hp
      simp only [List.mem_cons, List.not_mem_nil, or_false] at hp
      rcases hp with rfl | rfl | rfl <;> first | rfl | exact congrArg I (by omega) | exact congrArg Value.bool (by simp <;> omega) | exact congrArg Value.bool (by simp)⟩, rfl⟩
    | exact ⟨rfl, rfl, by
      intro p hp
      simp only [List.mem_cons, List.not_mem_nil, or_false] at hp
      rcases hp with rfl | rfl | rfl <;> first | rfl | exact congrArg I (by omega) | exact congrArg Value.bool (by simp <;> omega) | exact congrArg Value.bool (by simp)⟩
    | exact ⟨rfl, ⟨rfl, rfl, by
      intro p hp
      simp only [List.mem_cons, List.not_mem_nil, or_false] at hp
      rcases hp with rfl | rfl | rfl <;> first | rfl | exact congrArg I (by omega) | exact congrArg Value.bool (by simp <;> omega) | exact congrArg Value.bool (by simp)⟩, rfl⟩

set_option maxHeartbeats 1000000 in
set_option maxRecDepth 100000 in
theorem p16_4 {v : World} {a : Act} {n gr i t c nn nc : Nat} (hn : n ≤ 2600000000000) (hm : nn ≤ 17592186044416) (hi : i < n) (d0 : v.cell? ⟨gr, i * 5, none⟩ = some (.slice (some ⟨c, 0, none⟩) nn nc)) (hA : Fl 31 [(0, .slice (some ⟨gr, 0, none⟩) n (n + 1)), (2, I (i : Nat)), (3, I (t : Nat))] a) :
    q16_4.wp Try.prog (fun e a' w' => e = .normal ∧ (Fl 31 [(17, .bool (decide (t < nn))), (0, .slice (some ⟨gr, 0, none⟩) n (n + 1)), (2, I (i : Nat)), (3, I (t : Nat))] a' ∧ w' = v)) a v := by
  obtain ⟨hsz, hd, hp⟩ := hA
  obtain ⟨u, rfl, hg⟩ := litN hsz hd
  simp only [List.forall_mem_cons, hg] at hp
  obtain ⟨u0, u2, u3, -⟩ := hp
  clear hg hsz hd
  unfold q16_4 C16 Try.f16 seq1 seq2 blockC loopC
  simp only [Option.getD_some, lits, Nat.reduceAdd, u0, u2, u3]
  clear u0 u2 u3
  go_wp2_with fail
  first
    | exact ⟨⟨rfl, rfl, by
      intro p hp
      simp only [List.mem_cons, List.not_mem_nil, or_false] at hp
      rcases hp with rfl | rfl | rfl | rfl <;> first | rfl | exact congrArg I (by omega) | exact congrArg Value.bool (by simp <;> omega) | exact congrArg Value.bool (by simp)⟩, rfl⟩
    | exact ⟨rfl, rfl, by
      intro p hp
      simp only [List.mem_cons, List.not_mem_nil, or_false] at hp
      rcases hp with rfl | rfl | rfl | rfl <;> first | rfl | exact congrArg I (by omega) | exact congrArg Value.bool (by simp <;> omega) | exact congrArg Value.bool (by simp)⟩
    | exact ⟨rfl, ⟨rfl, rfl, by
      intro p hp
      simp only [List.mem_cons, List.not_mem_nil, or_false] at hp
      rcases hp with rfl | rfl | rfl | rfl <;> first | rfl | exact congrArg I (by omega) | exact congrArg Value.bool (by simp <;> omega) | exact congrArg Value.bool (by simp)⟩, rfl⟩

set_option maxHeartbeats 1000000 in
set_option maxRecDepth 100000 in
theorem p16_5 {v : World} {a : Act} {n gr : Nat} {i t : Nat} (hi : t < 17592186044416) (hA : Fl 31 [(0, .slice (some ⟨gr, 0, none⟩) n (n + 1)), (2, I (i : Nat)), (3, I (t : Nat))] a) :
    q16_5.wp Try.prog (fun e a' w' => e = .normal ∧ (Fl 31 [(0, .slice (some ⟨gr, 0, none⟩) n (n + 1)), (2, I (i : Nat)), (3, I ((t + 1 : Nat) : Int))] a' ∧ w' = v)) a v := by
  obtain ⟨hsz, hd, hp⟩ := hA
  obtain ⟨u, rfl, hg⟩ := litN hsz hd
  simp only [List.forall_mem_cons, hg] at hp
  obtain ⟨u0, u2, u3, -⟩ := hp
  clear hg hsz hd
  unfold q16_5 C16 Try.f16 seq1 seq2 blockC loopC
  simp only [Option.getD_some, lits, Nat.reduceAdd, u0, u2, u3]
  clear u0 u2 u3
  go_wp2_with fail
  first
    | exact ⟨⟨rfl, rfl, by
      intro p hp
      simp only [List.mem_cons, List.not_mem_nil, or_false] at hp
      rcases hp with rfl | rfl | rfl <;> first | rfl | exact congrArg I (by omega) | exact congrArg Value.bool (by simp <;> omega) | exact congrArg Value.bool (by simp)⟩, rfl⟩
    | exact ⟨rfl, rfl, by
      intro p hp
      simp only [List.mem_cons, List.not_mem_nil, or_false] at hp
      rcases hp with rfl | rfl | rfl <;> first | rfl | exact congrArg I (by omega) | exact congrArg Value.bool (by simp <;> omega) | exact congrArg Value.bool (by simp)⟩
    | exact ⟨rfl, ⟨rfl, rfl, by
      intro p hp
      simp only [List.mem_cons, List.not_mem_nil, or_false] at hp
      rcases hp with rfl | rfl | rfl <;> first | rfl | exact congrArg I (by omega) | exact congrArg Value.bool (by simp <;> omega) | exact congrArg Value.bool (by simp)⟩, rfl⟩

set_option maxHeartbeats 1000000 in
set_option maxRecDepth 100000 in
theorem p16_6 {v : World} {a : Act} {n gr i t c nn nc : Nat} {u : Value} (hn : n ≤ 2600000000000) (hm : nn ≤ 17592186044416) (hi : i < n) (d0 : v.cell? ⟨gr, i * 5, none⟩ = some (.slice (some ⟨c, 0, none⟩) nn nc)) (ht : t < nn) (e : v.cell? ⟨c, t, none⟩ = some u) (f : v.frozen? ⟨c, t, none⟩ = false) (hA : Fl 31 [(0, .slice (some ⟨gr, 0, none⟩) n (n + 1)), (2, I (i : Nat)), (3, I (t : Nat))] a) :
    q16_6.wp Try.prog (fun e a' w' => e = .normal ∧ (Fl 31 [(0, .slice (some ⟨gr, 0, none⟩) n (n + 1)), (2, I (i : Nat)), (3, I (t : Nat))] a' ∧ w' = v.setCell ⟨c, t, none⟩ (I 0))) a v := by
  obtain ⟨hsz, hd, hp⟩ := hA
  obtain ⟨u, rfl, hg⟩ := litN hsz hd
  simp only [List.forall_mem_cons, hg] at hp
  obtain ⟨u0, u2, u3, -⟩ := hp
  clear hg hsz hd
  unfold q16_6 C16 Try.f16 seq1 seq2 blockC loopC
  simp only [Option.getD_some, lits, Nat.reduceAdd, u0, u2, u3]
  clear u0 u2 u3
  go_wp2_with fail
  first
    | exact ⟨⟨rfl, rfl, by
      intro p hp
      simp only [List.mem_cons, List.not_mem_nil, or_false] at hp
      rcases hp with rfl | rfl | rfl <;> first | rfl | exact congrArg I (by omega) | exact congrArg Value.bool (by simp <;> omega) | exact congrArg Value.bool (by simp)⟩, rfl⟩
    | exact ⟨rfl, rfl, by
      intro p hp
      simp only [List.mem_cons, List.not_mem_nil, or_false] at hp
      rcases hp with rfl | rfl | rfl <;> first | rfl | exact congrArg I (by omega) | exact congrArg Value.bool (by simp <;> omega) | exact congrArg Value.bool (by simp)⟩
    | exact ⟨rfl, ⟨rfl, rfl, by
      intro p hp
      simp only [List.mem_cons, List.not_mem_nil, or_false] at hp
      rcases hp with rfl | rfl | rfl <;> first | rfl | exact congrArg I (by omega) | exact congrArg Value.bool (by simp <;> omega) | exact congrArg Value.bool (by simp)⟩, rfl⟩

set_option maxHeartbeats 1000000 in
set_option maxRecDepth 100000 in
theorem p16_7 {v : World} {a : Act} {n gr : Nat} {i : Nat} {u : Value} (hn : n ≤ 2600000000000) (hi : i < n) (e : v.cell? ⟨gr, i * 5 + 2, none⟩ = some u) (f : v.frozen? ⟨gr, i * 5 + 2, none⟩ = false) (hA : Fl 31 [(0, .slice (some ⟨gr, 0, none⟩) n (n + 1)), (2, I (i : Nat))] a) :
    q16_7.wp Try.prog (fun e a' w' => e = .normal ∧ (Fl 31 [(0, .slice (some ⟨gr, 0, none⟩) n (n + 1)), (2, I (i : Nat))] a' ∧ w' = v.setCell ⟨gr, i * 5 + 2, none⟩ (I 1))) a v := by
  obtain ⟨hsz, hd, hp⟩ := hA
  obtain ⟨u, rfl, hg⟩ := litN hsz hd
  simp only [List.forall_mem_cons, hg] at hp
  obtain ⟨u0, u2, -⟩ := hp
  clear hg hsz hd
  unfold q16_7 C16 Try.f16 seq1 seq2 blockC loopC
  simp only [Option.getD_some, lits, Nat.reduceAdd, u0, u2]
  clear u0 u2
  go_wp2_with fail
  first
    | exact ⟨⟨rfl, rfl, by
      intro p hp
      simp only [List.mem_cons, List.not_mem_nil, or_false] at hp
      rcases hp with rfl | rfl <;> first | rfl | exact congrArg I (by omega) | exact congrArg Value.bool (by simp <;> omega) | exact congrArg Value.bool (by simp)⟩, rfl⟩
    | exact ⟨rfl, rfl, by
      intro p hp
      simp only [List.mem_cons, List.not_mem_nil, or_false] at hp
      rcases hp with rfl | rfl <;> first | rfl | exact congrArg I (by omega) | exact congrArg Value.bool (by simp <;> omega) | exact congrArg Value.bool (by simp)⟩
    | exact ⟨rfl, ⟨rfl, rfl, by
      intro p hp
      simp only [List.mem_cons, List.not_mem_nil, or_false] at hp
      rcases hp with rfl | rfl <;> first | rfl | exact congrArg I (by omega) | exact congrArg Value.bool (by simp <;> omega) | exact congrArg Value.bool (by simp)⟩, rfl⟩

theorem in16 {w : World} {R : Value → World → Prop} {x0 : Value} (h : ∀ a, Fl 31 [(0, x0)] a → C16.wp Try.prog (bodyPost Try.prog Try.f16 (Ret R)) a w) : Calls Try.prog 16 #[x0] w (Ret R) :=
  calls_of_wp Try.func16 (show Try.f16.body = some C16 by kernel_rfl) (by
    rw [Try.ntmps16]
    exact h _ (fl_enter _ _ 31 (by simp) _ (by intro p hp; simp only [List.mem_cons, List.not_mem_nil, or_false] at hp; rcases hp with rfl <;> rfl)))

end Go.Proofs.Ytgohfdgkihoilaa.Rcp
