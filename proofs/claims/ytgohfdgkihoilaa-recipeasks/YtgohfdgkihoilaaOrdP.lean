/- The law RecipeOrders (6): its pieces. (Made by wip/tools/mk6.py.) -/
import Derived.Test.YtgohfdgkihoilaaAsd
set_option linter.unusedSimpArgs false
set_option linter.unusedVariables false
namespace Go.Proofs.Ytgohfdgkihoilaa.Rcp
open Go Go.RowKit Go.Deep Go.Maps

theorem incr_and (x : Int) : 0 ≤ bits .and .i64 x 1023 ∧ bits .and .i64 x 1023 ≤ 1023 := by
  have e : bits .and .i64 x 1023 = IntKind.i64.wrap ((BitVec.ofInt 64 x &&& BitVec.ofInt 64 1023).toNat : Int) := rfl
  have h : (BitVec.ofInt 64 x &&& BitVec.ofInt 64 1023).toNat ≤ 1023 := by
    rw [BitVec.toNat_and]
    exact Nat.le_trans Nat.and_le_right (by decide)
  rw [e, IntKind.wrap_i64]
  generalize (BitVec.ofInt 64 x &&& BitVec.ofInt 64 1023).toNat = k at h
  omega
noncomputable def C6 : Code := Try.f6.body.getD .skip
noncomputable def q6_0 : Code := (seq1 C6)
noncomputable def q6_1 : Code := (seq1 (seq2 C6))
noncomputable def q6_2 : Code := (seq1 (seq2 (seq2 C6)))
noncomputable def q6_3 : Code := (seq1 (seq1 (seq2 (seq2 (seq2 C6)))))
noncomputable def q6_4 : Code := (seq1 (condA (seq2 (seq1 (seq2 (seq2 (seq2 C6)))))))
noncomputable def q6_5 : Code := (seq1 (seq2 (seq2 (seq2 (seq2 C6)))))
noncomputable def q6_6 : Code := (seq1 (seq2 (seq2 (seq2 (seq2 (seq2 C6))))))
noncomputable def q6_7 : Code := (seq1 (seq2 (seq2 (seq2 (seq2 (seq2 (seq2 C6)))))))
noncomputable def q6_8 : Code := (seq1 (seq2 (seq2 (seq2 (seq2 (seq2 (seq2 (seq2 C6))))))))
noncomputable def q6_9 : Code := (seq1 (seq1 (seq2 (seq2 (seq2 (seq2 (seq2 (seq2 (seq2 (seq2 C6))))))))))
noncomputable def q6_10 : Code := (seq1 (seq1 (loopC (blockC (seq2 (seq1 (seq2 (seq2 (seq2 (seq2 (seq2 (seq2 (seq2 (seq2 C6))))))))))))))
noncomputable def q6_12 : Code := (seq1 (blockC (seq1 (seq2 (loopC (blockC (seq2 (seq1 (seq2 (seq2 (seq2 (seq2 (seq2 (seq2 (seq2 (seq2 C6))))))))))))))))
noncomputable def q6_13 : Code := (seq1 (seq1 (seq2 (blockC (seq1 (seq2 (loopC (blockC (seq2 (seq1 (seq2 (seq2 (seq2 (seq2 (seq2 (seq2 (seq2 (seq2 C6))))))))))))))))))
noncomputable def q6_14 : Code := (seq1 (condA (seq2 (seq1 (seq2 (blockC (seq1 (seq2 (loopC (blockC (seq2 (seq1 (seq2 (seq2 (seq2 (seq2 (seq2 (seq2 (seq2 (seq2 C6))))))))))))))))))))
noncomputable def q6_15 : Code := (seq1 (seq1 (seq2 (seq2 (blockC (seq1 (seq2 (loopC (blockC (seq2 (seq1 (seq2 (seq2 (seq2 (seq2 (seq2 (seq2 (seq2 (seq2 C6)))))))))))))))))))
noncomputable def q6_16 : Code := (seq1 (seq1 (loopC (blockC (seq2 (seq1 (seq2 (seq2 (blockC (seq1 (seq2 (loopC (blockC (seq2 (seq1 (seq2 (seq2 (seq2 (seq2 (seq2 (seq2 (seq2 (seq2 C6)))))))))))))))))))))))
noncomputable def q6_18 : Code := (seq1 (blockC (seq1 (seq2 (loopC (blockC (seq2 (seq1 (seq2 (seq2 (blockC (seq1 (seq2 (loopC (blockC (seq2 (seq1 (seq2 (seq2 (seq2 (seq2 (seq2 (seq2 (seq2 (seq2 C6)))))))))))))))))))))))))
noncomputable def q6_19 : Code := (seq1 (condA (seq2 (blockC (seq1 (seq2 (loopC (blockC (seq2 (seq1 (seq2 (seq2 (blockC (seq1 (seq2 (loopC (blockC (seq2 (seq1 (seq2 (seq2 (seq2 (seq2 (seq2 (seq2 (seq2 (seq2 C6)))))))))))))))))))))))))))
noncomputable def q6_17 : Code := (seq2 (seq2 (loopC (blockC (seq2 (seq1 (seq2 (seq2 (blockC (seq1 (seq2 (loopC (blockC (seq2 (seq1 (seq2 (seq2 (seq2 (seq2 (seq2 (seq2 (seq2 (seq2 C6)))))))))))))))))))))))
noncomputable def q6_20 : Code := (seq2 (seq2 (seq2 (blockC (seq1 (seq2 (loopC (blockC (seq2 (seq1 (seq2 (seq2 (seq2 (seq2 (seq2 (seq2 (seq2 (seq2 C6))))))))))))))))))
noncomputable def q6_11 : Code := (seq2 (seq2 (loopC (blockC (seq2 (seq1 (seq2 (seq2 (seq2 (seq2 (seq2 (seq2 (seq2 (seq2 C6))))))))))))))
noncomputable def q6_21 : Code := (seq1 (seq1 (seq2 (seq2 (seq2 (seq2 (seq2 (seq2 (seq2 (seq2 (seq2 C6)))))))))))
noncomputable def q6_22 : Code := (seq1 (seq1 (loopC (blockC (seq2 (seq1 (seq2 (seq2 (seq2 (seq2 (seq2 (seq2 (seq2 (seq2 (seq2 C6)))))))))))))))
noncomputable def q6_24 : Code := (seq1 (blockC (seq1 (seq2 (loopC (blockC (seq2 (seq1 (seq2 (seq2 (seq2 (seq2 (seq2 (seq2 (seq2 (seq2 (seq2 C6)))))))))))))))))
noncomputable def q6_25 : Code := (seq1 (seq2 (blockC (seq1 (seq2 (loopC (blockC (seq2 (seq1 (seq2 (seq2 (seq2 (seq2 (seq2 (seq2 (seq2 (seq2 (seq2 C6))))))))))))))))))
noncomputable def q6_26 : Code := (seq1 (condA (seq2 (seq2 (blockC (seq1 (seq2 (loopC (blockC (seq2 (seq1 (seq2 (seq2 (seq2 (seq2 (seq2 (seq2 (seq2 (seq2 (seq2 C6))))))))))))))))))))
noncomputable def q6_23 : Code := (seq2 (seq2 (loopC (blockC (seq2 (seq1 (seq2 (seq2 (seq2 (seq2 (seq2 (seq2 (seq2 (seq2 (seq2 C6)))))))))))))))
noncomputable def q6_27 : Code := (seq1 (seq2 (seq2 (seq2 (seq2 (seq2 (seq2 (seq2 (seq2 (seq2 (seq2 C6)))))))))))
noncomputable def q6_28 : Code := (seq1 (seq1 (seq2 (seq2 (seq2 (seq2 (seq2 (seq2 (seq2 (seq2 (seq2 (seq2 (seq2 C6)))))))))))))
noncomputable def q6_29 : Code := (seq1 (seq1 (loopC (blockC (seq2 (seq1 (seq2 (seq2 (seq2 (seq2 (seq2 (seq2 (seq2 (seq2 (seq2 (seq2 (seq2 C6)))))))))))))))))
noncomputable def q6_31 : Code := (blockC (seq1 (seq2 (loopC (blockC (seq2 (seq1 (seq2 (seq2 (seq2 (seq2 (seq2 (seq2 (seq2 (seq2 (seq2 (seq2 (seq2 C6))))))))))))))))))
noncomputable def q6_30 : Code := (seq2 (seq2 (loopC (blockC (seq2 (seq1 (seq2 (seq2 (seq2 (seq2 (seq2 (seq2 (seq2 (seq2 (seq2 (seq2 (seq2 C6)))))))))))))))))
noncomputable def q6_32 : Code := (seq1 (seq2 (seq2 (seq2 (seq2 (seq2 (seq2 (seq2 (seq2 (seq2 (seq2 (seq2 (seq2 C6)))))))))))))
noncomputable def q6_33 : Code := (seq1 (seq1 (seq2 (seq2 (seq2 (seq2 (seq2 (seq2 (seq2 (seq2 (seq2 (seq2 (seq2 (seq2 (seq2 C6)))))))))))))))
noncomputable def q6_34 : Code := (seq1 (condA (seq2 (seq1 (seq2 (seq2 (seq2 (seq2 (seq2 (seq2 (seq2 (seq2 (seq2 (seq2 (seq2 (seq2 (seq2 C6)))))))))))))))))
noncomputable def q6_35 : Code := (seq1 (seq1 (seq2 (seq2 (seq2 (seq2 (seq2 (seq2 (seq2 (seq2 (seq2 (seq2 (seq2 (seq2 (seq2 (seq2 C6))))))))))))))))
noncomputable def q6_36 : Code := (seq1 (seq1 (loopC (blockC (seq2 (seq1 (seq2 (seq2 (seq2 (seq2 (seq2 (seq2 (seq2 (seq2 (seq2 (seq2 (seq2 (seq2 (seq2 (seq2 C6))))))))))))))))))))
noncomputable def q6_38 : Code := (seq1 (blockC (seq1 (seq2 (loopC (blockC (seq2 (seq1 (seq2 (seq2 (seq2 (seq2 (seq2 (seq2 (seq2 (seq2 (seq2 (seq2 (seq2 (seq2 (seq2 (seq2 C6))))))))))))))))))))))
noncomputable def q6_39 : Code := (seq1 (condA (seq2 (blockC (seq1 (seq2 (loopC (blockC (seq2 (seq1 (seq2 (seq2 (seq2 (seq2 (seq2 (seq2 (seq2 (seq2 (seq2 (seq2 (seq2 (seq2 (seq2 (seq2 C6))))))))))))))))))))))))
noncomputable def q6_37 : Code := (seq2 (seq2 (loopC (blockC (seq2 (seq1 (seq2 (seq2 (seq2 (seq2 (seq2 (seq2 (seq2 (seq2 (seq2 (seq2 (seq2 (seq2 (seq2 (seq2 C6))))))))))))))))))))
noncomputable def q6_40 : Code := (seq1 (seq2 (seq2 (seq2 (seq2 (seq2 (seq2 (seq2 (seq2 (seq2 (seq2 (seq2 (seq2 (seq2 (seq2 (seq2 C6))))))))))))))))
noncomputable def K6_3 : Code := (.seq q6_18 (.cond ( .tmp 99 ) (.seq q6_19 .ret) .skip))
noncomputable def K6_2 : Code := (.loop (.seq (.seq q6_16 (.cond ( .tmp 83 ) .skip (.exit 2))) (.seq (.block 3 K6_3) q6_17)))
noncomputable def K6_1 : Code := (.seq q6_12 (.seq (.seq q6_13 (.cond ( .tmp 79 ) (.seq q6_14 .ret) .skip)) (.seq (.seq q6_15 (.block 2 K6_2)) q6_20)))
noncomputable def K6_0 : Code := (.loop (.seq (.seq q6_10 (.cond ( .tmp 52 ) .skip (.exit 0))) (.seq (.block 1 K6_1) q6_11)))
noncomputable def K6_5 : Code := (.seq q6_24 (.seq q6_25 (.cond ( .tmp 126 ) (.seq q6_26 .ret) .skip)))
noncomputable def K6_4 : Code := (.loop (.seq (.seq q6_22 (.cond ( .tmp 106 ) .skip (.exit 4))) (.seq (.block 5 K6_5) q6_23)))
noncomputable def K6_7 : Code := q6_31
noncomputable def K6_6 : Code := (.loop (.seq (.seq q6_29 (.cond ( .tmp 130 ) .skip (.exit 6))) (.seq (.block 7 K6_7) q6_30)))
noncomputable def K6_9 : Code := (.seq q6_38 (.cond ( .tmp 183 ) (.seq q6_39 .ret) .skip))
noncomputable def K6_8 : Code := (.loop (.seq (.seq q6_36 (.cond ( .tmp 157 ) .skip (.exit 8))) (.seq (.block 9 K6_9) q6_37)))
theorem e6 : C6 = (.seq q6_0 (.seq q6_1 (.seq q6_2 (.seq (.seq q6_3 (.cond ( .tmp 36 ) (.seq q6_4 .ret) .skip)) (.seq q6_5 (.seq q6_6 (.seq q6_7 (.seq q6_8 (.seq (.seq q6_9 (.block 0 K6_0)) (.seq (.seq q6_21 (.block 4 K6_4)) (.seq q6_27 (.seq (.seq q6_28 (.block 6 K6_6)) (.seq q6_32 (.seq (.seq q6_33 (.cond ( .tmp 153 ) (.seq q6_34 .ret) .skip)) (.seq (.seq q6_35 (.block 8 K6_8)) (.seq q6_40 .ret)))))))))))))))) := by kernel_rfl

set_option maxHeartbeats 1000000 in
set_option maxRecDepth 100000 in
theorem p6_0 {v : World} {a : Act} {x0 x1 : Value} {tn : Int}  (hA : Fl 184 [(0, x0), (1, x1), (2, I tn)] a) :
    q6_0.wp Try.prog (fun e a' w' => e = .normal ∧ (Fl 184 [(0, x0), (1, x1), (2, I tn)] a' ∧ w' = v)) a v := by
  obtain ⟨hsz, hd, hp⟩ := hA
  obtain ⟨u, rfl, hg⟩ := litN hsz hd
  simp only [List.forall_mem_cons, hg] at hp
  obtain ⟨u0, u1, u2, -⟩ := hp
  clear hg hsz hd
  unfold q6_0 C6 Try.f6 seq1
  simp only [Option.getD_some, lits, Nat.reduceAdd, u0, u1, u2]
  clear u0 u1 u2
  go_wp2_with fail
  first
    | exact ⟨⟨rfl, rfl, by
      intro p hp
      simp only [List.mem_cons, List.not_mem_nil, or_false] at hp
      rcases hp with rfl | rfl | rfl <;> first | rfl | exact congrArg I (by omega) | exact congrArg Value.bool (by simp <;> omega) | exact congrArg Value.bool (by simp)⟩, rfl⟩
    | exact ⟨rfl, rfl, by
      intro p hp
      simp only [List.mem_cons, List.not_mem_nil, or_false] at hp
      rcases hp with rfl | rfl | rfl <;> first | rfl | exact congrArg I (by omega) | exact congrArg Value.bool (by simp <;> omega) | exact congrArg Value.bool (by simp)⟩
    | exact ⟨rfl, ⟨rfl, rfl, by
      intro p hp
      simp only [List.mem_cons, List.not_mem_nil, or_false] at hp
      rcases hp with rfl | rfl | rfl <;> first | rfl | exact congrArg I (by omega) | exact congrArg Value.bool (by simp <;> omega) | exact congrArg Value.bool (by simp)⟩, rfl⟩

set_option maxHeartbeats 1000000 in
set_option maxRecDepth 100000 in
theorem p6_1 {v : World} {a : Act} {x0 x1 : Value} {tn : Int}  (hA : Fl 184 [(0, x0), (1, x1), (2, I tn)] a) :
    q6_1.wp Try.prog (fun e a' w' => e = .normal ∧ (Fl 184 [(0, x0), (1, x1), (2, I tn), (7, .bool true)] a' ∧ Kp (fun i => i < v.heap.size) v w')) a v := by
  obtain ⟨hsz, hd, hp⟩ := hA
  obtain ⟨u, rfl, hg⟩ := litN hsz hd
  simp only [List.forall_mem_cons, hg] at hp
  obtain ⟨u0, u1, u2, -⟩ := hp
  clear hg hsz hd
  unfold q6_1 C6 Try.f6 seq1 seq2
  simp only [Option.getD_some, lits, Nat.reduceAdd, u0, u1, u2]
  clear u0 u1 u2
  go_wp2_with (first
    | (go_at_call 8; refine (awake_any v).mono ?_; rintro e w1 ⟨_, rfl, rfl, hk⟩; have HK : Hid (Kp (fun i => i < v.heap.size) v w1) := hk; clear hk))
  first
    | exact ⟨⟨rfl, rfl, by
      intro p hp
      simp only [List.mem_cons, List.not_mem_nil, or_false] at hp
      rcases hp with rfl | rfl | rfl | rfl <;> first | rfl | exact congrArg I (by omega) | exact congrArg Value.bool (by simp <;> omega) | exact congrArg Value.bool (by simp)⟩, HK.out⟩
    | exact ⟨rfl, rfl, by
      intro p hp
      simp only [List.mem_cons, List.not_mem_nil, or_false] at hp
      rcases hp with rfl | rfl | rfl | rfl <;> first | rfl | exact congrArg I (by omega) | exact congrArg Value.bool (by simp <;> omega) | exact congrArg Value.bool (by simp)⟩
    | exact ⟨rfl, ⟨rfl, rfl, by
      intro p hp
      simp only [List.mem_cons, List.not_mem_nil, or_false] at hp
      rcases hp with rfl | rfl | rfl | rfl <;> first | rfl | exact congrArg I (by omega) | exact congrArg Value.bool (by simp <;> omega) | exact congrArg Value.bool (by simp)⟩, HK.out⟩

set_option maxHeartbeats 1000000 in
set_option maxRecDepth 100000 in
theorem p6_2 {v : World} {a : Act} {x0 x1 : Value} {tn : Int} {Z : Nat → Prop} {l : List Rc} (hl : RL Z v x0 l) (hZ : ∀ i, Z i → i < v.heap.size) (hA : Fl 184 [(0, x0), (1, x1), (2, I tn), (7, .bool true)] a) :
    q6_2.wp Try.prog (fun e a' w' => e = .normal ∧ (Fl 184 [(0, x0), (1, x1), (2, I tn), (7, .bool true), (8, I (rightS l))] a' ∧ Kp (fun i => i < v.heap.size) v w')) a v := by
  have HC : Hid (Calls Try.prog 18 #[x0] v _) := refRight_any hl hZ
  clear hl hZ
  obtain ⟨hsz, hd, hp⟩ := hA
  obtain ⟨u, rfl, hg⟩ := litN hsz hd
  simp only [List.forall_mem_cons, hg] at hp
  obtain ⟨u0, u1, u2, u7, -⟩ := hp
  clear hg hsz hd
  unfold q6_2 C6 Try.f6 seq1 seq2
  simp only [Option.getD_some, lits, Nat.reduceAdd, u0, u1, u2, u7]
  clear u0 u1 u2 u7
  go_wp2_with (first
    | (go_at_call 18; refine HC.out.mono ?_; rintro e w1 ⟨_, rfl, rfl, hk⟩; have HK : Hid (Kp (fun i => i < v.heap.size) v w1) := hk; clear hk))
  first
    | exact ⟨⟨rfl, rfl, by
      intro p hp
      simp only [List.mem_cons, List.not_mem_nil, or_false] at hp
      rcases hp with rfl | rfl | rfl | rfl | rfl <;> first | rfl | exact congrArg I (by omega) | exact congrArg Value.bool (by simp <;> omega) | exact congrArg Value.bool (by simp)⟩, HK.out⟩
    | exact ⟨rfl, rfl, by
      intro p hp
      simp only [List.mem_cons, List.not_mem_nil, or_false] at hp
      rcases hp with rfl | rfl | rfl | rfl | rfl <;> first | rfl | exact congrArg I (by omega) | exact congrArg Value.bool (by simp <;> omega) | exact congrArg Value.bool (by simp)⟩
    | exact ⟨rfl, ⟨rfl, rfl, by
      intro p hp
      simp only [List.mem_cons, List.not_mem_nil, or_false] at hp
      rcases hp with rfl | rfl | rfl | rfl | rfl <;> first | rfl | exact congrArg I (by omega) | exact congrArg Value.bool (by simp <;> omega) | exact congrArg Value.bool (by simp)⟩, HK.out⟩

set_option maxHeartbeats 1000000 in
set_option maxRecDepth 100000 in
theorem p6_3_a {v : World} {a : Act} {x0 : Value} {kp : Option Addr} {kn kc : Nat} {tn r : Int} (h : (r != 0) = true) (hA : Fl 184 [(0, x0), (1, .slice kp kn kc), (2, I tn), (7, .bool true), (8, I r)] a) :
    q6_3.wp Try.prog (fun e a' w' => e = .normal ∧ (Fl 184 [(36, .bool true), (7, .bool true)] a' ∧ w' = v)) a v := by
  obtain ⟨hsz, hd, hp⟩ := hA
  obtain ⟨u, rfl, hg⟩ := litN hsz hd
  simp only [List.forall_mem_cons, hg] at hp
  obtain ⟨u0, u1, u2, u7, u8, -⟩ := hp
  clear hg hsz hd
  unfold q6_3 C6 Try.f6 seq1 seq2
  simp only [Option.getD_some, lits, Nat.reduceAdd, u0, u1, u2, u7, u8]
  clear u0 u1 u2 u7 u8
  go_wp2_with fail
  first
    | exact ⟨⟨rfl, rfl, by
      intro p hp
      simp only [List.mem_cons, List.not_mem_nil, or_false] at hp
      rcases hp with rfl | rfl <;> first | rfl | exact congrArg I (by omega) | exact congrArg Value.bool (by simp <;> omega) | exact congrArg Value.bool (by simp)⟩, rfl⟩
    | exact ⟨rfl, rfl, by
      intro p hp
      simp only [List.mem_cons, List.not_mem_nil, or_false] at hp
      rcases hp with rfl | rfl <;> first | rfl | exact congrArg I (by omega) | exact congrArg Value.bool (by simp <;> omega) | exact congrArg Value.bool (by simp)⟩
    | exact ⟨rfl, ⟨rfl, rfl, by
      intro p hp
      simp only [List.mem_cons, List.not_mem_nil, or_false] at hp
      rcases hp with rfl | rfl <;> first | rfl | exact congrArg I (by omega) | exact congrArg Value.bool (by simp <;> omega) | exact congrArg Value.bool (by simp)⟩, rfl⟩

set_option maxHeartbeats 1000000 in
set_option maxRecDepth 100000 in
theorem p6_3_b {v : World} {a : Act} {x0 : Value} {kp : Option Addr} {kn kc : Nat} {tn r : Int} (h : (r != 0) = false) (h2 : 300 < (kn : Int)) (hA : Fl 184 [(0, x0), (1, .slice kp kn kc), (2, I tn), (7, .bool true), (8, I r)] a) :
    q6_3.wp Try.prog (fun e a' w' => e = .normal ∧ (Fl 184 [(36, .bool true), (7, .bool true)] a' ∧ w' = v)) a v := by
  obtain ⟨hsz, hd, hp⟩ := hA
  obtain ⟨u, rfl, hg⟩ := litN hsz hd
  simp only [List.forall_mem_cons, hg] at hp
  obtain ⟨u0, u1, u2, u7, u8, -⟩ := hp
  clear hg hsz hd
  unfold q6_3 C6 Try.f6 seq1 seq2
  simp only [Option.getD_some, lits, Nat.reduceAdd, u0, u1, u2, u7, u8]
  clear u0 u1 u2 u7 u8
  go_wp2_with fail
  first
    | exact ⟨⟨rfl, rfl, by
      intro p hp
      simp only [List.mem_cons, List.not_mem_nil, or_false] at hp
      rcases hp with rfl | rfl <;> first | rfl | exact congrArg I (by omega) | exact congrArg Value.bool (by simp <;> omega) | exact congrArg Value.bool (by simp)⟩, rfl⟩
    | exact ⟨rfl, rfl, by
      intro p hp
      simp only [List.mem_cons, List.not_mem_nil, or_false] at hp
      rcases hp with rfl | rfl <;> first | rfl | exact congrArg I (by omega) | exact congrArg Value.bool (by simp <;> omega) | exact congrArg Value.bool (by simp)⟩
    | exact ⟨rfl, ⟨rfl, rfl, by
      intro p hp
      simp only [List.mem_cons, List.not_mem_nil, or_false] at hp
      rcases hp with rfl | rfl <;> first | rfl | exact congrArg I (by omega) | exact congrArg Value.bool (by simp <;> omega) | exact congrArg Value.bool (by simp)⟩, rfl⟩

set_option maxHeartbeats 1000000 in
set_option maxRecDepth 100000 in
theorem p6_3_c {v : World} {a : Act} {x0 : Value} {kp : Option Addr} {kn kc : Nat} {tn r : Int} (h : (r != 0) = false) (h2 : decide (300 < (kn : Int)) = false) (hA : Fl 184 [(0, x0), (1, .slice kp kn kc), (2, I tn), (7, .bool true), (8, I r)] a) :
    q6_3.wp Try.prog (fun e a' w' => e = .normal ∧ (Fl 184 [(36, .bool false), (0, x0), (1, .slice kp kn kc), (2, I tn), (7, .bool true)] a' ∧ w' = v)) a v := by
  obtain ⟨hsz, hd, hp⟩ := hA
  obtain ⟨u, rfl, hg⟩ := litN hsz hd
  simp only [List.forall_mem_cons, hg] at hp
  obtain ⟨u0, u1, u2, u7, u8, -⟩ := hp
  clear hg hsz hd
  unfold q6_3 C6 Try.f6 seq1 seq2
  simp only [Option.getD_some, lits, Nat.reduceAdd, u0, u1, u2, u7, u8]
  clear u0 u1 u2 u7 u8
  go_wp2_with fail
  first
    | exact ⟨⟨rfl, rfl, by
      intro p hp
      simp only [List.mem_cons, List.not_mem_nil, or_false] at hp
      rcases hp with rfl | rfl | rfl | rfl | rfl <;> first | rfl | exact congrArg I (by omega) | exact congrArg Value.bool (by simp <;> omega) | exact congrArg Value.bool (by simp)⟩, rfl⟩
    | exact ⟨rfl, rfl, by
      intro p hp
      simp only [List.mem_cons, List.not_mem_nil, or_false] at hp
      rcases hp with rfl | rfl | rfl | rfl | rfl <;> first | rfl | exact congrArg I (by omega) | exact congrArg Value.bool (by simp <;> omega) | exact congrArg Value.bool (by simp)⟩
    | exact ⟨rfl, ⟨rfl, rfl, by
      intro p hp
      simp only [List.mem_cons, List.not_mem_nil, or_false] at hp
      rcases hp with rfl | rfl | rfl | rfl | rfl <;> first | rfl | exact congrArg I (by omega) | exact congrArg Value.bool (by simp <;> omega) | exact congrArg Value.bool (by simp)⟩, rfl⟩

set_option maxHeartbeats 1000000 in
set_option maxRecDepth 100000 in
theorem p6_4 {v : World} {a : Act}   (hA : Fl 184 [(7, .bool true)] a) :
    q6_4.wp Try.prog (fun e a' w' => e = .normal ∧ (Fl 184 [(6, .bool true)] a' ∧ w' = v)) a v := by
  obtain ⟨hsz, hd, hp⟩ := hA
  obtain ⟨u, rfl, hg⟩ := litN hsz hd
  simp only [List.forall_mem_cons, hg] at hp
  obtain ⟨u7, -⟩ := hp
  clear hg hsz hd
  unfold q6_4 C6 Try.f6 seq1 seq2 condA
  simp only [Option.getD_some, lits, Nat.reduceAdd, u7]
  clear u7
  go_wp2_with fail
  first
    | exact ⟨⟨rfl, rfl, by
      intro p hp
      simp only [List.mem_cons, List.not_mem_nil, or_false] at hp
      rcases hp with rfl <;> first | rfl | exact congrArg I (by omega) | exact congrArg Value.bool (by simp <;> omega) | exact congrArg Value.bool (by simp)⟩, rfl⟩
    | exact ⟨rfl, rfl, by
      intro p hp
      simp only [List.mem_cons, List.not_mem_nil, or_false] at hp
      rcases hp with rfl <;> first | rfl | exact congrArg I (by omega) | exact congrArg Value.bool (by simp <;> omega) | exact congrArg Value.bool (by simp)⟩
    | exact ⟨rfl, ⟨rfl, rfl, by
      intro p hp
      simp only [List.mem_cons, List.not_mem_nil, or_false] at hp
      rcases hp with rfl <;> first | rfl | exact congrArg I (by omega) | exact congrArg Value.bool (by simp <;> omega) | exact congrArg Value.bool (by simp)⟩, rfl⟩

set_option maxHeartbeats 1000000 in
set_option maxRecDepth 100000 in
theorem p6_5 {v : World} {a : Act} {x0 x1 : Value} {tn : Int} {Z : Nat → Prop} {l : List Rc} (hl : RL Z v x0 l) (hZ : ∀ i, Z i → i < v.heap.size) (hR : RIGHT l) (hA : Fl 184 [(0, x0), (1, x1), (2, I tn)] a) :
    q6_5.wp Try.prog (fun e a' w' => e = .normal ∧ ∃ tv, (Fl 184 [(0, x0), (1, x1), (2, I tn), (9, tv)] a' ∧ ∃ rb T, Tab (fun i => i < v.heap.size) l.length l.length tv rb T w' ∧ (∀ i k, i < l.length → k < l.length → (T i k = true ↔ Rch (nd l) i k)) ∧ Kp (fun i => i < v.heap.size) v w')) a v := by
  have HC : Hid (Calls Try.prog 23 #[x0] v _) := table_any hl hZ hR
  clear hl hZ hR
  obtain ⟨hsz, hd, hp⟩ := hA
  obtain ⟨u, rfl, hg⟩ := litN hsz hd
  simp only [List.forall_mem_cons, hg] at hp
  obtain ⟨u0, u1, u2, -⟩ := hp
  clear hg hsz hd
  unfold q6_5 C6 Try.f6 seq1 seq2
  simp only [Option.getD_some, lits, Nat.reduceAdd, u0, u1, u2]
  clear u0 u1 u2
  go_wp2_with (first
    | (go_at_call 23; refine HC.out.mono ?_; rintro e w1 ⟨tv, rfl, ⟨rb, T, hT, hw⟩, hk⟩; have HK : Hid (∃ rb T, Tab (fun i => i < v.heap.size) l.length l.length tv rb T w1 ∧ (∀ i k, i < l.length → k < l.length → (T i k = true ↔ Rch (nd l) i k)) ∧ Kp (fun i => i < v.heap.size) v w1) := ⟨rb, T, hT, hw, hk⟩; clear hT hw hk))
  exact ⟨tv, ⟨rfl, rfl, by
    intro p hp
    simp only [List.mem_cons, List.not_mem_nil, or_false] at hp
    rcases hp with rfl | rfl | rfl | rfl <;> first | rfl | exact congrArg I (by omega) | exact congrArg Value.bool (by simp <;> omega) | exact congrArg Value.bool (by simp)⟩, HK.out⟩

set_option maxHeartbeats 1000000 in
set_option maxRecDepth 100000 in
theorem p6_6 {v : World} {a : Act} {x0 x1 tv : Value} {tn : Int} {Z : Nat → Prop} {l : List Rc} {keys : List Int} (hl : RL Z v x0 l) (hks : IL Z v x1 keys) (hZ : ∀ i, Z i → i < v.heap.size) (hR : RIGHT l) (h300 : keys.length ≤ 300) (hA : Fl 184 [(0, x0), (1, x1), (2, I tn), (9, tv)] a) :
    q6_6.wp Try.prog (fun e a' w' => e = .normal ∧ ∃ ob, (Fl 184 [(0, x0), (1, x1), (2, I tn), (9, tv), (10, .slice (some ⟨ob, 0, none⟩) l.length l.length)] a' ∧ v.heap.size ≤ ob ∧ ∃ M : Nat → Bool, w'.rowIs ob 4 l.length (fun k => .bool (M k)) ∧ (∀ k, M k = true ↔ Askd (CC l) (nd l) (valid l keys) k) ∧ Kp (fun i => i < v.heap.size) v w')) a v := by
  have HC : Hid (Calls Try.prog 24 #[x0, x1] v _) := asked_any hl hks hZ hR h300
  clear hl hks hZ hR
  obtain ⟨hsz, hd, hp⟩ := hA
  obtain ⟨u, rfl, hg⟩ := litN hsz hd
  simp only [List.forall_mem_cons, hg] at hp
  obtain ⟨u0, u1, u2, u9, -⟩ := hp
  clear hg hsz hd
  unfold q6_6 C6 Try.f6 seq1 seq2
  simp only [Option.getD_some, lits, Nat.reduceAdd, u0, u1, u2, u9]
  clear u0 u1 u2 u9
  go_wp2_with (first
    | (go_at_call 24; refine HC.out.mono ?_; rintro e w1 ⟨_, rfl, ⟨ob, M, rfl, h1, h2, h3⟩, hk⟩; have HK : Hid (v.heap.size ≤ ob ∧ ∃ M : Nat → Bool, w1.rowIs ob 4 l.length (fun k => .bool (M k)) ∧ (∀ k, M k = true ↔ Askd (CC l) (nd l) (valid l keys) k) ∧ Kp (fun i => i < v.heap.size) v w1) := ⟨h1, M, h2, h3, hk⟩; clear h1 h2 h3 hk))
  exact ⟨ob, ⟨rfl, rfl, by
    intro p hp
    simp only [List.mem_cons, List.not_mem_nil, or_false] at hp
    rcases hp with rfl | rfl | rfl | rfl | rfl <;> first | rfl | exact congrArg I (by omega) | exact congrArg Value.bool (by simp <;> omega) | exact congrArg Value.bool (by simp)⟩, HK.out⟩

set_option maxHeartbeats 1000000 in
set_option maxRecDepth 100000 in
theorem p6_7 {v : World} {a : Act} {x0 x1 tv wv : Value} {tn : Int} {Z : Nat → Prop} {l : List Rc} {keys : List Int} (hl : RL Z v x0 l) (hks : IL Z v x1 keys) (hZ : ∀ i, Z i → i < v.heap.size) (hwf : ∀ x ∈ keys, wfI x) (hA : Fl 184 [(0, x0), (1, x1), (2, I tn), (9, tv), (10, wv)] a) :
    q6_7.wp Try.prog (fun e a' w' => e = .normal ∧ ∃ ov, (Fl 184 [(0, x0), (1, x1), (2, I tn), (9, tv), (10, wv), (11, ov)] a' ∧ ∃ td : List Nat, OwnI (fun i => i < v.heap.size) w' ov (td.map Int.ofNat) ∧ OrderIs l keys td ∧ td.length ≤ 100 ∧ Kp (fun i => i < v.heap.size) v w')) a v := by
  have HC : Hid (Calls Try.prog 14 #[x0, x1] v _) := order_any hl hks hZ hwf
  clear hl hks hZ hwf
  obtain ⟨hsz, hd, hp⟩ := hA
  obtain ⟨u, rfl, hg⟩ := litN hsz hd
  simp only [List.forall_mem_cons, hg] at hp
  obtain ⟨u0, u1, u2, u9, u10, -⟩ := hp
  clear hg hsz hd
  unfold q6_7 C6 Try.f6 seq1 seq2
  simp only [Option.getD_some, lits, Nat.reduceAdd, u0, u1, u2, u9, u10]
  clear u0 u1 u2 u9 u10
  go_wp2_with (first
    | (go_at_call 14; refine HC.out.mono ?_; rintro e w1 ⟨ov, rfl, ⟨td, h1, h2, h3⟩, hk⟩; have HK : Hid (∃ td : List Nat, OwnI (fun i => i < v.heap.size) w1 ov (td.map Int.ofNat) ∧ OrderIs l keys td ∧ td.length ≤ 100 ∧ Kp (fun i => i < v.heap.size) v w1) := ⟨td, h1, h2, h3, hk⟩; clear h1 h2 h3 hk))
  exact ⟨ov, ⟨rfl, rfl, by
    intro p hp
    simp only [List.mem_cons, List.not_mem_nil, or_false] at hp
    rcases hp with rfl | rfl | rfl | rfl | rfl | rfl <;> first | rfl | exact congrArg I (by omega) | exact congrArg Value.bool (by simp <;> omega) | exact congrArg Value.bool (by simp)⟩, HK.out⟩

set_option maxHeartbeats 1000000 in
set_option maxRecDepth 100000 in
theorem p6_8 {v : World} {a : Act} {b o n cap : Nat} {x1 tv wv ov : Value} {tn : Int} (hn : n ≤ 100) (hA : Fl 184 [(0, .slice (some ⟨b, o, none⟩) n cap), (1, x1), (2, I tn), (9, tv), (10, wv), (11, ov)] a) :
    q6_8.wp Try.prog (fun e a' w' => e = .normal ∧ (Fl 184 [(0, .slice (some ⟨b, o, none⟩) n cap), (1, x1), (2, I tn), (9, tv), (10, wv), (11, ov), (12, .slice (some ⟨v.heap.size, 0, none⟩) n n)] a' ∧ w' = v.alloc (.cells (madeCells #[.bool false] n) 4))) a v := by
  obtain ⟨hsz, hd, hp⟩ := hA
  obtain ⟨u, rfl, hg⟩ := litN hsz hd
  simp only [List.forall_mem_cons, hg] at hp
  obtain ⟨u0, u1, u2, u9, u10, u11, -⟩ := hp
  clear hg hsz hd
  unfold q6_8 C6 Try.f6 seq1 seq2
  simp only [Option.getD_some, lits, Nat.reduceAdd, u0, u1, u2, u9, u10, u11]
  clear u0 u1 u2 u9 u10 u11
  have hmk := run_make_row' (P := Try.prog) 41 4 (.bool false) 1 Try.underlying41 info4 rfl .i64 .i64 n (by omega) (by omega)
  go_wp2_with fail
  first
    | exact ⟨⟨rfl, rfl, by
      intro p hp
      simp only [List.mem_cons, List.not_mem_nil, or_false] at hp
      rcases hp with rfl | rfl | rfl | rfl | rfl | rfl | rfl <;> first | rfl | exact congrArg I (by omega) | exact congrArg Value.bool (by simp <;> omega) | exact congrArg Value.bool (by simp)⟩, rfl⟩
    | exact ⟨rfl, rfl, by
      intro p hp
      simp only [List.mem_cons, List.not_mem_nil, or_false] at hp
      rcases hp with rfl | rfl | rfl | rfl | rfl | rfl | rfl <;> first | rfl | exact congrArg I (by omega) | exact congrArg Value.bool (by simp <;> omega) | exact congrArg Value.bool (by simp)⟩
    | exact ⟨rfl, ⟨rfl, rfl, by
      intro p hp
      simp only [List.mem_cons, List.not_mem_nil, or_false] at hp
      rcases hp with rfl | rfl | rfl | rfl | rfl | rfl | rfl <;> first | rfl | exact congrArg I (by omega) | exact congrArg Value.bool (by simp <;> omega) | exact congrArg Value.bool (by simp)⟩, rfl⟩

set_option maxHeartbeats 1000000 in
set_option maxRecDepth 100000 in
theorem p6_9 {v : World} {a : Act} {b o n cap g ct wb lb on oc : Nat} {op : Option Addr} {x1 : Value} {tn : Int}  (hA : Fl 184 [(0, .slice (some ⟨b, o, none⟩) n cap), (1, x1), (2, I tn), (9, .slice (some ⟨g, 0, none⟩) n ct), (10, .slice (some ⟨wb, 0, none⟩) n n), (11, .slice op on oc), (12, .slice (some ⟨lb, 0, none⟩) n n)] a) :
    q6_9.wp Try.prog (fun e a' w' => e = .normal ∧ (Fl 184 [(0, .slice (some ⟨b, o, none⟩) n cap), (1, x1), (2, I tn), (9, .slice (some ⟨g, 0, none⟩) n ct), (10, .slice (some ⟨wb, 0, none⟩) n n), (11, .slice op on oc), (12, .slice (some ⟨lb, 0, none⟩) n n), (13, I (0 : Nat))] a' ∧ w' = v)) a v := by
  obtain ⟨hsz, hd, hp⟩ := hA
  obtain ⟨u, rfl, hg⟩ := litN hsz hd
  simp only [List.forall_mem_cons, hg] at hp
  obtain ⟨u0, u1, u2, u9, u10, u11, u12, -⟩ := hp
  clear hg hsz hd
  unfold q6_9 C6 Try.f6 seq1 seq2
  simp only [Option.getD_some, lits, Nat.reduceAdd, u0, u1, u2, u9, u10, u11, u12]
  clear u0 u1 u2 u9 u10 u11 u12
  go_wp2_with fail
  first
    | exact ⟨⟨rfl, rfl, by
      intro p hp
      simp only [List.mem_cons, List.not_mem_nil, or_false] at hp
      rcases hp with rfl | rfl | rfl | rfl | rfl | rfl | rfl | rfl <;> first | rfl | exact congrArg I (by omega) | exact congrArg Value.bool (by simp <;> omega) | exact congrArg Value.bool (by simp)⟩, rfl⟩
    | exact ⟨rfl, rfl, by
      intro p hp
      simp only [List.mem_cons, List.not_mem_nil, or_false] at hp
      rcases hp with rfl | rfl | rfl | rfl | rfl | rfl | rfl | rfl <;> first | rfl | exact congrArg I (by omega) | exact congrArg Value.bool (by simp <;> omega) | exact congrArg Value.bool (by simp)⟩
    | exact ⟨rfl, ⟨rfl, rfl, by
      intro p hp
      simp only [List.mem_cons, List.not_mem_nil, or_false] at hp
      rcases hp with rfl | rfl | rfl | rfl | rfl | rfl | rfl | rfl <;> first | rfl | exact congrArg I (by omega) | exact congrArg Value.bool (by simp <;> omega) | exact congrArg Value.bool (by simp)⟩, rfl⟩

set_option maxHeartbeats 1000000 in
set_option maxRecDepth 100000 in
theorem p6_10 {v : World} {a : Act} {b o n cap g ct wb lb on oc : Nat} {op : Option Addr} {x1 : Value} {tn : Int} {i : Nat} (hon : on ≤ 100) (hA : Fl 184 [(0, .slice (some ⟨b, o, none⟩) n cap), (1, x1), (2, I tn), (9, .slice (some ⟨g, 0, none⟩) n ct), (10, .slice (some ⟨wb, 0, none⟩) n n), (11, .slice op on oc), (12, .slice (some ⟨lb, 0, none⟩) n n), (13, I (i : Nat))] a) :
    q6_10.wp Try.prog (fun e a' w' => e = .normal ∧ (Fl 184 [(52, .bool (decide (i < on))), (0, .slice (some ⟨b, o, none⟩) n cap), (1, x1), (2, I tn), (9, .slice (some ⟨g, 0, none⟩) n ct), (10, .slice (some ⟨wb, 0, none⟩) n n), (11, .slice op on oc), (12, .slice (some ⟨lb, 0, none⟩) n n), (13, I (i : Nat))] a' ∧ w' = v)) a v := by
  obtain ⟨hsz, hd, hp⟩ := hA
  obtain ⟨u, rfl, hg⟩ := litN hsz hd
  simp only [List.forall_mem_cons, hg] at hp
  obtain ⟨u0, u1, u2, u9, u10, u11, u12, u13, -⟩ := hp
  clear hg hsz hd
  unfold q6_10 C6 Try.f6 seq1 seq2 blockC loopC
  simp only [Option.getD_some, lits, Nat.reduceAdd, u0, u1, u2, u9, u10, u11, u12, u13]
  clear u0 u1 u2 u9 u10 u11 u12 u13
  go_wp2_with fail
  first
    | exact ⟨⟨rfl, rfl, by
      intro p hp
      simp only [List.mem_cons, List.not_mem_nil, or_false] at hp
      rcases hp with rfl | rfl | rfl | rfl | rfl | rfl | rfl | rfl | rfl <;> first | rfl | exact congrArg I (by omega) | exact congrArg Value.bool (by simp <;> omega) | exact congrArg Value.bool (by simp)⟩, rfl⟩
    | exact ⟨rfl, rfl, by
      intro p hp
      simp only [List.mem_cons, List.not_mem_nil, or_false] at hp
      rcases hp with rfl | rfl | rfl | rfl | rfl | rfl | rfl | rfl | rfl <;> first | rfl | exact congrArg I (by omega) | exact congrArg Value.bool (by simp <;> omega) | exact congrArg Value.bool (by simp)⟩
    | exact ⟨rfl, ⟨rfl, rfl, by
      intro p hp
      simp only [List.mem_cons, List.not_mem_nil, or_false] at hp
      rcases hp with rfl | rfl | rfl | rfl | rfl | rfl | rfl | rfl | rfl <;> first | rfl | exact congrArg I (by omega) | exact congrArg Value.bool (by simp <;> omega) | exact congrArg Value.bool (by simp)⟩, rfl⟩

set_option maxHeartbeats 1000000 in
set_option maxRecDepth 100000 in
theorem p6_12 {v : World} {a : Act} {b o n cap g ct wb lb on oc : Nat} {og oq : Nat} {x1 : Value} {tn : Int} {i : Nat} {k : Nat} (hon : on ≤ 100) (hi : i < on) (c : v.cell? ⟨og, oq + i, none⟩ = some (I (k : Nat))) (hA : Fl 184 [(0, .slice (some ⟨b, o, none⟩) n cap), (1, x1), (2, I tn), (9, .slice (some ⟨g, 0, none⟩) n ct), (10, .slice (some ⟨wb, 0, none⟩) n n), (11, .slice (some ⟨og, oq, none⟩) on oc), (12, .slice (some ⟨lb, 0, none⟩) n n), (13, I (i : Nat))] a) :
    q6_12.wp Try.prog (fun e a' w' => e = .normal ∧ (Fl 184 [(0, .slice (some ⟨b, o, none⟩) n cap), (1, x1), (2, I tn), (9, .slice (some ⟨g, 0, none⟩) n ct), (10, .slice (some ⟨wb, 0, none⟩) n n), (11, .slice (some ⟨og, oq, none⟩) on oc), (12, .slice (some ⟨lb, 0, none⟩) n n), (13, I (i : Nat)), (14, I (k : Nat))] a' ∧ w' = v)) a v := by
  obtain ⟨hsz, hd, hp⟩ := hA
  obtain ⟨u, rfl, hg⟩ := litN hsz hd
  simp only [List.forall_mem_cons, hg] at hp
  obtain ⟨u0, u1, u2, u9, u10, u11, u12, u13, -⟩ := hp
  clear hg hsz hd
  unfold q6_12 C6 Try.f6 seq1 seq2 blockC loopC
  simp only [Option.getD_some, lits, Nat.reduceAdd, u0, u1, u2, u9, u10, u11, u12, u13]
  clear u0 u1 u2 u9 u10 u11 u12 u13
  go_wp2_with fail
  first
    | exact ⟨⟨rfl, rfl, by
      intro p hp
      simp only [List.mem_cons, List.not_mem_nil, or_false] at hp
      rcases hp with rfl | rfl | rfl | rfl | rfl | rfl | rfl | rfl | rfl <;> first | rfl | exact congrArg I (by omega) | exact congrArg Value.bool (by simp <;> omega) | exact congrArg Value.bool (by simp)⟩, rfl⟩
    | exact ⟨rfl, rfl, by
      intro p hp
      simp only [List.mem_cons, List.not_mem_nil, or_false] at hp
      rcases hp with rfl | rfl | rfl | rfl | rfl | rfl | rfl | rfl | rfl <;> first | rfl | exact congrArg I (by omega) | exact congrArg Value.bool (by simp <;> omega) | exact congrArg Value.bool (by simp)⟩
    | exact ⟨rfl, ⟨rfl, rfl, by
      intro p hp
      simp only [List.mem_cons, List.not_mem_nil, or_false] at hp
      rcases hp with rfl | rfl | rfl | rfl | rfl | rfl | rfl | rfl | rfl <;> first | rfl | exact congrArg I (by omega) | exact congrArg Value.bool (by simp <;> omega) | exact congrArg Value.bool (by simp)⟩, rfl⟩

set_option maxHeartbeats 1000000 in
set_option maxRecDepth 100000 in
theorem p6_13 {v : World} {a : Act} {b o n cap g ct wb lb on oc : Nat} {op : Option Addr} {x1 : Value} {tn : Int} {i : Nat} {k : Nat} (hn : n ≤ 100) (hk : k < n) (cl : v.cell? ⟨lb, k, none⟩ = some (.bool false)) (cw : v.cell? ⟨wb, k, none⟩ = some (.bool true)) (hA : Fl 184 [(0, .slice (some ⟨b, o, none⟩) n cap), (1, x1), (2, I tn), (9, .slice (some ⟨g, 0, none⟩) n ct), (10, .slice (some ⟨wb, 0, none⟩) n n), (11, .slice op on oc), (12, .slice (some ⟨lb, 0, none⟩) n n), (13, I (i : Nat)), (14, I (k : Nat))] a) :
    q6_13.wp Try.prog (fun e a' w' => e = .normal ∧ (Fl 184 [(79, .bool false), (0, .slice (some ⟨b, o, none⟩) n cap), (1, x1), (2, I tn), (9, .slice (some ⟨g, 0, none⟩) n ct), (10, .slice (some ⟨wb, 0, none⟩) n n), (11, .slice op on oc), (12, .slice (some ⟨lb, 0, none⟩) n n), (13, I (i : Nat)), (14, I (k : Nat))] a' ∧ w' = v)) a v := by
  obtain ⟨hsz, hd, hp⟩ := hA
  obtain ⟨u, rfl, hg⟩ := litN hsz hd
  simp only [List.forall_mem_cons, hg] at hp
  obtain ⟨u0, u1, u2, u9, u10, u11, u12, u13, u14, -⟩ := hp
  clear hg hsz hd
  unfold q6_13 C6 Try.f6 seq1 seq2 blockC loopC
  simp only [Option.getD_some, lits, Nat.reduceAdd, u0, u1, u2, u9, u10, u11, u12, u13, u14]
  clear u0 u1 u2 u9 u10 u11 u12 u13 u14
  have g1 : decide ((k : Int) < 0) = false := by simp
  have g2 : decide ((n : Int) ≤ (k : Int)) = false := by simp; omega
  go_wp2_with fail
  first
    | exact ⟨⟨rfl, rfl, by
      intro p hp
      simp only [List.mem_cons, List.not_mem_nil, or_false] at hp
      rcases hp with rfl | rfl | rfl | rfl | rfl | rfl | rfl | rfl | rfl | rfl <;> first | rfl | exact congrArg I (by omega) | exact congrArg Value.bool (by simp <;> omega) | exact congrArg Value.bool (by simp)⟩, rfl⟩
    | exact ⟨rfl, rfl, by
      intro p hp
      simp only [List.mem_cons, List.not_mem_nil, or_false] at hp
      rcases hp with rfl | rfl | rfl | rfl | rfl | rfl | rfl | rfl | rfl | rfl <;> first | rfl | exact congrArg I (by omega) | exact congrArg Value.bool (by simp <;> omega) | exact congrArg Value.bool (by simp)⟩
    | exact ⟨rfl, ⟨rfl, rfl, by
      intro p hp
      simp only [List.mem_cons, List.not_mem_nil, or_false] at hp
      rcases hp with rfl | rfl | rfl | rfl | rfl | rfl | rfl | rfl | rfl | rfl <;> first | rfl | exact congrArg I (by omega) | exact congrArg Value.bool (by simp <;> omega) | exact congrArg Value.bool (by simp)⟩, rfl⟩

set_option maxHeartbeats 1000000 in
set_option maxRecDepth 100000 in
theorem p6_15 {v : World} {a : Act} {b o n cap g ct wb lb on oc : Nat} {op : Option Addr} {x1 : Value} {tn : Int} {i : Nat} {k : Nat}  (hA : Fl 184 [(0, .slice (some ⟨b, o, none⟩) n cap), (1, x1), (2, I tn), (9, .slice (some ⟨g, 0, none⟩) n ct), (10, .slice (some ⟨wb, 0, none⟩) n n), (11, .slice op on oc), (12, .slice (some ⟨lb, 0, none⟩) n n), (13, I (i : Nat)), (14, I (k : Nat))] a) :
    q6_15.wp Try.prog (fun e a' w' => e = .normal ∧ (Fl 184 [(0, .slice (some ⟨b, o, none⟩) n cap), (1, x1), (2, I tn), (9, .slice (some ⟨g, 0, none⟩) n ct), (10, .slice (some ⟨wb, 0, none⟩) n n), (11, .slice op on oc), (12, .slice (some ⟨lb, 0, none⟩) n n), (13, I (i : Nat)), (14, I (k : Nat)), (15, I (0 : Nat))] a' ∧ w' = v)) a v := by
  obtain ⟨hsz, hd, hp⟩ := hA
  obtain ⟨u, rfl, hg⟩ := litN hsz hd
  simp only [List.forall_mem_cons, hg] at hp
  obtain ⟨u0, u1, u2, u9, u10, u11, u12, u13, u14, -⟩ := hp
  clear hg hsz hd
  unfold q6_15 C6 Try.f6 seq1 seq2 blockC loopC
  simp only [Option.getD_some, lits, Nat.reduceAdd, u0, u1, u2, u9, u10, u11, u12, u13, u14]
  clear u0 u1 u2 u9 u10 u11 u12 u13 u14
  go_wp2_with fail
  first
    | exact ⟨⟨rfl, rfl, by
      intro p hp
      simp only [List.mem_cons, List.not_mem_nil, or_false] at hp
      rcases hp with rfl | rfl | rfl | rfl | rfl | rfl | rfl | rfl | rfl | rfl <;> first | rfl | exact congrArg I (by omega) | exact congrArg Value.bool (by simp <;> omega) | exact congrArg Value.bool (by simp)⟩, rfl⟩
    | exact ⟨rfl, rfl, by
      intro p hp
      simp only [List.mem_cons, List.not_mem_nil, or_false] at hp
      rcases hp with rfl | rfl | rfl | rfl | rfl | rfl | rfl | rfl | rfl | rfl <;> first | rfl | exact congrArg I (by omega) | exact congrArg Value.bool (by simp <;> omega) | exact congrArg Value.bool (by simp)⟩
    | exact ⟨rfl, ⟨rfl, rfl, by
      intro p hp
      simp only [List.mem_cons, List.not_mem_nil, or_false] at hp
      rcases hp with rfl | rfl | rfl | rfl | rfl | rfl | rfl | rfl | rfl | rfl <;> first | rfl | exact congrArg I (by omega) | exact congrArg Value.bool (by simp <;> omega) | exact congrArg Value.bool (by simp)⟩, rfl⟩

set_option maxHeartbeats 1000000 in
set_option maxRecDepth 100000 in
theorem p6_16 {v : World} {a : Act} {b o n cap g ct wb lb on oc : Nat} {op : Option Addr} {x1 : Value} {tn : Int} {i : Nat} {k : Nat} {m : Nat} (hn : n ≤ 100) (hA : Fl 184 [(0, .slice (some ⟨b, o, none⟩) n cap), (1, x1), (2, I tn), (9, .slice (some ⟨g, 0, none⟩) n ct), (10, .slice (some ⟨wb, 0, none⟩) n n), (11, .slice op on oc), (12, .slice (some ⟨lb, 0, none⟩) n n), (13, I (i : Nat)), (14, I (k : Nat)), (15, I (m : Nat))] a) :
    q6_16.wp Try.prog (fun e a' w' => e = .normal ∧ (Fl 184 [(83, .bool (decide (m < n))), (0, .slice (some ⟨b, o, none⟩) n cap), (1, x1), (2, I tn), (9, .slice (some ⟨g, 0, none⟩) n ct), (10, .slice (some ⟨wb, 0, none⟩) n n), (11, .slice op on oc), (12, .slice (some ⟨lb, 0, none⟩) n n), (13, I (i : Nat)), (14, I (k : Nat)), (15, I (m : Nat))] a' ∧ w' = v)) a v := by
  obtain ⟨hsz, hd, hp⟩ := hA
  obtain ⟨u, rfl, hg⟩ := litN hsz hd
  simp only [List.forall_mem_cons, hg] at hp
  obtain ⟨u0, u1, u2, u9, u10, u11, u12, u13, u14, u15, -⟩ := hp
  clear hg hsz hd
  unfold q6_16 C6 Try.f6 seq1 seq2 blockC loopC
  simp only [Option.getD_some, lits, Nat.reduceAdd, u0, u1, u2, u9, u10, u11, u12, u13, u14, u15]
  clear u0 u1 u2 u9 u10 u11 u12 u13 u14 u15
  go_wp2_with fail
  first
    | exact ⟨⟨rfl, rfl, by
      intro p hp
      simp only [List.mem_cons, List.not_mem_nil, or_false] at hp
      rcases hp with rfl | rfl | rfl | rfl | rfl | rfl | rfl | rfl | rfl | rfl | rfl <;> first | rfl | exact congrArg I (by omega) | exact congrArg Value.bool (by simp <;> omega) | exact congrArg Value.bool (by simp)⟩, rfl⟩
    | exact ⟨rfl, rfl, by
      intro p hp
      simp only [List.mem_cons, List.not_mem_nil, or_false] at hp
      rcases hp with rfl | rfl | rfl | rfl | rfl | rfl | rfl | rfl | rfl | rfl | rfl <;> first | rfl | exact congrArg I (by omega) | exact congrArg Value.bool (by simp <;> omega) | exact congrArg Value.bool (by simp)⟩
    | exact ⟨rfl, ⟨rfl, rfl, by
      intro p hp
      simp only [List.mem_cons, List.not_mem_nil, or_false] at hp
      rcases hp with rfl | rfl | rfl | rfl | rfl | rfl | rfl | rfl | rfl | rfl | rfl <;> first | rfl | exact congrArg I (by omega) | exact congrArg Value.bool (by simp <;> omega) | exact congrArg Value.bool (by simp)⟩, rfl⟩

set_option maxHeartbeats 1000000 in
set_option maxRecDepth 100000 in
theorem p6_18_a {v : World} {a : Act} {b o n cap g ct wb lb on oc : Nat} {op : Option Addr} {x1 : Value} {tn : Int} {i : Nat} {k : Nat} {m : Nat} {rk : Nat} (hn : n ≤ 100) (hk : k < n) (hm : m < n) (ck : v.cell? ⟨g, k, none⟩ = some (.slice (some ⟨rk, 0, none⟩) n n)) (ct_ : v.cell? ⟨rk, m, none⟩ = some (.bool false)) (hA : Fl 184 [(0, .slice (some ⟨b, o, none⟩) n cap), (1, x1), (2, I tn), (9, .slice (some ⟨g, 0, none⟩) n ct), (10, .slice (some ⟨wb, 0, none⟩) n n), (11, .slice op on oc), (12, .slice (some ⟨lb, 0, none⟩) n n), (13, I (i : Nat)), (14, I (k : Nat)), (15, I (m : Nat))] a) :
    q6_18.wp Try.prog (fun e a' w' => e = .normal ∧ (Fl 184 [(99, .bool false), (0, .slice (some ⟨b, o, none⟩) n cap), (1, x1), (2, I tn), (9, .slice (some ⟨g, 0, none⟩) n ct), (10, .slice (some ⟨wb, 0, none⟩) n n), (11, .slice op on oc), (12, .slice (some ⟨lb, 0, none⟩) n n), (13, I (i : Nat)), (14, I (k : Nat)), (15, I (m : Nat))] a' ∧ w' = v)) a v := by
  obtain ⟨hsz, hd, hp⟩ := hA
  obtain ⟨u, rfl, hg⟩ := litN hsz hd
  simp only [List.forall_mem_cons, hg] at hp
  obtain ⟨u0, u1, u2, u9, u10, u11, u12, u13, u14, u15, -⟩ := hp
  clear hg hsz hd
  unfold q6_18 C6 Try.f6 seq1 seq2 blockC loopC
  simp only [Option.getD_some, lits, Nat.reduceAdd, u0, u1, u2, u9, u10, u11, u12, u13, u14, u15]
  clear u0 u1 u2 u9 u10 u11 u12 u13 u14 u15
  go_wp2_with fail
  first
    | exact ⟨⟨rfl, rfl, by
      intro p hp
      simp only [List.mem_cons, List.not_mem_nil, or_false] at hp
      rcases hp with rfl | rfl | rfl | rfl | rfl | rfl | rfl | rfl | rfl | rfl | rfl <;> first | rfl | exact congrArg I (by omega) | exact congrArg Value.bool (by simp <;> omega) | exact congrArg Value.bool (by simp)⟩, rfl⟩
    | exact ⟨rfl, rfl, by
      intro p hp
      simp only [List.mem_cons, List.not_mem_nil, or_false] at hp
      rcases hp with rfl | rfl | rfl | rfl | rfl | rfl | rfl | rfl | rfl | rfl | rfl <;> first | rfl | exact congrArg I (by omega) | exact congrArg Value.bool (by simp <;> omega) | exact congrArg Value.bool (by simp)⟩
    | exact ⟨rfl, ⟨rfl, rfl, by
      intro p hp
      simp only [List.mem_cons, List.not_mem_nil, or_false] at hp
      rcases hp with rfl | rfl | rfl | rfl | rfl | rfl | rfl | rfl | rfl | rfl | rfl <;> first | rfl | exact congrArg I (by omega) | exact congrArg Value.bool (by simp <;> omega) | exact congrArg Value.bool (by simp)⟩, rfl⟩

set_option maxHeartbeats 1000000 in
set_option maxRecDepth 100000 in
theorem p6_18_b {v : World} {a : Act} {b o n cap g ct wb lb on oc : Nat} {op : Option Addr} {x1 : Value} {tn : Int} {i : Nat} {k : Nat} {m : Nat} {rk : Nat} (hn : n ≤ 100) (hk : k < n) (hm : m < n) (ck : v.cell? ⟨g, k, none⟩ = some (.slice (some ⟨rk, 0, none⟩) n n)) (ct_ : v.cell? ⟨rk, m, none⟩ = some (.bool true)) (cl : v.cell? ⟨lb, m, none⟩ = some (.bool true)) (hA : Fl 184 [(0, .slice (some ⟨b, o, none⟩) n cap), (1, x1), (2, I tn), (9, .slice (some ⟨g, 0, none⟩) n ct), (10, .slice (some ⟨wb, 0, none⟩) n n), (11, .slice op on oc), (12, .slice (some ⟨lb, 0, none⟩) n n), (13, I (i : Nat)), (14, I (k : Nat)), (15, I (m : Nat))] a) :
    q6_18.wp Try.prog (fun e a' w' => e = .normal ∧ (Fl 184 [(99, .bool false), (0, .slice (some ⟨b, o, none⟩) n cap), (1, x1), (2, I tn), (9, .slice (some ⟨g, 0, none⟩) n ct), (10, .slice (some ⟨wb, 0, none⟩) n n), (11, .slice op on oc), (12, .slice (some ⟨lb, 0, none⟩) n n), (13, I (i : Nat)), (14, I (k : Nat)), (15, I (m : Nat))] a' ∧ w' = v)) a v := by
  obtain ⟨hsz, hd, hp⟩ := hA
  obtain ⟨u, rfl, hg⟩ := litN hsz hd
  simp only [List.forall_mem_cons, hg] at hp
  obtain ⟨u0, u1, u2, u9, u10, u11, u12, u13, u14, u15, -⟩ := hp
  clear hg hsz hd
  unfold q6_18 C6 Try.f6 seq1 seq2 blockC loopC
  simp only [Option.getD_some, lits, Nat.reduceAdd, u0, u1, u2, u9, u10, u11, u12, u13, u14, u15]
  clear u0 u1 u2 u9 u10 u11 u12 u13 u14 u15
  go_wp2_with fail
  first
    | exact ⟨⟨rfl, rfl, by
      intro p hp
      simp only [List.mem_cons, List.not_mem_nil, or_false] at hp
      rcases hp with rfl | rfl | rfl | rfl | rfl | rfl | rfl | rfl | rfl | rfl | rfl <;> first | rfl | exact congrArg I (by omega) | exact congrArg Value.bool (by simp <;> omega) | exact congrArg Value.bool (by simp)⟩, rfl⟩
    | exact ⟨rfl, rfl, by
      intro p hp
      simp only [List.mem_cons, List.not_mem_nil, or_false] at hp
      rcases hp with rfl | rfl | rfl | rfl | rfl | rfl | rfl | rfl | rfl | rfl | rfl <;> first | rfl | exact congrArg I (by omega) | exact congrArg Value.bool (by simp <;> omega) | exact congrArg Value.bool (by simp)⟩
    | exact ⟨rfl, ⟨rfl, rfl, by
      intro p hp
      simp only [List.mem_cons, List.not_mem_nil, or_false] at hp
      rcases hp with rfl | rfl | rfl | rfl | rfl | rfl | rfl | rfl | rfl | rfl | rfl <;> first | rfl | exact congrArg I (by omega) | exact congrArg Value.bool (by simp <;> omega) | exact congrArg Value.bool (by simp)⟩, rfl⟩

set_option maxHeartbeats 1000000 in
set_option maxRecDepth 100000 in
theorem p6_17 {v : World} {a : Act} {b o n cap g ct wb lb on oc : Nat} {op : Option Addr} {x1 : Value} {tn : Int} {i : Nat} {k : Nat} {m : Nat} (hm : m < 100) (hA : Fl 184 [(0, .slice (some ⟨b, o, none⟩) n cap), (1, x1), (2, I tn), (9, .slice (some ⟨g, 0, none⟩) n ct), (10, .slice (some ⟨wb, 0, none⟩) n n), (11, .slice op on oc), (12, .slice (some ⟨lb, 0, none⟩) n n), (13, I (i : Nat)), (14, I (k : Nat)), (15, I (m : Nat))] a) :
    q6_17.wp Try.prog (fun e a' w' => e = .normal ∧ (Fl 184 [(0, .slice (some ⟨b, o, none⟩) n cap), (1, x1), (2, I tn), (9, .slice (some ⟨g, 0, none⟩) n ct), (10, .slice (some ⟨wb, 0, none⟩) n n), (11, .slice op on oc), (12, .slice (some ⟨lb, 0, none⟩) n n), (13, I (i : Nat)), (14, I (k : Nat)), (15, I ((m + 1 : Nat) : Int))] a' ∧ w' = v)) a v := by
  obtain ⟨hsz, hd, hp⟩ := hA
  obtain ⟨u, rfl, hg⟩ := litN hsz hd
  simp only [List.forall_mem_cons, hg] at hp
  obtain ⟨u0, u1, u2, u9, u10, u11, u12, u13, u14, u15, -⟩ := hp
  clear hg hsz hd
  unfold q6_17 C6 Try.f6 seq1 seq2 blockC loopC
  simp only [Option.getD_some, lits, Nat.reduceAdd, u0, u1, u2, u9, u10, u11, u12, u13, u14, u15]
  clear u0 u1 u2 u9 u10 u11 u12 u13 u14 u15
  go_wp2_with fail
  first
    | exact ⟨⟨rfl, rfl, by
      intro p hp
      simp only [List.mem_cons, List.not_mem_nil, or_false] at hp
      rcases hp with rfl | rfl | rfl | rfl | rfl | rfl | rfl | rfl | rfl | rfl <;> first | rfl | exact congrArg I (by omega) | exact congrArg Value.bool (by simp <;> omega) | exact congrArg Value.bool (by simp)⟩, rfl⟩
    | exact ⟨rfl, rfl, by
      intro p hp
      simp only [List.mem_cons, List.not_mem_nil, or_false] at hp
      rcases hp with rfl | rfl | rfl | rfl | rfl | rfl | rfl | rfl | rfl | rfl <;> first | rfl | exact congrArg I (by omega) | exact congrArg Value.bool (by simp <;> omega) | exact congrArg Value.bool (by simp)⟩
    | exact ⟨rfl, ⟨rfl, rfl, by
      intro p hp
      simp only [List.mem_cons, List.not_mem_nil, or_false] at hp
      rcases hp with rfl | rfl | rfl | rfl | rfl | rfl | rfl | rfl | rfl | rfl <;> first | rfl | exact congrArg I (by omega) | exact congrArg Value.bool (by simp <;> omega) | exact congrArg Value.bool (by simp)⟩, rfl⟩

set_option maxHeartbeats 1000000 in
set_option maxRecDepth 100000 in
theorem p6_20 {v : World} {a : Act} {b o n cap g ct wb lb on oc : Nat} {op : Option Addr} {x1 : Value} {tn : Int} {i : Nat} {k : Nat} {y : Bool} (hn : n ≤ 100) (hk : k < n) (cl : v.cell? ⟨lb, k, none⟩ = some (.bool y)) (f : v.frozen? ⟨lb, k, none⟩ = false) (hA : Fl 184 [(0, .slice (some ⟨b, o, none⟩) n cap), (1, x1), (2, I tn), (9, .slice (some ⟨g, 0, none⟩) n ct), (10, .slice (some ⟨wb, 0, none⟩) n n), (11, .slice op on oc), (12, .slice (some ⟨lb, 0, none⟩) n n), (13, I (i : Nat)), (14, I (k : Nat))] a) :
    q6_20.wp Try.prog (fun e a' w' => e = .normal ∧ (Fl 184 [(0, .slice (some ⟨b, o, none⟩) n cap), (1, x1), (2, I tn), (9, .slice (some ⟨g, 0, none⟩) n ct), (10, .slice (some ⟨wb, 0, none⟩) n n), (11, .slice op on oc), (12, .slice (some ⟨lb, 0, none⟩) n n), (13, I (i : Nat))] a' ∧ w' = v.setCell ⟨lb, k, none⟩ (.bool true))) a v := by
  obtain ⟨hsz, hd, hp⟩ := hA
  obtain ⟨u, rfl, hg⟩ := litN hsz hd
  simp only [List.forall_mem_cons, hg] at hp
  obtain ⟨u0, u1, u2, u9, u10, u11, u12, u13, u14, -⟩ := hp
  clear hg hsz hd
  unfold q6_20 C6 Try.f6 seq1 seq2 blockC loopC
  simp only [Option.getD_some, lits, Nat.reduceAdd, u0, u1, u2, u9, u10, u11, u12, u13, u14]
  clear u0 u1 u2 u9 u10 u11 u12 u13 u14
  go_wp2_with fail
  first
    | exact ⟨⟨rfl, rfl, by
      intro p hp
      simp only [List.mem_cons, List.not_mem_nil, or_false] at hp
      rcases hp with rfl | rfl | rfl | rfl | rfl | rfl | rfl | rfl <;> first | rfl | exact congrArg I (by omega) | exact congrArg Value.bool (by simp <;> omega) | exact congrArg Value.bool (by simp)⟩, rfl⟩
    | exact ⟨rfl, rfl, by
      intro p hp
      simp only [List.mem_cons, List.not_mem_nil, or_false] at hp
      rcases hp with rfl | rfl | rfl | rfl | rfl | rfl | rfl | rfl <;> first | rfl | exact congrArg I (by omega) | exact congrArg Value.bool (by simp <;> omega) | exact congrArg Value.bool (by simp)⟩
    | exact ⟨rfl, ⟨rfl, rfl, by
      intro p hp
      simp only [List.mem_cons, List.not_mem_nil, or_false] at hp
      rcases hp with rfl | rfl | rfl | rfl | rfl | rfl | rfl | rfl <;> first | rfl | exact congrArg I (by omega) | exact congrArg Value.bool (by simp <;> omega) | exact congrArg Value.bool (by simp)⟩, rfl⟩

set_option maxHeartbeats 1000000 in
set_option maxRecDepth 100000 in
theorem p6_11 {v : World} {a : Act} {b o n cap g ct wb lb on oc : Nat} {op : Option Addr} {x1 : Value} {tn : Int} {i : Nat} (hi : i < 100) (hA : Fl 184 [(0, .slice (some ⟨b, o, none⟩) n cap), (1, x1), (2, I tn), (9, .slice (some ⟨g, 0, none⟩) n ct), (10, .slice (some ⟨wb, 0, none⟩) n n), (11, .slice op on oc), (12, .slice (some ⟨lb, 0, none⟩) n n), (13, I (i : Nat))] a) :
    q6_11.wp Try.prog (fun e a' w' => e = .normal ∧ (Fl 184 [(0, .slice (some ⟨b, o, none⟩) n cap), (1, x1), (2, I tn), (9, .slice (some ⟨g, 0, none⟩) n ct), (10, .slice (some ⟨wb, 0, none⟩) n n), (11, .slice op on oc), (12, .slice (some ⟨lb, 0, none⟩) n n), (13, I ((i + 1 : Nat) : Int))] a' ∧ w' = v)) a v := by
  obtain ⟨hsz, hd, hp⟩ := hA
  obtain ⟨u, rfl, hg⟩ := litN hsz hd
  simp only [List.forall_mem_cons, hg] at hp
  obtain ⟨u0, u1, u2, u9, u10, u11, u12, u13, -⟩ := hp
  clear hg hsz hd
  unfold q6_11 C6 Try.f6 seq1 seq2 blockC loopC
  simp only [Option.getD_some, lits, Nat.reduceAdd, u0, u1, u2, u9, u10, u11, u12, u13]
  clear u0 u1 u2 u9 u10 u11 u12 u13
  go_wp2_with fail
  first
    | exact ⟨⟨rfl, rfl, by
      intro p hp
      simp only [List.mem_cons, List.not_mem_nil, or_false] at hp
      rcases hp with rfl | rfl | rfl | rfl | rfl | rfl | rfl | rfl <;> first | rfl | exact congrArg I (by omega) | exact congrArg Value.bool (by simp <;> omega) | exact congrArg Value.bool (by simp)⟩, rfl⟩
    | exact ⟨rfl, rfl, by
      intro p hp
      simp only [List.mem_cons, List.not_mem_nil, or_false] at hp
      rcases hp with rfl | rfl | rfl | rfl | rfl | rfl | rfl | rfl <;> first | rfl | exact congrArg I (by omega) | exact congrArg Value.bool (by simp <;> omega) | exact congrArg Value.bool (by simp)⟩
    | exact ⟨rfl, ⟨rfl, rfl, by
      intro p hp
      simp only [List.mem_cons, List.not_mem_nil, or_false] at hp
      rcases hp with rfl | rfl | rfl | rfl | rfl | rfl | rfl | rfl <;> first | rfl | exact congrArg I (by omega) | exact congrArg Value.bool (by simp <;> omega) | exact congrArg Value.bool (by simp)⟩, rfl⟩

set_option maxHeartbeats 1000000 in
set_option maxRecDepth 100000 in
theorem p6_21 {v : World} {a : Act} {b o n cap g ct wb lb on oc : Nat} {op : Option Addr} {x1 : Value} {tn : Int}  (hA : Fl 184 [(0, .slice (some ⟨b, o, none⟩) n cap), (1, x1), (2, I tn), (9, .slice (some ⟨g, 0, none⟩) n ct), (10, .slice (some ⟨wb, 0, none⟩) n n), (11, .slice op on oc), (12, .slice (some ⟨lb, 0, none⟩) n n)] a) :
    q6_21.wp Try.prog (fun e a' w' => e = .normal ∧ (Fl 184 [(0, .slice (some ⟨b, o, none⟩) n cap), (1, x1), (2, I tn), (9, .slice (some ⟨g, 0, none⟩) n ct), (10, .slice (some ⟨wb, 0, none⟩) n n), (11, .slice op on oc), (12, .slice (some ⟨lb, 0, none⟩) n n), (16, I (0 : Nat))] a' ∧ w' = v)) a v := by
  obtain ⟨hsz, hd, hp⟩ := hA
  obtain ⟨u, rfl, hg⟩ := litN hsz hd
  simp only [List.forall_mem_cons, hg] at hp
  obtain ⟨u0, u1, u2, u9, u10, u11, u12, -⟩ := hp
  clear hg hsz hd
  unfold q6_21 C6 Try.f6 seq1 seq2
  simp only [Option.getD_some, lits, Nat.reduceAdd, u0, u1, u2, u9, u10, u11, u12]
  clear u0 u1 u2 u9 u10 u11 u12
  go_wp2_with fail
  first
    | exact ⟨⟨rfl, rfl, by
      intro p hp
      simp only [List.mem_cons, List.not_mem_nil, or_false] at hp
      rcases hp with rfl | rfl | rfl | rfl | rfl | rfl | rfl | rfl <;> first | rfl | exact congrArg I (by omega) | exact congrArg Value.bool (by simp <;> omega) | exact congrArg Value.bool (by simp)⟩, rfl⟩
    | exact ⟨rfl, rfl, by
      intro p hp
      simp only [List.mem_cons, List.not_mem_nil, or_false] at hp
      rcases hp with rfl | rfl | rfl | rfl | rfl | rfl | rfl | rfl <;> first | rfl | exact congrArg I (by omega) | exact congrArg Value.bool (by simp <;> omega) | exact congrArg Value.bool (by simp)⟩
    | exact ⟨rfl, ⟨rfl, rfl, by
      intro p hp
      simp only [List.mem_cons, List.not_mem_nil, or_false] at hp
      rcases hp with rfl | rfl | rfl | rfl | rfl | rfl | rfl | rfl <;> first | rfl | exact congrArg I (by omega) | exact congrArg Value.bool (by simp <;> omega) | exact congrArg Value.bool (by simp)⟩, rfl⟩

set_option maxHeartbeats 1000000 in
set_option maxRecDepth 100000 in
theorem p6_22 {v : World} {a : Act} {b o n cap g ct wb lb on oc : Nat} {op : Option Addr} {x1 : Value} {tn : Int} {i : Nat} (hn : n ≤ 100) (hA : Fl 184 [(0, .slice (some ⟨b, o, none⟩) n cap), (1, x1), (2, I tn), (9, .slice (some ⟨g, 0, none⟩) n ct), (10, .slice (some ⟨wb, 0, none⟩) n n), (11, .slice op on oc), (12, .slice (some ⟨lb, 0, none⟩) n n), (16, I (i : Nat))] a) :
    q6_22.wp Try.prog (fun e a' w' => e = .normal ∧ (Fl 184 [(106, .bool (decide (i < n))), (0, .slice (some ⟨b, o, none⟩) n cap), (1, x1), (2, I tn), (9, .slice (some ⟨g, 0, none⟩) n ct), (10, .slice (some ⟨wb, 0, none⟩) n n), (11, .slice op on oc), (12, .slice (some ⟨lb, 0, none⟩) n n), (16, I (i : Nat))] a' ∧ w' = v)) a v := by
  obtain ⟨hsz, hd, hp⟩ := hA
  obtain ⟨u, rfl, hg⟩ := litN hsz hd
  simp only [List.forall_mem_cons, hg] at hp
  obtain ⟨u0, u1, u2, u9, u10, u11, u12, u16, -⟩ := hp
  clear hg hsz hd
  unfold q6_22 C6 Try.f6 seq1 seq2 blockC loopC
  simp only [Option.getD_some, lits, Nat.reduceAdd, u0, u1, u2, u9, u10, u11, u12, u16]
  clear u0 u1 u2 u9 u10 u11 u12 u16
  go_wp2_with fail
  first
    | exact ⟨⟨rfl, rfl, by
      intro p hp
      simp only [List.mem_cons, List.not_mem_nil, or_false] at hp
      rcases hp with rfl | rfl | rfl | rfl | rfl | rfl | rfl | rfl | rfl <;> first | rfl | exact congrArg I (by omega) | exact congrArg Value.bool (by simp <;> omega) | exact congrArg Value.bool (by simp)⟩, rfl⟩
    | exact ⟨rfl, rfl, by
      intro p hp
      simp only [List.mem_cons, List.not_mem_nil, or_false] at hp
      rcases hp with rfl | rfl | rfl | rfl | rfl | rfl | rfl | rfl | rfl <;> first | rfl | exact congrArg I (by omega) | exact congrArg Value.bool (by simp <;> omega) | exact congrArg Value.bool (by simp)⟩
    | exact ⟨rfl, ⟨rfl, rfl, by
      intro p hp
      simp only [List.mem_cons, List.not_mem_nil, or_false] at hp
      rcases hp with rfl | rfl | rfl | rfl | rfl | rfl | rfl | rfl | rfl <;> first | rfl | exact congrArg I (by omega) | exact congrArg Value.bool (by simp <;> omega) | exact congrArg Value.bool (by simp)⟩, rfl⟩

set_option maxHeartbeats 1000000 in
set_option maxRecDepth 100000 in
theorem p6_24 {v : World} {a : Act} {b o n cap g ct wb lb on oc : Nat} {op : Option Addr} {x1 : Value} {tn : Int} {i : Nat} {Z : Nat → Prop} {l : List Rc} {is : Bool} (hl : RL Z v (.slice (some ⟨b, o, none⟩) n cap) l) (hZ : ∀ i, Z i → i < v.heap.size) (hi : i < 100) (his : is = true ↔ FateB l i) (hA : Fl 184 [(0, .slice (some ⟨b, o, none⟩) n cap), (1, x1), (2, I tn), (9, .slice (some ⟨g, 0, none⟩) n ct), (10, .slice (some ⟨wb, 0, none⟩) n n), (11, .slice op on oc), (12, .slice (some ⟨lb, 0, none⟩) n n), (16, I (i : Nat))] a) :
    q6_24.wp Try.prog (fun e a' w' => e = .normal ∧ (Fl 184 [(0, .slice (some ⟨b, o, none⟩) n cap), (1, x1), (2, I tn), (9, .slice (some ⟨g, 0, none⟩) n ct), (10, .slice (some ⟨wb, 0, none⟩) n n), (11, .slice op on oc), (12, .slice (some ⟨lb, 0, none⟩) n n), (16, I (i : Nat)), (17, .bool is)] a' ∧ Kp (fun i => i < v.heap.size) v w')) a v := by
  have HC : Hid (Calls Try.prog 13 #[.slice (some ⟨b, o, none⟩) n cap, I (i : Nat)] v _) := fate_any hl hZ ⟨by omega, by omega⟩
  have HIS : Hid (is = true ↔ FateB l i) := his
  clear hl hZ his
  obtain ⟨hsz, hd, hp⟩ := hA
  obtain ⟨u, rfl, hg⟩ := litN hsz hd
  simp only [List.forall_mem_cons, hg] at hp
  obtain ⟨u0, u1, u2, u9, u10, u11, u12, u16, -⟩ := hp
  clear hg hsz hd
  unfold q6_24 C6 Try.f6 seq1 seq2 blockC loopC
  simp only [Option.getD_some, lits, Nat.reduceAdd, u0, u1, u2, u9, u10, u11, u12, u16]
  clear u0 u1 u2 u9 u10 u11 u12 u16
  go_wp2_with (first
    | (go_at_call 13; refine HC.out.mono ?_; rintro e w1 ⟨_, rfl, ⟨is', rfl, hb⟩, hk⟩; have he : is' = is := Bool.eq_iff_iff.2 (hb.trans HIS.out.symm); subst he; have HK : Hid (Kp (fun i => i < v.heap.size) v w1) := hk; clear hb hk))
  first
    | exact ⟨⟨rfl, rfl, by
      intro p hp
      simp only [List.mem_cons, List.not_mem_nil, or_false] at hp
      rcases hp with rfl | rfl | rfl | rfl | rfl | rfl | rfl | rfl | rfl <;> first | rfl | exact congrArg I (by omega) | exact congrArg Value.bool (by simp <;> omega) | exact congrArg Value.bool (by simp)⟩, HK.out⟩
    | exact ⟨rfl, rfl, by
      intro p hp
      simp only [List.mem_cons, List.not_mem_nil, or_false] at hp
      rcases hp with rfl | rfl | rfl | rfl | rfl | rfl | rfl | rfl | rfl <;> first | rfl | exact congrArg I (by omega) | exact congrArg Value.bool (by simp <;> omega) | exact congrArg Value.bool (by simp)⟩
    | exact ⟨rfl, ⟨rfl, rfl, by
      intro p hp
      simp only [List.mem_cons, List.not_mem_nil, or_false] at hp
      rcases hp with rfl | rfl | rfl | rfl | rfl | rfl | rfl | rfl | rfl <;> first | rfl | exact congrArg I (by omega) | exact congrArg Value.bool (by simp <;> omega) | exact congrArg Value.bool (by simp)⟩, HK.out⟩

set_option maxHeartbeats 1000000 in
set_option maxRecDepth 100000 in
theorem p6_25_a {v : World} {a : Act} {b o n cap g ct wb lb on oc : Nat} {op : Option Addr} {x1 : Value} {tn : Int} {i : Nat} {is tl : Bool} (hn : n ≤ 100) (hi : i < n) (cl : v.cell? ⟨lb, i, none⟩ = some (.bool tl)) (cw : v.cell? ⟨wb, i, none⟩ = some (.bool true)) (hA : Fl 184 [(0, .slice (some ⟨b, o, none⟩) n cap), (1, x1), (2, I tn), (9, .slice (some ⟨g, 0, none⟩) n ct), (10, .slice (some ⟨wb, 0, none⟩) n n), (11, .slice op on oc), (12, .slice (some ⟨lb, 0, none⟩) n n), (16, I (i : Nat)), (17, .bool is)] a) :
    q6_25.wp Try.prog (fun e a' w' => e = .normal ∧ (Fl 184 [(126, .bool (tl != is)), (0, .slice (some ⟨b, o, none⟩) n cap), (1, x1), (2, I tn), (9, .slice (some ⟨g, 0, none⟩) n ct), (10, .slice (some ⟨wb, 0, none⟩) n n), (11, .slice op on oc), (12, .slice (some ⟨lb, 0, none⟩) n n), (16, I (i : Nat))] a' ∧ ∃ m, w' = v.drewN m)) a v := by
  obtain ⟨hsz, hd, hp⟩ := hA
  obtain ⟨u, rfl, hg⟩ := litN hsz hd
  simp only [List.forall_mem_cons, hg] at hp
  obtain ⟨u0, u1, u2, u9, u10, u11, u12, u16, u17, -⟩ := hp
  clear hg hsz hd
  unfold q6_25 C6 Try.f6 seq1 seq2 blockC loopC
  simp only [Option.getD_some, lits, Nat.reduceAdd, u0, u1, u2, u9, u10, u11, u12, u16, u17]
  clear u0 u1 u2 u9 u10 u11 u12 u16 u17
  go_quiet (fail)
  first
    | exact ⟨⟨rfl, rfl, by
      intro p hp
      simp only [List.mem_cons, List.not_mem_nil, or_false] at hp
      rcases hp with rfl | rfl | rfl | rfl | rfl | rfl | rfl | rfl | rfl <;> first | rfl | exact congrArg I (by omega) | exact congrArg Value.bool (by simp <;> omega) | exact congrArg Value.bool (by simp)⟩, ⟨_, rfl⟩⟩
    | exact ⟨rfl, rfl, by
      intro p hp
      simp only [List.mem_cons, List.not_mem_nil, or_false] at hp
      rcases hp with rfl | rfl | rfl | rfl | rfl | rfl | rfl | rfl | rfl <;> first | rfl | exact congrArg I (by omega) | exact congrArg Value.bool (by simp <;> omega) | exact congrArg Value.bool (by simp)⟩
    | exact ⟨rfl, ⟨rfl, rfl, by
      intro p hp
      simp only [List.mem_cons, List.not_mem_nil, or_false] at hp
      rcases hp with rfl | rfl | rfl | rfl | rfl | rfl | rfl | rfl | rfl <;> first | rfl | exact congrArg I (by omega) | exact congrArg Value.bool (by simp <;> omega) | exact congrArg Value.bool (by simp)⟩, ⟨_, rfl⟩⟩

set_option maxHeartbeats 1000000 in
set_option maxRecDepth 100000 in
theorem p6_25_b {v : World} {a : Act} {b o n cap g ct wb lb on oc : Nat} {op : Option Addr} {x1 : Value} {tn : Int} {i : Nat} {is tl : Bool} (hn : n ≤ 100) (hi : i < n) (cl : v.cell? ⟨lb, i, none⟩ = some (.bool tl)) (cw : v.cell? ⟨wb, i, none⟩ = some (.bool false)) (hA : Fl 184 [(0, .slice (some ⟨b, o, none⟩) n cap), (1, x1), (2, I tn), (9, .slice (some ⟨g, 0, none⟩) n ct), (10, .slice (some ⟨wb, 0, none⟩) n n), (11, .slice op on oc), (12, .slice (some ⟨lb, 0, none⟩) n n), (16, I (i : Nat)), (17, .bool is)] a) :
    q6_25.wp Try.prog (fun e a' w' => e = .normal ∧ (Fl 184 [(126, .bool (tl != false)), (0, .slice (some ⟨b, o, none⟩) n cap), (1, x1), (2, I tn), (9, .slice (some ⟨g, 0, none⟩) n ct), (10, .slice (some ⟨wb, 0, none⟩) n n), (11, .slice op on oc), (12, .slice (some ⟨lb, 0, none⟩) n n), (16, I (i : Nat))] a' ∧ ∃ m, w' = v.drewN m)) a v := by
  obtain ⟨hsz, hd, hp⟩ := hA
  obtain ⟨u, rfl, hg⟩ := litN hsz hd
  simp only [List.forall_mem_cons, hg] at hp
  obtain ⟨u0, u1, u2, u9, u10, u11, u12, u16, u17, -⟩ := hp
  clear hg hsz hd
  unfold q6_25 C6 Try.f6 seq1 seq2 blockC loopC
  simp only [Option.getD_some, lits, Nat.reduceAdd, u0, u1, u2, u9, u10, u11, u12, u16, u17]
  clear u0 u1 u2 u9 u10 u11 u12 u16 u17
  go_quiet (fail)
  first
    | exact ⟨⟨rfl, rfl, by
      intro p hp
      simp only [List.mem_cons, List.not_mem_nil, or_false] at hp
      rcases hp with rfl | rfl | rfl | rfl | rfl | rfl | rfl | rfl | rfl <;> first | rfl | exact congrArg I (by omega) | exact congrArg Value.bool (by simp <;> omega) | exact congrArg Value.bool (by simp)⟩, ⟨_, rfl⟩⟩
    | exact ⟨rfl, rfl, by
      intro p hp
      simp only [List.mem_cons, List.not_mem_nil, or_false] at hp
      rcases hp with rfl | rfl | rfl | rfl | rfl | rfl | rfl | rfl | rfl <;> first | rfl | exact congrArg I (by omega) | exact congrArg Value.bool (by simp <;> omega) | exact congrArg Value.bool (by simp)⟩
    | exact ⟨rfl, ⟨rfl, rfl, by
      intro p hp
      simp only [List.mem_cons, List.not_mem_nil, or_false] at hp
      rcases hp with rfl | rfl | rfl | rfl | rfl | rfl | rfl | rfl | rfl <;> first | rfl | exact congrArg I (by omega) | exact congrArg Value.bool (by simp <;> omega) | exact congrArg Value.bool (by simp)⟩, ⟨_, rfl⟩⟩

set_option maxHeartbeats 1000000 in
set_option maxRecDepth 100000 in
theorem p6_23 {v : World} {a : Act} {b o n cap g ct wb lb on oc : Nat} {op : Option Addr} {x1 : Value} {tn : Int} {i : Nat} (hi : i < 100) (hA : Fl 184 [(0, .slice (some ⟨b, o, none⟩) n cap), (1, x1), (2, I tn), (9, .slice (some ⟨g, 0, none⟩) n ct), (10, .slice (some ⟨wb, 0, none⟩) n n), (11, .slice op on oc), (12, .slice (some ⟨lb, 0, none⟩) n n), (16, I (i : Nat))] a) :
    q6_23.wp Try.prog (fun e a' w' => e = .normal ∧ (Fl 184 [(0, .slice (some ⟨b, o, none⟩) n cap), (1, x1), (2, I tn), (9, .slice (some ⟨g, 0, none⟩) n ct), (10, .slice (some ⟨wb, 0, none⟩) n n), (11, .slice op on oc), (12, .slice (some ⟨lb, 0, none⟩) n n), (16, I ((i + 1 : Nat) : Int))] a' ∧ w' = v)) a v := by
  obtain ⟨hsz, hd, hp⟩ := hA
  obtain ⟨u, rfl, hg⟩ := litN hsz hd
  simp only [List.forall_mem_cons, hg] at hp
  obtain ⟨u0, u1, u2, u9, u10, u11, u12, u16, -⟩ := hp
  clear hg hsz hd
  unfold q6_23 C6 Try.f6 seq1 seq2 blockC loopC
  simp only [Option.getD_some, lits, Nat.reduceAdd, u0, u1, u2, u9, u10, u11, u12, u16]
  clear u0 u1 u2 u9 u10 u11 u12 u16
  go_wp2_with fail
  first
    | exact ⟨⟨rfl, rfl, by
      intro p hp
      simp only [List.mem_cons, List.not_mem_nil, or_false] at hp
      rcases hp with rfl | rfl | rfl | rfl | rfl | rfl | rfl | rfl <;> first | rfl | exact congrArg I (by omega) | exact congrArg Value.bool (by simp <;> omega) | exact congrArg Value.bool (by simp)⟩, rfl⟩
    | exact ⟨rfl, rfl, by
      intro p hp
      simp only [List.mem_cons, List.not_mem_nil, or_false] at hp
      rcases hp with rfl | rfl | rfl | rfl | rfl | rfl | rfl | rfl <;> first | rfl | exact congrArg I (by omega) | exact congrArg Value.bool (by simp <;> omega) | exact congrArg Value.bool (by simp)⟩
    | exact ⟨rfl, ⟨rfl, rfl, by
      intro p hp
      simp only [List.mem_cons, List.not_mem_nil, or_false] at hp
      rcases hp with rfl | rfl | rfl | rfl | rfl | rfl | rfl | rfl <;> first | rfl | exact congrArg I (by omega) | exact congrArg Value.bool (by simp <;> omega) | exact congrArg Value.bool (by simp)⟩, rfl⟩

set_option maxHeartbeats 1000000 in
set_option maxRecDepth 100000 in
theorem p6_27 {v : World} {a : Act} {b o n cap g ct wb lb on oc : Nat} {op : Option Addr} {x1 : Value} {tn : Int}  (hA : Fl 184 [(0, .slice (some ⟨b, o, none⟩) n cap), (1, x1), (2, I tn), (9, .slice (some ⟨g, 0, none⟩) n ct), (10, .slice (some ⟨wb, 0, none⟩) n n), (11, .slice op on oc), (12, .slice (some ⟨lb, 0, none⟩) n n)] a) :
    q6_27.wp Try.prog (fun e a' w' => e = .normal ∧ (Fl 184 [(0, .slice (some ⟨b, o, none⟩) n cap), (1, x1), (2, I tn), (9, .slice (some ⟨g, 0, none⟩) n ct), (10, .slice (some ⟨wb, 0, none⟩) n n), (11, .slice op on oc), (12, .slice (some ⟨lb, 0, none⟩) n n), (19, .slice none 0 0)] a' ∧ w' = v)) a v := by
  obtain ⟨hsz, hd, hp⟩ := hA
  obtain ⟨u, rfl, hg⟩ := litN hsz hd
  simp only [List.forall_mem_cons, hg] at hp
  obtain ⟨u0, u1, u2, u9, u10, u11, u12, -⟩ := hp
  clear hg hsz hd
  unfold q6_27 C6 Try.f6 seq1 seq2
  simp only [Option.getD_some, lits, Nat.reduceAdd, u0, u1, u2, u9, u10, u11, u12]
  clear u0 u1 u2 u9 u10 u11 u12
  go_wp2_with fail
  first
    | exact ⟨⟨rfl, rfl, by
      intro p hp
      simp only [List.mem_cons, List.not_mem_nil, or_false] at hp
      rcases hp with rfl | rfl | rfl | rfl | rfl | rfl | rfl | rfl <;> first | rfl | exact congrArg I (by omega) | exact congrArg Value.bool (by simp <;> omega) | exact congrArg Value.bool (by simp)⟩, rfl⟩
    | exact ⟨rfl, rfl, by
      intro p hp
      simp only [List.mem_cons, List.not_mem_nil, or_false] at hp
      rcases hp with rfl | rfl | rfl | rfl | rfl | rfl | rfl | rfl <;> first | rfl | exact congrArg I (by omega) | exact congrArg Value.bool (by simp <;> omega) | exact congrArg Value.bool (by simp)⟩
    | exact ⟨rfl, ⟨rfl, rfl, by
      intro p hp
      simp only [List.mem_cons, List.not_mem_nil, or_false] at hp
      rcases hp with rfl | rfl | rfl | rfl | rfl | rfl | rfl | rfl <;> first | rfl | exact congrArg I (by omega) | exact congrArg Value.bool (by simp <;> omega) | exact congrArg Value.bool (by simp)⟩, rfl⟩

set_option maxHeartbeats 1000000 in
set_option maxRecDepth 100000 in
theorem p6_28 {v : World} {a : Act} {b o n cap g ct wb lb on oc : Nat} {op : Option Addr} {x1 : Value} {tn : Int} {qv : Value}  (hA : Fl 184 [(0, .slice (some ⟨b, o, none⟩) n cap), (1, x1), (2, I tn), (9, .slice (some ⟨g, 0, none⟩) n ct), (10, .slice (some ⟨wb, 0, none⟩) n n), (11, .slice op on oc), (12, .slice (some ⟨lb, 0, none⟩) n n), (19, qv)] a) :
    q6_28.wp Try.prog (fun e a' w' => e = .normal ∧ (Fl 184 [(0, .slice (some ⟨b, o, none⟩) n cap), (1, x1), (2, I tn), (9, .slice (some ⟨g, 0, none⟩) n ct), (10, .slice (some ⟨wb, 0, none⟩) n n), (11, .slice op on oc), (12, .slice (some ⟨lb, 0, none⟩) n n), (19, qv), (20, I (0 : Nat))] a' ∧ w' = v)) a v := by
  obtain ⟨hsz, hd, hp⟩ := hA
  obtain ⟨u, rfl, hg⟩ := litN hsz hd
  simp only [List.forall_mem_cons, hg] at hp
  obtain ⟨u0, u1, u2, u9, u10, u11, u12, u19, -⟩ := hp
  clear hg hsz hd
  unfold q6_28 C6 Try.f6 seq1 seq2
  simp only [Option.getD_some, lits, Nat.reduceAdd, u0, u1, u2, u9, u10, u11, u12, u19]
  clear u0 u1 u2 u9 u10 u11 u12 u19
  go_wp2_with fail
  first
    | exact ⟨⟨rfl, rfl, by
      intro p hp
      simp only [List.mem_cons, List.not_mem_nil, or_false] at hp
      rcases hp with rfl | rfl | rfl | rfl | rfl | rfl | rfl | rfl | rfl <;> first | rfl | exact congrArg I (by omega) | exact congrArg Value.bool (by simp <;> omega) | exact congrArg Value.bool (by simp)⟩, rfl⟩
    | exact ⟨rfl, rfl, by
      intro p hp
      simp only [List.mem_cons, List.not_mem_nil, or_false] at hp
      rcases hp with rfl | rfl | rfl | rfl | rfl | rfl | rfl | rfl | rfl <;> first | rfl | exact congrArg I (by omega) | exact congrArg Value.bool (by simp <;> omega) | exact congrArg Value.bool (by simp)⟩
    | exact ⟨rfl, ⟨rfl, rfl, by
      intro p hp
      simp only [List.mem_cons, List.not_mem_nil, or_false] at hp
      rcases hp with rfl | rfl | rfl | rfl | rfl | rfl | rfl | rfl | rfl <;> first | rfl | exact congrArg I (by omega) | exact congrArg Value.bool (by simp <;> omega) | exact congrArg Value.bool (by simp)⟩, rfl⟩

set_option maxHeartbeats 1000000 in
set_option maxRecDepth 100000 in
theorem p6_29 {v : World} {a : Act} {b o n cap g ct wb lb on oc : Nat} {op : Option Addr} {tn : Int} {qv : Value} {i kn kc : Nat} {kp : Option Addr} (hkn : kn ≤ 300) (hA : Fl 184 [(0, .slice (some ⟨b, o, none⟩) n cap), (1, .slice kp kn kc), (2, I tn), (9, .slice (some ⟨g, 0, none⟩) n ct), (10, .slice (some ⟨wb, 0, none⟩) n n), (11, .slice op on oc), (12, .slice (some ⟨lb, 0, none⟩) n n), (19, qv), (20, I (i : Nat))] a) :
    q6_29.wp Try.prog (fun e a' w' => e = .normal ∧ (Fl 184 [(130, .bool (decide (i < kn))), (0, .slice (some ⟨b, o, none⟩) n cap), (1, .slice kp kn kc), (2, I tn), (9, .slice (some ⟨g, 0, none⟩) n ct), (10, .slice (some ⟨wb, 0, none⟩) n n), (11, .slice op on oc), (12, .slice (some ⟨lb, 0, none⟩) n n), (19, qv), (20, I (i : Nat))] a' ∧ w' = v)) a v := by
  obtain ⟨hsz, hd, hp⟩ := hA
  obtain ⟨u, rfl, hg⟩ := litN hsz hd
  simp only [List.forall_mem_cons, hg] at hp
  obtain ⟨u0, u1, u2, u9, u10, u11, u12, u19, u20, -⟩ := hp
  clear hg hsz hd
  unfold q6_29 C6 Try.f6 seq1 seq2 blockC loopC
  simp only [Option.getD_some, lits, Nat.reduceAdd, u0, u1, u2, u9, u10, u11, u12, u19, u20]
  clear u0 u1 u2 u9 u10 u11 u12 u19 u20
  go_wp2_with fail
  first
    | exact ⟨⟨rfl, rfl, by
      intro p hp
      simp only [List.mem_cons, List.not_mem_nil, or_false] at hp
      rcases hp with rfl | rfl | rfl | rfl | rfl | rfl | rfl | rfl | rfl | rfl <;> first | rfl | exact congrArg I (by omega) | exact congrArg Value.bool (by simp <;> omega) | exact congrArg Value.bool (by simp)⟩, rfl⟩
    | exact ⟨rfl, rfl, by
      intro p hp
      simp only [List.mem_cons, List.not_mem_nil, or_false] at hp
      rcases hp with rfl | rfl | rfl | rfl | rfl | rfl | rfl | rfl | rfl | rfl <;> first | rfl | exact congrArg I (by omega) | exact congrArg Value.bool (by simp <;> omega) | exact congrArg Value.bool (by simp)⟩
    | exact ⟨rfl, ⟨rfl, rfl, by
      intro p hp
      simp only [List.mem_cons, List.not_mem_nil, or_false] at hp
      rcases hp with rfl | rfl | rfl | rfl | rfl | rfl | rfl | rfl | rfl | rfl <;> first | rfl | exact congrArg I (by omega) | exact congrArg Value.bool (by simp <;> omega) | exact congrArg Value.bool (by simp)⟩, rfl⟩

set_option maxHeartbeats 1000000 in
set_option maxRecDepth 100000 in
theorem p6_31 {v : World} {a : Act} {b o n cap g ct wb lb on oc : Nat} {op : Option Addr} {tn : Int} {qv : Value} {i kn kc : Nat} {kb ko : Nat} {x : Int} {Z : Nat → Prop} {xs : List Int} (hkn : kn ≤ 300) (hi : i < kn) (cx : v.cell? ⟨kb, ko + (i + (bits .and .i64 tn 1023).toNat) % kn, none⟩ = some (I x)) (hO : OwnI Z v qv xs) (hZ : ∀ i, Z i → i < v.heap.size) (hl : xs.length ≤ 1000000) (hA : Fl 184 [(0, .slice (some ⟨b, o, none⟩) n cap), (1, .slice (some ⟨kb, ko, none⟩) kn kc), (2, I tn), (9, .slice (some ⟨g, 0, none⟩) n ct), (10, .slice (some ⟨wb, 0, none⟩) n n), (11, .slice op on oc), (12, .slice (some ⟨lb, 0, none⟩) n n), (19, qv), (20, I (i : Nat))] a) :
    q6_31.wp Try.prog (fun e a' w' => e = .normal ∧ ∃ g2 c2, (Fl 184 [(0, .slice (some ⟨b, o, none⟩) n cap), (1, .slice (some ⟨kb, ko, none⟩) kn kc), (2, I tn), (9, .slice (some ⟨g, 0, none⟩) n ct), (10, .slice (some ⟨wb, 0, none⟩) n n), (11, .slice op on oc), (12, .slice (some ⟨lb, 0, none⟩) n n), (19, .slice (some ⟨g2, 0, none⟩) (xs.length + 1) c2), (20, I (i : Nat))] a' ∧ OwnI Z w' (.slice (some ⟨g2, 0, none⟩) (xs.length + 1) c2) (xs ++ [x]) ∧ Kp Z v w' ∧ (∀ i, i < v.heap.size → qv.ownBlock ≠ some i → w'.heap[i]? = v.heap[i]?))) a v := by
  have hb := incr_and tn
  obtain ⟨tt, htt⟩ := Int.eq_ofNat_of_zero_le hb.1
  have HTT : Hid (bits .and .i64 tn 1023 = (tt : Int)) := htt
  rw [htt] at cx
  simp only [Int.toNat_natCast] at cx
  have h1 : tt ≤ 1023 := by omega
  have hmod : ((i : Int) + (tt : Int)).tmod (kn : Int) = (((i + tt) % kn : Nat) : Int) := by rw [Int.tmod_eq_emod_of_nonneg (by omega)]; first | rfl | simp
  have hlt : (i + tt) % kn < kn := Nat.mod_lt _ (by omega)
  have hne : ((kn : Int) == 0) = false := by simp; omega
  have hne' : ¬ (kn : Int) = 0 := by omega
  clear hb
  generalize (i + tt) % kn = ix at cx hmod hlt
  have HO : Hid (OwnI Z v qv xs) := hO
  have HZ : Hid (∀ i, Z i → i < v.heap.size) := hZ
  clear hO hZ
  obtain ⟨hsz, hd, hp⟩ := hA
  obtain ⟨u, rfl, hg⟩ := litN hsz hd
  simp only [List.forall_mem_cons, hg] at hp
  obtain ⟨u0, u1, u2, u9, u10, u11, u12, u19, u20, -⟩ := hp
  clear hg hsz hd
  unfold q6_31 C6 Try.f6 seq1 seq2 blockC loopC
  simp only [Option.getD_some, lits, Nat.reduceAdd, u0, u1, u2, u9, u10, u11, u12, u19, u20]
  clear u0 u1 u2 u9 u10 u11 u12 u19 u20
  go_wp2_with (first
    | (at_builtin; refine wp_app (n := x) rfl (.tmp 133) (.tmp 144) rfl rfl rfl HO.out HZ.out (Nat.le_trans hl (by omega)) ?_; intro g2 c2 w' hO' hk' hb' hloc' hsz'; have H' : Hid (OwnI Z w' (.slice (some ⟨g2, 0, none⟩) (xs.length + 1) c2) (xs ++ [x]) ∧ Kp Z v w' ∧ (∀ i, i < v.heap.size → qv.ownBlock ≠ some i → w'.heap[i]? = v.heap[i]?)) := ⟨hO', hk', hb'⟩; clear hO' hk' hb' hloc' hsz'))
  exact ⟨g2, c2, ⟨rfl, rfl, by
    intro p hp
    simp only [List.mem_cons, List.not_mem_nil, or_false] at hp
    rcases hp with rfl | rfl | rfl | rfl | rfl | rfl | rfl | rfl | rfl <;> first | rfl | exact congrArg I (by omega) | exact congrArg Value.bool (by simp <;> omega) | exact congrArg Value.bool (by simp)⟩, H'.out⟩

set_option maxHeartbeats 1000000 in
set_option maxRecDepth 100000 in
theorem p6_30 {v : World} {a : Act} {b o n cap g ct wb lb on oc : Nat} {op : Option Addr} {x1 : Value} {tn : Int} {qv : Value} {i : Nat} (hi : i < 1000) (hA : Fl 184 [(0, .slice (some ⟨b, o, none⟩) n cap), (1, x1), (2, I tn), (9, .slice (some ⟨g, 0, none⟩) n ct), (10, .slice (some ⟨wb, 0, none⟩) n n), (11, .slice op on oc), (12, .slice (some ⟨lb, 0, none⟩) n n), (19, qv), (20, I (i : Nat))] a) :
    q6_30.wp Try.prog (fun e a' w' => e = .normal ∧ (Fl 184 [(0, .slice (some ⟨b, o, none⟩) n cap), (1, x1), (2, I tn), (9, .slice (some ⟨g, 0, none⟩) n ct), (10, .slice (some ⟨wb, 0, none⟩) n n), (11, .slice op on oc), (12, .slice (some ⟨lb, 0, none⟩) n n), (19, qv), (20, I ((i + 1 : Nat) : Int))] a' ∧ w' = v)) a v := by
  obtain ⟨hsz, hd, hp⟩ := hA
  obtain ⟨u, rfl, hg⟩ := litN hsz hd
  simp only [List.forall_mem_cons, hg] at hp
  obtain ⟨u0, u1, u2, u9, u10, u11, u12, u19, u20, -⟩ := hp
  clear hg hsz hd
  unfold q6_30 C6 Try.f6 seq1 seq2 blockC loopC
  simp only [Option.getD_some, lits, Nat.reduceAdd, u0, u1, u2, u9, u10, u11, u12, u19, u20]
  clear u0 u1 u2 u9 u10 u11 u12 u19 u20
  go_wp2_with fail
  first
    | exact ⟨⟨rfl, rfl, by
      intro p hp
      simp only [List.mem_cons, List.not_mem_nil, or_false] at hp
      rcases hp with rfl | rfl | rfl | rfl | rfl | rfl | rfl | rfl | rfl <;> first | rfl | exact congrArg I (by omega) | exact congrArg Value.bool (by simp <;> omega) | exact congrArg Value.bool (by simp)⟩, rfl⟩
    | exact ⟨rfl, rfl, by
      intro p hp
      simp only [List.mem_cons, List.not_mem_nil, or_false] at hp
      rcases hp with rfl | rfl | rfl | rfl | rfl | rfl | rfl | rfl | rfl <;> first | rfl | exact congrArg I (by omega) | exact congrArg Value.bool (by simp <;> omega) | exact congrArg Value.bool (by simp)⟩
    | exact ⟨rfl, ⟨rfl, rfl, by
      intro p hp
      simp only [List.mem_cons, List.not_mem_nil, or_false] at hp
      rcases hp with rfl | rfl | rfl | rfl | rfl | rfl | rfl | rfl | rfl <;> first | rfl | exact congrArg I (by omega) | exact congrArg Value.bool (by simp <;> omega) | exact congrArg Value.bool (by simp)⟩, rfl⟩

set_option maxHeartbeats 1000000 in
set_option maxRecDepth 100000 in
theorem p6_32 {v : World} {a : Act} {x0 ov0 lv qv : Value} {Z : Nat → Prop} {l : List Rc} {keys : List Int} (hl : RL Z v x0 l) (hks : IL Z v qv keys) (hZ : ∀ i, Z i → i < v.heap.size) (hwf : ∀ x ∈ keys, wfI x) (hA : Fl 184 [(0, x0), (11, ov0), (12, lv), (19, qv)] a) :
    q6_32.wp Try.prog (fun e a' w' => e = .normal ∧ ∃ ov, (Fl 184 [(0, x0), (11, ov0), (12, lv), (21, ov)] a' ∧ ∃ td : List Nat, OwnI (fun i => i < v.heap.size) w' ov (td.map Int.ofNat) ∧ OrderIs l keys td ∧ td.length ≤ 100 ∧ Kp (fun i => i < v.heap.size) v w')) a v := by
  have HC : Hid (Calls Try.prog 14 #[x0, qv] v _) := order_any hl hks hZ hwf
  clear hl hks hZ hwf
  obtain ⟨hsz, hd, hp⟩ := hA
  obtain ⟨u, rfl, hg⟩ := litN hsz hd
  simp only [List.forall_mem_cons, hg] at hp
  obtain ⟨u0, u11, u12, u19, -⟩ := hp
  clear hg hsz hd
  unfold q6_32 C6 Try.f6 seq1 seq2
  simp only [Option.getD_some, lits, Nat.reduceAdd, u0, u11, u12, u19]
  clear u0 u11 u12 u19
  go_wp2_with (first
    | (go_at_call 14; refine HC.out.mono ?_; rintro e w1 ⟨ov, rfl, ⟨td, h1, h2, h3⟩, hk⟩; have HK : Hid (∃ td : List Nat, OwnI (fun i => i < v.heap.size) w1 ov (td.map Int.ofNat) ∧ OrderIs l keys td ∧ td.length ≤ 100 ∧ Kp (fun i => i < v.heap.size) v w1) := ⟨td, h1, h2, h3, hk⟩; clear h1 h2 h3 hk))
  exact ⟨ov, ⟨rfl, rfl, by
    intro p hp
    simp only [List.mem_cons, List.not_mem_nil, or_false] at hp
    rcases hp with rfl | rfl | rfl | rfl <;> first | rfl | exact congrArg I (by omega) | exact congrArg Value.bool (by simp <;> omega) | exact congrArg Value.bool (by simp)⟩, HK.out⟩

set_option maxHeartbeats 1000000 in
set_option maxRecDepth 100000 in
theorem p6_33 {v : World} {a : Act} {b o n cap lb on oc an ac : Nat} {op ap : Option Addr} (h : an = on) (hon : on ≤ 100) (hA : Fl 184 [(0, .slice (some ⟨b, o, none⟩) n cap), (11, .slice op on oc), (12, .slice (some ⟨lb, 0, none⟩) n n), (21, .slice ap an ac)] a) :
    q6_33.wp Try.prog (fun e a' w' => e = .normal ∧ (Fl 184 [(153, .bool false), (0, .slice (some ⟨b, o, none⟩) n cap), (11, .slice op on oc), (12, .slice (some ⟨lb, 0, none⟩) n n), (21, .slice ap an ac)] a' ∧ w' = v)) a v := by
  obtain ⟨hsz, hd, hp⟩ := hA
  obtain ⟨u, rfl, hg⟩ := litN hsz hd
  simp only [List.forall_mem_cons, hg] at hp
  obtain ⟨u0, u11, u12, u21, -⟩ := hp
  clear hg hsz hd
  unfold q6_33 C6 Try.f6 seq1 seq2
  simp only [Option.getD_some, lits, Nat.reduceAdd, u0, u11, u12, u21]
  clear u0 u11 u12 u21
  subst h
  go_wp2_with fail
  first
    | exact ⟨⟨rfl, rfl, by
      intro p hp
      simp only [List.mem_cons, List.not_mem_nil, or_false] at hp
      rcases hp with rfl | rfl | rfl | rfl | rfl <;> first | rfl | exact congrArg I (by omega) | exact congrArg Value.bool (by simp <;> omega) | exact congrArg Value.bool (by simp)⟩, rfl⟩
    | exact ⟨rfl, rfl, by
      intro p hp
      simp only [List.mem_cons, List.not_mem_nil, or_false] at hp
      rcases hp with rfl | rfl | rfl | rfl | rfl <;> first | rfl | exact congrArg I (by omega) | exact congrArg Value.bool (by simp <;> omega) | exact congrArg Value.bool (by simp)⟩
    | exact ⟨rfl, ⟨rfl, rfl, by
      intro p hp
      simp only [List.mem_cons, List.not_mem_nil, or_false] at hp
      rcases hp with rfl | rfl | rfl | rfl | rfl <;> first | rfl | exact congrArg I (by omega) | exact congrArg Value.bool (by simp <;> omega) | exact congrArg Value.bool (by simp)⟩, rfl⟩

set_option maxHeartbeats 1000000 in
set_option maxRecDepth 100000 in
theorem p6_35 {v : World} {a : Act} {b o n cap lb on oc an ac : Nat} {op ap : Option Addr}  (hA : Fl 184 [(0, .slice (some ⟨b, o, none⟩) n cap), (11, .slice op on oc), (12, .slice (some ⟨lb, 0, none⟩) n n), (21, .slice ap an ac)] a) :
    q6_35.wp Try.prog (fun e a' w' => e = .normal ∧ (Fl 184 [(0, .slice (some ⟨b, o, none⟩) n cap), (11, .slice op on oc), (12, .slice (some ⟨lb, 0, none⟩) n n), (21, .slice ap an ac), (22, I (0 : Nat))] a' ∧ w' = v)) a v := by
  obtain ⟨hsz, hd, hp⟩ := hA
  obtain ⟨u, rfl, hg⟩ := litN hsz hd
  simp only [List.forall_mem_cons, hg] at hp
  obtain ⟨u0, u11, u12, u21, -⟩ := hp
  clear hg hsz hd
  unfold q6_35 C6 Try.f6 seq1 seq2
  simp only [Option.getD_some, lits, Nat.reduceAdd, u0, u11, u12, u21]
  clear u0 u11 u12 u21
  go_wp2_with fail
  first
    | exact ⟨⟨rfl, rfl, by
      intro p hp
      simp only [List.mem_cons, List.not_mem_nil, or_false] at hp
      rcases hp with rfl | rfl | rfl | rfl | rfl <;> first | rfl | exact congrArg I (by omega) | exact congrArg Value.bool (by simp <;> omega) | exact congrArg Value.bool (by simp)⟩, rfl⟩
    | exact ⟨rfl, rfl, by
      intro p hp
      simp only [List.mem_cons, List.not_mem_nil, or_false] at hp
      rcases hp with rfl | rfl | rfl | rfl | rfl <;> first | rfl | exact congrArg I (by omega) | exact congrArg Value.bool (by simp <;> omega) | exact congrArg Value.bool (by simp)⟩
    | exact ⟨rfl, ⟨rfl, rfl, by
      intro p hp
      simp only [List.mem_cons, List.not_mem_nil, or_false] at hp
      rcases hp with rfl | rfl | rfl | rfl | rfl <;> first | rfl | exact congrArg I (by omega) | exact congrArg Value.bool (by simp <;> omega) | exact congrArg Value.bool (by simp)⟩, rfl⟩

set_option maxHeartbeats 1000000 in
set_option maxRecDepth 100000 in
theorem p6_36 {v : World} {a : Act} {b o n cap lb on oc an ac : Nat} {op ap : Option Addr} {i : Nat} (han : an ≤ 100) (hA : Fl 184 [(0, .slice (some ⟨b, o, none⟩) n cap), (11, .slice op on oc), (12, .slice (some ⟨lb, 0, none⟩) n n), (21, .slice ap an ac), (22, I (i : Nat))] a) :
    q6_36.wp Try.prog (fun e a' w' => e = .normal ∧ (Fl 184 [(157, .bool (decide (i < an))), (0, .slice (some ⟨b, o, none⟩) n cap), (11, .slice op on oc), (12, .slice (some ⟨lb, 0, none⟩) n n), (21, .slice ap an ac), (22, I (i : Nat))] a' ∧ w' = v)) a v := by
  obtain ⟨hsz, hd, hp⟩ := hA
  obtain ⟨u, rfl, hg⟩ := litN hsz hd
  simp only [List.forall_mem_cons, hg] at hp
  obtain ⟨u0, u11, u12, u21, u22, -⟩ := hp
  clear hg hsz hd
  unfold q6_36 C6 Try.f6 seq1 seq2 blockC loopC
  simp only [Option.getD_some, lits, Nat.reduceAdd, u0, u11, u12, u21, u22]
  clear u0 u11 u12 u21 u22
  go_wp2_with fail
  first
    | exact ⟨⟨rfl, rfl, by
      intro p hp
      simp only [List.mem_cons, List.not_mem_nil, or_false] at hp
      rcases hp with rfl | rfl | rfl | rfl | rfl | rfl <;> first | rfl | exact congrArg I (by omega) | exact congrArg Value.bool (by simp <;> omega) | exact congrArg Value.bool (by simp)⟩, rfl⟩
    | exact ⟨rfl, rfl, by
      intro p hp
      simp only [List.mem_cons, List.not_mem_nil, or_false] at hp
      rcases hp with rfl | rfl | rfl | rfl | rfl | rfl <;> first | rfl | exact congrArg I (by omega) | exact congrArg Value.bool (by simp <;> omega) | exact congrArg Value.bool (by simp)⟩
    | exact ⟨rfl, ⟨rfl, rfl, by
      intro p hp
      simp only [List.mem_cons, List.not_mem_nil, or_false] at hp
      rcases hp with rfl | rfl | rfl | rfl | rfl | rfl <;> first | rfl | exact congrArg I (by omega) | exact congrArg Value.bool (by simp <;> omega) | exact congrArg Value.bool (by simp)⟩, rfl⟩

set_option maxHeartbeats 1000000 in
set_option maxRecDepth 100000 in
theorem p6_38 {v : World} {a : Act} {b o n cap lb on oc an ac : Nat} {op : Option Addr} {i ag aq k : Nat} (hn : n ≤ 100) (han : an ≤ 100) (hi : i < an) (c : v.cell? ⟨ag, aq + i, none⟩ = some (I (k : Nat))) (hk : k < n) (cl : v.cell? ⟨lb, k, none⟩ = some (.bool true)) (hA : Fl 184 [(0, .slice (some ⟨b, o, none⟩) n cap), (11, .slice op on oc), (12, .slice (some ⟨lb, 0, none⟩) n n), (21, .slice (some ⟨ag, aq, none⟩) an ac), (22, I (i : Nat))] a) :
    q6_38.wp Try.prog (fun e a' w' => e = .normal ∧ (Fl 184 [(183, .bool false), (0, .slice (some ⟨b, o, none⟩) n cap), (11, .slice op on oc), (12, .slice (some ⟨lb, 0, none⟩) n n), (21, .slice (some ⟨ag, aq, none⟩) an ac), (22, I (i : Nat))] a' ∧ w' = v)) a v := by
  obtain ⟨hsz, hd, hp⟩ := hA
  obtain ⟨u, rfl, hg⟩ := litN hsz hd
  simp only [List.forall_mem_cons, hg] at hp
  obtain ⟨u0, u11, u12, u21, u22, -⟩ := hp
  clear hg hsz hd
  unfold q6_38 C6 Try.f6 seq1 seq2 blockC loopC
  simp only [Option.getD_some, lits, Nat.reduceAdd, u0, u11, u12, u21, u22]
  clear u0 u11 u12 u21 u22
  have g1 : decide ((k : Int) < 0) = false := by simp
  have g2 : decide ((n : Int) ≤ (k : Int)) = false := by simp; omega
  go_wp2_with fail
  first
    | exact ⟨⟨rfl, rfl, by
      intro p hp
      simp only [List.mem_cons, List.not_mem_nil, or_false] at hp
      rcases hp with rfl | rfl | rfl | rfl | rfl | rfl <;> first | rfl | exact congrArg I (by omega) | exact congrArg Value.bool (by simp <;> omega) | exact congrArg Value.bool (by simp)⟩, rfl⟩
    | exact ⟨rfl, rfl, by
      intro p hp
      simp only [List.mem_cons, List.not_mem_nil, or_false] at hp
      rcases hp with rfl | rfl | rfl | rfl | rfl | rfl <;> first | rfl | exact congrArg I (by omega) | exact congrArg Value.bool (by simp <;> omega) | exact congrArg Value.bool (by simp)⟩
    | exact ⟨rfl, ⟨rfl, rfl, by
      intro p hp
      simp only [List.mem_cons, List.not_mem_nil, or_false] at hp
      rcases hp with rfl | rfl | rfl | rfl | rfl | rfl <;> first | rfl | exact congrArg I (by omega) | exact congrArg Value.bool (by simp <;> omega) | exact congrArg Value.bool (by simp)⟩, rfl⟩

set_option maxHeartbeats 1000000 in
set_option maxRecDepth 100000 in
theorem p6_37 {v : World} {a : Act} {b o n cap lb on oc an ac : Nat} {op ap : Option Addr} {i : Nat} (hi : i < 100) (hA : Fl 184 [(0, .slice (some ⟨b, o, none⟩) n cap), (11, .slice op on oc), (12, .slice (some ⟨lb, 0, none⟩) n n), (21, .slice ap an ac), (22, I (i : Nat))] a) :
    q6_37.wp Try.prog (fun e a' w' => e = .normal ∧ (Fl 184 [(0, .slice (some ⟨b, o, none⟩) n cap), (11, .slice op on oc), (12, .slice (some ⟨lb, 0, none⟩) n n), (21, .slice ap an ac), (22, I ((i + 1 : Nat) : Int))] a' ∧ w' = v)) a v := by
  obtain ⟨hsz, hd, hp⟩ := hA
  obtain ⟨u, rfl, hg⟩ := litN hsz hd
  simp only [List.forall_mem_cons, hg] at hp
  obtain ⟨u0, u11, u12, u21, u22, -⟩ := hp
  clear hg hsz hd
  unfold q6_37 C6 Try.f6 seq1 seq2 blockC loopC
  simp only [Option.getD_some, lits, Nat.reduceAdd, u0, u11, u12, u21, u22]
  clear u0 u11 u12 u21 u22
  go_wp2_with fail
  first
    | exact ⟨⟨rfl, rfl, by
      intro p hp
      simp only [List.mem_cons, List.not_mem_nil, or_false] at hp
      rcases hp with rfl | rfl | rfl | rfl | rfl <;> first | rfl | exact congrArg I (by omega) | exact congrArg Value.bool (by simp <;> omega) | exact congrArg Value.bool (by simp)⟩, rfl⟩
    | exact ⟨rfl, rfl, by
      intro p hp
      simp only [List.mem_cons, List.not_mem_nil, or_false] at hp
      rcases hp with rfl | rfl | rfl | rfl | rfl <;> first | rfl | exact congrArg I (by omega) | exact congrArg Value.bool (by simp <;> omega) | exact congrArg Value.bool (by simp)⟩
    | exact ⟨rfl, ⟨rfl, rfl, by
      intro p hp
      simp only [List.mem_cons, List.not_mem_nil, or_false] at hp
      rcases hp with rfl | rfl | rfl | rfl | rfl <;> first | rfl | exact congrArg I (by omega) | exact congrArg Value.bool (by simp <;> omega) | exact congrArg Value.bool (by simp)⟩, rfl⟩

set_option maxHeartbeats 1000000 in
set_option maxRecDepth 100000 in
theorem p6_40 {v : World} {a : Act}   (hA : Fl 184 [] a) :
    q6_40.wp Try.prog (fun e a' w' => e = .normal ∧ (Fl 184 [(6, .bool true)] a' ∧ w' = v)) a v := by
  obtain ⟨hsz, hd, hp⟩ := hA
  obtain ⟨u, rfl, hg⟩ := litN hsz hd
  clear hg hp hsz hd
  unfold q6_40 C6 Try.f6 seq1 seq2
  simp only [Option.getD_some, lits, Nat.reduceAdd]
  go_wp2_with fail
  first
    | exact ⟨⟨rfl, rfl, by
      intro p hp
      simp only [List.mem_cons, List.not_mem_nil, or_false] at hp
      rcases hp with rfl <;> first | rfl | exact congrArg I (by omega) | exact congrArg Value.bool (by simp <;> omega) | exact congrArg Value.bool (by simp)⟩, rfl⟩
    | exact ⟨rfl, rfl, by
      intro p hp
      simp only [List.mem_cons, List.not_mem_nil, or_false] at hp
      rcases hp with rfl <;> first | rfl | exact congrArg I (by omega) | exact congrArg Value.bool (by simp <;> omega) | exact congrArg Value.bool (by simp)⟩
    | exact ⟨rfl, ⟨rfl, rfl, by
      intro p hp
      simp only [List.mem_cons, List.not_mem_nil, or_false] at hp
      rcases hp with rfl <;> first | rfl | exact congrArg I (by omega) | exact congrArg Value.bool (by simp <;> omega) | exact congrArg Value.bool (by simp)⟩, rfl⟩

theorem in6 {w : World} {R : Value → World → Prop} {x0 x1 : Value} {tn : Int} (h : ∀ a, Fl 184 [(0, x0), (1, x1), (2, I tn)] a → C6.wp Try.prog (bodyPost Try.prog Try.f6 (Ret R)) a w) : Calls Try.prog 6 #[x0, x1, I tn] w (Ret R) :=
  calls_of_wp Try.func6 (show Try.f6.body = some C6 by kernel_rfl) (by
    rw [Try.ntmps6]
    exact h _ (fl_enter _ _ 184 (by simp) _ (by intro p hp; simp only [List.mem_cons, List.not_mem_nil, or_false] at hp; rcases hp with rfl | rfl | rfl <;> rfl)))

end Go.Proofs.Ytgohfdgkihoilaa.Rcp
