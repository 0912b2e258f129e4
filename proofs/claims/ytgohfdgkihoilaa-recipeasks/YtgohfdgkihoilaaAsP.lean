/- The law RecipeAsks (4): its pieces. (Made by wip/tools/mk4.py.) -/
import Derived.Test.YtgohfdgkihoilaaOwd
import Derived.Test.YtgohfdgkihoilaaRefF
import Derived.Test.YtgohfdgkihoilaaRefG
import Derived.Test.YtgohfdgkihoilaaOrd
set_option linter.unusedSimpArgs false
set_option linter.unusedVariables false
namespace Go.Proofs.Ytgohfdgkihoilaa.Rcp
open Go Go.RowKit Go.Deep Go.Maps

noncomputable def C4 : Code := Try.f4.body.getD .skip
noncomputable def q4_0 : Code := (seq1 C4)
noncomputable def q4_1 : Code := (seq1 (seq2 C4))
noncomputable def q4_2 : Code := (seq1 (seq2 (seq2 C4)))
noncomputable def q4_3 : Code := (seq1 (seq2 (seq2 (seq2 C4))))
noncomputable def q4_4 : Code := (seq1 (seq2 (seq2 (seq2 (seq2 C4)))))
noncomputable def q4_5 : Code := (seq1 (seq2 (seq2 (seq2 (seq2 (seq2 C4))))))
noncomputable def q4_6 : Code := (seq1 (seq2 (seq2 (seq2 (seq2 (seq2 (seq2 C4)))))))
noncomputable def q4_7 : Code := (seq1 (seq2 (seq2 (seq2 (seq2 (seq2 (seq2 (seq2 C4))))))))
noncomputable def q4_8 : Code := (seq1 (seq2 (seq2 (seq2 (seq2 (seq2 (seq2 (seq2 (seq2 C4)))))))))
noncomputable def q4_9 : Code := (seq1 (seq2 (seq2 (seq2 (seq2 (seq2 (seq2 (seq2 (seq2 (seq2 C4))))))))))
noncomputable def q4_10 : Code := (seq1 (seq2 (seq2 (seq2 (seq2 (seq2 (seq2 (seq2 (seq2 (seq2 (seq2 C4)))))))))))
noncomputable def q4_11 : Code := (seq1 (seq2 (seq2 (seq2 (seq2 (seq2 (seq2 (seq2 (seq2 (seq2 (seq2 (seq2 C4))))))))))))
noncomputable def q4_12 : Code := (seq1 (seq2 (seq2 (seq2 (seq2 (seq2 (seq2 (seq2 (seq2 (seq2 (seq2 (seq2 (seq2 C4)))))))))))))
noncomputable def q4_13 : Code := (seq1 (seq2 (seq2 (seq2 (seq2 (seq2 (seq2 (seq2 (seq2 (seq2 (seq2 (seq2 (seq2 (seq2 C4))))))))))))))
noncomputable def q4_14 : Code := (seq1 (seq2 (seq2 (seq2 (seq2 (seq2 (seq2 (seq2 (seq2 (seq2 (seq2 (seq2 (seq2 (seq2 (seq2 C4)))))))))))))))
noncomputable def q4_15 : Code := (seq1 (seq2 (seq2 (seq2 (seq2 (seq2 (seq2 (seq2 (seq2 (seq2 (seq2 (seq2 (seq2 (seq2 (seq2 (seq2 C4))))))))))))))))
noncomputable def q4_16 : Code := (seq1 (seq2 (seq2 (seq2 (seq2 (seq2 (seq2 (seq2 (seq2 (seq2 (seq2 (seq2 (seq2 (seq2 (seq2 (seq2 (seq2 C4)))))))))))))))))
noncomputable def q4_17 : Code := (seq1 (seq2 (seq2 (seq2 (seq2 (seq2 (seq2 (seq2 (seq2 (seq2 (seq2 (seq2 (seq2 (seq2 (seq2 (seq2 (seq2 (seq2 C4))))))))))))))))))
noncomputable def q4_18 : Code := (seq1 (seq2 (seq2 (seq2 (seq2 (seq2 (seq2 (seq2 (seq2 (seq2 (seq2 (seq2 (seq2 (seq2 (seq2 (seq2 (seq2 (seq2 (seq2 C4)))))))))))))))))))
noncomputable def q4_19 : Code := (seq1 (seq2 (seq2 (seq2 (seq2 (seq2 (seq2 (seq2 (seq2 (seq2 (seq2 (seq2 (seq2 (seq2 (seq2 (seq2 (seq2 (seq2 (seq2 (seq2 C4))))))))))))))))))))
noncomputable def q4_20 : Code := (seq1 (seq2 (seq2 (seq2 (seq2 (seq2 (seq2 (seq2 (seq2 (seq2 (seq2 (seq2 (seq2 (seq2 (seq2 (seq2 (seq2 (seq2 (seq2 (seq2 (seq2 C4)))))))))))))))))))))
noncomputable def q4_21 : Code := (seq1 (seq2 (seq2 (seq2 (seq2 (seq2 (seq2 (seq2 (seq2 (seq2 (seq2 (seq2 (seq2 (seq2 (seq2 (seq2 (seq2 (seq2 (seq2 (seq2 (seq2 (seq2 C4))))))))))))))))))))))
noncomputable def q4_22 : Code := (seq1 (seq2 (seq2 (seq2 (seq2 (seq2 (seq2 (seq2 (seq2 (seq2 (seq2 (seq2 (seq2 (seq2 (seq2 (seq2 (seq2 (seq2 (seq2 (seq2 (seq2 (seq2 (seq2 C4)))))))))))))))))))))))
noncomputable def q4_23 : Code := (seq1 (seq1 (seq2 (seq2 (seq2 (seq2 (seq2 (seq2 (seq2 (seq2 (seq2 (seq2 (seq2 (seq2 (seq2 (seq2 (seq2 (seq2 (seq2 (seq2 (seq2 (seq2 (seq2 (seq2 (seq2 C4)))))))))))))))))))))))))
noncomputable def q4_24 : Code := (seq1 (condA (seq2 (seq1 (seq2 (seq2 (seq2 (seq2 (seq2 (seq2 (seq2 (seq2 (seq2 (seq2 (seq2 (seq2 (seq2 (seq2 (seq2 (seq2 (seq2 (seq2 (seq2 (seq2 (seq2 (seq2 (seq2 C4)))))))))))))))))))))))))))
noncomputable def q4_25 : Code := (seq1 (seq1 (seq2 (seq2 (seq2 (seq2 (seq2 (seq2 (seq2 (seq2 (seq2 (seq2 (seq2 (seq2 (seq2 (seq2 (seq2 (seq2 (seq2 (seq2 (seq2 (seq2 (seq2 (seq2 (seq2 (seq2 C4))))))))))))))))))))))))))
noncomputable def q4_26 : Code := (seq1 (seq1 (loopC (blockC (seq2 (seq1 (seq2 (seq2 (seq2 (seq2 (seq2 (seq2 (seq2 (seq2 (seq2 (seq2 (seq2 (seq2 (seq2 (seq2 (seq2 (seq2 (seq2 (seq2 (seq2 (seq2 (seq2 (seq2 (seq2 (seq2 C4))))))))))))))))))))))))))))))
noncomputable def q4_28 : Code := (seq1 (blockC (seq1 (seq2 (loopC (blockC (seq2 (seq1 (seq2 (seq2 (seq2 (seq2 (seq2 (seq2 (seq2 (seq2 (seq2 (seq2 (seq2 (seq2 (seq2 (seq2 (seq2 (seq2 (seq2 (seq2 (seq2 (seq2 (seq2 (seq2 (seq2 (seq2 C4))))))))))))))))))))))))))))))))
noncomputable def q4_29 : Code := (seq1 (seq2 (blockC (seq1 (seq2 (loopC (blockC (seq2 (seq1 (seq2 (seq2 (seq2 (seq2 (seq2 (seq2 (seq2 (seq2 (seq2 (seq2 (seq2 (seq2 (seq2 (seq2 (seq2 (seq2 (seq2 (seq2 (seq2 (seq2 (seq2 (seq2 (seq2 (seq2 C4)))))))))))))))))))))))))))))))))
noncomputable def q4_30 : Code := (seq1 (seq2 (seq2 (blockC (seq1 (seq2 (loopC (blockC (seq2 (seq1 (seq2 (seq2 (seq2 (seq2 (seq2 (seq2 (seq2 (seq2 (seq2 (seq2 (seq2 (seq2 (seq2 (seq2 (seq2 (seq2 (seq2 (seq2 (seq2 (seq2 (seq2 (seq2 (seq2 (seq2 C4))))))))))))))))))))))))))))))))))
noncomputable def q4_31 : Code := (seq1 (condA (seq2 (seq2 (seq2 (blockC (seq1 (seq2 (loopC (blockC (seq2 (seq1 (seq2 (seq2 (seq2 (seq2 (seq2 (seq2 (seq2 (seq2 (seq2 (seq2 (seq2 (seq2 (seq2 (seq2 (seq2 (seq2 (seq2 (seq2 (seq2 (seq2 (seq2 (seq2 (seq2 (seq2 C4))))))))))))))))))))))))))))))))))))
noncomputable def q4_27 : Code := (seq2 (seq2 (loopC (blockC (seq2 (seq1 (seq2 (seq2 (seq2 (seq2 (seq2 (seq2 (seq2 (seq2 (seq2 (seq2 (seq2 (seq2 (seq2 (seq2 (seq2 (seq2 (seq2 (seq2 (seq2 (seq2 (seq2 (seq2 (seq2 (seq2 C4))))))))))))))))))))))))))))))
noncomputable def q4_32 : Code := (seq1 (seq2 (seq2 (seq2 (seq2 (seq2 (seq2 (seq2 (seq2 (seq2 (seq2 (seq2 (seq2 (seq2 (seq2 (seq2 (seq2 (seq2 (seq2 (seq2 (seq2 (seq2 (seq2 (seq2 (seq2 (seq2 C4))))))))))))))))))))))))))
noncomputable def K4_1 : Code := (.seq q4_28 (.seq q4_29 (.seq q4_30 (.cond ( .tmp 181 ) (.seq q4_31 .ret) .skip))))
noncomputable def K4_0 : Code := (.loop (.seq (.seq q4_26 (.cond ( .tmp 159 ) .skip (.exit 0))) (.seq (.block 1 K4_1) q4_27)))
theorem e4 : C4 = (.seq q4_0 (.seq q4_1 (.seq q4_2 (.seq q4_3 (.seq q4_4 (.seq q4_5 (.seq q4_6 (.seq q4_7 (.seq q4_8 (.seq q4_9 (.seq q4_10 (.seq q4_11 (.seq q4_12 (.seq q4_13 (.seq q4_14 (.seq q4_15 (.seq q4_16 (.seq q4_17 (.seq q4_18 (.seq q4_19 (.seq q4_20 (.seq q4_21 (.seq q4_22 (.seq (.seq q4_23 (.cond ( .tmp 155 ) (.seq q4_24 .ret) .skip)) (.seq (.seq q4_25 (.block 0 K4_0)) (.seq q4_32 .ret)))))))))))))))))))))))))) := by kernel_rfl

set_option maxHeartbeats 1000000 in
set_option maxRecDepth 100000 in
theorem p4_0 {v : World} {a : Act} {kp : Option Addr} {kn kc c : Nat} {key : Int} {x0 : Value}  (hA : Fl 188 [(0, x0), (1, I key), (2, .slice kp kn kc)] a) :
    q4_0.wp Try.prog (fun e a' w' => e = .normal ∧ (Fl 188 [(0, x0), (1, I key), (2, .slice kp kn kc)] a' ∧ w' = v)) a v := by
  obtain ⟨hsz, hd, hp⟩ := hA
  obtain ⟨u, rfl, hg⟩ := litN hsz hd
  simp only [List.forall_mem_cons, hg] at hp
  obtain ⟨u0, u1, u2, -⟩ := hp
  clear hg hsz hd
  unfold q4_0 C4 Try.f4 seq1
  simp only [Option.getD_some, lits, Nat.reduceAdd, u0, u1, u2]
  clear u0 u1 u2
  go_wp2_with fail
  first
    | exact ⟨⟨rfl, rfl, by
      intro p hp
      simp only [List.mem_cons, List.not_mem_nil, or_false] at hp
      rcases hp with rfl | rfl | rfl <;> first | rfl | exact congrArg I (by omega) | exact congrArg Value.bool (by simp <;> omega) | exact congrArg Value.bool (by simp)⟩, rfl⟩
    | exact ⟨rfl, rfl, by
      intro p hp
      simp only [List.mem_cons, List.not_mem_nil, or_false] at hp
      rcases hp with rfl | rfl | rfl <;> first | rfl | exact congrArg I (by omega) | exact congrArg Value.bool (by simp <;> omega) | exact congrArg Value.bool (by simp)⟩
    | exact ⟨rfl, ⟨rfl, rfl, by
      intro p hp
      simp only [List.mem_cons, List.not_mem_nil, or_false] at hp
      rcases hp with rfl | rfl | rfl <;> first | rfl | exact congrArg I (by omega) | exact congrArg Value.bool (by simp <;> omega) | exact congrArg Value.bool (by simp)⟩, rfl⟩

set_option maxHeartbeats 1000000 in
set_option maxRecDepth 100000 in
theorem p4_1 {v : World} {a : Act} {kp : Option Addr} {kn kc c : Nat} {key : Int} {x0 : Value}  (hA : Fl 188 [(0, x0), (1, I key), (2, .slice kp kn kc)] a) :
    q4_1.wp Try.prog (fun e a' w' => e = .normal ∧ (Fl 188 [(0, x0), (1, I key), (2, .slice kp kn kc), (7, .bool true)] a' ∧ Kp (fun i => i < v.heap.size) v w')) a v := by
  obtain ⟨hsz, hd, hp⟩ := hA
  obtain ⟨u, rfl, hg⟩ := litN hsz hd
  simp only [List.forall_mem_cons, hg] at hp
  obtain ⟨u0, u1, u2, -⟩ := hp
  clear hg hsz hd
  unfold q4_1 C4 Try.f4 seq1 seq2
  simp only [Option.getD_some, lits, Nat.reduceAdd, u0, u1, u2]
  clear u0 u1 u2
  go_wp2_with (first
    | (go_at_call 8; refine (awake_any v).mono ?_; rintro e w1 ⟨_, rfl, rfl, hk⟩; have HK : Hid (Kp (fun i => i < v.heap.size) v w1) := hk; clear hk))
  first
    | exact ⟨⟨rfl, rfl, by
      intro p hp
      simp only [List.mem_cons, List.not_mem_nil, or_false] at hp
      rcases hp with rfl | rfl | rfl | rfl <;> first | rfl | exact congrArg I (by omega) | exact congrArg Value.bool (by simp <;> omega) | exact congrArg Value.bool (by simp)⟩, HK.out⟩
    | exact ⟨rfl, rfl, by
      intro p hp
      simp only [List.mem_cons, List.not_mem_nil, or_false] at hp
      rcases hp with rfl | rfl | rfl | rfl <;> first | rfl | exact congrArg I (by omega) | exact congrArg Value.bool (by simp <;> omega) | exact congrArg Value.bool (by simp)⟩
    | exact ⟨rfl, ⟨rfl, rfl, by
      intro p hp
      simp only [List.mem_cons, List.not_mem_nil, or_false] at hp
      rcases hp with rfl | rfl | rfl | rfl <;> first | rfl | exact congrArg I (by omega) | exact congrArg Value.bool (by simp <;> omega) | exact congrArg Value.bool (by simp)⟩, HK.out⟩

set_option maxHeartbeats 1000000 in
set_option maxRecDepth 100000 in
theorem p4_2 {v : World} {a : Act} {kp : Option Addr} {kn kc c : Nat} {key : Int} {x0 : Value} {R : Value → World → Prop}  (hC : Calls Try.prog 10 #[x0] v (Ret R)) (hA : Fl 188 [(0, x0), (1, I key), (2, .slice kp kn kc), (7, .bool true)] a) :
    q4_2.wp Try.prog (fun e a' w' => e = .normal ∧ ∃ r, (Fl 188 [(0, x0), (1, I key), (2, .slice kp kn kc), (7, .bool true), (8, r)] a' ∧ R r w')) a v := by
  have HC : Hid (Calls Try.prog 10 #[x0] v (Ret R)) := hC
  clear hC
  obtain ⟨hsz, hd, hp⟩ := hA
  obtain ⟨u, rfl, hg⟩ := litN hsz hd
  simp only [List.forall_mem_cons, hg] at hp
  obtain ⟨u0, u1, u2, u7, -⟩ := hp
  clear hg hsz hd
  unfold q4_2 C4 Try.f4 seq1 seq2
  simp only [Option.getD_some, lits, Nat.reduceAdd, u0, u1, u2, u7]
  clear u0 u1 u2 u7
  go_wp2_with (first
    | (go_at_call 10; refine HC.out.mono ?_; rintro e w1 ⟨r, rfl, hk⟩; have HK : Hid (R r w1) := hk; clear hk))
  exact ⟨r, ⟨rfl, rfl, by
    intro p hp
    simp only [List.mem_cons, List.not_mem_nil, or_false] at hp
    rcases hp with rfl | rfl | rfl | rfl | rfl <;> first | rfl | exact congrArg I (by omega) | exact congrArg Value.bool (by simp <;> omega) | exact congrArg Value.bool (by simp)⟩, HK.out⟩

set_option maxHeartbeats 1000000 in
set_option maxRecDepth 100000 in
theorem p4_3 {v : World} {a : Act} {kp : Option Addr} {kn kc c : Nat} {key : Int} {x0 x8 : Value} (hkn : kn ≤ 17592186044416) (hA : Fl 188 [(0, x0), (1, I key), (2, .slice kp kn kc), (7, .bool true), (8, x8)] a) :
    q4_3.wp Try.prog (fun e a' w' => e = .normal ∧ (Fl 188 [(0, x0), (1, I key), (2, .slice kp kn kc), (7, .bool true), (8, x8), (9, .slice (some ⟨v.heap.size, 0, none⟩) (kn + 1) (kn + 1))] a' ∧ w' = v.alloc (.cells (madeCells #[I 0] (kn + 1)) 3))) a v := by
  obtain ⟨hsz, hd, hp⟩ := hA
  obtain ⟨u, rfl, hg⟩ := litN hsz hd
  simp only [List.forall_mem_cons, hg] at hp
  obtain ⟨u0, u1, u2, u7, u8, -⟩ := hp
  clear hg hsz hd
  unfold q4_3 C4 Try.f4 seq1 seq2
  simp only [Option.getD_some, lits, Nat.reduceAdd, u0, u1, u2, u7, u8]
  clear u0 u1 u2 u7 u8
  have hmk := make_ints1 kn (by omega)
  go_wp2_with fail
  first
    | exact ⟨⟨rfl, rfl, by
      intro p hp
      simp only [List.mem_cons, List.not_mem_nil, or_false] at hp
      rcases hp with rfl | rfl | rfl | rfl | rfl | rfl <;> first | rfl | exact congrArg I (by omega) | exact congrArg Value.bool (by simp <;> omega) | exact congrArg Value.bool (by simp)⟩, rfl⟩
    | exact ⟨rfl, rfl, by
      intro p hp
      simp only [List.mem_cons, List.not_mem_nil, or_false] at hp
      rcases hp with rfl | rfl | rfl | rfl | rfl | rfl <;> first | rfl | exact congrArg I (by omega) | exact congrArg Value.bool (by simp <;> omega) | exact congrArg Value.bool (by simp)⟩
    | exact ⟨rfl, ⟨rfl, rfl, by
      intro p hp
      simp only [List.mem_cons, List.not_mem_nil, or_false] at hp
      rcases hp with rfl | rfl | rfl | rfl | rfl | rfl <;> first | rfl | exact congrArg I (by omega) | exact congrArg Value.bool (by simp <;> omega) | exact congrArg Value.bool (by simp)⟩, rfl⟩

set_option maxHeartbeats 1000000 in
set_option maxRecDepth 100000 in
theorem p4_4 {v : World} {a : Act} {kp : Option Addr} {kn kc c : Nat} {key : Int} {x0 x8 : Value} {w2 : World} (hkn : kn ≤ 17592186044416) (hcp : (Builtin.copy_ #[26, 26] 3 #[.slice (some ⟨c, 0, none⟩) (kn + 1) (kn + 1), .slice kp kn kc]).run Try.prog v = .ok (goInt kn) w2) (hA : Fl 188 [(0, x0), (1, I key), (2, .slice kp kn kc), (7, .bool true), (8, x8), (9, .slice (some ⟨c, 0, none⟩) (kn + 1) (kn + 1))] a) :
    q4_4.wp Try.prog (fun e a' w' => e = .normal ∧ (Fl 188 [(0, x0), (1, I key), (2, .slice kp kn kc), (7, .bool true), (8, x8), (9, .slice (some ⟨c, 0, none⟩) (kn + 1) (kn + 1))] a' ∧ w' = w2)) a v := by
  obtain ⟨hsz, hd, hp⟩ := hA
  obtain ⟨u, rfl, hg⟩ := litN hsz hd
  simp only [List.forall_mem_cons, hg] at hp
  obtain ⟨u0, u1, u2, u7, u8, u9, -⟩ := hp
  clear hg hsz hd
  unfold q4_4 C4 Try.f4 seq1 seq2
  simp only [Option.getD_some, lits, Nat.reduceAdd, u0, u1, u2, u7, u8, u9]
  clear u0 u1 u2 u7 u8 u9
  go_wp2_with fail
  first
    | exact ⟨⟨rfl, rfl, by
      intro p hp
      simp only [List.mem_cons, List.not_mem_nil, or_false] at hp
      rcases hp with rfl | rfl | rfl | rfl | rfl | rfl <;> first | rfl | exact congrArg I (by omega) | exact congrArg Value.bool (by simp <;> omega) | exact congrArg Value.bool (by simp)⟩, rfl⟩
    | exact ⟨rfl, rfl, by
      intro p hp
      simp only [List.mem_cons, List.not_mem_nil, or_false] at hp
      rcases hp with rfl | rfl | rfl | rfl | rfl | rfl <;> first | rfl | exact congrArg I (by omega) | exact congrArg Value.bool (by simp <;> omega) | exact congrArg Value.bool (by simp)⟩
    | exact ⟨rfl, ⟨rfl, rfl, by
      intro p hp
      simp only [List.mem_cons, List.not_mem_nil, or_false] at hp
      rcases hp with rfl | rfl | rfl | rfl | rfl | rfl <;> first | rfl | exact congrArg I (by omega) | exact congrArg Value.bool (by simp <;> omega) | exact congrArg Value.bool (by simp)⟩, rfl⟩

set_option maxHeartbeats 1000000 in
set_option maxRecDepth 100000 in
theorem p4_5 {v : World} {a : Act} {kp : Option Addr} {kn kc c : Nat} {key : Int} {x0 x8 : Value} {y : Value} (hkn : kn ≤ 17592186044416) (e : v.cell? ⟨c, kn, none⟩ = some y) (f : v.frozen? ⟨c, kn, none⟩ = false) (hA : Fl 188 [(0, x0), (1, I key), (2, .slice kp kn kc), (7, .bool true), (8, x8), (9, .slice (some ⟨c, 0, none⟩) (kn + 1) (kn + 1))] a) :
    q4_5.wp Try.prog (fun e a' w' => e = .normal ∧ (Fl 188 [(0, x0), (1, I key), (2, .slice kp kn kc), (7, .bool true), (8, x8), (9, .slice (some ⟨c, 0, none⟩) (kn + 1) (kn + 1))] a' ∧ w' = v.setCell ⟨c, kn, none⟩ (I (-99)))) a v := by
  obtain ⟨hsz, hd, hp⟩ := hA
  obtain ⟨u, rfl, hg⟩ := litN hsz hd
  simp only [List.forall_mem_cons, hg] at hp
  obtain ⟨u0, u1, u2, u7, u8, u9, -⟩ := hp
  clear hg hsz hd
  unfold q4_5 C4 Try.f4 seq1 seq2
  simp only [Option.getD_some, lits, Nat.reduceAdd, u0, u1, u2, u7, u8, u9]
  clear u0 u1 u2 u7 u8 u9
  go_wp2_with fail
  first
    | exact ⟨⟨rfl, rfl, by
      intro p hp
      simp only [List.mem_cons, List.not_mem_nil, or_false] at hp
      rcases hp with rfl | rfl | rfl | rfl | rfl | rfl <;> first | rfl | exact congrArg I (by omega) | exact congrArg Value.bool (by simp <;> omega) | exact congrArg Value.bool (by simp)⟩, rfl⟩
    | exact ⟨rfl, rfl, by
      intro p hp
      simp only [List.mem_cons, List.not_mem_nil, or_false] at hp
      rcases hp with rfl | rfl | rfl | rfl | rfl | rfl <;> first | rfl | exact congrArg I (by omega) | exact congrArg Value.bool (by simp <;> omega) | exact congrArg Value.bool (by simp)⟩
    | exact ⟨rfl, ⟨rfl, rfl, by
      intro p hp
      simp only [List.mem_cons, List.not_mem_nil, or_false] at hp
      rcases hp with rfl | rfl | rfl | rfl | rfl | rfl <;> first | rfl | exact congrArg I (by omega) | exact congrArg Value.bool (by simp <;> omega) | exact congrArg Value.bool (by simp)⟩, rfl⟩

set_option maxHeartbeats 1000000 in
set_option maxRecDepth 100000 in
theorem p4_6 {v : World} {a : Act} {kp : Option Addr} {kn kc c : Nat} {key : Int} {x0 x8 : Value} {R : Value → World → Prop}  (hC : Calls Try.prog 11 #[x8] v (Ret R)) (hA : Fl 188 [(0, x0), (1, I key), (2, .slice kp kn kc), (7, .bool true), (8, x8), (9, .slice (some ⟨c, 0, none⟩) (kn + 1) (kn + 1))] a) :
    q4_6.wp Try.prog (fun e a' w' => e = .normal ∧ ∃ r, (Fl 188 [(0, x0), (1, I key), (2, .slice kp kn kc), (7, .bool true), (8, x8), (9, .slice (some ⟨c, 0, none⟩) (kn + 1) (kn + 1)), (10, r)] a' ∧ R r w')) a v := by
  have HC : Hid (Calls Try.prog 11 #[x8] v (Ret R)) := hC
  clear hC
  obtain ⟨hsz, hd, hp⟩ := hA
  obtain ⟨u, rfl, hg⟩ := litN hsz hd
  simp only [List.forall_mem_cons, hg] at hp
  obtain ⟨u0, u1, u2, u7, u8, u9, -⟩ := hp
  clear hg hsz hd
  unfold q4_6 C4 Try.f4 seq1 seq2
  simp only [Option.getD_some, lits, Nat.reduceAdd, u0, u1, u2, u7, u8, u9]
  clear u0 u1 u2 u7 u8 u9
  go_wp2_with (first
    | (go_at_call 11; refine HC.out.mono ?_; rintro e w1 ⟨r, rfl, hk⟩; have HK : Hid (R r w1) := hk; clear hk))
  exact ⟨r, ⟨rfl, rfl, by
    intro p hp
    simp only [List.mem_cons, List.not_mem_nil, or_false] at hp
    rcases hp with rfl | rfl | rfl | rfl | rfl | rfl | rfl <;> first | rfl | exact congrArg I (by omega) | exact congrArg Value.bool (by simp <;> omega) | exact congrArg Value.bool (by simp)⟩, HK.out⟩

set_option maxHeartbeats 1000000 in
set_option maxRecDepth 100000 in
theorem p4_7 {v : World} {a : Act} {kp : Option Addr} {kn kc c : Nat} {key : Int} {x0 x8 x10 : Value} {R : Value → World → Prop}  (hC : Calls Try.prog 12 #[x8] v (Ret R)) (hA : Fl 188 [(0, x0), (1, I key), (2, .slice kp kn kc), (7, .bool true), (8, x8), (9, .slice (some ⟨c, 0, none⟩) (kn + 1) (kn + 1)), (10, x10)] a) :
    q4_7.wp Try.prog (fun e a' w' => e = .normal ∧ ∃ r, (Fl 188 [(0, x0), (1, I key), (2, .slice kp kn kc), (7, .bool true), (8, x8), (9, .slice (some ⟨c, 0, none⟩) (kn + 1) (kn + 1)), (10, x10), (11, r)] a' ∧ R r w')) a v := by
  have HC : Hid (Calls Try.prog 12 #[x8] v (Ret R)) := hC
  clear hC
  obtain ⟨hsz, hd, hp⟩ := hA
  obtain ⟨u, rfl, hg⟩ := litN hsz hd
  simp only [List.forall_mem_cons, hg] at hp
  obtain ⟨u0, u1, u2, u7, u8, u9, u10, -⟩ := hp
  clear hg hsz hd
  unfold q4_7 C4 Try.f4 seq1 seq2
  simp only [Option.getD_some, lits, Nat.reduceAdd, u0, u1, u2, u7, u8, u9, u10]
  clear u0 u1 u2 u7 u8 u9 u10
  go_wp2_with (first
    | (go_at_call 12; refine HC.out.mono ?_; rintro e w1 ⟨r, rfl, hk⟩; have HK : Hid (R r w1) := hk; clear hk))
  exact ⟨r, ⟨rfl, rfl, by
    intro p hp
    simp only [List.mem_cons, List.not_mem_nil, or_false] at hp
    rcases hp with rfl | rfl | rfl | rfl | rfl | rfl | rfl | rfl <;> first | rfl | exact congrArg I (by omega) | exact congrArg Value.bool (by simp <;> omega) | exact congrArg Value.bool (by simp)⟩, HK.out⟩

set_option maxHeartbeats 1000000 in
set_option maxRecDepth 100000 in
theorem p4_8 {v : World} {a : Act} {kp : Option Addr} {kn kc c : Nat} {key : Int} {x0 x8 x10 x11 : Value} {R : Value → Value → World → Prop}  (hC : Calls Try.prog 13 #[x8, I key] v (Ret fun x w' => ∃ r r', x = .tuple #[r, r'] ∧ R r r' w')) (hA : Fl 188 [(0, x0), (1, I key), (2, .slice kp kn kc), (7, .bool true), (8, x8), (9, .slice (some ⟨c, 0, none⟩) (kn + 1) (kn + 1)), (10, x10), (11, x11)] a) :
    q4_8.wp Try.prog (fun e a' w' => e = .normal ∧ ∃ r r', (Fl 188 [(0, x0), (1, I key), (2, .slice kp kn kc), (7, .bool true), (8, x8), (9, .slice (some ⟨c, 0, none⟩) (kn + 1) (kn + 1)), (10, x10), (11, x11), (12, r), (13, r')] a' ∧ R r r' w')) a v := by
  have HC : Hid (Calls Try.prog 13 #[x8, I key] v (Ret fun x w' => ∃ r r', x = .tuple #[r, r'] ∧ R r r' w')) := hC
  clear hC
  obtain ⟨hsz, hd, hp⟩ := hA
  obtain ⟨u, rfl, hg⟩ := litN hsz hd
  simp only [List.forall_mem_cons, hg] at hp
  obtain ⟨u0, u1, u2, u7, u8, u9, u10, u11, -⟩ := hp
  clear hg hsz hd
  unfold q4_8 C4 Try.f4 seq1 seq2
  simp only [Option.getD_some, lits, Nat.reduceAdd, u0, u1, u2, u7, u8, u9, u10, u11]
  clear u0 u1 u2 u7 u8 u9 u10 u11
  go_wp2_with (first
    | (go_at_call 13; refine HC.out.mono ?_; rintro e w1 ⟨_, rfl, r, r', rfl, hk⟩; have HK : Hid (R r r' w1) := hk; clear hk))
  exact ⟨r, r', ⟨rfl, rfl, by
    intro p hp
    simp only [List.mem_cons, List.not_mem_nil, or_false] at hp
    rcases hp with rfl | rfl | rfl | rfl | rfl | rfl | rfl | rfl | rfl | rfl <;> first | rfl | exact congrArg I (by omega) | exact congrArg Value.bool (by simp <;> omega) | exact congrArg Value.bool (by simp)⟩, HK.out⟩

set_option maxHeartbeats 1000000 in
set_option maxRecDepth 100000 in
theorem p4_9 {v : World} {a : Act} {kp : Option Addr} {kn kc c : Nat} {key : Int} {x0 x8 x10 x11 x12 x13 : Value} {R : Value → World → Prop} (hkn : kn ≤ 17592186044416) (hC : Calls Try.prog 14 #[x8, .slice (some ⟨c, 0, none⟩) kn (kn + 1)] v (Ret R)) (hA : Fl 188 [(0, x0), (1, I key), (2, .slice kp kn kc), (7, .bool true), (8, x8), (9, .slice (some ⟨c, 0, none⟩) (kn + 1) (kn + 1)), (10, x10), (11, x11), (12, x12), (13, x13)] a) :
    q4_9.wp Try.prog (fun e a' w' => e = .normal ∧ ∃ r, (Fl 188 [(0, x0), (1, I key), (2, .slice kp kn kc), (7, .bool true), (8, x8), (9, .slice (some ⟨c, 0, none⟩) (kn + 1) (kn + 1)), (10, x10), (11, x11), (12, x12), (13, x13), (14, r)] a' ∧ R r w')) a v := by
  have HC : Hid (Calls Try.prog 14 #[x8, .slice (some ⟨c, 0, none⟩) kn (kn + 1)] v (Ret R)) := hC
  clear hC
  obtain ⟨hsz, hd, hp⟩ := hA
  obtain ⟨u, rfl, hg⟩ := litN hsz hd
  simp only [List.forall_mem_cons, hg] at hp
  obtain ⟨u0, u1, u2, u7, u8, u9, u10, u11, u12, u13, -⟩ := hp
  clear hg hsz hd
  unfold q4_9 C4 Try.f4 seq1 seq2
  simp only [Option.getD_some, lits, Nat.reduceAdd, u0, u1, u2, u7, u8, u9, u10, u11, u12, u13]
  clear u0 u1 u2 u7 u8 u9 u10 u11 u12 u13
  go_wp2_with (first
    | (go_at_call 14; refine HC.out.mono ?_; rintro e w1 ⟨r, rfl, hk⟩; have HK : Hid (R r w1) := hk; clear hk))
  exact ⟨r, ⟨rfl, rfl, by
    intro p hp
    simp only [List.mem_cons, List.not_mem_nil, or_false] at hp
    rcases hp with rfl | rfl | rfl | rfl | rfl | rfl | rfl | rfl | rfl | rfl | rfl <;> first | rfl | exact congrArg I (by omega) | exact congrArg Value.bool (by simp <;> omega) | exact congrArg Value.bool (by simp)⟩, HK.out⟩

set_option maxHeartbeats 1000000 in
set_option maxRecDepth 100000 in
theorem p4_10 {v : World} {a : Act} {kp : Option Addr} {kn kc c : Nat} {key : Int} {x0 x8 x10 x11 x12 x13 x14 : Value} {R : Value → World → Prop}  (hC : Calls Try.prog 12 #[x8] v (Ret R)) (hA : Fl 188 [(0, x0), (1, I key), (2, .slice kp kn kc), (7, .bool true), (8, x8), (9, .slice (some ⟨c, 0, none⟩) (kn + 1) (kn + 1)), (10, x10), (11, x11), (12, x12), (13, x13), (14, x14)] a) :
    q4_10.wp Try.prog (fun e a' w' => e = .normal ∧ ∃ r, (Fl 188 [(0, x0), (1, I key), (2, .slice kp kn kc), (7, .bool true), (8, x8), (9, .slice (some ⟨c, 0, none⟩) (kn + 1) (kn + 1)), (10, x10), (11, x11), (12, x12), (13, x13), (14, x14), (15, r)] a' ∧ R r w')) a v := by
  have HC : Hid (Calls Try.prog 12 #[x8] v (Ret R)) := hC
  clear hC
  obtain ⟨hsz, hd, hp⟩ := hA
  obtain ⟨u, rfl, hg⟩ := litN hsz hd
  simp only [List.forall_mem_cons, hg] at hp
  obtain ⟨u0, u1, u2, u7, u8, u9, u10, u11, u12, u13, u14, -⟩ := hp
  clear hg hsz hd
  unfold q4_10 C4 Try.f4 seq1 seq2
  simp only [Option.getD_some, lits, Nat.reduceAdd, u0, u1, u2, u7, u8, u9, u10, u11, u12, u13, u14]
  clear u0 u1 u2 u7 u8 u9 u10 u11 u12 u13 u14
  go_wp2_with (first
    | (go_at_call 12; refine HC.out.mono ?_; rintro e w1 ⟨r, rfl, hk⟩; have HK : Hid (R r w1) := hk; clear hk))
  exact ⟨r, ⟨rfl, rfl, by
    intro p hp
    simp only [List.mem_cons, List.not_mem_nil, or_false] at hp
    rcases hp with rfl | rfl | rfl | rfl | rfl | rfl | rfl | rfl | rfl | rfl | rfl | rfl <;> first | rfl | exact congrArg I (by omega) | exact congrArg Value.bool (by simp <;> omega) | exact congrArg Value.bool (by simp)⟩, HK.out⟩

set_option maxHeartbeats 1000000 in
set_option maxRecDepth 100000 in
theorem p4_11 {v : World} {a : Act} {kp : Option Addr} {kn kc c : Nat} {key : Int} {x0 x8 x10 x11 x12 x13 x14 x15 : Value} {R : Value → World → Prop} (hkn : kn ≤ 17592186044416) (hC : Calls Try.prog 14 #[x8, .slice (some ⟨c, 0, none⟩) kn (kn + 1)] v (Ret R)) (hA : Fl 188 [(0, x0), (1, I key), (2, .slice kp kn kc), (7, .bool true), (8, x8), (9, .slice (some ⟨c, 0, none⟩) (kn + 1) (kn + 1)), (10, x10), (11, x11), (12, x12), (13, x13), (14, x14), (15, x15)] a) :
    q4_11.wp Try.prog (fun e a' w' => e = .normal ∧ ∃ r, (Fl 188 [(0, x0), (1, I key), (2, .slice kp kn kc), (7, .bool true), (8, x8), (9, .slice (some ⟨c, 0, none⟩) (kn + 1) (kn + 1)), (10, x10), (11, x11), (12, x12), (13, x13), (14, x14), (15, x15), (16, r)] a' ∧ R r w')) a v := by
  have HC : Hid (Calls Try.prog 14 #[x8, .slice (some ⟨c, 0, none⟩) kn (kn + 1)] v (Ret R)) := hC
  clear hC
  obtain ⟨hsz, hd, hp⟩ := hA
  obtain ⟨u, rfl, hg⟩ := litN hsz hd
  simp only [List.forall_mem_cons, hg] at hp
  obtain ⟨u0, u1, u2, u7, u8, u9, u10, u11, u12, u13, u14, u15, -⟩ := hp
  clear hg hsz hd
  unfold q4_11 C4 Try.f4 seq1 seq2
  simp only [Option.getD_some, lits, Nat.reduceAdd, u0, u1, u2, u7, u8, u9, u10, u11, u12, u13, u14, u15]
  clear u0 u1 u2 u7 u8 u9 u10 u11 u12 u13 u14 u15
  go_wp2_with (first
    | (go_at_call 14; refine HC.out.mono ?_; rintro e w1 ⟨r, rfl, hk⟩; have HK : Hid (R r w1) := hk; clear hk))
  exact ⟨r, ⟨rfl, rfl, by
    intro p hp
    simp only [List.mem_cons, List.not_mem_nil, or_false] at hp
    rcases hp with rfl | rfl | rfl | rfl | rfl | rfl | rfl | rfl | rfl | rfl | rfl | rfl | rfl <;> first | rfl | exact congrArg I (by omega) | exact congrArg Value.bool (by simp <;> omega) | exact congrArg Value.bool (by simp)⟩, HK.out⟩

set_option maxHeartbeats 1000000 in
set_option maxRecDepth 100000 in
theorem p4_12 {v : World} {a : Act} {kp : Option Addr} {kn kc c : Nat} {key : Int} {x0 x8 x10 x11 x12 x13 x14 x15 x16 : Value} {R : Value → World → Prop}  (hC : Calls Try.prog 15 #[x8, x0] v (Ret R)) (hA : Fl 188 [(0, x0), (1, I key), (2, .slice kp kn kc), (7, .bool true), (8, x8), (9, .slice (some ⟨c, 0, none⟩) (kn + 1) (kn + 1)), (10, x10), (11, x11), (12, x12), (13, x13), (14, x14), (15, x15), (16, x16)] a) :
    q4_12.wp Try.prog (fun e a' w' => e = .normal ∧ ∃ r, (Fl 188 [(0, x0), (1, I key), (2, .slice kp kn kc), (7, .bool true), (8, x8), (9, .slice (some ⟨c, 0, none⟩) (kn + 1) (kn + 1)), (10, x10), (11, x11), (12, x12), (13, x13), (14, x14), (15, x15), (16, x16), (17, r)] a' ∧ R r w')) a v := by
  have HC : Hid (Calls Try.prog 15 #[x8, x0] v (Ret R)) := hC
  clear hC
  obtain ⟨hsz, hd, hp⟩ := hA
  obtain ⟨u, rfl, hg⟩ := litN hsz hd
  simp only [List.forall_mem_cons, hg] at hp
  obtain ⟨u0, u1, u2, u7, u8, u9, u10, u11, u12, u13, u14, u15, u16, -⟩ := hp
  clear hg hsz hd
  unfold q4_12 C4 Try.f4 seq1 seq2
  simp only [Option.getD_some, lits, Nat.reduceAdd, u0, u1, u2, u7, u8, u9, u10, u11, u12, u13, u14, u15, u16]
  clear u0 u1 u2 u7 u8 u9 u10 u11 u12 u13 u14 u15 u16
  go_wp2_with (first
    | (go_at_call 15; refine HC.out.mono ?_; rintro e w1 ⟨r, rfl, hk⟩; have HK : Hid (R r w1) := hk; clear hk))
  exact ⟨r, ⟨rfl, rfl, by
    intro p hp
    simp only [List.mem_cons, List.not_mem_nil, or_false] at hp
    rcases hp with rfl | rfl | rfl | rfl | rfl | rfl | rfl | rfl | rfl | rfl | rfl | rfl | rfl | rfl <;> first | rfl | exact congrArg I (by omega) | exact congrArg Value.bool (by simp <;> omega) | exact congrArg Value.bool (by simp)⟩, HK.out⟩

set_option maxHeartbeats 1000000 in
set_option maxRecDepth 100000 in
theorem p4_13 {v : World} {a : Act} {kp : Option Addr} {kn kc c : Nat} {key : Int} {x0 x8 x10 x11 x12 x13 x14 x15 x16 x17 : Value} {R : World → Prop} (hC : Calls Try.prog 16 #[x8] v (Ret fun r w' => r = .tuple #[] ∧ R w')) (hA : Fl 188 [(0, x0), (1, I key), (2, .slice kp kn kc), (7, .bool true), (8, x8), (9, .slice (some ⟨c, 0, none⟩) (kn + 1) (kn + 1)), (10, x10), (11, x11), (12, x12), (13, x13), (14, x14), (15, x15), (16, x16), (17, x17)] a) :
    q4_13.wp Try.prog (fun e a' w' => e = .normal ∧ (Fl 188 [(0, x0), (1, I key), (2, .slice kp kn kc), (7, .bool true), (9, .slice (some ⟨c, 0, none⟩) (kn + 1) (kn + 1)), (10, x10), (11, x11), (12, x12), (13, x13), (14, x14), (15, x15), (16, x16), (17, x17)] a' ∧ R w')) a v := by
  have HC : Hid (Calls Try.prog 16 #[x8] v (Ret fun r w' => r = .tuple #[] ∧ R w')) := hC
  clear hC
  obtain ⟨hsz, hd, hp⟩ := hA
  obtain ⟨u, rfl, hg⟩ := litN hsz hd
  simp only [List.forall_mem_cons, hg] at hp
  obtain ⟨u0, u1, u2, u7, u8, u9, u10, u11, u12, u13, u14, u15, u16, u17, -⟩ := hp
  clear hg hsz hd
  unfold q4_13 C4 Try.f4 seq1 seq2
  simp only [Option.getD_some, lits, Nat.reduceAdd, u0, u1, u2, u7, u8, u9, u10, u11, u12, u13, u14, u15, u16, u17]
  clear u0 u1 u2 u7 u8 u9 u10 u11 u12 u13 u14 u15 u16 u17
  go_wp2_with (first
    | (go_at_call 16; refine HC.out.mono ?_; rintro e w1 ⟨_, rfl, rfl, hk⟩; have HK : Hid (R w1) := hk; clear hk))
  first
    | exact ⟨⟨rfl, rfl, by
      intro p hp
      simp only [List.mem_cons, List.not_mem_nil, or_false] at hp
      rcases hp with rfl | rfl | rfl | rfl | rfl | rfl | rfl | rfl | rfl | rfl | rfl | rfl | rfl <;> first | rfl | exact congrArg I (by omega) | exact congrArg Value.bool (by simp <;> omega) | exact congrArg Value.bool (by simp)⟩, HK.out⟩
    | exact ⟨rfl, rfl, by
      intro p hp
      simp only [List.mem_cons, List.not_mem_nil, or_false] at hp
      rcases hp with rfl | rfl | rfl | rfl | rfl | rfl | rfl | rfl | rfl | rfl | rfl | rfl | rfl <;> first | rfl | exact congrArg I (by omega) | exact congrArg Value.bool (by simp <;> omega) | exact congrArg Value.bool (by simp)⟩
    | exact ⟨rfl, ⟨rfl, rfl, by
      intro p hp
      simp only [List.mem_cons, List.not_mem_nil, or_false] at hp
      rcases hp with rfl | rfl | rfl | rfl | rfl | rfl | rfl | rfl | rfl | rfl | rfl | rfl | rfl <;> first | rfl | exact congrArg I (by omega) | exact congrArg Value.bool (by simp <;> omega) | exact congrArg Value.bool (by simp)⟩, HK.out⟩

set_option maxHeartbeats 1000000 in
set_option maxRecDepth 100000 in
theorem p4_14 {v : World} {a : Act} {kp : Option Addr} {kn kc c : Nat} {key : Int} {x0 x10 x11 x12 x13 x14 x15 x16 x17 : Value} {R : Value → World → Prop} (hkn : kn ≤ 17592186044416) (hC : Calls Try.prog 17 #[.slice (some ⟨c, 0, none⟩) kn (kn + 1), .slice kp kn kc] v (Ret R)) (hA : Fl 188 [(0, x0), (1, I key), (2, .slice kp kn kc), (7, .bool true), (9, .slice (some ⟨c, 0, none⟩) (kn + 1) (kn + 1)), (10, x10), (11, x11), (12, x12), (13, x13), (14, x14), (15, x15), (16, x16), (17, x17)] a) :
    q4_14.wp Try.prog (fun e a' w' => e = .normal ∧ ∃ r, (Fl 188 [(0, x0), (1, I key), (2, .slice kp kn kc), (7, .bool true), (9, .slice (some ⟨c, 0, none⟩) (kn + 1) (kn + 1)), (10, x10), (11, x11), (12, x12), (13, x13), (14, x14), (15, x15), (16, x16), (17, x17), (18, r)] a' ∧ R r w')) a v := by
  have HC : Hid (Calls Try.prog 17 #[.slice (some ⟨c, 0, none⟩) kn (kn + 1), .slice kp kn kc] v (Ret R)) := hC
  clear hC
  obtain ⟨hsz, hd, hp⟩ := hA
  obtain ⟨u, rfl, hg⟩ := litN hsz hd
  simp only [List.forall_mem_cons, hg] at hp
  obtain ⟨u0, u1, u2, u7, u9, u10, u11, u12, u13, u14, u15, u16, u17, -⟩ := hp
  clear hg hsz hd
  unfold q4_14 C4 Try.f4 seq1 seq2
  simp only [Option.getD_some, lits, Nat.reduceAdd, u0, u1, u2, u7, u9, u10, u11, u12, u13, u14, u15, u16, u17]
  clear u0 u1 u2 u7 u9 u10 u11 u12 u13 u14 u15 u16 u17
  go_wp2_with (first
    | (go_at_call 17; refine HC.out.mono ?_; rintro e w1 ⟨r, rfl, hk⟩; have HK : Hid (R r w1) := hk; clear hk))
  exact ⟨r, ⟨rfl, rfl, by
    intro p hp
    simp only [List.mem_cons, List.not_mem_nil, or_false] at hp
    rcases hp with rfl | rfl | rfl | rfl | rfl | rfl | rfl | rfl | rfl | rfl | rfl | rfl | rfl | rfl <;> first | rfl | exact congrArg I (by omega) | exact congrArg Value.bool (by simp <;> omega) | exact congrArg Value.bool (by simp)⟩, HK.out⟩

set_option maxHeartbeats 1000000 in
set_option maxRecDepth 100000 in
theorem p4_15 {v : World} {a : Act} {kp : Option Addr} {kn kc c : Nat} {key : Int} {x0 x10 x11 x12 x13 x14 x15 x16 x17 x18 : Value} {R : Value → World → Prop}  (hC : Calls Try.prog 18 #[x0] v (Ret R)) (hA : Fl 188 [(0, x0), (1, I key), (2, .slice kp kn kc), (7, .bool true), (9, .slice (some ⟨c, 0, none⟩) (kn + 1) (kn + 1)), (10, x10), (11, x11), (12, x12), (13, x13), (14, x14), (15, x15), (16, x16), (17, x17), (18, x18)] a) :
    q4_15.wp Try.prog (fun e a' w' => e = .normal ∧ ∃ r, (Fl 188 [(0, x0), (1, I key), (2, .slice kp kn kc), (7, .bool true), (9, .slice (some ⟨c, 0, none⟩) (kn + 1) (kn + 1)), (10, x10), (11, x11), (12, x12), (13, x13), (14, x14), (15, x15), (16, x16), (17, x17), (18, x18), (19, r)] a' ∧ R r w')) a v := by
  have HC : Hid (Calls Try.prog 18 #[x0] v (Ret R)) := hC
  clear hC
  obtain ⟨hsz, hd, hp⟩ := hA
  obtain ⟨u, rfl, hg⟩ := litN hsz hd
  simp only [List.forall_mem_cons, hg] at hp
  obtain ⟨u0, u1, u2, u7, u9, u10, u11, u12, u13, u14, u15, u16, u17, u18, -⟩ := hp
  clear hg hsz hd
  unfold q4_15 C4 Try.f4 seq1 seq2
  simp only [Option.getD_some, lits, Nat.reduceAdd, u0, u1, u2, u7, u9, u10, u11, u12, u13, u14, u15, u16, u17, u18]
  clear u0 u1 u2 u7 u9 u10 u11 u12 u13 u14 u15 u16 u17 u18
  go_wp2_with (first
    | (go_at_call 18; refine HC.out.mono ?_; rintro e w1 ⟨r, rfl, hk⟩; have HK : Hid (R r w1) := hk; clear hk))
  exact ⟨r, ⟨rfl, rfl, by
    intro p hp
    simp only [List.mem_cons, List.not_mem_nil, or_false] at hp
    rcases hp with rfl | rfl | rfl | rfl | rfl | rfl | rfl | rfl | rfl | rfl | rfl | rfl | rfl | rfl | rfl <;> first | rfl | exact congrArg I (by omega) | exact congrArg Value.bool (by simp <;> omega) | exact congrArg Value.bool (by simp)⟩, HK.out⟩

set_option maxHeartbeats 1000000 in
set_option maxRecDepth 100000 in
theorem p4_16 {v : World} {a : Act} {kp : Option Addr} {kn kc c : Nat} {key : Int} {x0 x10 x11 x12 x13 x14 x15 x16 x17 x18 x19 : Value} {R : Value → World → Prop}  (hC : Calls Try.prog 19 #[x0] v (Ret R)) (hA : Fl 188 [(0, x0), (1, I key), (2, .slice kp kn kc), (7, .bool true), (9, .slice (some ⟨c, 0, none⟩) (kn + 1) (kn + 1)), (10, x10), (11, x11), (12, x12), (13, x13), (14, x14), (15, x15), (16, x16), (17, x17), (18, x18), (19, x19)] a) :
    q4_16.wp Try.prog (fun e a' w' => e = .normal ∧ ∃ r, (Fl 188 [(0, x0), (1, I key), (2, .slice kp kn kc), (7, .bool true), (9, .slice (some ⟨c, 0, none⟩) (kn + 1) (kn + 1)), (10, x10), (11, x11), (12, x12), (13, x13), (14, x14), (15, x15), (16, x16), (17, x17), (18, x18), (19, x19), (20, r)] a' ∧ R r w')) a v := by
  have HC : Hid (Calls Try.prog 19 #[x0] v (Ret R)) := hC
  clear hC
  obtain ⟨hsz, hd, hp⟩ := hA
  obtain ⟨u, rfl, hg⟩ := litN hsz hd
  simp only [List.forall_mem_cons, hg] at hp
  obtain ⟨u0, u1, u2, u7, u9, u10, u11, u12, u13, u14, u15, u16, u17, u18, u19, -⟩ := hp
  clear hg hsz hd
  unfold q4_16 C4 Try.f4 seq1 seq2
  simp only [Option.getD_some, lits, Nat.reduceAdd, u0, u1, u2, u7, u9, u10, u11, u12, u13, u14, u15, u16, u17, u18, u19]
  clear u0 u1 u2 u7 u9 u10 u11 u12 u13 u14 u15 u16 u17 u18 u19
  go_wp2_with (first
    | (go_at_call 19; refine HC.out.mono ?_; rintro e w1 ⟨r, rfl, hk⟩; have HK : Hid (R r w1) := hk; clear hk))
  exact ⟨r, ⟨rfl, rfl, by
    intro p hp
    simp only [List.mem_cons, List.not_mem_nil, or_false] at hp
    rcases hp with rfl | rfl | rfl | rfl | rfl | rfl | rfl | rfl | rfl | rfl | rfl | rfl | rfl | rfl | rfl | rfl <;> first | rfl | exact congrArg I (by omega) | exact congrArg Value.bool (by simp <;> omega) | exact congrArg Value.bool (by simp)⟩, HK.out⟩

set_option maxHeartbeats 1000000 in
set_option maxRecDepth 100000 in
theorem p4_17 {v : World} {a : Act} {kp : Option Addr} {kn kc c : Nat} {key : Int} {x0 x10 x11 x12 x13 x14 x15 x16 x17 x18 x19 x20 : Value} {R : Value → Value → World → Prop}  (hC : Calls Try.prog 20 #[x0, I key] v (Ret fun x w' => ∃ r r', x = .tuple #[r, r'] ∧ R r r' w')) (hA : Fl 188 [(0, x0), (1, I key), (2, .slice kp kn kc), (7, .bool true), (9, .slice (some ⟨c, 0, none⟩) (kn + 1) (kn + 1)), (10, x10), (11, x11), (12, x12), (13, x13), (14, x14), (15, x15), (16, x16), (17, x17), (18, x18), (19, x19), (20, x20)] a) :
    q4_17.wp Try.prog (fun e a' w' => e = .normal ∧ ∃ r r', (Fl 188 [(0, x0), (1, I key), (2, .slice kp kn kc), (7, .bool true), (9, .slice (some ⟨c, 0, none⟩) (kn + 1) (kn + 1)), (10, x10), (11, x11), (12, x12), (13, x13), (14, x14), (15, x15), (16, x16), (17, x17), (18, x18), (19, x19), (20, x20), (21, r), (22, r')] a' ∧ R r r' w')) a v := by
  have HC : Hid (Calls Try.prog 20 #[x0, I key] v (Ret fun x w' => ∃ r r', x = .tuple #[r, r'] ∧ R r r' w')) := hC
  clear hC
  obtain ⟨hsz, hd, hp⟩ := hA
  obtain ⟨u, rfl, hg⟩ := litN hsz hd
  simp only [List.forall_mem_cons, hg] at hp
  obtain ⟨u0, u1, u2, u7, u9, u10, u11, u12, u13, u14, u15, u16, u17, u18, u19, u20, -⟩ := hp
  clear hg hsz hd
  unfold q4_17 C4 Try.f4 seq1 seq2
  simp only [Option.getD_some, lits, Nat.reduceAdd, u0, u1, u2, u7, u9, u10, u11, u12, u13, u14, u15, u16, u17, u18, u19, u20]
  clear u0 u1 u2 u7 u9 u10 u11 u12 u13 u14 u15 u16 u17 u18 u19 u20
  go_wp2_with (first
    | (go_at_call 20; refine HC.out.mono ?_; rintro e w1 ⟨_, rfl, r, r', rfl, hk⟩; have HK : Hid (R r r' w1) := hk; clear hk))
  exact ⟨r, r', ⟨rfl, rfl, by
    intro p hp
    simp only [List.mem_cons, List.not_mem_nil, or_false] at hp
    rcases hp with rfl | rfl | rfl | rfl | rfl | rfl | rfl | rfl | rfl | rfl | rfl | rfl | rfl | rfl | rfl | rfl | rfl | rfl <;> first | rfl | exact congrArg I (by omega) | exact congrArg Value.bool (by simp <;> omega) | exact congrArg Value.bool (by simp)⟩, HK.out⟩

set_option maxHeartbeats 1000000 in
set_option maxRecDepth 100000 in
theorem p4_18 {v : World} {a : Act} {kp : Option Addr} {kn kc c : Nat} {key : Int} {x0 x10 x11 x12 x13 x14 x15 x16 x17 x18 x19 x20 x21 x22 : Value} {R : Value → World → Prop}  (hC : Calls Try.prog 21 #[x0, .slice kp kn kc] v (Ret R)) (hA : Fl 188 [(0, x0), (1, I key), (2, .slice kp kn kc), (7, .bool true), (9, .slice (some ⟨c, 0, none⟩) (kn + 1) (kn + 1)), (10, x10), (11, x11), (12, x12), (13, x13), (14, x14), (15, x15), (16, x16), (17, x17), (18, x18), (19, x19), (20, x20), (21, x21), (22, x22)] a) :
    q4_18.wp Try.prog (fun e a' w' => e = .normal ∧ ∃ r, (Fl 188 [(0, x0), (1, I key), (2, .slice kp kn kc), (7, .bool true), (9, .slice (some ⟨c, 0, none⟩) (kn + 1) (kn + 1)), (10, x10), (11, x11), (12, x12), (13, x13), (14, x14), (15, x15), (16, x16), (17, x17), (18, x18), (19, x19), (20, x20), (21, x21), (22, x22), (23, r)] a' ∧ R r w')) a v := by
  have HC : Hid (Calls Try.prog 21 #[x0, .slice kp kn kc] v (Ret R)) := hC
  clear hC
  obtain ⟨hsz, hd, hp⟩ := hA
  obtain ⟨u, rfl, hg⟩ := litN hsz hd
  simp only [List.forall_mem_cons, hg] at hp
  obtain ⟨u0, u1, u2, u7, u9, u10, u11, u12, u13, u14, u15, u16, u17, u18, u19, u20, u21, u22, -⟩ := hp
  clear hg hsz hd
  unfold q4_18 C4 Try.f4 seq1 seq2
  simp only [Option.getD_some, lits, Nat.reduceAdd, u0, u1, u2, u7, u9, u10, u11, u12, u13, u14, u15, u16, u17, u18, u19, u20, u21, u22]
  clear u0 u1 u2 u7 u9 u10 u11 u12 u13 u14 u15 u16 u17 u18 u19 u20 u21 u22
  go_wp2_with (first
    | (go_at_call 21; refine HC.out.mono ?_; rintro e w1 ⟨r, rfl, hk⟩; have HK : Hid (R r w1) := hk; clear hk))
  exact ⟨r, ⟨rfl, rfl, by
    intro p hp
    simp only [List.mem_cons, List.not_mem_nil, or_false] at hp
    rcases hp with rfl | rfl | rfl | rfl | rfl | rfl | rfl | rfl | rfl | rfl | rfl | rfl | rfl | rfl | rfl | rfl | rfl | rfl | rfl <;> first | rfl | exact congrArg I (by omega) | exact congrArg Value.bool (by simp <;> omega) | exact congrArg Value.bool (by simp)⟩, HK.out⟩

set_option maxHeartbeats 1000000 in
set_option maxRecDepth 100000 in
theorem p4_19 {v : World} {a : Act} {kp : Option Addr} {kn kc c : Nat} {key : Int} {x0 x10 x11 x12 x13 x14 x15 x16 x17 x18 x19 x20 x21 x22 x23 : Value} {R : Value → World → Prop}  (hC : Calls Try.prog 17 #[x11, x20] v (Ret R)) (hA : Fl 188 [(0, x0), (1, I key), (2, .slice kp kn kc), (7, .bool true), (9, .slice (some ⟨c, 0, none⟩) (kn + 1) (kn + 1)), (10, x10), (11, x11), (12, x12), (13, x13), (14, x14), (15, x15), (16, x16), (17, x17), (18, x18), (19, x19), (20, x20), (21, x21), (22, x22), (23, x23)] a) :
    q4_19.wp Try.prog (fun e a' w' => e = .normal ∧ ∃ r, (Fl 188 [(0, x0), (1, I key), (2, .slice kp kn kc), (7, .bool true), (9, .slice (some ⟨c, 0, none⟩) (kn + 1) (kn + 1)), (10, x10), (11, x11), (12, x12), (13, x13), (14, x14), (15, x15), (16, x16), (17, x17), (18, x18), (19, x19), (20, x20), (21, x21), (22, x22), (23, x23), (24, r)] a' ∧ R r w')) a v := by
  have HC : Hid (Calls Try.prog 17 #[x11, x20] v (Ret R)) := hC
  clear hC
  obtain ⟨hsz, hd, hp⟩ := hA
  obtain ⟨u, rfl, hg⟩ := litN hsz hd
  simp only [List.forall_mem_cons, hg] at hp
  obtain ⟨u0, u1, u2, u7, u9, u10, u11, u12, u13, u14, u15, u16, u17, u18, u19, u20, u21, u22, u23, -⟩ := hp
  clear hg hsz hd
  unfold q4_19 C4 Try.f4 seq1 seq2
  simp only [Option.getD_some, lits, Nat.reduceAdd, u0, u1, u2, u7, u9, u10, u11, u12, u13, u14, u15, u16, u17, u18, u19, u20, u21, u22, u23]
  clear u0 u1 u2 u7 u9 u10 u11 u12 u13 u14 u15 u16 u17 u18 u19 u20 u21 u22 u23
  go_wp2_with (first
    | (go_at_call 17; refine HC.out.mono ?_; rintro e w1 ⟨r, rfl, hk⟩; have HK : Hid (R r w1) := hk; clear hk))
  exact ⟨r, ⟨rfl, rfl, by
    intro p hp
    simp only [List.mem_cons, List.not_mem_nil, or_false] at hp
    rcases hp with rfl | rfl | rfl | rfl | rfl | rfl | rfl | rfl | rfl | rfl | rfl | rfl | rfl | rfl | rfl | rfl | rfl | rfl | rfl | rfl <;> first | rfl | exact congrArg I (by omega) | exact congrArg Value.bool (by simp <;> omega) | exact congrArg Value.bool (by simp)⟩, HK.out⟩

set_option maxHeartbeats 1000000 in
set_option maxRecDepth 100000 in
theorem p4_20 {v : World} {a : Act} {kp : Option Addr} {kn kc c : Nat} {key : Int} {x0 x10 x11 x12 x13 x14 x15 x16 x17 x18 x19 x20 x21 x22 x23 x24 : Value} {R : Value → World → Prop}  (hC : Calls Try.prog 17 #[x14, x23] v (Ret R)) (hA : Fl 188 [(0, x0), (1, I key), (2, .slice kp kn kc), (7, .bool true), (9, .slice (some ⟨c, 0, none⟩) (kn + 1) (kn + 1)), (10, x10), (11, x11), (12, x12), (13, x13), (14, x14), (15, x15), (16, x16), (17, x17), (18, x18), (19, x19), (20, x20), (21, x21), (22, x22), (23, x23), (24, x24)] a) :
    q4_20.wp Try.prog (fun e a' w' => e = .normal ∧ ∃ r, (Fl 188 [(0, x0), (1, I key), (2, .slice kp kn kc), (7, .bool true), (9, .slice (some ⟨c, 0, none⟩) (kn + 1) (kn + 1)), (10, x10), (11, x11), (12, x12), (13, x13), (14, x14), (15, x15), (16, x16), (17, x17), (18, x18), (19, x19), (20, x20), (21, x21), (22, x22), (23, x23), (24, x24), (25, r)] a' ∧ R r w')) a v := by
  have HC : Hid (Calls Try.prog 17 #[x14, x23] v (Ret R)) := hC
  clear hC
  obtain ⟨hsz, hd, hp⟩ := hA
  obtain ⟨u, rfl, hg⟩ := litN hsz hd
  simp only [List.forall_mem_cons, hg] at hp
  obtain ⟨u0, u1, u2, u7, u9, u10, u11, u12, u13, u14, u15, u16, u17, u18, u19, u20, u21, u22, u23, u24, -⟩ := hp
  clear hg hsz hd
  unfold q4_20 C4 Try.f4 seq1 seq2
  simp only [Option.getD_some, lits, Nat.reduceAdd, u0, u1, u2, u7, u9, u10, u11, u12, u13, u14, u15, u16, u17, u18, u19, u20, u21, u22, u23, u24]
  clear u0 u1 u2 u7 u9 u10 u11 u12 u13 u14 u15 u16 u17 u18 u19 u20 u21 u22 u23 u24
  go_wp2_with (first
    | (go_at_call 17; refine HC.out.mono ?_; rintro e w1 ⟨r, rfl, hk⟩; have HK : Hid (R r w1) := hk; clear hk))
  exact ⟨r, ⟨rfl, rfl, by
    intro p hp
    simp only [List.mem_cons, List.not_mem_nil, or_false] at hp
    rcases hp with rfl | rfl | rfl | rfl | rfl | rfl | rfl | rfl | rfl | rfl | rfl | rfl | rfl | rfl | rfl | rfl | rfl | rfl | rfl | rfl | rfl <;> first | rfl | exact congrArg I (by omega) | exact congrArg Value.bool (by simp <;> omega) | exact congrArg Value.bool (by simp)⟩, HK.out⟩

set_option maxHeartbeats 1000000 in
set_option maxRecDepth 100000 in
theorem p4_21 {v : World} {a : Act} {kp : Option Addr} {kn kc c : Nat} {key : Int} {x0 x10 x11 x12 x13 x14 x15 x16 x17 x18 x19 x20 x21 x22 x23 x24 x25 : Value} {R : Value → World → Prop}  (hC : Calls Try.prog 17 #[x15, x20] v (Ret R)) (hA : Fl 188 [(0, x0), (1, I key), (2, .slice kp kn kc), (7, .bool true), (9, .slice (some ⟨c, 0, none⟩) (kn + 1) (kn + 1)), (10, x10), (11, x11), (12, x12), (13, x13), (14, x14), (15, x15), (16, x16), (17, x17), (18, x18), (19, x19), (20, x20), (21, x21), (22, x22), (23, x23), (24, x24), (25, x25)] a) :
    q4_21.wp Try.prog (fun e a' w' => e = .normal ∧ ∃ r, (Fl 188 [(0, x0), (1, I key), (2, .slice kp kn kc), (7, .bool true), (9, .slice (some ⟨c, 0, none⟩) (kn + 1) (kn + 1)), (10, x10), (11, x11), (12, x12), (13, x13), (14, x14), (15, x15), (16, x16), (17, x17), (18, x18), (19, x19), (20, x20), (21, x21), (22, x22), (23, x23), (24, x24), (25, x25), (26, r)] a' ∧ R r w')) a v := by
  have HC : Hid (Calls Try.prog 17 #[x15, x20] v (Ret R)) := hC
  clear hC
  obtain ⟨hsz, hd, hp⟩ := hA
  obtain ⟨u, rfl, hg⟩ := litN hsz hd
  simp only [List.forall_mem_cons, hg] at hp
  obtain ⟨u0, u1, u2, u7, u9, u10, u11, u12, u13, u14, u15, u16, u17, u18, u19, u20, u21, u22, u23, u24, u25, -⟩ := hp
  clear hg hsz hd
  unfold q4_21 C4 Try.f4 seq1 seq2
  simp only [Option.getD_some, lits, Nat.reduceAdd, u0, u1, u2, u7, u9, u10, u11, u12, u13, u14, u15, u16, u17, u18, u19, u20, u21, u22, u23, u24, u25]
  clear u0 u1 u2 u7 u9 u10 u11 u12 u13 u14 u15 u16 u17 u18 u19 u20 u21 u22 u23 u24 u25
  go_wp2_with (first
    | (go_at_call 17; refine HC.out.mono ?_; rintro e w1 ⟨r, rfl, hk⟩; have HK : Hid (R r w1) := hk; clear hk))
  exact ⟨r, ⟨rfl, rfl, by
    intro p hp
    simp only [List.mem_cons, List.not_mem_nil, or_false] at hp
    rcases hp with rfl | rfl | rfl | rfl | rfl | rfl | rfl | rfl | rfl | rfl | rfl | rfl | rfl | rfl | rfl | rfl | rfl | rfl | rfl | rfl | rfl | rfl <;> first | rfl | exact congrArg I (by omega) | exact congrArg Value.bool (by simp <;> omega) | exact congrArg Value.bool (by simp)⟩, HK.out⟩

set_option maxHeartbeats 1000000 in
set_option maxRecDepth 100000 in
theorem p4_22 {v : World} {a : Act} {kp : Option Addr} {kn kc c : Nat} {key : Int} {x0 x10 x11 x12 x13 x14 x15 x16 x17 x18 x19 x20 x21 x22 x23 x24 x25 x26 : Value} {R : Value → World → Prop}  (hC : Calls Try.prog 17 #[x16, x23] v (Ret R)) (hA : Fl 188 [(0, x0), (1, I key), (2, .slice kp kn kc), (7, .bool true), (9, .slice (some ⟨c, 0, none⟩) (kn + 1) (kn + 1)), (10, x10), (11, x11), (12, x12), (13, x13), (14, x14), (15, x15), (16, x16), (17, x17), (18, x18), (19, x19), (20, x20), (21, x21), (22, x22), (23, x23), (24, x24), (25, x25), (26, x26)] a) :
    q4_22.wp Try.prog (fun e a' w' => e = .normal ∧ ∃ r, (Fl 188 [(0, x0), (1, I key), (2, .slice kp kn kc), (7, .bool true), (9, .slice (some ⟨c, 0, none⟩) (kn + 1) (kn + 1)), (10, x10), (11, x11), (12, x12), (13, x13), (14, x14), (15, x15), (16, x16), (17, x17), (18, x18), (19, x19), (20, x20), (21, x21), (22, x22), (23, x23), (24, x24), (25, x25), (26, x26), (27, r)] a' ∧ R r w')) a v := by
  have HC : Hid (Calls Try.prog 17 #[x16, x23] v (Ret R)) := hC
  clear hC
  obtain ⟨hsz, hd, hp⟩ := hA
  obtain ⟨u, rfl, hg⟩ := litN hsz hd
  simp only [List.forall_mem_cons, hg] at hp
  obtain ⟨u0, u1, u2, u7, u9, u10, u11, u12, u13, u14, u15, u16, u17, u18, u19, u20, u21, u22, u23, u24, u25, u26, -⟩ := hp
  clear hg hsz hd
  unfold q4_22 C4 Try.f4 seq1 seq2
  simp only [Option.getD_some, lits, Nat.reduceAdd, u0, u1, u2, u7, u9, u10, u11, u12, u13, u14, u15, u16, u17, u18, u19, u20, u21, u22, u23, u24, u25, u26]
  clear u0 u1 u2 u7 u9 u10 u11 u12 u13 u14 u15 u16 u17 u18 u19 u20 u21 u22 u23 u24 u25 u26
  go_wp2_with (first
    | (go_at_call 17; refine HC.out.mono ?_; rintro e w1 ⟨r, rfl, hk⟩; have HK : Hid (R r w1) := hk; clear hk))
  exact ⟨r, ⟨rfl, rfl, by
    intro p hp
    simp only [List.mem_cons, List.not_mem_nil, or_false] at hp
    rcases hp with rfl | rfl | rfl | rfl | rfl | rfl | rfl | rfl | rfl | rfl | rfl | rfl | rfl | rfl | rfl | rfl | rfl | rfl | rfl | rfl | rfl | rfl | rfl <;> first | rfl | exact congrArg I (by omega) | exact congrArg Value.bool (by simp <;> omega) | exact congrArg Value.bool (by simp)⟩, HK.out⟩

set_option maxHeartbeats 1000000 in
set_option maxRecDepth 100000 in
theorem p4_23_true {v : World} {a : Act} {kp : Option Addr} {kn kc c : Nat} {key : Int} {x0 x11 x14 x15 x16 : Value} {rs fv : Int} (hkn : kn ≤ 17592186044416) (e : v.cell? ⟨c, kn, none⟩ = some (I (-99))) (hA : Fl 188 [(0, x0), (2, .slice kp kn kc), (7, .bool true), (9, .slice (some ⟨c, 0, none⟩) (kn + 1) (kn + 1)), (10, I rs), (11, x11), (12, .bool true), (13, I fv), (14, x14), (15, x15), (16, x16), (17, .bool true), (18, .bool true), (19, I rs), (21, .bool true), (22, I fv), (24, .bool true), (25, .bool true), (26, .bool true), (27, .bool true)] a) :
    q4_23.wp Try.prog (fun e a' w' => e = .normal ∧ (Fl 188 [(155, .bool false), (0, x0), (11, x11), (14, x14), (15, x15), (16, x16)] a' ∧ w' = v)) a v := by
  obtain ⟨hsz, hd, hp⟩ := hA
  obtain ⟨u, rfl, hg⟩ := litN hsz hd
  simp only [List.forall_mem_cons, hg] at hp
  obtain ⟨u0, u2, u7, u9, u10, u11, u12, u13, u14, u15, u16, u17, u18, u19, u21, u22, u24, u25, u26, u27, -⟩ := hp
  clear hg hsz hd
  unfold q4_23 C4 Try.f4 seq1 seq2
  simp only [Option.getD_some, lits, Nat.reduceAdd, u0, u2, u7, u9, u10, u11, u12, u13, u14, u15, u16, u17, u18, u19, u21, u22, u24, u25, u26, u27]
  clear u0 u2 u7 u9 u10 u11 u12 u13 u14 u15 u16 u17 u18 u19 u21 u22 u24 u25 u26 u27
  go_wp2_with fail
  first
    | exact ⟨⟨rfl, rfl, by
      intro p hp
      simp only [List.mem_cons, List.not_mem_nil, or_false] at hp
      rcases hp with rfl | rfl | rfl | rfl | rfl | rfl <;> first | rfl | exact congrArg I (by omega) | exact congrArg Value.bool (by simp <;> omega) | exact congrArg Value.bool (by simp)⟩, rfl⟩
    | exact ⟨rfl, rfl, by
      intro p hp
      simp only [List.mem_cons, List.not_mem_nil, or_false] at hp
      rcases hp with rfl | rfl | rfl | rfl | rfl | rfl <;> first | rfl | exact congrArg I (by omega) | exact congrArg Value.bool (by simp <;> omega) | exact congrArg Value.bool (by simp)⟩
    | exact ⟨rfl, ⟨rfl, rfl, by
      intro p hp
      simp only [List.mem_cons, List.not_mem_nil, or_false] at hp
      rcases hp with rfl | rfl | rfl | rfl | rfl | rfl <;> first | rfl | exact congrArg I (by omega) | exact congrArg Value.bool (by simp <;> omega) | exact congrArg Value.bool (by simp)⟩, rfl⟩

set_option maxHeartbeats 1000000 in
set_option maxRecDepth 100000 in
theorem p4_23_false {v : World} {a : Act} {kp : Option Addr} {kn kc c : Nat} {key : Int} {x0 x11 x14 x15 x16 : Value} {rs fv : Int} (hkn : kn ≤ 17592186044416) (e : v.cell? ⟨c, kn, none⟩ = some (I (-99))) (hA : Fl 188 [(0, x0), (2, .slice kp kn kc), (7, .bool true), (9, .slice (some ⟨c, 0, none⟩) (kn + 1) (kn + 1)), (10, I rs), (11, x11), (12, .bool false), (13, I fv), (14, x14), (15, x15), (16, x16), (17, .bool true), (18, .bool true), (19, I rs), (21, .bool false), (22, I fv), (24, .bool true), (25, .bool true), (26, .bool true), (27, .bool true)] a) :
    q4_23.wp Try.prog (fun e a' w' => e = .normal ∧ (Fl 188 [(155, .bool false), (0, x0), (11, x11), (14, x14), (15, x15), (16, x16)] a' ∧ w' = v)) a v := by
  obtain ⟨hsz, hd, hp⟩ := hA
  obtain ⟨u, rfl, hg⟩ := litN hsz hd
  simp only [List.forall_mem_cons, hg] at hp
  obtain ⟨u0, u2, u7, u9, u10, u11, u12, u13, u14, u15, u16, u17, u18, u19, u21, u22, u24, u25, u26, u27, -⟩ := hp
  clear hg hsz hd
  unfold q4_23 C4 Try.f4 seq1 seq2
  simp only [Option.getD_some, lits, Nat.reduceAdd, u0, u2, u7, u9, u10, u11, u12, u13, u14, u15, u16, u17, u18, u19, u21, u22, u24, u25, u26, u27]
  clear u0 u2 u7 u9 u10 u11 u12 u13 u14 u15 u16 u17 u18 u19 u21 u22 u24 u25 u26 u27
  go_wp2_with fail
  first
    | exact ⟨⟨rfl, rfl, by
      intro p hp
      simp only [List.mem_cons, List.not_mem_nil, or_false] at hp
      rcases hp with rfl | rfl | rfl | rfl | rfl | rfl <;> first | rfl | exact congrArg I (by omega) | exact congrArg Value.bool (by simp <;> omega) | exact congrArg Value.bool (by simp)⟩, rfl⟩
    | exact ⟨rfl, rfl, by
      intro p hp
      simp only [List.mem_cons, List.not_mem_nil, or_false] at hp
      rcases hp with rfl | rfl | rfl | rfl | rfl | rfl <;> first | rfl | exact congrArg I (by omega) | exact congrArg Value.bool (by simp <;> omega) | exact congrArg Value.bool (by simp)⟩
    | exact ⟨rfl, ⟨rfl, rfl, by
      intro p hp
      simp only [List.mem_cons, List.not_mem_nil, or_false] at hp
      rcases hp with rfl | rfl | rfl | rfl | rfl | rfl <;> first | rfl | exact congrArg I (by omega) | exact congrArg Value.bool (by simp <;> omega) | exact congrArg Value.bool (by simp)⟩, rfl⟩

set_option maxHeartbeats 1000000 in
set_option maxRecDepth 100000 in
theorem p4_25 {v : World} {a : Act} {p : Option Addr} {n cap : Nat} {x11 x14 x15 x16 : Value}  (hA : Fl 188 [(0, .slice p n cap), (11, x11), (14, x14), (15, x15), (16, x16)] a) :
    q4_25.wp Try.prog (fun e a' w' => e = .normal ∧ (Fl 188 [(0, .slice p n cap), (11, x11), (14, x14), (15, x15), (16, x16), (28, I (0 : Nat))] a' ∧ w' = v)) a v := by
  obtain ⟨hsz, hd, hp⟩ := hA
  obtain ⟨u, rfl, hg⟩ := litN hsz hd
  simp only [List.forall_mem_cons, hg] at hp
  obtain ⟨u0, u11, u14, u15, u16, -⟩ := hp
  clear hg hsz hd
  unfold q4_25 C4 Try.f4 seq1 seq2
  simp only [Option.getD_some, lits, Nat.reduceAdd, u0, u11, u14, u15, u16]
  clear u0 u11 u14 u15 u16
  go_wp2_with fail
  first
    | exact ⟨⟨rfl, rfl, by
      intro p hp
      simp only [List.mem_cons, List.not_mem_nil, or_false] at hp
      rcases hp with rfl | rfl | rfl | rfl | rfl | rfl <;> first | rfl | exact congrArg I (by omega) | exact congrArg Value.bool (by simp <;> omega) | exact congrArg Value.bool (by simp)⟩, rfl⟩
    | exact ⟨rfl, rfl, by
      intro p hp
      simp only [List.mem_cons, List.not_mem_nil, or_false] at hp
      rcases hp with rfl | rfl | rfl | rfl | rfl | rfl <;> first | rfl | exact congrArg I (by omega) | exact congrArg Value.bool (by simp <;> omega) | exact congrArg Value.bool (by simp)⟩
    | exact ⟨rfl, ⟨rfl, rfl, by
      intro p hp
      simp only [List.mem_cons, List.not_mem_nil, or_false] at hp
      rcases hp with rfl | rfl | rfl | rfl | rfl | rfl <;> first | rfl | exact congrArg I (by omega) | exact congrArg Value.bool (by simp <;> omega) | exact congrArg Value.bool (by simp)⟩, rfl⟩

set_option maxHeartbeats 1000000 in
set_option maxRecDepth 100000 in
theorem p4_26 {v : World} {a : Act} {p : Option Addr} {n cap : Nat} {x11 x14 x15 x16 : Value} {i : Nat} (hn : n ≤ 2600000000000) (hA : Fl 188 [(0, .slice p n cap), (11, x11), (14, x14), (15, x15), (16, x16), (28, I (i : Nat))] a) :
    q4_26.wp Try.prog (fun e a' w' => e = .normal ∧ (Fl 188 [(159, .bool (decide (i < n))), (0, .slice p n cap), (11, x11), (14, x14), (15, x15), (16, x16), (28, I (i : Nat))] a' ∧ w' = v)) a v := by
  obtain ⟨hsz, hd, hp⟩ := hA
  obtain ⟨u, rfl, hg⟩ := litN hsz hd
  simp only [List.forall_mem_cons, hg] at hp
  obtain ⟨u0, u11, u14, u15, u16, u28, -⟩ := hp
  clear hg hsz hd
  unfold q4_26 C4 Try.f4 seq1 seq2 blockC loopC
  simp only [Option.getD_some, lits, Nat.reduceAdd, u0, u11, u14, u15, u16, u28]
  clear u0 u11 u14 u15 u16 u28
  go_wp2_with fail
  first
    | exact ⟨⟨rfl, rfl, by
      intro p hp
      simp only [List.mem_cons, List.not_mem_nil, or_false] at hp
      rcases hp with rfl | rfl | rfl | rfl | rfl | rfl | rfl <;> first | rfl | exact congrArg I (by omega) | exact congrArg Value.bool (by simp <;> omega) | exact congrArg Value.bool (by simp)⟩, rfl⟩
    | exact ⟨rfl, rfl, by
      intro p hp
      simp only [List.mem_cons, List.not_mem_nil, or_false] at hp
      rcases hp with rfl | rfl | rfl | rfl | rfl | rfl | rfl <;> first | rfl | exact congrArg I (by omega) | exact congrArg Value.bool (by simp <;> omega) | exact congrArg Value.bool (by simp)⟩
    | exact ⟨rfl, ⟨rfl, rfl, by
      intro p hp
      simp only [List.mem_cons, List.not_mem_nil, or_false] at hp
      rcases hp with rfl | rfl | rfl | rfl | rfl | rfl | rfl <;> first | rfl | exact congrArg I (by omega) | exact congrArg Value.bool (by simp <;> omega) | exact congrArg Value.bool (by simp)⟩, rfl⟩

set_option maxHeartbeats 1000000 in
set_option maxRecDepth 100000 in
theorem p4_27 {v : World} {a : Act} {p : Option Addr} {n cap : Nat} {x11 x14 x15 x16 : Value} {i : Nat} (hi : i < 17592186044416) (hA : Fl 188 [(0, .slice p n cap), (11, x11), (14, x14), (15, x15), (16, x16), (28, I (i : Nat))] a) :
    q4_27.wp Try.prog (fun e a' w' => e = .normal ∧ (Fl 188 [(0, .slice p n cap), (11, x11), (14, x14), (15, x15), (16, x16), (28, I ((i + 1 : Nat) : Int))] a' ∧ w' = v)) a v := by
  obtain ⟨hsz, hd, hp⟩ := hA
  obtain ⟨u, rfl, hg⟩ := litN hsz hd
  simp only [List.forall_mem_cons, hg] at hp
  obtain ⟨u0, u11, u14, u15, u16, u28, -⟩ := hp
  clear hg hsz hd
  unfold q4_27 C4 Try.f4 seq1 seq2 blockC loopC
  simp only [Option.getD_some, lits, Nat.reduceAdd, u0, u11, u14, u15, u16, u28]
  clear u0 u11 u14 u15 u16 u28
  go_wp2_with fail
  first
    | exact ⟨⟨rfl, rfl, by
      intro p hp
      simp only [List.mem_cons, List.not_mem_nil, or_false] at hp
      rcases hp with rfl | rfl | rfl | rfl | rfl | rfl <;> first | rfl | exact congrArg I (by omega) | exact congrArg Value.bool (by simp <;> omega) | exact congrArg Value.bool (by simp)⟩, rfl⟩
    | exact ⟨rfl, rfl, by
      intro p hp
      simp only [List.mem_cons, List.not_mem_nil, or_false] at hp
      rcases hp with rfl | rfl | rfl | rfl | rfl | rfl <;> first | rfl | exact congrArg I (by omega) | exact congrArg Value.bool (by simp <;> omega) | exact congrArg Value.bool (by simp)⟩
    | exact ⟨rfl, ⟨rfl, rfl, by
      intro p hp
      simp only [List.mem_cons, List.not_mem_nil, or_false] at hp
      rcases hp with rfl | rfl | rfl | rfl | rfl | rfl <;> first | rfl | exact congrArg I (by omega) | exact congrArg Value.bool (by simp <;> omega) | exact congrArg Value.bool (by simp)⟩, rfl⟩

set_option maxHeartbeats 1000000 in
set_option maxRecDepth 100000 in
theorem p4_28 {v : World} {a : Act} {p : Option Addr} {n cap : Nat} {x11 x14 x15 x16 : Value} {i : Nat} {R : Value → Value → World → Prop} (hC : Calls Try.prog 13 #[.slice p n cap, I (i : Nat)] v (Ret fun x w' => ∃ r r', x = .tuple #[r, r'] ∧ R r r' w')) (hA : Fl 188 [(0, .slice p n cap), (11, x11), (14, x14), (15, x15), (16, x16), (28, I (i : Nat))] a) :
    q4_28.wp Try.prog (fun e a' w' => e = .normal ∧ ∃ r r', (Fl 188 [(0, .slice p n cap), (11, x11), (14, x14), (15, x15), (16, x16), (28, I (i : Nat)), (29, r), (30, r')] a' ∧ R r r' w')) a v := by
  have HC : Hid (Calls Try.prog 13 #[.slice p n cap, I (i : Nat)] v (Ret fun x w' => ∃ r r', x = .tuple #[r, r'] ∧ R r r' w')) := hC
  clear hC
  obtain ⟨hsz, hd, hp⟩ := hA
  obtain ⟨u, rfl, hg⟩ := litN hsz hd
  simp only [List.forall_mem_cons, hg] at hp
  obtain ⟨u0, u11, u14, u15, u16, u28, -⟩ := hp
  clear hg hsz hd
  unfold q4_28 C4 Try.f4 seq1 seq2 blockC loopC
  simp only [Option.getD_some, lits, Nat.reduceAdd, u0, u11, u14, u15, u16, u28]
  clear u0 u11 u14 u15 u16 u28
  go_wp2_with (first
    | (go_at_call 13; refine HC.out.mono ?_; rintro e w1 ⟨_, rfl, r, r', rfl, hk⟩; have HK : Hid (R r r' w1) := hk; clear hk))
  exact ⟨r, r', ⟨rfl, rfl, by
    intro p hp
    simp only [List.mem_cons, List.not_mem_nil, or_false] at hp
    rcases hp with rfl | rfl | rfl | rfl | rfl | rfl | rfl | rfl <;> first | rfl | exact congrArg I (by omega) | exact congrArg Value.bool (by simp <;> omega) | exact congrArg Value.bool (by simp)⟩, HK.out⟩

set_option maxHeartbeats 1000000 in
set_option maxRecDepth 100000 in
theorem p4_29 {v : World} {a : Act} {p : Option Addr} {n cap : Nat} {x11 x14 x15 x16 : Value} {i : Nat} {x29 x30 : Value} {R : Value → Value → World → Prop} (hC : Calls Try.prog 20 #[.slice p n cap, I (i : Nat)] v (Ret fun x w' => ∃ r r', x = .tuple #[r, r'] ∧ R r r' w')) (hA : Fl 188 [(0, .slice p n cap), (11, x11), (14, x14), (15, x15), (16, x16), (28, I (i : Nat)), (29, x29), (30, x30)] a) :
    q4_29.wp Try.prog (fun e a' w' => e = .normal ∧ ∃ r r', (Fl 188 [(0, .slice p n cap), (11, x11), (14, x14), (15, x15), (16, x16), (28, I (i : Nat)), (29, x29), (30, x30), (31, r), (32, r')] a' ∧ R r r' w')) a v := by
  have HC : Hid (Calls Try.prog 20 #[.slice p n cap, I (i : Nat)] v (Ret fun x w' => ∃ r r', x = .tuple #[r, r'] ∧ R r r' w')) := hC
  clear hC
  obtain ⟨hsz, hd, hp⟩ := hA
  obtain ⟨u, rfl, hg⟩ := litN hsz hd
  simp only [List.forall_mem_cons, hg] at hp
  obtain ⟨u0, u11, u14, u15, u16, u28, u29, u30, -⟩ := hp
  clear hg hsz hd
  unfold q4_29 C4 Try.f4 seq1 seq2 blockC loopC
  simp only [Option.getD_some, lits, Nat.reduceAdd, u0, u11, u14, u15, u16, u28, u29, u30]
  clear u0 u11 u14 u15 u16 u28 u29 u30
  go_wp2_with (first
    | (go_at_call 20; refine HC.out.mono ?_; rintro e w1 ⟨_, rfl, r, r', rfl, hk⟩; have HK : Hid (R r r' w1) := hk; clear hk))
  exact ⟨r, r', ⟨rfl, rfl, by
    intro p hp
    simp only [List.mem_cons, List.not_mem_nil, or_false] at hp
    rcases hp with rfl | rfl | rfl | rfl | rfl | rfl | rfl | rfl | rfl | rfl <;> first | rfl | exact congrArg I (by omega) | exact congrArg Value.bool (by simp <;> omega) | exact congrArg Value.bool (by simp)⟩, HK.out⟩

set_option maxHeartbeats 1000000 in
set_option maxRecDepth 100000 in
theorem p4_30_true {v : World} {a : Act} {p : Option Addr} {n cap : Nat} {x11 x14 x15 x16 : Value} {i : Nat} {fv : Int}  (hA : Fl 188 [(0, .slice p n cap), (11, x11), (14, x14), (15, x15), (16, x16), (28, I (i : Nat)), (29, .bool true), (30, I fv), (31, .bool true), (32, I fv)] a) :
    q4_30.wp Try.prog (fun e a' w' => e = .normal ∧ (Fl 188 [(181, .bool false), (0, .slice p n cap), (11, x11), (14, x14), (15, x15), (16, x16), (28, I (i : Nat))] a' ∧ w' = v)) a v := by
  obtain ⟨hsz, hd, hp⟩ := hA
  obtain ⟨u, rfl, hg⟩ := litN hsz hd
  simp only [List.forall_mem_cons, hg] at hp
  obtain ⟨u0, u11, u14, u15, u16, u28, u29, u30, u31, u32, -⟩ := hp
  clear hg hsz hd
  unfold q4_30 C4 Try.f4 seq1 seq2 blockC loopC
  simp only [Option.getD_some, lits, Nat.reduceAdd, u0, u11, u14, u15, u16, u28, u29, u30, u31, u32]
  clear u0 u11 u14 u15 u16 u28 u29 u30 u31 u32
  go_wp2_with fail
  first
    | exact ⟨⟨rfl, rfl, by
      intro p hp
      simp only [List.mem_cons, List.not_mem_nil, or_false] at hp
      rcases hp with rfl | rfl | rfl | rfl | rfl | rfl | rfl <;> first | rfl | exact congrArg I (by omega) | exact congrArg Value.bool (by simp <;> omega) | exact congrArg Value.bool (by simp)⟩, rfl⟩
    | exact ⟨rfl, rfl, by
      intro p hp
      simp only [List.mem_cons, List.not_mem_nil, or_false] at hp
      rcases hp with rfl | rfl | rfl | rfl | rfl | rfl | rfl <;> first | rfl | exact congrArg I (by omega) | exact congrArg Value.bool (by simp <;> omega) | exact congrArg Value.bool (by simp)⟩
    | exact ⟨rfl, ⟨rfl, rfl, by
      intro p hp
      simp only [List.mem_cons, List.not_mem_nil, or_false] at hp
      rcases hp with rfl | rfl | rfl | rfl | rfl | rfl | rfl <;> first | rfl | exact congrArg I (by omega) | exact congrArg Value.bool (by simp <;> omega) | exact congrArg Value.bool (by simp)⟩, rfl⟩

set_option maxHeartbeats 1000000 in
set_option maxRecDepth 100000 in
theorem p4_30_false {v : World} {a : Act} {p : Option Addr} {n cap : Nat} {x11 x14 x15 x16 : Value} {i : Nat} {fv : Int}  (hA : Fl 188 [(0, .slice p n cap), (11, x11), (14, x14), (15, x15), (16, x16), (28, I (i : Nat)), (29, .bool false), (30, I fv), (31, .bool false), (32, I fv)] a) :
    q4_30.wp Try.prog (fun e a' w' => e = .normal ∧ (Fl 188 [(181, .bool false), (0, .slice p n cap), (11, x11), (14, x14), (15, x15), (16, x16), (28, I (i : Nat))] a' ∧ w' = v)) a v := by
  obtain ⟨hsz, hd, hp⟩ := hA
  obtain ⟨u, rfl, hg⟩ := litN hsz hd
  simp only [List.forall_mem_cons, hg] at hp
  obtain ⟨u0, u11, u14, u15, u16, u28, u29, u30, u31, u32, -⟩ := hp
  clear hg hsz hd
  unfold q4_30 C4 Try.f4 seq1 seq2 blockC loopC
  simp only [Option.getD_some, lits, Nat.reduceAdd, u0, u11, u14, u15, u16, u28, u29, u30, u31, u32]
  clear u0 u11 u14 u15 u16 u28 u29 u30 u31 u32
  go_wp2_with fail
  first
    | exact ⟨⟨rfl, rfl, by
      intro p hp
      simp only [List.mem_cons, List.not_mem_nil, or_false] at hp
      rcases hp with rfl | rfl | rfl | rfl | rfl | rfl | rfl <;> first | rfl | exact congrArg I (by omega) | exact congrArg Value.bool (by simp <;> omega) | exact congrArg Value.bool (by simp)⟩, rfl⟩
    | exact ⟨rfl, rfl, by
      intro p hp
      simp only [List.mem_cons, List.not_mem_nil, or_false] at hp
      rcases hp with rfl | rfl | rfl | rfl | rfl | rfl | rfl <;> first | rfl | exact congrArg I (by omega) | exact congrArg Value.bool (by simp <;> omega) | exact congrArg Value.bool (by simp)⟩
    | exact ⟨rfl, ⟨rfl, rfl, by
      intro p hp
      simp only [List.mem_cons, List.not_mem_nil, or_false] at hp
      rcases hp with rfl | rfl | rfl | rfl | rfl | rfl | rfl <;> first | rfl | exact congrArg I (by omega) | exact congrArg Value.bool (by simp <;> omega) | exact congrArg Value.bool (by simp)⟩, rfl⟩

set_option maxHeartbeats 1000000 in
set_option maxRecDepth 100000 in
theorem p4_32 {v : World} {a : Act} {q0 q1 q2 q3 : Option Addr} {l0 l1 l2 l3 c0 c1 c2 c3 : Nat} {R : World → Prop} (hC : Calls Try.prog 22 #[.slice (some ⟨v.heap.size, 0, none⟩) 4 4] (v.alloc (.cells #[.slice q0 l0 c0, .slice q1 l1 c1, .slice q2 l2 c2, .slice q3 l3 c3] 26)) (Ret fun r w' => r = .bool true ∧ R w')) (hA : Fl 188 [(11, .slice q0 l0 c0), (14, .slice q1 l1 c1), (15, .slice q2 l2 c2), (16, .slice q3 l3 c3)] a) :
    q4_32.wp Try.prog (fun e a' w' => e = .normal ∧ (Fl 188 [(6, .bool true)] a' ∧ R w')) a v := by
  have HC : Hid (Calls Try.prog 22 #[.slice (some ⟨v.heap.size, 0, none⟩) 4 4] (v.alloc (.cells #[.slice q0 l0 c0, .slice q1 l1 c1, .slice q2 l2 c2, .slice q3 l3 c3] 26)) (Ret fun r w' => r = .bool true ∧ R w')) := hC
  clear hC
  obtain ⟨hsz, hd, hp⟩ := hA
  obtain ⟨u, rfl, hg⟩ := litN hsz hd
  simp only [List.forall_mem_cons, hg] at hp
  obtain ⟨u11, u14, u15, u16, -⟩ := hp
  clear hg hsz hd
  unfold q4_32 C4 Try.f4 seq1 seq2
  simp only [Option.getD_some, lits, Nat.reduceAdd, u11, u14, u15, u16]
  clear u11 u14 u15 u16
  go_wp2_with (first
    | (go_at_call 22; refine HC.out.mono ?_; rintro e w1 ⟨_, rfl, rfl, hk⟩; have HK : Hid (R w1) := hk; clear hk))
  first
    | exact ⟨⟨rfl, rfl, by
      intro p hp
      simp only [List.mem_cons, List.not_mem_nil, or_false] at hp
      rcases hp with rfl <;> first | rfl | exact congrArg I (by omega) | exact congrArg Value.bool (by simp <;> omega) | exact congrArg Value.bool (by simp)⟩, HK.out⟩
    | exact ⟨rfl, rfl, by
      intro p hp
      simp only [List.mem_cons, List.not_mem_nil, or_false] at hp
      rcases hp with rfl <;> first | rfl | exact congrArg I (by omega) | exact congrArg Value.bool (by simp <;> omega) | exact congrArg Value.bool (by simp)⟩
    | exact ⟨rfl, ⟨rfl, rfl, by
      intro p hp
      simp only [List.mem_cons, List.not_mem_nil, or_false] at hp
      rcases hp with rfl <;> first | rfl | exact congrArg I (by omega) | exact congrArg Value.bool (by simp <;> omega) | exact congrArg Value.bool (by simp)⟩, HK.out⟩

theorem in4 {w : World} {R : Value → World → Prop} {x0 x1 x2 : Value} (h : ∀ a, Fl 188 [(0, x0), (1, x1), (2, x2)] a → C4.wp Try.prog (bodyPost Try.prog Try.f4 (Ret R)) a w) : Calls Try.prog 4 #[x0, x1, x2] w (Ret R) :=
  calls_of_wp Try.func4 (show Try.f4.body = some C4 by kernel_rfl) (by
    rw [Try.ntmps4]
    exact h _ (fl_enter _ _ 188 (by simp) _ (by intro p hp; simp only [List.mem_cons, List.not_mem_nil, or_false] at hp; rcases hp with rfl | rfl | rfl <;> rfl)))

end Go.Proofs.Ytgohfdgkihoilaa.Rcp
