/- What the document's Order (21) does: its pieces. (Made by wip/tools/mk21.py.) -/
import Derived.Test.YtgohfdgkihoilaaRAk
set_option linter.unusedSimpArgs false
set_option linter.unusedVariables false
namespace Go.Proofs.Ytgohfdgkihoilaa.Rcp
open Go Go.RowKit Go.Deep Go.Maps

noncomputable def C21 : Code := Try.f21.body.getD .skip
noncomputable def q21_0 : Code := (seq1 C21)
noncomputable def q21_1 : Code := (seq1 (seq2 C21))
noncomputable def q21_2 : Code := (seq1 (seq1 (seq2 (seq2 C21))))
noncomputable def q21_3 : Code := (seq1 (condA (seq2 (seq1 (seq2 (seq2 C21))))))
noncomputable def q21_4 : Code := (seq1 (seq2 (seq2 (seq2 C21))))
noncomputable def q21_5 : Code := (seq1 (seq2 (seq2 (seq2 (seq2 C21)))))
noncomputable def q21_6 : Code := (seq1 (seq1 (seq2 (seq2 (seq2 (seq2 (seq2 C21)))))))
noncomputable def q21_7 : Code := (seq1 (seq1 (loopC (blockC (seq2 (seq1 (seq2 (seq2 (seq2 (seq2 (seq2 C21)))))))))))
noncomputable def q21_9 : Code := (seq1 (blockC (seq1 (seq2 (loopC (blockC (seq2 (seq1 (seq2 (seq2 (seq2 (seq2 (seq2 C21)))))))))))))
noncomputable def q21_10 : Code := (condA (seq2 (blockC (seq1 (seq2 (loopC (blockC (seq2 (seq1 (seq2 (seq2 (seq2 (seq2 (seq2 C21))))))))))))))
noncomputable def q21_8 : Code := (seq2 (seq2 (loopC (blockC (seq2 (seq1 (seq2 (seq2 (seq2 (seq2 (seq2 C21)))))))))))
noncomputable def q21_11 : Code := (seq1 (seq2 (seq2 (seq2 (seq2 (seq2 (seq2 C21)))))))
noncomputable def K21_1 : Code := (.seq q21_9 (.cond ( .tmp 45 ) q21_10 .skip))
noncomputable def K21_0 : Code := (.loop (.seq (.seq q21_7 (.cond ( .tmp 29 ) .skip (.exit 0))) (.seq (.block 1 K21_1) q21_8)))
theorem e21 : C21 = (.seq q21_0 (.seq q21_1 (.seq (.seq q21_2 (.cond ( .tmp 13 ) (.seq q21_3 .ret) .skip)) (.seq q21_4 (.seq q21_5 (.seq (.seq q21_6 (.block 0 K21_0)) (.seq q21_11 .ret))))))) := by kernel_rfl

set_option maxHeartbeats 1000000 in
set_option maxRecDepth 100000 in
theorem p21_0 {v : World} {a : Act} {x0 x1 : Value}  (hA : Fl 56 [(0, x0), (1, x1)] a) :
    q21_0.wp Try.prog (fun e a' w' => e = .normal ∧ (Fl 56 [(0, x0), (1, x1), (4, .slice none 0 0)] a' ∧ w' = v)) a v := by
  obtain ⟨hsz, hd, hp⟩ := hA
  obtain ⟨u, rfl, hg⟩ := litN hsz hd
  simp only [List.forall_mem_cons, hg] at hp
  obtain ⟨u0, u1, -⟩ := hp
  clear hg hsz hd
  unfold q21_0 C21 Try.f21 seq1
  simp only [Option.getD_some, lits, Nat.reduceAdd, u0, u1]
  clear u0 u1
  go_wp2_with fail
  first
    | exact ⟨⟨rfl, rfl, by
      intro p hp
      simp only [List.mem_cons, List.not_mem_nil, or_false] at hp
      rcases hp with rfl | rfl | rfl <;> first | rfl | exact congrArg I (by omega) | exact congrArg Value.bool (by simp <;> omega) | exact congrArg Value.bool (by simp)⟩, rfl⟩
    | exact ⟨rfl, rfl, by
      intro p hp
      simp only [List.mem_cons, List.not_mem_nil, or_false] at hp
      rcases hp with rfl | rfl | rfl <;> first | rfl | exact congrArg I (by omega) | exact congrArg Value.bool (by simp <;> omega) | exact congrArg Value.bool (by simp)⟩
    | exact ⟨rfl, ⟨rfl, rfl, by
      intro p hp
      simp only [List.mem_cons, List.not_mem_nil, or_false] at hp
      rcases hp with rfl | rfl | rfl <;> first | rfl | exact congrArg I (by omega) | exact congrArg Value.bool (by simp <;> omega) | exact congrArg Value.bool (by simp)⟩, rfl⟩

set_option maxHeartbeats 1000000 in
set_option maxRecDepth 100000 in
theorem p21_1 {v : World} {a : Act} {x0 x1 : Value} {Z : Nat → Prop} {l : List Rc} (hl : RL Z v x0 l) (hZ : ∀ i, Z i → i < v.heap.size) (hA : Fl 56 [(0, x0), (1, x1)] a) :
    q21_1.wp Try.prog (fun e a' w' => e = .normal ∧ (Fl 56 [(0, x0), (1, x1), (5, I (rightS l))] a' ∧ Kp (fun i => i < v.heap.size) v w')) a v := by
  have HC : Hid (Calls Try.prog 18 #[x0] v _) := refRight_any hl hZ
  clear hl hZ
  obtain ⟨hsz, hd, hp⟩ := hA
  obtain ⟨u, rfl, hg⟩ := litN hsz hd
  simp only [List.forall_mem_cons, hg] at hp
  obtain ⟨u0, u1, -⟩ := hp
  clear hg hsz hd
  unfold q21_1 C21 Try.f21 seq1 seq2
  simp only [Option.getD_some, lits, Nat.reduceAdd, u0, u1]
  clear u0 u1
  go_wp2_with (first
    | (go_at_call 18; refine HC.out.mono ?_; rintro e w1 ⟨_, rfl, rfl, hk⟩; have HK : Hid (Kp (fun i => i < v.heap.size) v w1) := hk; clear hk))
  first
    | exact ⟨⟨rfl, rfl, by
      intro p hp
      simp only [List.mem_cons, List.not_mem_nil, or_false] at hp
      rcases hp with rfl | rfl | rfl <;> first | rfl | exact congrArg I (by omega) | exact congrArg Value.bool (by simp <;> omega) | exact congrArg Value.bool (by simp)⟩, HK.out⟩
    | exact ⟨rfl, rfl, by
      intro p hp
      simp only [List.mem_cons, List.not_mem_nil, or_false] at hp
      rcases hp with rfl | rfl | rfl <;> first | rfl | exact congrArg I (by omega) | exact congrArg Value.bool (by simp <;> omega) | exact congrArg Value.bool (by simp)⟩
    | exact ⟨rfl, ⟨rfl, rfl, by
      intro p hp
      simp only [List.mem_cons, List.not_mem_nil, or_false] at hp
      rcases hp with rfl | rfl | rfl <;> first | rfl | exact congrArg I (by omega) | exact congrArg Value.bool (by simp <;> omega) | exact congrArg Value.bool (by simp)⟩, HK.out⟩

set_option maxHeartbeats 1000000 in
set_option maxRecDepth 100000 in
theorem p21_2 {v : World} {a : Act} {x0 x1 : Value} {x : Int}  (hA : Fl 56 [(0, x0), (1, x1), (5, I x)] a) :
    q21_2.wp Try.prog (fun e a' w' => e = .normal ∧ (Fl 56 [(13, .bool (x != 0)), (0, x0), (1, x1)] a' ∧ w' = v)) a v := by
  obtain ⟨hsz, hd, hp⟩ := hA
  obtain ⟨u, rfl, hg⟩ := litN hsz hd
  simp only [List.forall_mem_cons, hg] at hp
  obtain ⟨u0, u1, u5, -⟩ := hp
  clear hg hsz hd
  unfold q21_2 C21 Try.f21 seq1 seq2
  simp only [Option.getD_some, lits, Nat.reduceAdd, u0, u1, u5]
  clear u0 u1 u5
  go_wp2_with fail
  first
    | exact ⟨⟨rfl, rfl, by
      intro p hp
      simp only [List.mem_cons, List.not_mem_nil, or_false] at hp
      rcases hp with rfl | rfl | rfl <;> first | rfl | exact congrArg I (by omega) | exact congrArg Value.bool (by simp <;> omega) | exact congrArg Value.bool (by simp)⟩, rfl⟩
    | exact ⟨rfl, rfl, by
      intro p hp
      simp only [List.mem_cons, List.not_mem_nil, or_false] at hp
      rcases hp with rfl | rfl | rfl <;> first | rfl | exact congrArg I (by omega) | exact congrArg Value.bool (by simp <;> omega) | exact congrArg Value.bool (by simp)⟩
    | exact ⟨rfl, ⟨rfl, rfl, by
      intro p hp
      simp only [List.mem_cons, List.not_mem_nil, or_false] at hp
      rcases hp with rfl | rfl | rfl <;> first | rfl | exact congrArg I (by omega) | exact congrArg Value.bool (by simp <;> omega) | exact congrArg Value.bool (by simp)⟩, rfl⟩

set_option maxHeartbeats 1000000 in
set_option maxRecDepth 100000 in
theorem p21_3 {v : World} {a : Act} {x0 x1 : Value}  (hA : Fl 56 [(0, x0), (1, x1)] a) :
    q21_3.wp Try.prog (fun e a' w' => e = .normal ∧ (Fl 56 [(4, .slice none 0 0)] a' ∧ w' = v)) a v := by
  obtain ⟨hsz, hd, hp⟩ := hA
  obtain ⟨u, rfl, hg⟩ := litN hsz hd
  simp only [List.forall_mem_cons, hg] at hp
  obtain ⟨u0, u1, -⟩ := hp
  clear hg hsz hd
  unfold q21_3 C21 Try.f21 seq1 seq2 condA
  simp only [Option.getD_some, lits, Nat.reduceAdd, u0, u1]
  clear u0 u1
  go_wp2_with fail
  first
    | exact ⟨⟨rfl, rfl, by
      intro p hp
      simp only [List.mem_cons, List.not_mem_nil, or_false] at hp
      rcases hp with rfl <;> first | rfl | exact congrArg I (by omega) | exact congrArg Value.bool (by simp <;> omega) | exact congrArg Value.bool (by simp)⟩, rfl⟩
    | exact ⟨rfl, rfl, by
      intro p hp
      simp only [List.mem_cons, List.not_mem_nil, or_false] at hp
      rcases hp with rfl <;> first | rfl | exact congrArg I (by omega) | exact congrArg Value.bool (by simp <;> omega) | exact congrArg Value.bool (by simp)⟩
    | exact ⟨rfl, ⟨rfl, rfl, by
      intro p hp
      simp only [List.mem_cons, List.not_mem_nil, or_false] at hp
      rcases hp with rfl <;> first | rfl | exact congrArg I (by omega) | exact congrArg Value.bool (by simp <;> omega) | exact congrArg Value.bool (by simp)⟩, rfl⟩

set_option maxHeartbeats 1000000 in
set_option maxRecDepth 100000 in
theorem p21_4 {v : World} {a : Act} {x0 x1 : Value} {R : Value → World → Prop} (hC : Calls Try.prog 35 #[x0] v (Ret fun r w' => ∃ cv gv, r = .tuple #[cv, gv] ∧ R cv w')) (hA : Fl 56 [(0, x0), (1, x1)] a) :
    q21_4.wp Try.prog (fun e a' w' => e = .normal ∧ ∃ cv, (Fl 56 [(0, x0), (1, x1), (6, cv)] a' ∧ R cv w')) a v := by
  have HC : Hid (Calls Try.prog 35 #[x0] v (Ret fun r w' => ∃ cv gv, r = .tuple #[cv, gv] ∧ R cv w')) := hC
  clear hC
  obtain ⟨hsz, hd, hp⟩ := hA
  obtain ⟨u, rfl, hg⟩ := litN hsz hd
  simp only [List.forall_mem_cons, hg] at hp
  obtain ⟨u0, u1, -⟩ := hp
  clear hg hsz hd
  unfold q21_4 C21 Try.f21 seq1 seq2
  simp only [Option.getD_some, lits, Nat.reduceAdd, u0, u1]
  clear u0 u1
  go_wp2_with (first
    | (go_at_call 35; refine HC.out.mono ?_; rintro e w1 ⟨_, rfl, cv, gv, rfl, hk⟩; have HK : Hid (R cv w1) := hk; clear hk))
  exact ⟨cv, ⟨rfl, rfl, by
    intro p hp
    simp only [List.mem_cons, List.not_mem_nil, or_false] at hp
    rcases hp with rfl | rfl | rfl <;> first | rfl | exact congrArg I (by omega) | exact congrArg Value.bool (by simp <;> omega) | exact congrArg Value.bool (by simp)⟩, HK.out⟩

set_option maxHeartbeats 1000000 in
set_option maxRecDepth 100000 in
theorem p21_5 {v : World} {a : Act} {b o n cap cb : Nat} {x1 : Value} (hn : n ≤ 100) (hA : Fl 56 [(0, .slice (some ⟨b, o, none⟩) n cap), (1, x1), (6, .slice (some ⟨cb, 0, none⟩) n n)] a) :
    q21_5.wp Try.prog (fun e a' w' => e = .normal ∧ (Fl 56 [(0, .slice (some ⟨b, o, none⟩) n cap), (1, x1), (8, P1 (v.heap.size + 1))] a' ∧ w' = (v.alloc (.cells (madeCells #[.bool false] n) 4)).alloc (.cells #[.slice (some ⟨b, o, none⟩) n cap, .slice (some ⟨cb, 0, none⟩) n n, .slice (some ⟨v.heap.size, 0, none⟩) n n, .slice none 0 0] 67))) a v := by
  obtain ⟨hsz, hd, hp⟩ := hA
  obtain ⟨u, rfl, hg⟩ := litN hsz hd
  simp only [List.forall_mem_cons, hg] at hp
  obtain ⟨u0, u1, u6, -⟩ := hp
  clear hg hsz hd
  unfold q21_5 C21 Try.f21 seq1 seq2
  simp only [Option.getD_some, lits, Nat.reduceAdd, u0, u1, u6]
  clear u0 u1 u6
  have hmk := run_make_row' (P := Try.prog) 41 4 (.bool false) 1 Try.underlying41 info4 rfl .i64 .i64 n (by omega) (by omega)
  go_wp2_with fail
  first
    | exact ⟨⟨rfl, rfl, by
      intro p hp
      simp only [List.mem_cons, List.not_mem_nil, or_false] at hp
      rcases hp with rfl | rfl | rfl <;> first | rfl | exact congrArg I (by omega) | exact congrArg Value.bool (by simp <;> omega) | exact congrArg Value.bool (by simp)⟩, rfl⟩
    | exact ⟨rfl, rfl, by
      intro p hp
      simp only [List.mem_cons, List.not_mem_nil, or_false] at hp
      rcases hp with rfl | rfl | rfl <;> first | rfl | exact congrArg I (by omega) | exact congrArg Value.bool (by simp <;> omega) | exact congrArg Value.bool (by simp)⟩
    | exact ⟨rfl, ⟨rfl, rfl, by
      intro p hp
      simp only [List.mem_cons, List.not_mem_nil, or_false] at hp
      rcases hp with rfl | rfl | rfl <;> first | rfl | exact congrArg I (by omega) | exact congrArg Value.bool (by simp <;> omega) | exact congrArg Value.bool (by simp)⟩, rfl⟩

set_option maxHeartbeats 1000000 in
set_option maxRecDepth 100000 in
theorem p21_6 {v : World} {a : Act} {b o n cap bb : Nat} {x1 : Value}  (hA : Fl 56 [(0, .slice (some ⟨b, o, none⟩) n cap), (1, x1), (8, P1 bb)] a) :
    q21_6.wp Try.prog (fun e a' w' => e = .normal ∧ (Fl 56 [(0, .slice (some ⟨b, o, none⟩) n cap), (1, x1), (8, P1 bb), (9, I (0 : Nat))] a' ∧ w' = v)) a v := by
  obtain ⟨hsz, hd, hp⟩ := hA
  obtain ⟨u, rfl, hg⟩ := litN hsz hd
  simp only [List.forall_mem_cons, hg] at hp
  obtain ⟨u0, u1, u8, -⟩ := hp
  clear hg hsz hd
  unfold q21_6 C21 Try.f21 seq1 seq2
  simp only [Option.getD_some, lits, Nat.reduceAdd, u0, u1, u8]
  clear u0 u1 u8
  go_wp2_with fail
  first
    | exact ⟨⟨rfl, rfl, by
      intro p hp
      simp only [List.mem_cons, List.not_mem_nil, or_false] at hp
      rcases hp with rfl | rfl | rfl | rfl <;> first | rfl | exact congrArg I (by omega) | exact congrArg Value.bool (by simp <;> omega) | exact congrArg Value.bool (by simp)⟩, rfl⟩
    | exact ⟨rfl, rfl, by
      intro p hp
      simp only [List.mem_cons, List.not_mem_nil, or_false] at hp
      rcases hp with rfl | rfl | rfl | rfl <;> first | rfl | exact congrArg I (by omega) | exact congrArg Value.bool (by simp <;> omega) | exact congrArg Value.bool (by simp)⟩
    | exact ⟨rfl, ⟨rfl, rfl, by
      intro p hp
      simp only [List.mem_cons, List.not_mem_nil, or_false] at hp
      rcases hp with rfl | rfl | rfl | rfl <;> first | rfl | exact congrArg I (by omega) | exact congrArg Value.bool (by simp <;> omega) | exact congrArg Value.bool (by simp)⟩, rfl⟩

set_option maxHeartbeats 1000000 in
set_option maxRecDepth 100000 in
theorem p21_7 {v : World} {a : Act} {b o n cap bb kn kc i : Nat} {kp : Option Addr} (hkn : kn ≤ 17592186044416) (hA : Fl 56 [(0, .slice (some ⟨b, o, none⟩) n cap), (1, .slice kp kn kc), (8, P1 bb), (9, I (i : Nat))] a) :
    q21_7.wp Try.prog (fun e a' w' => e = .normal ∧ (Fl 56 [(29, .bool (decide (i < kn))), (0, .slice (some ⟨b, o, none⟩) n cap), (1, .slice kp kn kc), (8, P1 bb), (9, I (i : Nat))] a' ∧ w' = v)) a v := by
  obtain ⟨hsz, hd, hp⟩ := hA
  obtain ⟨u, rfl, hg⟩ := litN hsz hd
  simp only [List.forall_mem_cons, hg] at hp
  obtain ⟨u0, u1, u8, u9, -⟩ := hp
  clear hg hsz hd
  unfold q21_7 C21 Try.f21 seq1 seq2 blockC loopC
  simp only [Option.getD_some, lits, Nat.reduceAdd, u0, u1, u8, u9]
  clear u0 u1 u8 u9
  go_wp2_with fail
  first
    | exact ⟨⟨rfl, rfl, by
      intro p hp
      simp only [List.mem_cons, List.not_mem_nil, or_false] at hp
      rcases hp with rfl | rfl | rfl | rfl | rfl <;> first | rfl | exact congrArg I (by omega) | exact congrArg Value.bool (by simp <;> omega) | exact congrArg Value.bool (by simp)⟩, rfl⟩
    | exact ⟨rfl, rfl, by
      intro p hp
      simp only [List.mem_cons, List.not_mem_nil, or_false] at hp
      rcases hp with rfl | rfl | rfl | rfl | rfl <;> first | rfl | exact congrArg I (by omega) | exact congrArg Value.bool (by simp <;> omega) | exact congrArg Value.bool (by simp)⟩
    | exact ⟨rfl, ⟨rfl, rfl, by
      intro p hp
      simp only [List.mem_cons, List.not_mem_nil, or_false] at hp
      rcases hp with rfl | rfl | rfl | rfl | rfl <;> first | rfl | exact congrArg I (by omega) | exact congrArg Value.bool (by simp <;> omega) | exact congrArg Value.bool (by simp)⟩, rfl⟩

set_option maxHeartbeats 1000000 in
set_option maxRecDepth 100000 in
theorem p21_9_a {v : World} {a : Act} {b o n cap bb kn kc i : Nat} {kb ko : Nat} {x : Int} (hkn : kn ≤ 17592186044416) (hi : i < kn) (cx : v.cell? ⟨kb, ko + i, none⟩ = some (I x)) (h : decide (0 ≤ x) = false) (hA : Fl 56 [(0, .slice (some ⟨b, o, none⟩) n cap), (1, .slice (some ⟨kb, ko, none⟩) kn kc), (8, P1 bb), (9, I (i : Nat))] a) :
    q21_9.wp Try.prog (fun e a' w' => e = .normal ∧ (Fl 56 [(45, .bool false), (0, .slice (some ⟨b, o, none⟩) n cap), (1, .slice (some ⟨kb, ko, none⟩) kn kc), (8, P1 bb), (9, I (i : Nat))] a' ∧ w' = v)) a v := by
  obtain ⟨hsz, hd, hp⟩ := hA
  obtain ⟨u, rfl, hg⟩ := litN hsz hd
  simp only [List.forall_mem_cons, hg] at hp
  obtain ⟨u0, u1, u8, u9, -⟩ := hp
  clear hg hsz hd
  unfold q21_9 C21 Try.f21 seq1 seq2 blockC loopC
  simp only [Option.getD_some, lits, Nat.reduceAdd, u0, u1, u8, u9]
  clear u0 u1 u8 u9
  go_wp2_with fail
  first
    | exact ⟨⟨rfl, rfl, by
      intro p hp
      simp only [List.mem_cons, List.not_mem_nil, or_false] at hp
      rcases hp with rfl | rfl | rfl | rfl | rfl <;> first | rfl | exact congrArg I (by omega) | exact congrArg Value.bool (by simp <;> omega) | exact congrArg Value.bool (by simp)⟩, rfl⟩
    | exact ⟨rfl, rfl, by
      intro p hp
      simp only [List.mem_cons, List.not_mem_nil, or_false] at hp
      rcases hp with rfl | rfl | rfl | rfl | rfl <;> first | rfl | exact congrArg I (by omega) | exact congrArg Value.bool (by simp <;> omega) | exact congrArg Value.bool (by simp)⟩
    | exact ⟨rfl, ⟨rfl, rfl, by
      intro p hp
      simp only [List.mem_cons, List.not_mem_nil, or_false] at hp
      rcases hp with rfl | rfl | rfl | rfl | rfl <;> first | rfl | exact congrArg I (by omega) | exact congrArg Value.bool (by simp <;> omega) | exact congrArg Value.bool (by simp)⟩, rfl⟩

set_option maxHeartbeats 1000000 in
set_option maxRecDepth 100000 in
theorem p21_9_b {v : World} {a : Act} {b o n cap bb kn kc i : Nat} {kb ko : Nat} {x : Int} (hkn : kn ≤ 17592186044416) (hi : i < kn) (cx : v.cell? ⟨kb, ko + i, none⟩ = some (I x)) (h : 0 ≤ x) (hA : Fl 56 [(0, .slice (some ⟨b, o, none⟩) n cap), (1, .slice (some ⟨kb, ko, none⟩) kn kc), (8, P1 bb), (9, I (i : Nat))] a) :
    q21_9.wp Try.prog (fun e a' w' => e = .normal ∧ (Fl 56 [(45, .bool (decide (x < (n : Int)))), (0, .slice (some ⟨b, o, none⟩) n cap), (1, .slice (some ⟨kb, ko, none⟩) kn kc), (8, P1 bb), (9, I (i : Nat))] a' ∧ w' = v)) a v := by
  obtain ⟨hsz, hd, hp⟩ := hA
  obtain ⟨u, rfl, hg⟩ := litN hsz hd
  simp only [List.forall_mem_cons, hg] at hp
  obtain ⟨u0, u1, u8, u9, -⟩ := hp
  clear hg hsz hd
  unfold q21_9 C21 Try.f21 seq1 seq2 blockC loopC
  simp only [Option.getD_some, lits, Nat.reduceAdd, u0, u1, u8, u9]
  clear u0 u1 u8 u9
  go_wp2_with fail
  first
    | exact ⟨⟨rfl, rfl, by
      intro p hp
      simp only [List.mem_cons, List.not_mem_nil, or_false] at hp
      rcases hp with rfl | rfl | rfl | rfl | rfl <;> first | rfl | exact congrArg I (by omega) | exact congrArg Value.bool (by simp <;> omega) | exact congrArg Value.bool (by simp)⟩, rfl⟩
    | exact ⟨rfl, rfl, by
      intro p hp
      simp only [List.mem_cons, List.not_mem_nil, or_false] at hp
      rcases hp with rfl | rfl | rfl | rfl | rfl <;> first | rfl | exact congrArg I (by omega) | exact congrArg Value.bool (by simp <;> omega) | exact congrArg Value.bool (by simp)⟩
    | exact ⟨rfl, ⟨rfl, rfl, by
      intro p hp
      simp only [List.mem_cons, List.not_mem_nil, or_false] at hp
      rcases hp with rfl | rfl | rfl | rfl | rfl <;> first | rfl | exact congrArg I (by omega) | exact congrArg Value.bool (by simp <;> omega) | exact congrArg Value.bool (by simp)⟩, rfl⟩

set_option maxHeartbeats 1000000 in
set_option maxRecDepth 100000 in
theorem p21_10 {v : World} {a : Act} {b o n cap bb kn kc i : Nat} {kb ko : Nat} {x : Int} {R : World → Prop} (hkn : kn ≤ 17592186044416) (hi : i < kn) (cx : v.cell? ⟨kb, ko + i, none⟩ = some (I x)) (hC : Calls Try.prog 36 #[P1 bb, I x] v (Ret fun r w' => r = .tuple #[] ∧ R w')) (hA : Fl 56 [(0, .slice (some ⟨b, o, none⟩) n cap), (1, .slice (some ⟨kb, ko, none⟩) kn kc), (8, P1 bb), (9, I (i : Nat))] a) :
    q21_10.wp Try.prog (fun e a' w' => e = .normal ∧ (Fl 56 [(0, .slice (some ⟨b, o, none⟩) n cap), (1, .slice (some ⟨kb, ko, none⟩) kn kc), (8, P1 bb), (9, I (i : Nat))] a' ∧ R w')) a v := by
  have HC : Hid (Calls Try.prog 36 #[P1 bb, I x] v (Ret fun r w' => r = .tuple #[] ∧ R w')) := hC
  clear hC
  obtain ⟨hsz, hd, hp⟩ := hA
  obtain ⟨u, rfl, hg⟩ := litN hsz hd
  simp only [List.forall_mem_cons, hg] at hp
  obtain ⟨u0, u1, u8, u9, -⟩ := hp
  clear hg hsz hd
  unfold q21_10 C21 Try.f21 seq1 seq2 condA blockC loopC
  simp only [Option.getD_some, lits, Nat.reduceAdd, u0, u1, u8, u9]
  clear u0 u1 u8 u9
  go_wp2_with (first
    | (go_at_call 36; refine HC.out.mono ?_; rintro e w1 ⟨_, rfl, rfl, hk⟩; have HK : Hid (R w1) := hk; clear hk))
  first
    | exact ⟨⟨rfl, rfl, by
      intro p hp
      simp only [List.mem_cons, List.not_mem_nil, or_false] at hp
      rcases hp with rfl | rfl | rfl | rfl <;> first | rfl | exact congrArg I (by omega) | exact congrArg Value.bool (by simp <;> omega) | exact congrArg Value.bool (by simp)⟩, HK.out⟩
    | exact ⟨rfl, rfl, by
      intro p hp
      simp only [List.mem_cons, List.not_mem_nil, or_false] at hp
      rcases hp with rfl | rfl | rfl | rfl <;> first | rfl | exact congrArg I (by omega) | exact congrArg Value.bool (by simp <;> omega) | exact congrArg Value.bool (by simp)⟩
    | exact ⟨rfl, ⟨rfl, rfl, by
      intro p hp
      simp only [List.mem_cons, List.not_mem_nil, or_false] at hp
      rcases hp with rfl | rfl | rfl | rfl <;> first | rfl | exact congrArg I (by omega) | exact congrArg Value.bool (by simp <;> omega) | exact congrArg Value.bool (by simp)⟩, HK.out⟩

set_option maxHeartbeats 1000000 in
set_option maxRecDepth 100000 in
theorem p21_8 {v : World} {a : Act} {b o n cap bb i : Nat} {x1 : Value} (hi : i < 17592186044416) (hA : Fl 56 [(0, .slice (some ⟨b, o, none⟩) n cap), (1, x1), (8, P1 bb), (9, I (i : Nat))] a) :
    q21_8.wp Try.prog (fun e a' w' => e = .normal ∧ (Fl 56 [(0, .slice (some ⟨b, o, none⟩) n cap), (1, x1), (8, P1 bb), (9, I ((i + 1 : Nat) : Int))] a' ∧ w' = v)) a v := by
  obtain ⟨hsz, hd, hp⟩ := hA
  obtain ⟨u, rfl, hg⟩ := litN hsz hd
  simp only [List.forall_mem_cons, hg] at hp
  obtain ⟨u0, u1, u8, u9, -⟩ := hp
  clear hg hsz hd
  unfold q21_8 C21 Try.f21 seq1 seq2 blockC loopC
  simp only [Option.getD_some, lits, Nat.reduceAdd, u0, u1, u8, u9]
  clear u0 u1 u8 u9
  go_wp2_with fail
  first
    | exact ⟨⟨rfl, rfl, by
      intro p hp
      simp only [List.mem_cons, List.not_mem_nil, or_false] at hp
      rcases hp with rfl | rfl | rfl | rfl <;> first | rfl | exact congrArg I (by omega) | exact congrArg Value.bool (by simp <;> omega) | exact congrArg Value.bool (by simp)⟩, rfl⟩
    | exact ⟨rfl, rfl, by
      intro p hp
      simp only [List.mem_cons, List.not_mem_nil, or_false] at hp
      rcases hp with rfl | rfl | rfl | rfl <;> first | rfl | exact congrArg I (by omega) | exact congrArg Value.bool (by simp <;> omega) | exact congrArg Value.bool (by simp)⟩
    | exact ⟨rfl, ⟨rfl, rfl, by
      intro p hp
      simp only [List.mem_cons, List.not_mem_nil, or_false] at hp
      rcases hp with rfl | rfl | rfl | rfl <;> first | rfl | exact congrArg I (by omega) | exact congrArg Value.bool (by simp <;> omega) | exact congrArg Value.bool (by simp)⟩, rfl⟩

set_option maxHeartbeats 1000000 in
set_option maxRecDepth 100000 in
theorem p21_11 {v : World} {a : Act} {bb : Nat} {tv : Value} (c : v.cell? ⟨bb, 3, none⟩ = some tv) (hA : Fl 56 [(8, P1 bb)] a) :
    q21_11.wp Try.prog (fun e a' w' => e = .normal ∧ (Fl 56 [(4, tv)] a' ∧ w' = v)) a v := by
  obtain ⟨hsz, hd, hp⟩ := hA
  obtain ⟨u, rfl, hg⟩ := litN hsz hd
  simp only [List.forall_mem_cons, hg] at hp
  obtain ⟨u8, -⟩ := hp
  clear hg hsz hd
  unfold q21_11 C21 Try.f21 seq1 seq2
  simp only [Option.getD_some, lits, Nat.reduceAdd, u8]
  clear u8
  go_wp2_with fail
  first
    | exact ⟨⟨rfl, rfl, by
      intro p hp
      simp only [List.mem_cons, List.not_mem_nil, or_false] at hp
      rcases hp with rfl <;> first | rfl | exact congrArg I (by omega) | exact congrArg Value.bool (by simp <;> omega) | exact congrArg Value.bool (by simp)⟩, rfl⟩
    | exact ⟨rfl, rfl, by
      intro p hp
      simp only [List.mem_cons, List.not_mem_nil, or_false] at hp
      rcases hp with rfl <;> first | rfl | exact congrArg I (by omega) | exact congrArg Value.bool (by simp <;> omega) | exact congrArg Value.bool (by simp)⟩
    | exact ⟨rfl, ⟨rfl, rfl, by
      intro p hp
      simp only [List.mem_cons, List.not_mem_nil, or_false] at hp
      rcases hp with rfl <;> first | rfl | exact congrArg I (by omega) | exact congrArg Value.bool (by simp <;> omega) | exact congrArg Value.bool (by simp)⟩, rfl⟩

theorem in21 {w : World} {R : Value → World → Prop} {x0 x1 : Value} (h : ∀ a, Fl 56 [(0, x0), (1, x1)] a → C21.wp Try.prog (bodyPost Try.prog Try.f21 (Ret R)) a w) : Calls Try.prog 21 #[x0, x1] w (Ret R) :=
  calls_of_wp Try.func21 (show Try.f21.body = some C21 by kernel_rfl) (by
    rw [Try.ntmps21]
    exact h _ (fl_enter _ _ 56 (by simp) _ (by intro p hp; simp only [List.mem_cons, List.not_mem_nil, or_false] at hp; rcases hp with rfl | rfl <;> rfl)))

end Go.Proofs.Ytgohfdgkihoilaa.Rcp
