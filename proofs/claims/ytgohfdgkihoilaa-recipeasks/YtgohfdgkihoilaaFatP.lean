/- The law RecipeFates (5): its pieces. (Made by wip/tools/mk5.py.) -/
import Derived.Test.YtgohfdgkihoilaaTab
import Derived.Test.YtgohfdgkihoilaaAwk
import Derived.Test.YtgohfdgkihoilaaRefR2
set_option linter.unusedSimpArgs false
set_option linter.unusedVariables false
namespace Go.Proofs.Ytgohfdgkihoilaa.Rcp
open Go Go.RowKit Go.Deep Go.Maps

noncomputable def C5 : Code := Try.f5.body.getD .skip
noncomputable def q5_0 : Code := (seq1 C5)
noncomputable def q5_1 : Code := (seq1 (seq2 C5))
noncomputable def q5_2 : Code := (seq1 (seq2 (seq2 C5)))
noncomputable def q5_3 : Code := (seq1 (seq1 (seq2 (seq2 (seq2 C5)))))
noncomputable def q5_4 : Code := (seq1 (condA (seq2 (seq1 (seq2 (seq2 (seq2 C5)))))))
noncomputable def q5_5 : Code := (seq1 (seq2 (seq2 (seq2 (seq2 C5)))))
noncomputable def q5_6 : Code := (seq1 (seq2 (seq2 (seq2 (seq2 (seq2 C5))))))
noncomputable def q5_7 : Code := (seq1 (seq2 (seq2 (seq2 (seq2 (seq2 (seq2 C5)))))))
noncomputable def q5_8 : Code := (seq1 (seq1 (seq2 (seq2 (seq2 (seq2 (seq2 (seq2 (seq2 C5)))))))))
noncomputable def q5_9 : Code := (seq1 (seq1 (loopC (blockC (seq2 (seq1 (seq2 (seq2 (seq2 (seq2 (seq2 (seq2 (seq2 C5)))))))))))))
noncomputable def q5_11 : Code := (seq1 (blockC (seq1 (seq2 (loopC (blockC (seq2 (seq1 (seq2 (seq2 (seq2 (seq2 (seq2 (seq2 (seq2 C5)))))))))))))))
noncomputable def q5_12 : Code := (seq1 (seq1 (seq2 (blockC (seq1 (seq2 (loopC (blockC (seq2 (seq1 (seq2 (seq2 (seq2 (seq2 (seq2 (seq2 (seq2 C5)))))))))))))))))
noncomputable def q5_13 : Code := (seq1 (condA (seq2 (seq1 (seq2 (blockC (seq1 (seq2 (loopC (blockC (seq2 (seq1 (seq2 (seq2 (seq2 (seq2 (seq2 (seq2 (seq2 C5)))))))))))))))))))
noncomputable def q5_14 : Code := (seq1 (seq1 (seq2 (seq2 (blockC (seq1 (seq2 (loopC (blockC (seq2 (seq1 (seq2 (seq2 (seq2 (seq2 (seq2 (seq2 (seq2 C5))))))))))))))))))
noncomputable def q5_15 : Code := (condA (seq2 (seq1 (seq2 (seq2 (blockC (seq1 (seq2 (loopC (blockC (seq2 (seq1 (seq2 (seq2 (seq2 (seq2 (seq2 (seq2 (seq2 C5)))))))))))))))))))
noncomputable def q5_16 : Code := (seq1 (seq2 (seq2 (seq2 (blockC (seq1 (seq2 (loopC (blockC (seq2 (seq1 (seq2 (seq2 (seq2 (seq2 (seq2 (seq2 (seq2 C5))))))))))))))))))
noncomputable def q5_17 : Code := (seq1 (seq1 (seq2 (seq2 (seq2 (seq2 (blockC (seq1 (seq2 (loopC (blockC (seq2 (seq1 (seq2 (seq2 (seq2 (seq2 (seq2 (seq2 (seq2 C5))))))))))))))))))))
noncomputable def q5_18 : Code := (seq1 (seq1 (loopC (blockC (seq2 (seq1 (seq2 (seq2 (seq2 (seq2 (blockC (seq1 (seq2 (loopC (blockC (seq2 (seq1 (seq2 (seq2 (seq2 (seq2 (seq2 (seq2 (seq2 C5))))))))))))))))))))))))
noncomputable def q5_20 : Code := (seq1 (blockC (seq1 (seq2 (loopC (blockC (seq2 (seq1 (seq2 (seq2 (seq2 (seq2 (blockC (seq1 (seq2 (loopC (blockC (seq2 (seq1 (seq2 (seq2 (seq2 (seq2 (seq2 (seq2 (seq2 C5))))))))))))))))))))))))))
noncomputable def q5_21 : Code := (seq1 (condA (seq2 (blockC (seq1 (seq2 (loopC (blockC (seq2 (seq1 (seq2 (seq2 (seq2 (seq2 (blockC (seq1 (seq2 (loopC (blockC (seq2 (seq1 (seq2 (seq2 (seq2 (seq2 (seq2 (seq2 (seq2 C5))))))))))))))))))))))))))))
noncomputable def q5_22 : Code := (seq1 (seq2 (condA (seq2 (blockC (seq1 (seq2 (loopC (blockC (seq2 (seq1 (seq2 (seq2 (seq2 (seq2 (blockC (seq1 (seq2 (loopC (blockC (seq2 (seq1 (seq2 (seq2 (seq2 (seq2 (seq2 (seq2 (seq2 C5)))))))))))))))))))))))))))))
noncomputable def q5_23 : Code := (seq1 (condA (seq2 (seq2 (condA (seq2 (blockC (seq1 (seq2 (loopC (blockC (seq2 (seq1 (seq2 (seq2 (seq2 (seq2 (blockC (seq1 (seq2 (loopC (blockC (seq2 (seq1 (seq2 (seq2 (seq2 (seq2 (seq2 (seq2 (seq2 C5)))))))))))))))))))))))))))))))
noncomputable def q5_19 : Code := (seq2 (seq2 (loopC (blockC (seq2 (seq1 (seq2 (seq2 (seq2 (seq2 (blockC (seq1 (seq2 (loopC (blockC (seq2 (seq1 (seq2 (seq2 (seq2 (seq2 (seq2 (seq2 (seq2 C5))))))))))))))))))))))))
noncomputable def q5_24 : Code := (seq1 (seq2 (seq2 (seq2 (seq2 (seq2 (blockC (seq1 (seq2 (loopC (blockC (seq2 (seq1 (seq2 (seq2 (seq2 (seq2 (seq2 (seq2 (seq2 C5))))))))))))))))))))
noncomputable def q5_25 : Code := (seq1 (seq2 (seq2 (seq2 (seq2 (seq2 (seq2 (blockC (seq1 (seq2 (loopC (blockC (seq2 (seq1 (seq2 (seq2 (seq2 (seq2 (seq2 (seq2 (seq2 C5)))))))))))))))))))))
noncomputable def q5_26 : Code := (seq1 (seq1 (seq2 (seq2 (seq2 (seq2 (seq2 (seq2 (seq2 (blockC (seq1 (seq2 (loopC (blockC (seq2 (seq1 (seq2 (seq2 (seq2 (seq2 (seq2 (seq2 (seq2 C5)))))))))))))))))))))))
noncomputable def q5_27 : Code := (seq1 (seq1 (loopC (blockC (seq2 (seq1 (seq2 (seq2 (seq2 (seq2 (seq2 (seq2 (seq2 (blockC (seq1 (seq2 (loopC (blockC (seq2 (seq1 (seq2 (seq2 (seq2 (seq2 (seq2 (seq2 (seq2 C5)))))))))))))))))))))))))))
noncomputable def q5_29 : Code := (seq1 (blockC (seq1 (seq2 (loopC (blockC (seq2 (seq1 (seq2 (seq2 (seq2 (seq2 (seq2 (seq2 (seq2 (blockC (seq1 (seq2 (loopC (blockC (seq2 (seq1 (seq2 (seq2 (seq2 (seq2 (seq2 (seq2 (seq2 C5)))))))))))))))))))))))))))))
noncomputable def q5_30 : Code := (seq2 (blockC (seq1 (seq2 (loopC (blockC (seq2 (seq1 (seq2 (seq2 (seq2 (seq2 (seq2 (seq2 (seq2 (blockC (seq1 (seq2 (loopC (blockC (seq2 (seq1 (seq2 (seq2 (seq2 (seq2 (seq2 (seq2 (seq2 C5)))))))))))))))))))))))))))))
noncomputable def q5_28 : Code := (seq2 (seq2 (loopC (blockC (seq2 (seq1 (seq2 (seq2 (seq2 (seq2 (seq2 (seq2 (seq2 (blockC (seq1 (seq2 (loopC (blockC (seq2 (seq1 (seq2 (seq2 (seq2 (seq2 (seq2 (seq2 (seq2 C5)))))))))))))))))))))))))))
noncomputable def q5_31 : Code := (seq1 (seq2 (seq2 (seq2 (seq2 (seq2 (seq2 (seq2 (seq2 (blockC (seq1 (seq2 (loopC (blockC (seq2 (seq1 (seq2 (seq2 (seq2 (seq2 (seq2 (seq2 (seq2 C5)))))))))))))))))))))))
noncomputable def q5_32 : Code := (seq1 (condA (seq2 (seq2 (seq2 (seq2 (seq2 (seq2 (seq2 (seq2 (seq2 (blockC (seq1 (seq2 (loopC (blockC (seq2 (seq1 (seq2 (seq2 (seq2 (seq2 (seq2 (seq2 (seq2 C5)))))))))))))))))))))))))
noncomputable def q5_10 : Code := (seq2 (seq2 (loopC (blockC (seq2 (seq1 (seq2 (seq2 (seq2 (seq2 (seq2 (seq2 (seq2 C5)))))))))))))
noncomputable def q5_33 : Code := (seq1 (seq2 (seq2 (seq2 (seq2 (seq2 (seq2 (seq2 (seq2 C5)))))))))
noncomputable def K5_3 : Code := (.seq q5_20 (.cond ( .tmp 84 ) (.seq q5_21 (.seq q5_22 (.cond ( .tmp 123 ) (.seq q5_23 .ret) .skip))) .skip))
noncomputable def K5_2 : Code := (.loop (.seq (.seq q5_18 (.cond ( .tmp 75 ) .skip (.exit 2))) (.seq (.block 3 K5_3) q5_19)))
noncomputable def K5_5 : Code := (.seq q5_29 q5_30)
noncomputable def K5_4 : Code := (.loop (.seq (.seq q5_27 (.cond ( .tmp 142 ) .skip (.exit 4))) (.seq (.block 5 K5_5) q5_28)))
noncomputable def K5_1 : Code := (.seq q5_11 (.seq (.seq q5_12 (.cond ( .tmp 58 ) (.seq q5_13 .ret) .skip)) (.seq (.seq q5_14 (.cond ( .tmp 59 ) q5_15 .skip)) (.seq q5_16 (.seq (.seq q5_17 (.block 2 K5_2)) (.seq q5_24 (.seq q5_25 (.seq (.seq q5_26 (.block 4 K5_4)) (.seq q5_31 (.cond ( .tmp 189 ) (.seq q5_32 .ret) .skip))))))))))
noncomputable def K5_0 : Code := (.loop (.seq (.seq q5_9 (.cond ( .tmp 35 ) .skip (.exit 0))) (.seq (.block 1 K5_1) q5_10)))
theorem e5 : C5 = (.seq q5_0 (.seq q5_1 (.seq q5_2 (.seq (.seq q5_3 (.cond ( .tmp 26 ) (.seq q5_4 .ret) .skip)) (.seq q5_5 (.seq q5_6 (.seq q5_7 (.seq (.seq q5_8 (.block 0 K5_0)) (.seq q5_33 .ret))))))))) := by kernel_rfl

set_option maxHeartbeats 1000000 in
set_option maxRecDepth 100000 in
theorem p5_0 {v : World} {a : Act} {x0 : Value}  (hA : Fl 194 [(0, x0)] a) :
    q5_0.wp Try.prog (fun e a' w' => e = .normal ∧ (Fl 194 [(0, x0)] a' ∧ w' = v)) a v := by
  obtain ⟨hsz, hd, hp⟩ := hA
  obtain ⟨u, rfl, hg⟩ := litN hsz hd
  simp only [List.forall_mem_cons, hg] at hp
  obtain ⟨u0, -⟩ := hp
  clear hg hsz hd
  unfold q5_0 C5 Try.f5 seq1
  simp only [Option.getD_some, lits, Nat.reduceAdd, u0]
  clear u0
  go_wp2_with fail
  first
    | exact ⟨⟨rfl, rfl, by
      intro p hp
      simp only [List.mem_cons, List.not_mem_nil, or_false] at hp
      rcases hp with rfl <;> first | rfl | exact congrArg I (by omega) | exact congrArg Value.bool (by simp <;> omega) | exact congrArg Value.bool (by simp)⟩, rfl⟩
    | exact ⟨rfl, rfl, by
      intro p hp
      simp only [List.mem_cons, List.not_mem_nil, or_false] at hp
      rcases hp with rfl <;> first | rfl | exact congrArg I (by omega) | exact congrArg Value.bool (by simp <;> omega) | exact congrArg Value.bool (by simp)⟩
    | exact ⟨rfl, ⟨rfl, rfl, by
      intro p hp
      simp only [List.mem_cons, List.not_mem_nil, or_false] at hp
      rcases hp with rfl <;> first | rfl | exact congrArg I (by omega) | exact congrArg Value.bool (by simp <;> omega) | exact congrArg Value.bool (by simp)⟩, rfl⟩

set_option maxHeartbeats 1000000 in
set_option maxRecDepth 100000 in
theorem p5_1 {v : World} {a : Act} {x0 : Value}  (hA : Fl 194 [(0, x0)] a) :
    q5_1.wp Try.prog (fun e a' w' => e = .normal ∧ (Fl 194 [(0, x0), (3, .bool true)] a' ∧ Kp (fun i => i < v.heap.size) v w')) a v := by
  obtain ⟨hsz, hd, hp⟩ := hA
  obtain ⟨u, rfl, hg⟩ := litN hsz hd
  simp only [List.forall_mem_cons, hg] at hp
  obtain ⟨u0, -⟩ := hp
  clear hg hsz hd
  unfold q5_1 C5 Try.f5 seq1 seq2
  simp only [Option.getD_some, lits, Nat.reduceAdd, u0]
  clear u0
  go_wp2_with (first
    | (go_at_call 8; refine (awake_any v).mono ?_; rintro e w1 ⟨_, rfl, rfl, hk⟩; have HK : Hid (Kp (fun i => i < v.heap.size) v w1) := hk; clear hk))
  first
    | exact ⟨⟨rfl, rfl, by
      intro p hp
      simp only [List.mem_cons, List.not_mem_nil, or_false] at hp
      rcases hp with rfl | rfl <;> first | rfl | exact congrArg I (by omega) | exact congrArg Value.bool (by simp <;> omega) | exact congrArg Value.bool (by simp)⟩, HK.out⟩
    | exact ⟨rfl, rfl, by
      intro p hp
      simp only [List.mem_cons, List.not_mem_nil, or_false] at hp
      rcases hp with rfl | rfl <;> first | rfl | exact congrArg I (by omega) | exact congrArg Value.bool (by simp <;> omega) | exact congrArg Value.bool (by simp)⟩
    | exact ⟨rfl, ⟨rfl, rfl, by
      intro p hp
      simp only [List.mem_cons, List.not_mem_nil, or_false] at hp
      rcases hp with rfl | rfl <;> first | rfl | exact congrArg I (by omega) | exact congrArg Value.bool (by simp <;> omega) | exact congrArg Value.bool (by simp)⟩, HK.out⟩

set_option maxHeartbeats 1000000 in
set_option maxRecDepth 100000 in
theorem p5_2 {v : World} {a : Act} {x0 : Value} {Z : Nat → Prop} {l : List Rc} (hl : RL Z v x0 l) (hZ : ∀ i, Z i → i < v.heap.size) (hA : Fl 194 [(0, x0), (3, .bool true)] a) :
    q5_2.wp Try.prog (fun e a' w' => e = .normal ∧ (Fl 194 [(0, x0), (3, .bool true), (4, I (rightS l))] a' ∧ Kp (fun i => i < v.heap.size) v w')) a v := by
  have HC : Hid (Calls Try.prog 18 #[x0] v _) := refRight_any hl hZ
  clear hl hZ
  obtain ⟨hsz, hd, hp⟩ := hA
  obtain ⟨u, rfl, hg⟩ := litN hsz hd
  simp only [List.forall_mem_cons, hg] at hp
  obtain ⟨u0, u3, -⟩ := hp
  clear hg hsz hd
  unfold q5_2 C5 Try.f5 seq1 seq2
  simp only [Option.getD_some, lits, Nat.reduceAdd, u0, u3]
  clear u0 u3
  go_wp2_with (first
    | (go_at_call 18; refine HC.out.mono ?_; rintro e w1 ⟨_, rfl, rfl, hk⟩; have HK : Hid (Kp (fun i => i < v.heap.size) v w1) := hk; clear hk))
  first
    | exact ⟨⟨rfl, rfl, by
      intro p hp
      simp only [List.mem_cons, List.not_mem_nil, or_false] at hp
      rcases hp with rfl | rfl | rfl <;> first | rfl | exact congrArg I (by omega) | exact congrArg Value.bool (by simp <;> omega) | exact congrArg Value.bool (by simp)⟩, HK.out⟩
    | exact ⟨rfl, rfl, by
      intro p hp
      simp only [List.mem_cons, List.not_mem_nil, or_false] at hp
      rcases hp with rfl | rfl | rfl <;> first | rfl | exact congrArg I (by omega) | exact congrArg Value.bool (by simp <;> omega) | exact congrArg Value.bool (by simp)⟩
    | exact ⟨rfl, ⟨rfl, rfl, by
      intro p hp
      simp only [List.mem_cons, List.not_mem_nil, or_false] at hp
      rcases hp with rfl | rfl | rfl <;> first | rfl | exact congrArg I (by omega) | exact congrArg Value.bool (by simp <;> omega) | exact congrArg Value.bool (by simp)⟩, HK.out⟩

set_option maxHeartbeats 1000000 in
set_option maxRecDepth 100000 in
theorem p5_3 {v : World} {a : Act} {x0 : Value} {r : Int}  (hA : Fl 194 [(0, x0), (3, .bool true), (4, I r)] a) :
    q5_3.wp Try.prog (fun e a' w' => e = .normal ∧ (Fl 194 [(26, .bool (r != 0)), (0, x0), (3, .bool true)] a' ∧ w' = v)) a v := by
  obtain ⟨hsz, hd, hp⟩ := hA
  obtain ⟨u, rfl, hg⟩ := litN hsz hd
  simp only [List.forall_mem_cons, hg] at hp
  obtain ⟨u0, u3, u4, -⟩ := hp
  clear hg hsz hd
  unfold q5_3 C5 Try.f5 seq1 seq2
  simp only [Option.getD_some, lits, Nat.reduceAdd, u0, u3, u4]
  clear u0 u3 u4
  go_wp2_with fail
  first
    | exact ⟨⟨rfl, rfl, by
      intro p hp
      simp only [List.mem_cons, List.not_mem_nil, or_false] at hp
      rcases hp with rfl | rfl | rfl <;> first | rfl | exact congrArg I (by omega) | exact congrArg Value.bool (by simp <;> omega) | exact congrArg Value.bool (by simp)⟩, rfl⟩
    | exact ⟨rfl, rfl, by
      intro p hp
      simp only [List.mem_cons, List.not_mem_nil, or_false] at hp
      rcases hp with rfl | rfl | rfl <;> first | rfl | exact congrArg I (by omega) | exact congrArg Value.bool (by simp <;> omega) | exact congrArg Value.bool (by simp)⟩
    | exact ⟨rfl, ⟨rfl, rfl, by
      intro p hp
      simp only [List.mem_cons, List.not_mem_nil, or_false] at hp
      rcases hp with rfl | rfl | rfl <;> first | rfl | exact congrArg I (by omega) | exact congrArg Value.bool (by simp <;> omega) | exact congrArg Value.bool (by simp)⟩, rfl⟩

set_option maxHeartbeats 1000000 in
set_option maxRecDepth 100000 in
theorem p5_4 {v : World} {a : Act}   (hA : Fl 194 [(3, .bool true)] a) :
    q5_4.wp Try.prog (fun e a' w' => e = .normal ∧ (Fl 194 [(2, .bool true)] a' ∧ w' = v)) a v := by
  obtain ⟨hsz, hd, hp⟩ := hA
  obtain ⟨u, rfl, hg⟩ := litN hsz hd
  simp only [List.forall_mem_cons, hg] at hp
  obtain ⟨u3, -⟩ := hp
  clear hg hsz hd
  unfold q5_4 C5 Try.f5 seq1 seq2 condA
  simp only [Option.getD_some, lits, Nat.reduceAdd, u3]
  clear u3
  go_wp2_with fail
  first
    | exact ⟨⟨rfl, rfl, by
      intro p hp
      simp only [List.mem_cons, List.not_mem_nil, or_false] at hp
      rcases hp with rfl <;> first | rfl | exact congrArg I (by omega) | exact congrArg Value.bool (by simp <;> omega) | exact congrArg Value.bool (by simp)⟩, rfl⟩
    | exact ⟨rfl, rfl, by
      intro p hp
      simp only [List.mem_cons, List.not_mem_nil, or_false] at hp
      rcases hp with rfl <;> first | rfl | exact congrArg I (by omega) | exact congrArg Value.bool (by simp <;> omega) | exact congrArg Value.bool (by simp)⟩
    | exact ⟨rfl, ⟨rfl, rfl, by
      intro p hp
      simp only [List.mem_cons, List.not_mem_nil, or_false] at hp
      rcases hp with rfl <;> first | rfl | exact congrArg I (by omega) | exact congrArg Value.bool (by simp <;> omega) | exact congrArg Value.bool (by simp)⟩, rfl⟩

set_option maxHeartbeats 1000000 in
set_option maxRecDepth 100000 in
theorem p5_5 {v : World} {a : Act} {x0 : Value} {Z : Nat → Prop} {l : List Rc} (hl : RL Z v x0 l) (hZ : ∀ i, Z i → i < v.heap.size) (hR : RIGHT l) (hA : Fl 194 [(0, x0)] a) :
    q5_5.wp Try.prog (fun e a' w' => e = .normal ∧ ∃ tv, (Fl 194 [(0, x0), (5, tv)] a' ∧ ∃ rb T, Tab (fun i => i < v.heap.size) l.length l.length tv rb T w' ∧ (∀ i k, i < l.length → k < l.length → (T i k = true ↔ Rch (nd l) i k)) ∧ Kp (fun i => i < v.heap.size) v w')) a v := by
  have HC : Hid (Calls Try.prog 23 #[x0] v _) := table_any hl hZ hR
  clear hl hZ hR
  obtain ⟨hsz, hd, hp⟩ := hA
  obtain ⟨u, rfl, hg⟩ := litN hsz hd
  simp only [List.forall_mem_cons, hg] at hp
  obtain ⟨u0, -⟩ := hp
  clear hg hsz hd
  unfold q5_5 C5 Try.f5 seq1 seq2
  simp only [Option.getD_some, lits, Nat.reduceAdd, u0]
  clear u0
  go_wp2_with (first
    | (go_at_call 23; refine HC.out.mono ?_; rintro e w1 ⟨tv, rfl, ⟨rb, T, hT, hw⟩, hk⟩; have HK : Hid (∃ rb T, Tab (fun i => i < v.heap.size) l.length l.length tv rb T w1 ∧ (∀ i k, i < l.length → k < l.length → (T i k = true ↔ Rch (nd l) i k)) ∧ Kp (fun i => i < v.heap.size) v w1) := ⟨rb, T, hT, hw, hk⟩; clear hT hw hk))
  exact ⟨tv, ⟨rfl, rfl, by
    intro p hp
    simp only [List.mem_cons, List.not_mem_nil, or_false] at hp
    rcases hp with rfl | rfl <;> first | rfl | exact congrArg I (by omega) | exact congrArg Value.bool (by simp <;> omega) | exact congrArg Value.bool (by simp)⟩, HK.out⟩

set_option maxHeartbeats 1000000 in
set_option maxRecDepth 100000 in
theorem p5_6 {v : World} {a : Act} {x0 tv : Value} {Z : Nat → Prop} {l : List Rc} (hl : RL Z v x0 l) (hZ : ∀ i, Z i → i < v.heap.size) (hR : RIGHT l) (hA : Fl 194 [(0, x0), (5, tv)] a) :
    q5_6.wp Try.prog (fun e a' w' => e = .normal ∧ ∃ rv, (Fl 194 [(0, x0), (5, tv), (6, rv)] a' ∧ OwnI (fun i => i < v.heap.size) w' rv (ringsTo l l.length) ∧ Kp (fun i => i < v.heap.size) v w')) a v := by
  have HC : Hid (Calls Try.prog 12 #[x0] v _) := rings_any hl hZ
  have HR : Hid (RIGHT l) := hR
  clear hl hZ hR
  obtain ⟨hsz, hd, hp⟩ := hA
  obtain ⟨u, rfl, hg⟩ := litN hsz hd
  simp only [List.forall_mem_cons, hg] at hp
  obtain ⟨u0, u5, -⟩ := hp
  clear hg hsz hd
  unfold q5_6 C5 Try.f5 seq1 seq2
  simp only [Option.getD_some, lits, Nat.reduceAdd, u0, u5]
  clear u0 u5
  go_wp2_with (first
    | (go_at_call 12; refine HC.out.mono ?_; rintro e w1 ⟨rv, rfl, rs, hO, h100, -, hrs, hk⟩; have hrs' := hrs HR.out; subst hrs'; have HK : Hid (OwnI (fun i => i < v.heap.size) w1 rv (ringsTo l l.length) ∧ Kp (fun i => i < v.heap.size) v w1) := ⟨hO, hk⟩; clear hO h100 hrs hk))
  exact ⟨rv, ⟨rfl, rfl, by
    intro p hp
    simp only [List.mem_cons, List.not_mem_nil, or_false] at hp
    rcases hp with rfl | rfl | rfl <;> first | rfl | exact congrArg I (by omega) | exact congrArg Value.bool (by simp <;> omega) | exact congrArg Value.bool (by simp)⟩, HK.out⟩

set_option maxHeartbeats 1000000 in
set_option maxRecDepth 100000 in
theorem p5_7 {v : World} {a : Act} {b o n cap g ct rn rc : Nat} {rp : Option Addr}  (hA : Fl 194 [(0, .slice (some ⟨b, o, none⟩) n cap), (5, .slice (some ⟨g, 0, none⟩) n ct), (6, .slice rp rn rc)] a) :
    q5_7.wp Try.prog (fun e a' w' => e = .normal ∧ (Fl 194 [(0, .slice (some ⟨b, o, none⟩) n cap), (5, .slice (some ⟨g, 0, none⟩) n ct), (6, .slice rp rn rc), (7, I (0 : Nat))] a' ∧ w' = v)) a v := by
  obtain ⟨hsz, hd, hp⟩ := hA
  obtain ⟨u, rfl, hg⟩ := litN hsz hd
  simp only [List.forall_mem_cons, hg] at hp
  obtain ⟨u0, u5, u6, -⟩ := hp
  clear hg hsz hd
  unfold q5_7 C5 Try.f5 seq1 seq2
  simp only [Option.getD_some, lits, Nat.reduceAdd, u0, u5, u6]
  clear u0 u5 u6
  go_wp2_with fail
  first
    | exact ⟨⟨rfl, rfl, by
      intro p hp
      simp only [List.mem_cons, List.not_mem_nil, or_false] at hp
      rcases hp with rfl | rfl | rfl | rfl <;> first | rfl | exact congrArg I (by omega) | exact congrArg Value.bool (by simp <;> omega) | exact congrArg Value.bool (by simp)⟩, rfl⟩
    | exact ⟨rfl, rfl, by
      intro p hp
      simp only [List.mem_cons, List.not_mem_nil, or_false] at hp
      rcases hp with rfl | rfl | rfl | rfl <;> first | rfl | exact congrArg I (by omega) | exact congrArg Value.bool (by simp <;> omega) | exact congrArg Value.bool (by simp)⟩
    | exact ⟨rfl, ⟨rfl, rfl, by
      intro p hp
      simp only [List.mem_cons, List.not_mem_nil, or_false] at hp
      rcases hp with rfl | rfl | rfl | rfl <;> first | rfl | exact congrArg I (by omega) | exact congrArg Value.bool (by simp <;> omega) | exact congrArg Value.bool (by simp)⟩, rfl⟩

set_option maxHeartbeats 1000000 in
set_option maxRecDepth 100000 in
theorem p5_8 {v : World} {a : Act} {b o n cap g ct rn rc : Nat} {rp : Option Addr} {at_ : Nat}  (hA : Fl 194 [(0, .slice (some ⟨b, o, none⟩) n cap), (5, .slice (some ⟨g, 0, none⟩) n ct), (6, .slice rp rn rc), (7, I (at_ : Nat))] a) :
    q5_8.wp Try.prog (fun e a' w' => e = .normal ∧ (Fl 194 [(0, .slice (some ⟨b, o, none⟩) n cap), (5, .slice (some ⟨g, 0, none⟩) n ct), (6, .slice rp rn rc), (7, I (at_ : Nat)), (8, I (0 : Nat))] a' ∧ w' = v)) a v := by
  obtain ⟨hsz, hd, hp⟩ := hA
  obtain ⟨u, rfl, hg⟩ := litN hsz hd
  simp only [List.forall_mem_cons, hg] at hp
  obtain ⟨u0, u5, u6, u7, -⟩ := hp
  clear hg hsz hd
  unfold q5_8 C5 Try.f5 seq1 seq2
  simp only [Option.getD_some, lits, Nat.reduceAdd, u0, u5, u6, u7]
  clear u0 u5 u6 u7
  go_wp2_with fail
  first
    | exact ⟨⟨rfl, rfl, by
      intro p hp
      simp only [List.mem_cons, List.not_mem_nil, or_false] at hp
      rcases hp with rfl | rfl | rfl | rfl | rfl <;> first | rfl | exact congrArg I (by omega) | exact congrArg Value.bool (by simp <;> omega) | exact congrArg Value.bool (by simp)⟩, rfl⟩
    | exact ⟨rfl, rfl, by
      intro p hp
      simp only [List.mem_cons, List.not_mem_nil, or_false] at hp
      rcases hp with rfl | rfl | rfl | rfl | rfl <;> first | rfl | exact congrArg I (by omega) | exact congrArg Value.bool (by simp <;> omega) | exact congrArg Value.bool (by simp)⟩
    | exact ⟨rfl, ⟨rfl, rfl, by
      intro p hp
      simp only [List.mem_cons, List.not_mem_nil, or_false] at hp
      rcases hp with rfl | rfl | rfl | rfl | rfl <;> first | rfl | exact congrArg I (by omega) | exact congrArg Value.bool (by simp <;> omega) | exact congrArg Value.bool (by simp)⟩, rfl⟩

set_option maxHeartbeats 1000000 in
set_option maxRecDepth 100000 in
theorem p5_9 {v : World} {a : Act} {b o n cap g ct rn rc : Nat} {rp : Option Addr} {at_ : Nat} {i : Nat} (hn : n ≤ 100) (hrn : rn ≤ 100) (hA : Fl 194 [(0, .slice (some ⟨b, o, none⟩) n cap), (5, .slice (some ⟨g, 0, none⟩) n ct), (6, .slice rp rn rc), (7, I (at_ : Nat)), (8, I (i : Nat))] a) :
    q5_9.wp Try.prog (fun e a' w' => e = .normal ∧ (Fl 194 [(35, .bool (decide (i < n))), (0, .slice (some ⟨b, o, none⟩) n cap), (5, .slice (some ⟨g, 0, none⟩) n ct), (6, .slice rp rn rc), (7, I (at_ : Nat)), (8, I (i : Nat))] a' ∧ w' = v)) a v := by
  obtain ⟨hsz, hd, hp⟩ := hA
  obtain ⟨u, rfl, hg⟩ := litN hsz hd
  simp only [List.forall_mem_cons, hg] at hp
  obtain ⟨u0, u5, u6, u7, u8, -⟩ := hp
  clear hg hsz hd
  unfold q5_9 C5 Try.f5 seq1 seq2 blockC loopC
  simp only [Option.getD_some, lits, Nat.reduceAdd, u0, u5, u6, u7, u8]
  clear u0 u5 u6 u7 u8
  go_wp2_with fail
  first
    | exact ⟨⟨rfl, rfl, by
      intro p hp
      simp only [List.mem_cons, List.not_mem_nil, or_false] at hp
      rcases hp with rfl | rfl | rfl | rfl | rfl | rfl <;> first | rfl | exact congrArg I (by omega) | exact congrArg Value.bool (by simp <;> omega) | exact congrArg Value.bool (by simp)⟩, rfl⟩
    | exact ⟨rfl, rfl, by
      intro p hp
      simp only [List.mem_cons, List.not_mem_nil, or_false] at hp
      rcases hp with rfl | rfl | rfl | rfl | rfl | rfl <;> first | rfl | exact congrArg I (by omega) | exact congrArg Value.bool (by simp <;> omega) | exact congrArg Value.bool (by simp)⟩
    | exact ⟨rfl, ⟨rfl, rfl, by
      intro p hp
      simp only [List.mem_cons, List.not_mem_nil, or_false] at hp
      rcases hp with rfl | rfl | rfl | rfl | rfl | rfl <;> first | rfl | exact congrArg I (by omega) | exact congrArg Value.bool (by simp <;> omega) | exact congrArg Value.bool (by simp)⟩, rfl⟩

set_option maxHeartbeats 1000000 in
set_option maxRecDepth 100000 in
theorem p5_11_a {v : World} {a : Act} {b o n cap g ct rn rc : Nat} {rg ro : Nat} {at_ : Nat} {i : Nat} {x : Int} (hn : n ≤ 100) (hrn : rn ≤ 100) (h : at_ < rn) (c : v.cell? ⟨rg, ro + at_, none⟩ = some (I x)) (hA : Fl 194 [(0, .slice (some ⟨b, o, none⟩) n cap), (5, .slice (some ⟨g, 0, none⟩) n ct), (6, .slice (some ⟨rg, ro, none⟩) rn rc), (7, I (at_ : Nat)), (8, I (i : Nat))] a) :
    q5_11.wp Try.prog (fun e a' w' => e = .normal ∧ (Fl 194 [(0, .slice (some ⟨b, o, none⟩) n cap), (5, .slice (some ⟨g, 0, none⟩) n ct), (6, .slice (some ⟨rg, ro, none⟩) rn rc), (7, I (at_ : Nat)), (8, I (i : Nat)), (9, .bool (x == (i : Int)))] a' ∧ w' = v)) a v := by
  obtain ⟨hsz, hd, hp⟩ := hA
  obtain ⟨u, rfl, hg⟩ := litN hsz hd
  simp only [List.forall_mem_cons, hg] at hp
  obtain ⟨u0, u5, u6, u7, u8, -⟩ := hp
  clear hg hsz hd
  unfold q5_11 C5 Try.f5 seq1 seq2 blockC loopC
  simp only [Option.getD_some, lits, Nat.reduceAdd, u0, u5, u6, u7, u8]
  clear u0 u5 u6 u7 u8
  go_wp2_with fail
  first
    | exact ⟨⟨rfl, rfl, by
      intro p hp
      simp only [List.mem_cons, List.not_mem_nil, or_false] at hp
      rcases hp with rfl | rfl | rfl | rfl | rfl | rfl <;> first | rfl | exact congrArg I (by omega) | exact congrArg Value.bool (by simp <;> omega) | exact congrArg Value.bool (by simp)⟩, rfl⟩
    | exact ⟨rfl, rfl, by
      intro p hp
      simp only [List.mem_cons, List.not_mem_nil, or_false] at hp
      rcases hp with rfl | rfl | rfl | rfl | rfl | rfl <;> first | rfl | exact congrArg I (by omega) | exact congrArg Value.bool (by simp <;> omega) | exact congrArg Value.bool (by simp)⟩
    | exact ⟨rfl, ⟨rfl, rfl, by
      intro p hp
      simp only [List.mem_cons, List.not_mem_nil, or_false] at hp
      rcases hp with rfl | rfl | rfl | rfl | rfl | rfl <;> first | rfl | exact congrArg I (by omega) | exact congrArg Value.bool (by simp <;> omega) | exact congrArg Value.bool (by simp)⟩, rfl⟩

set_option maxHeartbeats 1000000 in
set_option maxRecDepth 100000 in
theorem p5_11_b {v : World} {a : Act} {b o n cap g ct rn rc : Nat} {rp : Option Addr} {at_ : Nat} {i : Nat} (hn : n ≤ 100) (hrn : rn ≤ 100) (h : ¬ (at_ : Int) < (rn : Int)) (hA : Fl 194 [(0, .slice (some ⟨b, o, none⟩) n cap), (5, .slice (some ⟨g, 0, none⟩) n ct), (6, .slice rp rn rc), (7, I (at_ : Nat)), (8, I (i : Nat))] a) :
    q5_11.wp Try.prog (fun e a' w' => e = .normal ∧ (Fl 194 [(0, .slice (some ⟨b, o, none⟩) n cap), (5, .slice (some ⟨g, 0, none⟩) n ct), (6, .slice rp rn rc), (7, I (at_ : Nat)), (8, I (i : Nat)), (9, .bool false)] a' ∧ w' = v)) a v := by
  obtain ⟨hsz, hd, hp⟩ := hA
  obtain ⟨u, rfl, hg⟩ := litN hsz hd
  simp only [List.forall_mem_cons, hg] at hp
  obtain ⟨u0, u5, u6, u7, u8, -⟩ := hp
  clear hg hsz hd
  unfold q5_11 C5 Try.f5 seq1 seq2 blockC loopC
  simp only [Option.getD_some, lits, Nat.reduceAdd, u0, u5, u6, u7, u8]
  clear u0 u5 u6 u7 u8
  go_wp2_with fail
  first
    | exact ⟨⟨rfl, rfl, by
      intro p hp
      simp only [List.mem_cons, List.not_mem_nil, or_false] at hp
      rcases hp with rfl | rfl | rfl | rfl | rfl | rfl <;> first | rfl | exact congrArg I (by omega) | exact congrArg Value.bool (by simp <;> omega) | exact congrArg Value.bool (by simp)⟩, rfl⟩
    | exact ⟨rfl, rfl, by
      intro p hp
      simp only [List.mem_cons, List.not_mem_nil, or_false] at hp
      rcases hp with rfl | rfl | rfl | rfl | rfl | rfl <;> first | rfl | exact congrArg I (by omega) | exact congrArg Value.bool (by simp <;> omega) | exact congrArg Value.bool (by simp)⟩
    | exact ⟨rfl, ⟨rfl, rfl, by
      intro p hp
      simp only [List.mem_cons, List.not_mem_nil, or_false] at hp
      rcases hp with rfl | rfl | rfl | rfl | rfl | rfl <;> first | rfl | exact congrArg I (by omega) | exact congrArg Value.bool (by simp <;> omega) | exact congrArg Value.bool (by simp)⟩, rfl⟩

set_option maxHeartbeats 1000000 in
set_option maxRecDepth 100000 in
theorem p5_12 {v : World} {a : Act} {b o n cap g ct rn rc : Nat} {rp : Option Addr} {at_ : Nat} {i : Nat} {inn : Bool} {ri : Nat} {y : Bool} (hn : n ≤ 100) (hrn : rn ≤ 100) (hi : i < n) (ci : v.cell? ⟨g, i, none⟩ = some (.slice (some ⟨ri, 0, none⟩) n n)) (cy : v.cell? ⟨ri, i, none⟩ = some (.bool y)) (hA : Fl 194 [(0, .slice (some ⟨b, o, none⟩) n cap), (5, .slice (some ⟨g, 0, none⟩) n ct), (6, .slice rp rn rc), (7, I (at_ : Nat)), (8, I (i : Nat)), (9, .bool inn)] a) :
    q5_12.wp Try.prog (fun e a' w' => e = .normal ∧ (Fl 194 [(58, .bool (inn != y)), (0, .slice (some ⟨b, o, none⟩) n cap), (5, .slice (some ⟨g, 0, none⟩) n ct), (6, .slice rp rn rc), (7, I (at_ : Nat)), (8, I (i : Nat)), (9, .bool inn)] a' ∧ w' = v)) a v := by
  obtain ⟨hsz, hd, hp⟩ := hA
  obtain ⟨u, rfl, hg⟩ := litN hsz hd
  simp only [List.forall_mem_cons, hg] at hp
  obtain ⟨u0, u5, u6, u7, u8, u9, -⟩ := hp
  clear hg hsz hd
  unfold q5_12 C5 Try.f5 seq1 seq2 blockC loopC
  simp only [Option.getD_some, lits, Nat.reduceAdd, u0, u5, u6, u7, u8, u9]
  clear u0 u5 u6 u7 u8 u9
  go_wp2_with fail
  first
    | exact ⟨⟨rfl, rfl, by
      intro p hp
      simp only [List.mem_cons, List.not_mem_nil, or_false] at hp
      rcases hp with rfl | rfl | rfl | rfl | rfl | rfl | rfl <;> first | rfl | exact congrArg I (by omega) | exact congrArg Value.bool (by simp <;> omega) | exact congrArg Value.bool (by simp)⟩, rfl⟩
    | exact ⟨rfl, rfl, by
      intro p hp
      simp only [List.mem_cons, List.not_mem_nil, or_false] at hp
      rcases hp with rfl | rfl | rfl | rfl | rfl | rfl | rfl <;> first | rfl | exact congrArg I (by omega) | exact congrArg Value.bool (by simp <;> omega) | exact congrArg Value.bool (by simp)⟩
    | exact ⟨rfl, ⟨rfl, rfl, by
      intro p hp
      simp only [List.mem_cons, List.not_mem_nil, or_false] at hp
      rcases hp with rfl | rfl | rfl | rfl | rfl | rfl | rfl <;> first | rfl | exact congrArg I (by omega) | exact congrArg Value.bool (by simp <;> omega) | exact congrArg Value.bool (by simp)⟩, rfl⟩

set_option maxHeartbeats 1000000 in
set_option maxRecDepth 100000 in
theorem p5_14 {v : World} {a : Act} {b o n cap g ct rn rc : Nat} {rp : Option Addr} {at_ : Nat} {i : Nat} {inn : Bool}  (hA : Fl 194 [(0, .slice (some ⟨b, o, none⟩) n cap), (5, .slice (some ⟨g, 0, none⟩) n ct), (6, .slice rp rn rc), (7, I (at_ : Nat)), (8, I (i : Nat)), (9, .bool inn)] a) :
    q5_14.wp Try.prog (fun e a' w' => e = .normal ∧ (Fl 194 [(59, .bool inn), (0, .slice (some ⟨b, o, none⟩) n cap), (5, .slice (some ⟨g, 0, none⟩) n ct), (6, .slice rp rn rc), (7, I (at_ : Nat)), (8, I (i : Nat)), (9, .bool inn)] a' ∧ w' = v)) a v := by
  obtain ⟨hsz, hd, hp⟩ := hA
  obtain ⟨u, rfl, hg⟩ := litN hsz hd
  simp only [List.forall_mem_cons, hg] at hp
  obtain ⟨u0, u5, u6, u7, u8, u9, -⟩ := hp
  clear hg hsz hd
  unfold q5_14 C5 Try.f5 seq1 seq2 blockC loopC
  simp only [Option.getD_some, lits, Nat.reduceAdd, u0, u5, u6, u7, u8, u9]
  clear u0 u5 u6 u7 u8 u9
  go_wp2_with fail
  first
    | exact ⟨⟨rfl, rfl, by
      intro p hp
      simp only [List.mem_cons, List.not_mem_nil, or_false] at hp
      rcases hp with rfl | rfl | rfl | rfl | rfl | rfl | rfl <;> first | rfl | exact congrArg I (by omega) | exact congrArg Value.bool (by simp <;> omega) | exact congrArg Value.bool (by simp)⟩, rfl⟩
    | exact ⟨rfl, rfl, by
      intro p hp
      simp only [List.mem_cons, List.not_mem_nil, or_false] at hp
      rcases hp with rfl | rfl | rfl | rfl | rfl | rfl | rfl <;> first | rfl | exact congrArg I (by omega) | exact congrArg Value.bool (by simp <;> omega) | exact congrArg Value.bool (by simp)⟩
    | exact ⟨rfl, ⟨rfl, rfl, by
      intro p hp
      simp only [List.mem_cons, List.not_mem_nil, or_false] at hp
      rcases hp with rfl | rfl | rfl | rfl | rfl | rfl | rfl <;> first | rfl | exact congrArg I (by omega) | exact congrArg Value.bool (by simp <;> omega) | exact congrArg Value.bool (by simp)⟩, rfl⟩

set_option maxHeartbeats 1000000 in
set_option maxRecDepth 100000 in
theorem p5_15 {v : World} {a : Act} {b o n cap g ct rn rc : Nat} {rp : Option Addr} {at_ : Nat} {i : Nat} {inn : Bool} (ha : at_ ≤ 100) (hA : Fl 194 [(0, .slice (some ⟨b, o, none⟩) n cap), (5, .slice (some ⟨g, 0, none⟩) n ct), (6, .slice rp rn rc), (7, I (at_ : Nat)), (8, I (i : Nat)), (9, .bool inn)] a) :
    q5_15.wp Try.prog (fun e a' w' => e = .normal ∧ (Fl 194 [(0, .slice (some ⟨b, o, none⟩) n cap), (5, .slice (some ⟨g, 0, none⟩) n ct), (6, .slice rp rn rc), (7, I ((at_ + 1 : Nat) : Int)), (8, I (i : Nat)), (9, .bool inn)] a' ∧ w' = v)) a v := by
  obtain ⟨hsz, hd, hp⟩ := hA
  obtain ⟨u, rfl, hg⟩ := litN hsz hd
  simp only [List.forall_mem_cons, hg] at hp
  obtain ⟨u0, u5, u6, u7, u8, u9, -⟩ := hp
  clear hg hsz hd
  unfold q5_15 C5 Try.f5 seq1 seq2 condA blockC loopC
  simp only [Option.getD_some, lits, Nat.reduceAdd, u0, u5, u6, u7, u8, u9]
  clear u0 u5 u6 u7 u8 u9
  go_wp2_with fail
  first
    | exact ⟨⟨rfl, rfl, by
      intro p hp
      simp only [List.mem_cons, List.not_mem_nil, or_false] at hp
      rcases hp with rfl | rfl | rfl | rfl | rfl | rfl <;> first | rfl | exact congrArg I (by omega) | exact congrArg Value.bool (by simp <;> omega) | exact congrArg Value.bool (by simp)⟩, rfl⟩
    | exact ⟨rfl, rfl, by
      intro p hp
      simp only [List.mem_cons, List.not_mem_nil, or_false] at hp
      rcases hp with rfl | rfl | rfl | rfl | rfl | rfl <;> first | rfl | exact congrArg I (by omega) | exact congrArg Value.bool (by simp <;> omega) | exact congrArg Value.bool (by simp)⟩
    | exact ⟨rfl, ⟨rfl, rfl, by
      intro p hp
      simp only [List.mem_cons, List.not_mem_nil, or_false] at hp
      rcases hp with rfl | rfl | rfl | rfl | rfl | rfl <;> first | rfl | exact congrArg I (by omega) | exact congrArg Value.bool (by simp <;> omega) | exact congrArg Value.bool (by simp)⟩, rfl⟩

set_option maxHeartbeats 1000000 in
set_option maxRecDepth 100000 in
theorem p5_16_a {v : World} {a : Act} {b o n cap g ct rn rc : Nat} {rp : Option Addr} {at_ : Nat} {i : Nat} {inn : Bool} {ac : Int} (hn : n ≤ 100) (hrn : rn ≤ 100) (ca : v.cell? ⟨b, o + i * 5 + 2, none⟩ = some (I ac)) (hi : i < n) (h : (ac == 0) = true) (hA : Fl 194 [(0, .slice (some ⟨b, o, none⟩) n cap), (5, .slice (some ⟨g, 0, none⟩) n ct), (6, .slice rp rn rc), (7, I (at_ : Nat)), (8, I (i : Nat)), (9, .bool inn)] a) :
    q5_16.wp Try.prog (fun e a' w' => e = .normal ∧ (Fl 194 [(0, .slice (some ⟨b, o, none⟩) n cap), (5, .slice (some ⟨g, 0, none⟩) n ct), (6, .slice rp rn rc), (7, I (at_ : Nat)), (8, I (i : Nat)), (9, .bool inn), (10, .bool (!inn))] a' ∧ w' = v)) a v := by
  obtain ⟨hsz, hd, hp⟩ := hA
  obtain ⟨u, rfl, hg⟩ := litN hsz hd
  simp only [List.forall_mem_cons, hg] at hp
  obtain ⟨u0, u5, u6, u7, u8, u9, -⟩ := hp
  clear hg hsz hd
  unfold q5_16 C5 Try.f5 seq1 seq2 blockC loopC
  simp only [Option.getD_some, lits, Nat.reduceAdd, u0, u5, u6, u7, u8, u9]
  clear u0 u5 u6 u7 u8 u9
  go_wp2_with fail
  first
    | exact ⟨⟨rfl, rfl, by
      intro p hp
      simp only [List.mem_cons, List.not_mem_nil, or_false] at hp
      rcases hp with rfl | rfl | rfl | rfl | rfl | rfl | rfl <;> first | rfl | exact congrArg I (by omega) | exact congrArg Value.bool (by simp <;> omega) | exact congrArg Value.bool (by simp)⟩, rfl⟩
    | exact ⟨rfl, rfl, by
      intro p hp
      simp only [List.mem_cons, List.not_mem_nil, or_false] at hp
      rcases hp with rfl | rfl | rfl | rfl | rfl | rfl | rfl <;> first | rfl | exact congrArg I (by omega) | exact congrArg Value.bool (by simp <;> omega) | exact congrArg Value.bool (by simp)⟩
    | exact ⟨rfl, ⟨rfl, rfl, by
      intro p hp
      simp only [List.mem_cons, List.not_mem_nil, or_false] at hp
      rcases hp with rfl | rfl | rfl | rfl | rfl | rfl | rfl <;> first | rfl | exact congrArg I (by omega) | exact congrArg Value.bool (by simp <;> omega) | exact congrArg Value.bool (by simp)⟩, rfl⟩

set_option maxHeartbeats 1000000 in
set_option maxRecDepth 100000 in
theorem p5_16_b {v : World} {a : Act} {b o n cap g ct rn rc : Nat} {rp : Option Addr} {at_ : Nat} {i : Nat} {inn : Bool} {ac : Int} (hn : n ≤ 100) (hrn : rn ≤ 100) (ca : v.cell? ⟨b, o + i * 5 + 2, none⟩ = some (I ac)) (hi : i < n) (h : (ac == 0) = false) (hA : Fl 194 [(0, .slice (some ⟨b, o, none⟩) n cap), (5, .slice (some ⟨g, 0, none⟩) n ct), (6, .slice rp rn rc), (7, I (at_ : Nat)), (8, I (i : Nat)), (9, .bool inn)] a) :
    q5_16.wp Try.prog (fun e a' w' => e = .normal ∧ (Fl 194 [(0, .slice (some ⟨b, o, none⟩) n cap), (5, .slice (some ⟨g, 0, none⟩) n ct), (6, .slice rp rn rc), (7, I (at_ : Nat)), (8, I (i : Nat)), (9, .bool inn), (10, .bool false)] a' ∧ w' = v)) a v := by
  obtain ⟨hsz, hd, hp⟩ := hA
  obtain ⟨u, rfl, hg⟩ := litN hsz hd
  simp only [List.forall_mem_cons, hg] at hp
  obtain ⟨u0, u5, u6, u7, u8, u9, -⟩ := hp
  clear hg hsz hd
  unfold q5_16 C5 Try.f5 seq1 seq2 blockC loopC
  simp only [Option.getD_some, lits, Nat.reduceAdd, u0, u5, u6, u7, u8, u9]
  clear u0 u5 u6 u7 u8 u9
  go_wp2_with fail
  first
    | exact ⟨⟨rfl, rfl, by
      intro p hp
      simp only [List.mem_cons, List.not_mem_nil, or_false] at hp
      rcases hp with rfl | rfl | rfl | rfl | rfl | rfl | rfl <;> first | rfl | exact congrArg I (by omega) | exact congrArg Value.bool (by simp <;> omega) | exact congrArg Value.bool (by simp)⟩, rfl⟩
    | exact ⟨rfl, rfl, by
      intro p hp
      simp only [List.mem_cons, List.not_mem_nil, or_false] at hp
      rcases hp with rfl | rfl | rfl | rfl | rfl | rfl | rfl <;> first | rfl | exact congrArg I (by omega) | exact congrArg Value.bool (by simp <;> omega) | exact congrArg Value.bool (by simp)⟩
    | exact ⟨rfl, ⟨rfl, rfl, by
      intro p hp
      simp only [List.mem_cons, List.not_mem_nil, or_false] at hp
      rcases hp with rfl | rfl | rfl | rfl | rfl | rfl | rfl <;> first | rfl | exact congrArg I (by omega) | exact congrArg Value.bool (by simp <;> omega) | exact congrArg Value.bool (by simp)⟩, rfl⟩

set_option maxHeartbeats 1000000 in
set_option maxRecDepth 100000 in
theorem p5_17 {v : World} {a : Act} {b o n cap g ct rn rc : Nat} {rp : Option Addr} {at_ : Nat} {i : Nat} {inn : Bool} {can : Bool}  (hA : Fl 194 [(0, .slice (some ⟨b, o, none⟩) n cap), (5, .slice (some ⟨g, 0, none⟩) n ct), (6, .slice rp rn rc), (7, I (at_ : Nat)), (8, I (i : Nat)), (9, .bool inn), (10, .bool can)] a) :
    q5_17.wp Try.prog (fun e a' w' => e = .normal ∧ (Fl 194 [(0, .slice (some ⟨b, o, none⟩) n cap), (5, .slice (some ⟨g, 0, none⟩) n ct), (6, .slice rp rn rc), (7, I (at_ : Nat)), (8, I (i : Nat)), (9, .bool inn), (10, .bool can), (11, I (0 : Nat))] a' ∧ w' = v)) a v := by
  obtain ⟨hsz, hd, hp⟩ := hA
  obtain ⟨u, rfl, hg⟩ := litN hsz hd
  simp only [List.forall_mem_cons, hg] at hp
  obtain ⟨u0, u5, u6, u7, u8, u9, u10, -⟩ := hp
  clear hg hsz hd
  unfold q5_17 C5 Try.f5 seq1 seq2 blockC loopC
  simp only [Option.getD_some, lits, Nat.reduceAdd, u0, u5, u6, u7, u8, u9, u10]
  clear u0 u5 u6 u7 u8 u9 u10
  go_wp2_with fail
  first
    | exact ⟨⟨rfl, rfl, by
      intro p hp
      simp only [List.mem_cons, List.not_mem_nil, or_false] at hp
      rcases hp with rfl | rfl | rfl | rfl | rfl | rfl | rfl | rfl <;> first | rfl | exact congrArg I (by omega) | exact congrArg Value.bool (by simp <;> omega) | exact congrArg Value.bool (by simp)⟩, rfl⟩
    | exact ⟨rfl, rfl, by
      intro p hp
      simp only [List.mem_cons, List.not_mem_nil, or_false] at hp
      rcases hp with rfl | rfl | rfl | rfl | rfl | rfl | rfl | rfl <;> first | rfl | exact congrArg I (by omega) | exact congrArg Value.bool (by simp <;> omega) | exact congrArg Value.bool (by simp)⟩
    | exact ⟨rfl, ⟨rfl, rfl, by
      intro p hp
      simp only [List.mem_cons, List.not_mem_nil, or_false] at hp
      rcases hp with rfl | rfl | rfl | rfl | rfl | rfl | rfl | rfl <;> first | rfl | exact congrArg I (by omega) | exact congrArg Value.bool (by simp <;> omega) | exact congrArg Value.bool (by simp)⟩, rfl⟩

set_option maxHeartbeats 1000000 in
set_option maxRecDepth 100000 in
theorem p5_18 {v : World} {a : Act} {b o n cap g ct rn rc : Nat} {rp : Option Addr} {at_ : Nat} {i : Nat} {inn : Bool} {can : Bool} {k : Nat} (hn : n ≤ 100) (hrn : rn ≤ 100) (hA : Fl 194 [(0, .slice (some ⟨b, o, none⟩) n cap), (5, .slice (some ⟨g, 0, none⟩) n ct), (6, .slice rp rn rc), (7, I (at_ : Nat)), (8, I (i : Nat)), (9, .bool inn), (10, .bool can), (11, I (k : Nat))] a) :
    q5_18.wp Try.prog (fun e a' w' => e = .normal ∧ (Fl 194 [(75, .bool (decide (k < n))), (0, .slice (some ⟨b, o, none⟩) n cap), (5, .slice (some ⟨g, 0, none⟩) n ct), (6, .slice rp rn rc), (7, I (at_ : Nat)), (8, I (i : Nat)), (9, .bool inn), (10, .bool can), (11, I (k : Nat))] a' ∧ w' = v)) a v := by
  obtain ⟨hsz, hd, hp⟩ := hA
  obtain ⟨u, rfl, hg⟩ := litN hsz hd
  simp only [List.forall_mem_cons, hg] at hp
  obtain ⟨u0, u5, u6, u7, u8, u9, u10, u11, -⟩ := hp
  clear hg hsz hd
  unfold q5_18 C5 Try.f5 seq1 seq2 blockC loopC
  simp only [Option.getD_some, lits, Nat.reduceAdd, u0, u5, u6, u7, u8, u9, u10, u11]
  clear u0 u5 u6 u7 u8 u9 u10 u11
  go_wp2_with fail
  first
    | exact ⟨⟨rfl, rfl, by
      intro p hp
      simp only [List.mem_cons, List.not_mem_nil, or_false] at hp
      rcases hp with rfl | rfl | rfl | rfl | rfl | rfl | rfl | rfl | rfl <;> first | rfl | exact congrArg I (by omega) | exact congrArg Value.bool (by simp <;> omega) | exact congrArg Value.bool (by simp)⟩, rfl⟩
    | exact ⟨rfl, rfl, by
      intro p hp
      simp only [List.mem_cons, List.not_mem_nil, or_false] at hp
      rcases hp with rfl | rfl | rfl | rfl | rfl | rfl | rfl | rfl | rfl <;> first | rfl | exact congrArg I (by omega) | exact congrArg Value.bool (by simp <;> omega) | exact congrArg Value.bool (by simp)⟩
    | exact ⟨rfl, ⟨rfl, rfl, by
      intro p hp
      simp only [List.mem_cons, List.not_mem_nil, or_false] at hp
      rcases hp with rfl | rfl | rfl | rfl | rfl | rfl | rfl | rfl | rfl <;> first | rfl | exact congrArg I (by omega) | exact congrArg Value.bool (by simp <;> omega) | exact congrArg Value.bool (by simp)⟩, rfl⟩

set_option maxHeartbeats 1000000 in
set_option maxRecDepth 100000 in
theorem p5_20 {v : World} {a : Act} {b o n cap g ct rn rc : Nat} {rp : Option Addr} {at_ : Nat} {i : Nat} {inn : Bool} {can : Bool} {k : Nat} {ri : Nat} {y : Bool} (hn : n ≤ 100) (hrn : rn ≤ 100) (hi : i < n) (ci : v.cell? ⟨g, i, none⟩ = some (.slice (some ⟨ri, 0, none⟩) n n)) (hk : k < n) (cy : v.cell? ⟨ri, k, none⟩ = some (.bool y)) (hA : Fl 194 [(0, .slice (some ⟨b, o, none⟩) n cap), (5, .slice (some ⟨g, 0, none⟩) n ct), (6, .slice rp rn rc), (7, I (at_ : Nat)), (8, I (i : Nat)), (9, .bool inn), (10, .bool can), (11, I (k : Nat))] a) :
    q5_20.wp Try.prog (fun e a' w' => e = .normal ∧ (Fl 194 [(84, .bool y), (0, .slice (some ⟨b, o, none⟩) n cap), (5, .slice (some ⟨g, 0, none⟩) n ct), (6, .slice rp rn rc), (7, I (at_ : Nat)), (8, I (i : Nat)), (9, .bool inn), (10, .bool can), (11, I (k : Nat))] a' ∧ w' = v)) a v := by
  obtain ⟨hsz, hd, hp⟩ := hA
  obtain ⟨u, rfl, hg⟩ := litN hsz hd
  simp only [List.forall_mem_cons, hg] at hp
  obtain ⟨u0, u5, u6, u7, u8, u9, u10, u11, -⟩ := hp
  clear hg hsz hd
  unfold q5_20 C5 Try.f5 seq1 seq2 blockC loopC
  simp only [Option.getD_some, lits, Nat.reduceAdd, u0, u5, u6, u7, u8, u9, u10, u11]
  clear u0 u5 u6 u7 u8 u9 u10 u11
  go_wp2_with fail
  first
    | exact ⟨⟨rfl, rfl, by
      intro p hp
      simp only [List.mem_cons, List.not_mem_nil, or_false] at hp
      rcases hp with rfl | rfl | rfl | rfl | rfl | rfl | rfl | rfl | rfl <;> first | rfl | exact congrArg I (by omega) | exact congrArg Value.bool (by simp <;> omega) | exact congrArg Value.bool (by simp)⟩, rfl⟩
    | exact ⟨rfl, rfl, by
      intro p hp
      simp only [List.mem_cons, List.not_mem_nil, or_false] at hp
      rcases hp with rfl | rfl | rfl | rfl | rfl | rfl | rfl | rfl | rfl <;> first | rfl | exact congrArg I (by omega) | exact congrArg Value.bool (by simp <;> omega) | exact congrArg Value.bool (by simp)⟩
    | exact ⟨rfl, ⟨rfl, rfl, by
      intro p hp
      simp only [List.mem_cons, List.not_mem_nil, or_false] at hp
      rcases hp with rfl | rfl | rfl | rfl | rfl | rfl | rfl | rfl | rfl <;> first | rfl | exact congrArg I (by omega) | exact congrArg Value.bool (by simp <;> omega) | exact congrArg Value.bool (by simp)⟩, rfl⟩

set_option maxHeartbeats 1000000 in
set_option maxRecDepth 100000 in
theorem p5_21_a {v : World} {a : Act} {b o n cap g ct rn rc : Nat} {rp : Option Addr} {at_ : Nat} {i : Nat} {inn : Bool} {k : Nat} (hn : n ≤ 100) (hrn : rn ≤ 100) (hA : Fl 194 [(0, .slice (some ⟨b, o, none⟩) n cap), (5, .slice (some ⟨g, 0, none⟩) n ct), (6, .slice rp rn rc), (7, I (at_ : Nat)), (8, I (i : Nat)), (9, .bool inn), (10, .bool false), (11, I (k : Nat))] a) :
    q5_21.wp Try.prog (fun e a' w' => e = .normal ∧ (Fl 194 [(0, .slice (some ⟨b, o, none⟩) n cap), (5, .slice (some ⟨g, 0, none⟩) n ct), (6, .slice rp rn rc), (7, I (at_ : Nat)), (8, I (i : Nat)), (9, .bool inn), (10, .bool false), (11, I (k : Nat))] a' ∧ w' = v)) a v := by
  obtain ⟨hsz, hd, hp⟩ := hA
  obtain ⟨u, rfl, hg⟩ := litN hsz hd
  simp only [List.forall_mem_cons, hg] at hp
  obtain ⟨u0, u5, u6, u7, u8, u9, u10, u11, -⟩ := hp
  clear hg hsz hd
  unfold q5_21 C5 Try.f5 seq1 seq2 condA blockC loopC
  simp only [Option.getD_some, lits, Nat.reduceAdd, u0, u5, u6, u7, u8, u9, u10, u11]
  clear u0 u5 u6 u7 u8 u9 u10 u11
  go_wp2_with fail
  first
    | exact ⟨⟨rfl, rfl, by
      intro p hp
      simp only [List.mem_cons, List.not_mem_nil, or_false] at hp
      rcases hp with rfl | rfl | rfl | rfl | rfl | rfl | rfl | rfl <;> first | rfl | exact congrArg I (by omega) | exact congrArg Value.bool (by simp <;> omega) | exact congrArg Value.bool (by simp)⟩, rfl⟩
    | exact ⟨rfl, rfl, by
      intro p hp
      simp only [List.mem_cons, List.not_mem_nil, or_false] at hp
      rcases hp with rfl | rfl | rfl | rfl | rfl | rfl | rfl | rfl <;> first | rfl | exact congrArg I (by omega) | exact congrArg Value.bool (by simp <;> omega) | exact congrArg Value.bool (by simp)⟩
    | exact ⟨rfl, ⟨rfl, rfl, by
      intro p hp
      simp only [List.mem_cons, List.not_mem_nil, or_false] at hp
      rcases hp with rfl | rfl | rfl | rfl | rfl | rfl | rfl | rfl <;> first | rfl | exact congrArg I (by omega) | exact congrArg Value.bool (by simp <;> omega) | exact congrArg Value.bool (by simp)⟩, rfl⟩

set_option maxHeartbeats 1000000 in
set_option maxRecDepth 100000 in
theorem p5_21_b {v : World} {a : Act} {b o n cap g ct rn rc : Nat} {rp : Option Addr} {at_ : Nat} {i : Nat} {inn : Bool} {k rk : Nat} {y : Bool} {ac : Int} (hn : n ≤ 100) (hrn : rn ≤ 100) (hk : k < n) (ck : v.cell? ⟨g, k, none⟩ = some (.slice (some ⟨rk, 0, none⟩) n n)) (ckk : v.cell? ⟨rk, k, none⟩ = some (.bool y)) (ca : v.cell? ⟨b, o + k * 5 + 2, none⟩ = some (I ac)) (h : (ac == 0) = false) (hA : Fl 194 [(0, .slice (some ⟨b, o, none⟩) n cap), (5, .slice (some ⟨g, 0, none⟩) n ct), (6, .slice rp rn rc), (7, I (at_ : Nat)), (8, I (i : Nat)), (9, .bool inn), (10, .bool true), (11, I (k : Nat))] a) :
    q5_21.wp Try.prog (fun e a' w' => e = .normal ∧ (Fl 194 [(0, .slice (some ⟨b, o, none⟩) n cap), (5, .slice (some ⟨g, 0, none⟩) n ct), (6, .slice rp rn rc), (7, I (at_ : Nat)), (8, I (i : Nat)), (9, .bool inn), (10, .bool false), (11, I (k : Nat))] a' ∧ w' = v)) a v := by
  obtain ⟨hsz, hd, hp⟩ := hA
  obtain ⟨u, rfl, hg⟩ := litN hsz hd
  simp only [List.forall_mem_cons, hg] at hp
  obtain ⟨u0, u5, u6, u7, u8, u9, u10, u11, -⟩ := hp
  clear hg hsz hd
  unfold q5_21 C5 Try.f5 seq1 seq2 condA blockC loopC
  simp only [Option.getD_some, lits, Nat.reduceAdd, u0, u5, u6, u7, u8, u9, u10, u11]
  clear u0 u5 u6 u7 u8 u9 u10 u11
  go_wp2_with fail
  first
    | exact ⟨⟨rfl, rfl, by
      intro p hp
      simp only [List.mem_cons, List.not_mem_nil, or_false] at hp
      rcases hp with rfl | rfl | rfl | rfl | rfl | rfl | rfl | rfl <;> first | rfl | exact congrArg I (by omega) | exact congrArg Value.bool (by simp <;> omega) | exact congrArg Value.bool (by simp)⟩, rfl⟩
    | exact ⟨rfl, rfl, by
      intro p hp
      simp only [List.mem_cons, List.not_mem_nil, or_false] at hp
      rcases hp with rfl | rfl | rfl | rfl | rfl | rfl | rfl | rfl <;> first | rfl | exact congrArg I (by omega) | exact congrArg Value.bool (by simp <;> omega) | exact congrArg Value.bool (by simp)⟩
    | exact ⟨rfl, ⟨rfl, rfl, by
      intro p hp
      simp only [List.mem_cons, List.not_mem_nil, or_false] at hp
      rcases hp with rfl | rfl | rfl | rfl | rfl | rfl | rfl | rfl <;> first | rfl | exact congrArg I (by omega) | exact congrArg Value.bool (by simp <;> omega) | exact congrArg Value.bool (by simp)⟩, rfl⟩

set_option maxHeartbeats 1000000 in
set_option maxRecDepth 100000 in
theorem p5_21_c {v : World} {a : Act} {b o n cap g ct rn rc : Nat} {rp : Option Addr} {at_ : Nat} {i : Nat} {inn : Bool} {k rk : Nat} {y : Bool} {ac : Int} (hn : n ≤ 100) (hrn : rn ≤ 100) (hk : k < n) (ck : v.cell? ⟨g, k, none⟩ = some (.slice (some ⟨rk, 0, none⟩) n n)) (ckk : v.cell? ⟨rk, k, none⟩ = some (.bool y)) (ca : v.cell? ⟨b, o + k * 5 + 2, none⟩ = some (I ac)) (h : (ac == 0) = true) (hA : Fl 194 [(0, .slice (some ⟨b, o, none⟩) n cap), (5, .slice (some ⟨g, 0, none⟩) n ct), (6, .slice rp rn rc), (7, I (at_ : Nat)), (8, I (i : Nat)), (9, .bool inn), (10, .bool true), (11, I (k : Nat))] a) :
    q5_21.wp Try.prog (fun e a' w' => e = .normal ∧ (Fl 194 [(0, .slice (some ⟨b, o, none⟩) n cap), (5, .slice (some ⟨g, 0, none⟩) n ct), (6, .slice rp rn rc), (7, I (at_ : Nat)), (8, I (i : Nat)), (9, .bool inn), (10, .bool (!y)), (11, I (k : Nat))] a' ∧ w' = v)) a v := by
  obtain ⟨hsz, hd, hp⟩ := hA
  obtain ⟨u, rfl, hg⟩ := litN hsz hd
  simp only [List.forall_mem_cons, hg] at hp
  obtain ⟨u0, u5, u6, u7, u8, u9, u10, u11, -⟩ := hp
  clear hg hsz hd
  unfold q5_21 C5 Try.f5 seq1 seq2 condA blockC loopC
  simp only [Option.getD_some, lits, Nat.reduceAdd, u0, u5, u6, u7, u8, u9, u10, u11]
  clear u0 u5 u6 u7 u8 u9 u10 u11
  go_wp2_with fail
  first
    | exact ⟨⟨rfl, rfl, by
      intro p hp
      simp only [List.mem_cons, List.not_mem_nil, or_false] at hp
      rcases hp with rfl | rfl | rfl | rfl | rfl | rfl | rfl | rfl <;> first | rfl | exact congrArg I (by omega) | exact congrArg Value.bool (by simp <;> omega) | exact congrArg Value.bool (by simp)⟩, rfl⟩
    | exact ⟨rfl, rfl, by
      intro p hp
      simp only [List.mem_cons, List.not_mem_nil, or_false] at hp
      rcases hp with rfl | rfl | rfl | rfl | rfl | rfl | rfl | rfl <;> first | rfl | exact congrArg I (by omega) | exact congrArg Value.bool (by simp <;> omega) | exact congrArg Value.bool (by simp)⟩
    | exact ⟨rfl, ⟨rfl, rfl, by
      intro p hp
      simp only [List.mem_cons, List.not_mem_nil, or_false] at hp
      rcases hp with rfl | rfl | rfl | rfl | rfl | rfl | rfl | rfl <;> first | rfl | exact congrArg I (by omega) | exact congrArg Value.bool (by simp <;> omega) | exact congrArg Value.bool (by simp)⟩, rfl⟩

set_option maxHeartbeats 1000000 in
set_option maxRecDepth 100000 in
theorem p5_22_a {v : World} {a : Act} {b o n cap g ct rn rc : Nat} {rp : Option Addr} {at_ : Nat} {i : Nat} {inn : Bool} {can : Bool} {k : Nat} {rk : Nat} (hn : n ≤ 100) (hrn : rn ≤ 100) (hi : i < n) (hk : k < n) (ck : v.cell? ⟨g, k, none⟩ = some (.slice (some ⟨rk, 0, none⟩) n n)) (cki : v.cell? ⟨rk, i, none⟩ = some (.bool false)) (hA : Fl 194 [(0, .slice (some ⟨b, o, none⟩) n cap), (5, .slice (some ⟨g, 0, none⟩) n ct), (6, .slice rp rn rc), (7, I (at_ : Nat)), (8, I (i : Nat)), (9, .bool inn), (10, .bool can), (11, I (k : Nat))] a) :
    q5_22.wp Try.prog (fun e a' w' => e = .normal ∧ (Fl 194 [(123, .bool false), (0, .slice (some ⟨b, o, none⟩) n cap), (5, .slice (some ⟨g, 0, none⟩) n ct), (6, .slice rp rn rc), (7, I (at_ : Nat)), (8, I (i : Nat)), (9, .bool inn), (10, .bool can), (11, I (k : Nat))] a' ∧ ∃ m, w' = v.drewN m)) a v := by
  obtain ⟨hsz, hd, hp⟩ := hA
  obtain ⟨u, rfl, hg⟩ := litN hsz hd
  simp only [List.forall_mem_cons, hg] at hp
  obtain ⟨u0, u5, u6, u7, u8, u9, u10, u11, -⟩ := hp
  clear hg hsz hd
  unfold q5_22 C5 Try.f5 seq1 seq2 condA blockC loopC
  simp only [Option.getD_some, lits, Nat.reduceAdd, u0, u5, u6, u7, u8, u9, u10, u11]
  clear u0 u5 u6 u7 u8 u9 u10 u11
  go_quiet (fail)
  first
    | exact ⟨⟨rfl, rfl, by
      intro p hp
      simp only [List.mem_cons, List.not_mem_nil, or_false] at hp
      rcases hp with rfl | rfl | rfl | rfl | rfl | rfl | rfl | rfl | rfl <;> first | rfl | exact congrArg I (by omega) | exact congrArg Value.bool (by simp <;> omega) | exact congrArg Value.bool (by simp)⟩, ⟨_, rfl⟩⟩
    | exact ⟨rfl, rfl, by
      intro p hp
      simp only [List.mem_cons, List.not_mem_nil, or_false] at hp
      rcases hp with rfl | rfl | rfl | rfl | rfl | rfl | rfl | rfl | rfl <;> first | rfl | exact congrArg I (by omega) | exact congrArg Value.bool (by simp <;> omega) | exact congrArg Value.bool (by simp)⟩
    | exact ⟨rfl, ⟨rfl, rfl, by
      intro p hp
      simp only [List.mem_cons, List.not_mem_nil, or_false] at hp
      rcases hp with rfl | rfl | rfl | rfl | rfl | rfl | rfl | rfl | rfl <;> first | rfl | exact congrArg I (by omega) | exact congrArg Value.bool (by simp <;> omega) | exact congrArg Value.bool (by simp)⟩, ⟨_, rfl⟩⟩

set_option maxHeartbeats 1000000 in
set_option maxRecDepth 100000 in
theorem p5_22_b {v : World} {a : Act} {b o n cap g ct rn rc : Nat} {rp : Option Addr} {at_ : Nat} {i : Nat} {inn : Bool} {can : Bool} {k : Nat} {rk : Nat} {li lk : Int} (hn : n ≤ 100) (hrn : rn ≤ 100) (hi : i < n) (hk : k < n) (ck : v.cell? ⟨g, k, none⟩ = some (.slice (some ⟨rk, 0, none⟩) n n)) (cki : v.cell? ⟨rk, i, none⟩ = some (.bool true)) (c1 : v.cell? ⟨b, o + i * 5 + 1, none⟩ = some (I li)) (c2 : v.cell? ⟨b, o + k * 5 + 1, none⟩ = some (I lk)) (hA : Fl 194 [(0, .slice (some ⟨b, o, none⟩) n cap), (5, .slice (some ⟨g, 0, none⟩) n ct), (6, .slice rp rn rc), (7, I (at_ : Nat)), (8, I (i : Nat)), (9, .bool inn), (10, .bool can), (11, I (k : Nat))] a) :
    q5_22.wp Try.prog (fun e a' w' => e = .normal ∧ (Fl 194 [(123, .bool (li != lk)), (0, .slice (some ⟨b, o, none⟩) n cap), (5, .slice (some ⟨g, 0, none⟩) n ct), (6, .slice rp rn rc), (7, I (at_ : Nat)), (8, I (i : Nat)), (9, .bool inn), (10, .bool can), (11, I (k : Nat))] a' ∧ ∃ m, w' = v.drewN m)) a v := by
  obtain ⟨hsz, hd, hp⟩ := hA
  obtain ⟨u, rfl, hg⟩ := litN hsz hd
  simp only [List.forall_mem_cons, hg] at hp
  obtain ⟨u0, u5, u6, u7, u8, u9, u10, u11, -⟩ := hp
  clear hg hsz hd
  unfold q5_22 C5 Try.f5 seq1 seq2 condA blockC loopC
  simp only [Option.getD_some, lits, Nat.reduceAdd, u0, u5, u6, u7, u8, u9, u10, u11]
  clear u0 u5 u6 u7 u8 u9 u10 u11
  go_quiet (fail)
  first
    | exact ⟨⟨rfl, rfl, by
      intro p hp
      simp only [List.mem_cons, List.not_mem_nil, or_false] at hp
      rcases hp with rfl | rfl | rfl | rfl | rfl | rfl | rfl | rfl | rfl <;> first | rfl | exact congrArg I (by omega) | exact congrArg Value.bool (by simp <;> omega) | exact congrArg Value.bool (by simp)⟩, ⟨_, rfl⟩⟩
    | exact ⟨rfl, rfl, by
      intro p hp
      simp only [List.mem_cons, List.not_mem_nil, or_false] at hp
      rcases hp with rfl | rfl | rfl | rfl | rfl | rfl | rfl | rfl | rfl <;> first | rfl | exact congrArg I (by omega) | exact congrArg Value.bool (by simp <;> omega) | exact congrArg Value.bool (by simp)⟩
    | exact ⟨rfl, ⟨rfl, rfl, by
      intro p hp
      simp only [List.mem_cons, List.not_mem_nil, or_false] at hp
      rcases hp with rfl | rfl | rfl | rfl | rfl | rfl | rfl | rfl | rfl <;> first | rfl | exact congrArg I (by omega) | exact congrArg Value.bool (by simp <;> omega) | exact congrArg Value.bool (by simp)⟩, ⟨_, rfl⟩⟩

set_option maxHeartbeats 1000000 in
set_option maxRecDepth 100000 in
theorem p5_19 {v : World} {a : Act} {b o n cap g ct rn rc : Nat} {rp : Option Addr} {at_ : Nat} {i : Nat} {inn : Bool} {can : Bool} {k : Nat} (hk : k < 100) (hA : Fl 194 [(0, .slice (some ⟨b, o, none⟩) n cap), (5, .slice (some ⟨g, 0, none⟩) n ct), (6, .slice rp rn rc), (7, I (at_ : Nat)), (8, I (i : Nat)), (9, .bool inn), (10, .bool can), (11, I (k : Nat))] a) :
    q5_19.wp Try.prog (fun e a' w' => e = .normal ∧ (Fl 194 [(0, .slice (some ⟨b, o, none⟩) n cap), (5, .slice (some ⟨g, 0, none⟩) n ct), (6, .slice rp rn rc), (7, I (at_ : Nat)), (8, I (i : Nat)), (9, .bool inn), (10, .bool can), (11, I ((k + 1 : Nat) : Int))] a' ∧ w' = v)) a v := by
  obtain ⟨hsz, hd, hp⟩ := hA
  obtain ⟨u, rfl, hg⟩ := litN hsz hd
  simp only [List.forall_mem_cons, hg] at hp
  obtain ⟨u0, u5, u6, u7, u8, u9, u10, u11, -⟩ := hp
  clear hg hsz hd
  unfold q5_19 C5 Try.f5 seq1 seq2 blockC loopC
  simp only [Option.getD_some, lits, Nat.reduceAdd, u0, u5, u6, u7, u8, u9, u10, u11]
  clear u0 u5 u6 u7 u8 u9 u10 u11
  go_wp2_with fail
  first
    | exact ⟨⟨rfl, rfl, by
      intro p hp
      simp only [List.mem_cons, List.not_mem_nil, or_false] at hp
      rcases hp with rfl | rfl | rfl | rfl | rfl | rfl | rfl | rfl <;> first | rfl | exact congrArg I (by omega) | exact congrArg Value.bool (by simp <;> omega) | exact congrArg Value.bool (by simp)⟩, rfl⟩
    | exact ⟨rfl, rfl, by
      intro p hp
      simp only [List.mem_cons, List.not_mem_nil, or_false] at hp
      rcases hp with rfl | rfl | rfl | rfl | rfl | rfl | rfl | rfl <;> first | rfl | exact congrArg I (by omega) | exact congrArg Value.bool (by simp <;> omega) | exact congrArg Value.bool (by simp)⟩
    | exact ⟨rfl, ⟨rfl, rfl, by
      intro p hp
      simp only [List.mem_cons, List.not_mem_nil, or_false] at hp
      rcases hp with rfl | rfl | rfl | rfl | rfl | rfl | rfl | rfl <;> first | rfl | exact congrArg I (by omega) | exact congrArg Value.bool (by simp <;> omega) | exact congrArg Value.bool (by simp)⟩, rfl⟩

set_option maxHeartbeats 1000000 in
set_option maxRecDepth 100000 in
theorem p5_24 {v : World} {a : Act} {b o n cap g ct rn rc : Nat} {rp : Option Addr} {at_ : Nat} {i : Nat} {inn : Bool} {can : Bool} {Z : Nat → Prop} {l : List Rc} {is : Bool} (hl : RL Z v (.slice (some ⟨b, o, none⟩) n cap) l) (hZ : ∀ i, Z i → i < v.heap.size) (hi : i < 100) (his : is = true ↔ FateB l i) (hA : Fl 194 [(0, .slice (some ⟨b, o, none⟩) n cap), (5, .slice (some ⟨g, 0, none⟩) n ct), (6, .slice rp rn rc), (7, I (at_ : Nat)), (8, I (i : Nat)), (9, .bool inn), (10, .bool can)] a) :
    q5_24.wp Try.prog (fun e a' w' => e = .normal ∧ (Fl 194 [(0, .slice (some ⟨b, o, none⟩) n cap), (5, .slice (some ⟨g, 0, none⟩) n ct), (6, .slice rp rn rc), (7, I (at_ : Nat)), (8, I (i : Nat)), (9, .bool inn), (10, .bool can), (12, .bool is), (13, I (fateV l i))] a' ∧ Kp (fun i => i < v.heap.size) v w')) a v := by
  have HC : Hid (Calls Try.prog 13 #[.slice (some ⟨b, o, none⟩) n cap, I (i : Nat)] v _) := fate_any hl hZ ⟨by omega, by omega⟩
  have HIS : Hid (is = true ↔ FateB l i) := his
  clear hl hZ his
  obtain ⟨hsz, hd, hp⟩ := hA
  obtain ⟨u, rfl, hg⟩ := litN hsz hd
  simp only [List.forall_mem_cons, hg] at hp
  obtain ⟨u0, u5, u6, u7, u8, u9, u10, -⟩ := hp
  clear hg hsz hd
  unfold q5_24 C5 Try.f5 seq1 seq2 blockC loopC
  simp only [Option.getD_some, lits, Nat.reduceAdd, u0, u5, u6, u7, u8, u9, u10]
  clear u0 u5 u6 u7 u8 u9 u10
  go_wp2_with (first
    | (go_at_call 13; refine HC.out.mono ?_; rintro e w1 ⟨_, rfl, ⟨is', rfl, hb⟩, hk⟩; have he : is' = is := Bool.eq_iff_iff.2 (hb.trans HIS.out.symm); subst he; have HK : Hid (Kp (fun i => i < v.heap.size) v w1) := hk; clear hb hk))
  first
    | exact ⟨⟨rfl, rfl, by
      intro p hp
      simp only [List.mem_cons, List.not_mem_nil, or_false] at hp
      rcases hp with rfl | rfl | rfl | rfl | rfl | rfl | rfl | rfl | rfl <;> first | rfl | exact congrArg I (by omega) | exact congrArg Value.bool (by simp <;> omega) | exact congrArg Value.bool (by simp)⟩, HK.out⟩
    | exact ⟨rfl, rfl, by
      intro p hp
      simp only [List.mem_cons, List.not_mem_nil, or_false] at hp
      rcases hp with rfl | rfl | rfl | rfl | rfl | rfl | rfl | rfl | rfl <;> first | rfl | exact congrArg I (by omega) | exact congrArg Value.bool (by simp <;> omega) | exact congrArg Value.bool (by simp)⟩
    | exact ⟨rfl, ⟨rfl, rfl, by
      intro p hp
      simp only [List.mem_cons, List.not_mem_nil, or_false] at hp
      rcases hp with rfl | rfl | rfl | rfl | rfl | rfl | rfl | rfl | rfl <;> first | rfl | exact congrArg I (by omega) | exact congrArg Value.bool (by simp <;> omega) | exact congrArg Value.bool (by simp)⟩, HK.out⟩

set_option maxHeartbeats 1000000 in
set_option maxRecDepth 100000 in
theorem p5_25 {v : World} {a : Act} {b o n cap g ct rn rc : Nat} {rp : Option Addr} {at_ : Nat} {i : Nat} {inn : Bool} {can : Bool} {is : Bool} {nv : Int} {vv : Int} (hn : n ≤ 100) (hrn : rn ≤ 100) (hi : i < n) (cv : v.cell? ⟨b, o + i * 5 + 3, none⟩ = some (I vv)) (hA : Fl 194 [(0, .slice (some ⟨b, o, none⟩) n cap), (5, .slice (some ⟨g, 0, none⟩) n ct), (6, .slice rp rn rc), (7, I (at_ : Nat)), (8, I (i : Nat)), (9, .bool inn), (10, .bool can), (12, .bool is), (13, I nv)] a) :
    q5_25.wp Try.prog (fun e a' w' => e = .normal ∧ (Fl 194 [(0, .slice (some ⟨b, o, none⟩) n cap), (5, .slice (some ⟨g, 0, none⟩) n ct), (6, .slice rp rn rc), (7, I (at_ : Nat)), (8, I (i : Nat)), (9, .bool inn), (10, .bool can), (12, .bool is), (13, I nv), (14, I vv)] a' ∧ w' = v)) a v := by
  obtain ⟨hsz, hd, hp⟩ := hA
  obtain ⟨u, rfl, hg⟩ := litN hsz hd
  simp only [List.forall_mem_cons, hg] at hp
  obtain ⟨u0, u5, u6, u7, u8, u9, u10, u12, u13, -⟩ := hp
  clear hg hsz hd
  unfold q5_25 C5 Try.f5 seq1 seq2 blockC loopC
  simp only [Option.getD_some, lits, Nat.reduceAdd, u0, u5, u6, u7, u8, u9, u10, u12, u13]
  clear u0 u5 u6 u7 u8 u9 u10 u12 u13
  go_wp2_with fail
  first
    | exact ⟨⟨rfl, rfl, by
      intro p hp
      simp only [List.mem_cons, List.not_mem_nil, or_false] at hp
      rcases hp with rfl | rfl | rfl | rfl | rfl | rfl | rfl | rfl | rfl | rfl <;> first | rfl | exact congrArg I (by omega) | exact congrArg Value.bool (by simp <;> omega) | exact congrArg Value.bool (by simp)⟩, rfl⟩
    | exact ⟨rfl, rfl, by
      intro p hp
      simp only [List.mem_cons, List.not_mem_nil, or_false] at hp
      rcases hp with rfl | rfl | rfl | rfl | rfl | rfl | rfl | rfl | rfl | rfl <;> first | rfl | exact congrArg I (by omega) | exact congrArg Value.bool (by simp <;> omega) | exact congrArg Value.bool (by simp)⟩
    | exact ⟨rfl, ⟨rfl, rfl, by
      intro p hp
      simp only [List.mem_cons, List.not_mem_nil, or_false] at hp
      rcases hp with rfl | rfl | rfl | rfl | rfl | rfl | rfl | rfl | rfl | rfl <;> first | rfl | exact congrArg I (by omega) | exact congrArg Value.bool (by simp <;> omega) | exact congrArg Value.bool (by simp)⟩, rfl⟩

set_option maxHeartbeats 1000000 in
set_option maxRecDepth 100000 in
theorem p5_26 {v : World} {a : Act} {b o n cap g ct rn rc : Nat} {rp : Option Addr} {at_ : Nat} {i : Nat} {inn : Bool} {can : Bool} {is : Bool} {nv : Int} {sm : Int}  (hA : Fl 194 [(0, .slice (some ⟨b, o, none⟩) n cap), (5, .slice (some ⟨g, 0, none⟩) n ct), (6, .slice rp rn rc), (7, I (at_ : Nat)), (8, I (i : Nat)), (9, .bool inn), (10, .bool can), (12, .bool is), (13, I nv), (14, I sm)] a) :
    q5_26.wp Try.prog (fun e a' w' => e = .normal ∧ (Fl 194 [(0, .slice (some ⟨b, o, none⟩) n cap), (5, .slice (some ⟨g, 0, none⟩) n ct), (6, .slice rp rn rc), (7, I (at_ : Nat)), (8, I (i : Nat)), (9, .bool inn), (10, .bool can), (12, .bool is), (13, I nv), (14, I sm), (15, I (0 : Nat))] a' ∧ w' = v)) a v := by
  obtain ⟨hsz, hd, hp⟩ := hA
  obtain ⟨u, rfl, hg⟩ := litN hsz hd
  simp only [List.forall_mem_cons, hg] at hp
  obtain ⟨u0, u5, u6, u7, u8, u9, u10, u12, u13, u14, -⟩ := hp
  clear hg hsz hd
  unfold q5_26 C5 Try.f5 seq1 seq2 blockC loopC
  simp only [Option.getD_some, lits, Nat.reduceAdd, u0, u5, u6, u7, u8, u9, u10, u12, u13, u14]
  clear u0 u5 u6 u7 u8 u9 u10 u12 u13 u14
  go_wp2_with fail
  first
    | exact ⟨⟨rfl, rfl, by
      intro p hp
      simp only [List.mem_cons, List.not_mem_nil, or_false] at hp
      rcases hp with rfl | rfl | rfl | rfl | rfl | rfl | rfl | rfl | rfl | rfl | rfl <;> first | rfl | exact congrArg I (by omega) | exact congrArg Value.bool (by simp <;> omega) | exact congrArg Value.bool (by simp)⟩, rfl⟩
    | exact ⟨rfl, rfl, by
      intro p hp
      simp only [List.mem_cons, List.not_mem_nil, or_false] at hp
      rcases hp with rfl | rfl | rfl | rfl | rfl | rfl | rfl | rfl | rfl | rfl | rfl <;> first | rfl | exact congrArg I (by omega) | exact congrArg Value.bool (by simp <;> omega) | exact congrArg Value.bool (by simp)⟩
    | exact ⟨rfl, ⟨rfl, rfl, by
      intro p hp
      simp only [List.mem_cons, List.not_mem_nil, or_false] at hp
      rcases hp with rfl | rfl | rfl | rfl | rfl | rfl | rfl | rfl | rfl | rfl | rfl <;> first | rfl | exact congrArg I (by omega) | exact congrArg Value.bool (by simp <;> omega) | exact congrArg Value.bool (by simp)⟩, rfl⟩

set_option maxHeartbeats 1000000 in
set_option maxRecDepth 100000 in
theorem p5_27 {v : World} {a : Act} {b o n cap g ct rn rc : Nat} {rp : Option Addr} {at_ : Nat} {i : Nat} {inn : Bool} {can : Bool} {is : Bool} {nv : Int} {sm : Int} {k : Nat} {q : Option Addr} {nn nc : Nat} (hn : n ≤ 100) (hrn : rn ≤ 100) (hi : i < n) (hnn : nn ≤ 20) (c0 : v.cell? ⟨b, o + i * 5, none⟩ = some (.slice q nn nc)) (hA : Fl 194 [(0, .slice (some ⟨b, o, none⟩) n cap), (5, .slice (some ⟨g, 0, none⟩) n ct), (6, .slice rp rn rc), (7, I (at_ : Nat)), (8, I (i : Nat)), (9, .bool inn), (10, .bool can), (12, .bool is), (13, I nv), (14, I sm), (15, I (k : Nat))] a) :
    q5_27.wp Try.prog (fun e a' w' => e = .normal ∧ (Fl 194 [(142, .bool (decide (k < nn))), (0, .slice (some ⟨b, o, none⟩) n cap), (5, .slice (some ⟨g, 0, none⟩) n ct), (6, .slice rp rn rc), (7, I (at_ : Nat)), (8, I (i : Nat)), (9, .bool inn), (10, .bool can), (12, .bool is), (13, I nv), (14, I sm), (15, I (k : Nat))] a' ∧ w' = v)) a v := by
  obtain ⟨hsz, hd, hp⟩ := hA
  obtain ⟨u, rfl, hg⟩ := litN hsz hd
  simp only [List.forall_mem_cons, hg] at hp
  obtain ⟨u0, u5, u6, u7, u8, u9, u10, u12, u13, u14, u15, -⟩ := hp
  clear hg hsz hd
  unfold q5_27 C5 Try.f5 seq1 seq2 blockC loopC
  simp only [Option.getD_some, lits, Nat.reduceAdd, u0, u5, u6, u7, u8, u9, u10, u12, u13, u14, u15]
  clear u0 u5 u6 u7 u8 u9 u10 u12 u13 u14 u15
  go_wp2_with fail
  first
    | exact ⟨⟨rfl, rfl, by
      intro p hp
      simp only [List.mem_cons, List.not_mem_nil, or_false] at hp
      rcases hp with rfl | rfl | rfl | rfl | rfl | rfl | rfl | rfl | rfl | rfl | rfl | rfl <;> first | rfl | exact congrArg I (by omega) | exact congrArg Value.bool (by simp <;> omega) | exact congrArg Value.bool (by simp)⟩, rfl⟩
    | exact ⟨rfl, rfl, by
      intro p hp
      simp only [List.mem_cons, List.not_mem_nil, or_false] at hp
      rcases hp with rfl | rfl | rfl | rfl | rfl | rfl | rfl | rfl | rfl | rfl | rfl | rfl <;> first | rfl | exact congrArg I (by omega) | exact congrArg Value.bool (by simp <;> omega) | exact congrArg Value.bool (by simp)⟩
    | exact ⟨rfl, ⟨rfl, rfl, by
      intro p hp
      simp only [List.mem_cons, List.not_mem_nil, or_false] at hp
      rcases hp with rfl | rfl | rfl | rfl | rfl | rfl | rfl | rfl | rfl | rfl | rfl | rfl <;> first | rfl | exact congrArg I (by omega) | exact congrArg Value.bool (by simp <;> omega) | exact congrArg Value.bool (by simp)⟩, rfl⟩

set_option maxHeartbeats 1000000 in
set_option maxRecDepth 100000 in
theorem p5_29 {v : World} {a : Act} {b o n cap g ct rn rc : Nat} {rp : Option Addr} {at_ : Nat} {i : Nat} {inn : Bool} {can : Bool} {is : Bool} {nv : Int} {sm : Int} {k : Nat} {nb no nn nc x : Nat} {Z : Nat → Prop} {l : List Rc} (hn : n ≤ 100) (hrn : rn ≤ 100) (hi : i < n) (hnn : nn ≤ 20) (hk : k < nn) (c0 : v.cell? ⟨b, o + i * 5, none⟩ = some (.slice (some ⟨nb, no, none⟩) nn nc)) (cx : v.cell? ⟨nb, no + k, none⟩ = some (I (x : Nat))) (hl : RL Z v (.slice (some ⟨b, o, none⟩) n cap) l) (hZ : ∀ i, Z i → i < v.heap.size) (hx : x < 100) (hA : Fl 194 [(0, .slice (some ⟨b, o, none⟩) n cap), (5, .slice (some ⟨g, 0, none⟩) n ct), (6, .slice rp rn rc), (7, I (at_ : Nat)), (8, I (i : Nat)), (9, .bool inn), (10, .bool can), (12, .bool is), (13, I nv), (14, I sm), (15, I (k : Nat))] a) :
    q5_29.wp Try.prog (fun e a' w' => e = .normal ∧ (Fl 194 [(0, .slice (some ⟨b, o, none⟩) n cap), (5, .slice (some ⟨g, 0, none⟩) n ct), (6, .slice rp rn rc), (7, I (at_ : Nat)), (8, I (i : Nat)), (9, .bool inn), (10, .bool can), (12, .bool is), (13, I nv), (14, I sm), (15, I (k : Nat)), (17, I (fateV l x))] a' ∧ Kp (fun i => i < v.heap.size) v w')) a v := by
  have HC : Hid (Calls Try.prog 13 #[.slice (some ⟨b, o, none⟩) n cap, I (x : Nat)] v _) := fate_any hl hZ ⟨by omega, by omega⟩
  clear hl hZ
  obtain ⟨hsz, hd, hp⟩ := hA
  obtain ⟨u, rfl, hg⟩ := litN hsz hd
  simp only [List.forall_mem_cons, hg] at hp
  obtain ⟨u0, u5, u6, u7, u8, u9, u10, u12, u13, u14, u15, -⟩ := hp
  clear hg hsz hd
  unfold q5_29 C5 Try.f5 seq1 seq2 blockC loopC
  simp only [Option.getD_some, lits, Nat.reduceAdd, u0, u5, u6, u7, u8, u9, u10, u12, u13, u14, u15]
  clear u0 u5 u6 u7 u8 u9 u10 u12 u13 u14 u15
  go_wp2_with (first
    | (go_at_call 13; refine HC.out.mono ?_; rintro e w1 ⟨_, rfl, ⟨is, rfl, hb⟩, hk⟩; have HK : Hid (Kp (fun i => i < v.heap.size) v w1) := hk; clear hb hk))
  first
    | exact ⟨⟨rfl, rfl, by
      intro p hp
      simp only [List.mem_cons, List.not_mem_nil, or_false] at hp
      rcases hp with rfl | rfl | rfl | rfl | rfl | rfl | rfl | rfl | rfl | rfl | rfl | rfl <;> first | rfl | exact congrArg I (by omega) | exact congrArg Value.bool (by simp <;> omega) | exact congrArg Value.bool (by simp)⟩, HK.out⟩
    | exact ⟨rfl, rfl, by
      intro p hp
      simp only [List.mem_cons, List.not_mem_nil, or_false] at hp
      rcases hp with rfl | rfl | rfl | rfl | rfl | rfl | rfl | rfl | rfl | rfl | rfl | rfl <;> first | rfl | exact congrArg I (by omega) | exact congrArg Value.bool (by simp <;> omega) | exact congrArg Value.bool (by simp)⟩
    | exact ⟨rfl, ⟨rfl, rfl, by
      intro p hp
      simp only [List.mem_cons, List.not_mem_nil, or_false] at hp
      rcases hp with rfl | rfl | rfl | rfl | rfl | rfl | rfl | rfl | rfl | rfl | rfl | rfl <;> first | rfl | exact congrArg I (by omega) | exact congrArg Value.bool (by simp <;> omega) | exact congrArg Value.bool (by simp)⟩, HK.out⟩

set_option maxHeartbeats 1000000 in
set_option maxRecDepth 100000 in
theorem p5_30 {v : World} {a : Act} {b o n cap g ct rn rc : Nat} {rp : Option Addr} {at_ : Nat} {i : Nat} {inn : Bool} {can : Bool} {is : Bool} {nv : Int} {sm : Int} {k : Nat} {fv : Int} (h1 : -1000 ≤ sm ∧ sm ≤ 20001040) (h2 : 0 ≤ fv ∧ fv < 1000003) (hA : Fl 194 [(0, .slice (some ⟨b, o, none⟩) n cap), (5, .slice (some ⟨g, 0, none⟩) n ct), (6, .slice rp rn rc), (7, I (at_ : Nat)), (8, I (i : Nat)), (9, .bool inn), (10, .bool can), (12, .bool is), (13, I nv), (14, I sm), (15, I (k : Nat)), (17, I fv)] a) :
    q5_30.wp Try.prog (fun e a' w' => e = .normal ∧ (Fl 194 [(0, .slice (some ⟨b, o, none⟩) n cap), (5, .slice (some ⟨g, 0, none⟩) n ct), (6, .slice rp rn rc), (7, I (at_ : Nat)), (8, I (i : Nat)), (9, .bool inn), (10, .bool can), (12, .bool is), (13, I nv), (14, I (sm + fv)), (15, I (k : Nat))] a' ∧ w' = v)) a v := by
  obtain ⟨hsz, hd, hp⟩ := hA
  obtain ⟨u, rfl, hg⟩ := litN hsz hd
  simp only [List.forall_mem_cons, hg] at hp
  obtain ⟨u0, u5, u6, u7, u8, u9, u10, u12, u13, u14, u15, u17, -⟩ := hp
  clear hg hsz hd
  unfold q5_30 C5 Try.f5 seq1 seq2 blockC loopC
  simp only [Option.getD_some, lits, Nat.reduceAdd, u0, u5, u6, u7, u8, u9, u10, u12, u13, u14, u15, u17]
  clear u0 u5 u6 u7 u8 u9 u10 u12 u13 u14 u15 u17
  go_wp2_with fail
  first
    | exact ⟨⟨rfl, rfl, by
      intro p hp
      simp only [List.mem_cons, List.not_mem_nil, or_false] at hp
      rcases hp with rfl | rfl | rfl | rfl | rfl | rfl | rfl | rfl | rfl | rfl | rfl <;> first | rfl | exact congrArg I (by omega) | exact congrArg Value.bool (by simp <;> omega) | exact congrArg Value.bool (by simp)⟩, rfl⟩
    | exact ⟨rfl, rfl, by
      intro p hp
      simp only [List.mem_cons, List.not_mem_nil, or_false] at hp
      rcases hp with rfl | rfl | rfl | rfl | rfl | rfl | rfl | rfl | rfl | rfl | rfl <;> first | rfl | exact congrArg I (by omega) | exact congrArg Value.bool (by simp <;> omega) | exact congrArg Value.bool (by simp)⟩
    | exact ⟨rfl, ⟨rfl, rfl, by
      intro p hp
      simp only [List.mem_cons, List.not_mem_nil, or_false] at hp
      rcases hp with rfl | rfl | rfl | rfl | rfl | rfl | rfl | rfl | rfl | rfl | rfl <;> first | rfl | exact congrArg I (by omega) | exact congrArg Value.bool (by simp <;> omega) | exact congrArg Value.bool (by simp)⟩, rfl⟩

set_option maxHeartbeats 1000000 in
set_option maxRecDepth 100000 in
theorem p5_28 {v : World} {a : Act} {b o n cap g ct rn rc : Nat} {rp : Option Addr} {at_ : Nat} {i : Nat} {inn : Bool} {can : Bool} {is : Bool} {nv : Int} {sm : Int} {k : Nat} (hk : k < 100) (hA : Fl 194 [(0, .slice (some ⟨b, o, none⟩) n cap), (5, .slice (some ⟨g, 0, none⟩) n ct), (6, .slice rp rn rc), (7, I (at_ : Nat)), (8, I (i : Nat)), (9, .bool inn), (10, .bool can), (12, .bool is), (13, I nv), (14, I sm), (15, I (k : Nat))] a) :
    q5_28.wp Try.prog (fun e a' w' => e = .normal ∧ (Fl 194 [(0, .slice (some ⟨b, o, none⟩) n cap), (5, .slice (some ⟨g, 0, none⟩) n ct), (6, .slice rp rn rc), (7, I (at_ : Nat)), (8, I (i : Nat)), (9, .bool inn), (10, .bool can), (12, .bool is), (13, I nv), (14, I sm), (15, I ((k + 1 : Nat) : Int))] a' ∧ w' = v)) a v := by
  obtain ⟨hsz, hd, hp⟩ := hA
  obtain ⟨u, rfl, hg⟩ := litN hsz hd
  simp only [List.forall_mem_cons, hg] at hp
  obtain ⟨u0, u5, u6, u7, u8, u9, u10, u12, u13, u14, u15, -⟩ := hp
  clear hg hsz hd
  unfold q5_28 C5 Try.f5 seq1 seq2 blockC loopC
  simp only [Option.getD_some, lits, Nat.reduceAdd, u0, u5, u6, u7, u8, u9, u10, u12, u13, u14, u15]
  clear u0 u5 u6 u7 u8 u9 u10 u12 u13 u14 u15
  go_wp2_with fail
  first
    | exact ⟨⟨rfl, rfl, by
      intro p hp
      simp only [List.mem_cons, List.not_mem_nil, or_false] at hp
      rcases hp with rfl | rfl | rfl | rfl | rfl | rfl | rfl | rfl | rfl | rfl | rfl <;> first | rfl | exact congrArg I (by omega) | exact congrArg Value.bool (by simp <;> omega) | exact congrArg Value.bool (by simp)⟩, rfl⟩
    | exact ⟨rfl, rfl, by
      intro p hp
      simp only [List.mem_cons, List.not_mem_nil, or_false] at hp
      rcases hp with rfl | rfl | rfl | rfl | rfl | rfl | rfl | rfl | rfl | rfl | rfl <;> first | rfl | exact congrArg I (by omega) | exact congrArg Value.bool (by simp <;> omega) | exact congrArg Value.bool (by simp)⟩
    | exact ⟨rfl, ⟨rfl, rfl, by
      intro p hp
      simp only [List.mem_cons, List.not_mem_nil, or_false] at hp
      rcases hp with rfl | rfl | rfl | rfl | rfl | rfl | rfl | rfl | rfl | rfl | rfl <;> first | rfl | exact congrArg I (by omega) | exact congrArg Value.bool (by simp <;> omega) | exact congrArg Value.bool (by simp)⟩, rfl⟩

set_option maxHeartbeats 1000000 in
set_option maxRecDepth 100000 in
theorem p5_31_a {v : World} {a : Act} {b o n cap g ct rn rc : Nat} {rp : Option Addr} {at_ : Nat} {i : Nat} {inn : Bool} {nv sm : Int} (h1 : 0 ≤ nv) (h2 : nv ≤ 1000002) (h0 : ((sm - nv).tmod 1000003) = 0) (h3 : -1000 ≤ sm ∧ sm ≤ 20001040) (hA : Fl 194 [(0, .slice (some ⟨b, o, none⟩) n cap), (5, .slice (some ⟨g, 0, none⟩) n ct), (6, .slice rp rn rc), (7, I (at_ : Nat)), (8, I (i : Nat)), (9, .bool inn), (10, .bool true), (12, .bool true), (13, I nv), (14, I sm)] a) :
    q5_31.wp Try.prog (fun e a' w' => e = .normal ∧ (Fl 194 [(189, .bool false), (0, .slice (some ⟨b, o, none⟩) n cap), (5, .slice (some ⟨g, 0, none⟩) n ct), (6, .slice rp rn rc), (7, I (at_ : Nat)), (8, I (i : Nat))] a' ∧ w' = v)) a v := by
  obtain ⟨hsz, hd, hp⟩ := hA
  obtain ⟨u, rfl, hg⟩ := litN hsz hd
  simp only [List.forall_mem_cons, hg] at hp
  obtain ⟨u0, u5, u6, u7, u8, u9, u10, u12, u13, u14, -⟩ := hp
  clear hg hsz hd
  unfold q5_31 C5 Try.f5 seq1 seq2 blockC loopC
  simp only [Option.getD_some, lits, Nat.reduceAdd, u0, u5, u6, u7, u8, u9, u10, u12, u13, u14]
  clear u0 u5 u6 u7 u8 u9 u10 u12 u13 u14
  have g1 : ¬ nv < 0 := by omega
  have g2 : ¬ 1000002 < nv := by omega
  have g3 : IntKind.i64.wrap (sm - nv) = sm - nv := IntWalk.i64_in _ (by omega)
  go_wp2_with fail
  first
    | exact ⟨⟨rfl, rfl, by
      intro p hp
      simp only [List.mem_cons, List.not_mem_nil, or_false] at hp
      rcases hp with rfl | rfl | rfl | rfl | rfl | rfl <;> first | rfl | exact congrArg I (by omega) | exact congrArg Value.bool (by simp <;> omega) | exact congrArg Value.bool (by simp)⟩, rfl⟩
    | exact ⟨rfl, rfl, by
      intro p hp
      simp only [List.mem_cons, List.not_mem_nil, or_false] at hp
      rcases hp with rfl | rfl | rfl | rfl | rfl | rfl <;> first | rfl | exact congrArg I (by omega) | exact congrArg Value.bool (by simp <;> omega) | exact congrArg Value.bool (by simp)⟩
    | exact ⟨rfl, ⟨rfl, rfl, by
      intro p hp
      simp only [List.mem_cons, List.not_mem_nil, or_false] at hp
      rcases hp with rfl | rfl | rfl | rfl | rfl | rfl <;> first | rfl | exact congrArg I (by omega) | exact congrArg Value.bool (by simp <;> omega) | exact congrArg Value.bool (by simp)⟩, rfl⟩

set_option maxHeartbeats 1000000 in
set_option maxRecDepth 100000 in
theorem p5_31_b {v : World} {a : Act} {b o n cap g ct rn rc : Nat} {rp : Option Addr} {at_ : Nat} {i : Nat} {inn : Bool} {sm : Int}  (hA : Fl 194 [(0, .slice (some ⟨b, o, none⟩) n cap), (5, .slice (some ⟨g, 0, none⟩) n ct), (6, .slice rp rn rc), (7, I (at_ : Nat)), (8, I (i : Nat)), (9, .bool inn), (10, .bool false), (12, .bool false), (13, I 0), (14, I sm)] a) :
    q5_31.wp Try.prog (fun e a' w' => e = .normal ∧ (Fl 194 [(189, .bool false), (0, .slice (some ⟨b, o, none⟩) n cap), (5, .slice (some ⟨g, 0, none⟩) n ct), (6, .slice rp rn rc), (7, I (at_ : Nat)), (8, I (i : Nat))] a' ∧ w' = v)) a v := by
  obtain ⟨hsz, hd, hp⟩ := hA
  obtain ⟨u, rfl, hg⟩ := litN hsz hd
  simp only [List.forall_mem_cons, hg] at hp
  obtain ⟨u0, u5, u6, u7, u8, u9, u10, u12, u13, u14, -⟩ := hp
  clear hg hsz hd
  unfold q5_31 C5 Try.f5 seq1 seq2 blockC loopC
  simp only [Option.getD_some, lits, Nat.reduceAdd, u0, u5, u6, u7, u8, u9, u10, u12, u13, u14]
  clear u0 u5 u6 u7 u8 u9 u10 u12 u13 u14
  go_wp2_with fail
  first
    | exact ⟨⟨rfl, rfl, by
      intro p hp
      simp only [List.mem_cons, List.not_mem_nil, or_false] at hp
      rcases hp with rfl | rfl | rfl | rfl | rfl | rfl <;> first | rfl | exact congrArg I (by omega) | exact congrArg Value.bool (by simp <;> omega) | exact congrArg Value.bool (by simp)⟩, rfl⟩
    | exact ⟨rfl, rfl, by
      intro p hp
      simp only [List.mem_cons, List.not_mem_nil, or_false] at hp
      rcases hp with rfl | rfl | rfl | rfl | rfl | rfl <;> first | rfl | exact congrArg I (by omega) | exact congrArg Value.bool (by simp <;> omega) | exact congrArg Value.bool (by simp)⟩
    | exact ⟨rfl, ⟨rfl, rfl, by
      intro p hp
      simp only [List.mem_cons, List.not_mem_nil, or_false] at hp
      rcases hp with rfl | rfl | rfl | rfl | rfl | rfl <;> first | rfl | exact congrArg I (by omega) | exact congrArg Value.bool (by simp <;> omega) | exact congrArg Value.bool (by simp)⟩, rfl⟩

set_option maxHeartbeats 1000000 in
set_option maxRecDepth 100000 in
theorem p5_10 {v : World} {a : Act} {b o n cap g ct rn rc : Nat} {rp : Option Addr} {at_ : Nat} {i : Nat} (hi : i < 100) (hA : Fl 194 [(0, .slice (some ⟨b, o, none⟩) n cap), (5, .slice (some ⟨g, 0, none⟩) n ct), (6, .slice rp rn rc), (7, I (at_ : Nat)), (8, I (i : Nat))] a) :
    q5_10.wp Try.prog (fun e a' w' => e = .normal ∧ (Fl 194 [(0, .slice (some ⟨b, o, none⟩) n cap), (5, .slice (some ⟨g, 0, none⟩) n ct), (6, .slice rp rn rc), (7, I (at_ : Nat)), (8, I ((i + 1 : Nat) : Int))] a' ∧ w' = v)) a v := by
  obtain ⟨hsz, hd, hp⟩ := hA
  obtain ⟨u, rfl, hg⟩ := litN hsz hd
  simp only [List.forall_mem_cons, hg] at hp
  obtain ⟨u0, u5, u6, u7, u8, -⟩ := hp
  clear hg hsz hd
  unfold q5_10 C5 Try.f5 seq1 seq2 blockC loopC
  simp only [Option.getD_some, lits, Nat.reduceAdd, u0, u5, u6, u7, u8]
  clear u0 u5 u6 u7 u8
  go_wp2_with fail
  first
    | exact ⟨⟨rfl, rfl, by
      intro p hp
      simp only [List.mem_cons, List.not_mem_nil, or_false] at hp
      rcases hp with rfl | rfl | rfl | rfl | rfl <;> first | rfl | exact congrArg I (by omega) | exact congrArg Value.bool (by simp <;> omega) | exact congrArg Value.bool (by simp)⟩, rfl⟩
    | exact ⟨rfl, rfl, by
      intro p hp
      simp only [List.mem_cons, List.not_mem_nil, or_false] at hp
      rcases hp with rfl | rfl | rfl | rfl | rfl <;> first | rfl | exact congrArg I (by omega) | exact congrArg Value.bool (by simp <;> omega) | exact congrArg Value.bool (by simp)⟩
    | exact ⟨rfl, ⟨rfl, rfl, by
      intro p hp
      simp only [List.mem_cons, List.not_mem_nil, or_false] at hp
      rcases hp with rfl | rfl | rfl | rfl | rfl <;> first | rfl | exact congrArg I (by omega) | exact congrArg Value.bool (by simp <;> omega) | exact congrArg Value.bool (by simp)⟩, rfl⟩

set_option maxHeartbeats 1000000 in
set_option maxRecDepth 100000 in
theorem p5_33 {v : World} {a : Act} {b o n cap g ct rn rc : Nat} {rp : Option Addr} {at_ : Nat} (hn : n ≤ 100) (hrn : rn ≤ 100) (hA : Fl 194 [(0, .slice (some ⟨b, o, none⟩) n cap), (5, .slice (some ⟨g, 0, none⟩) n ct), (6, .slice rp rn rc), (7, I (at_ : Nat))] a) :
    q5_33.wp Try.prog (fun e a' w' => e = .normal ∧ (Fl 194 [(2, .bool ((at_ : Int) == (rn : Int)))] a' ∧ w' = v)) a v := by
  obtain ⟨hsz, hd, hp⟩ := hA
  obtain ⟨u, rfl, hg⟩ := litN hsz hd
  simp only [List.forall_mem_cons, hg] at hp
  obtain ⟨u0, u5, u6, u7, -⟩ := hp
  clear hg hsz hd
  unfold q5_33 C5 Try.f5 seq1 seq2
  simp only [Option.getD_some, lits, Nat.reduceAdd, u0, u5, u6, u7]
  clear u0 u5 u6 u7
  go_wp2_with fail
  first
    | exact ⟨⟨rfl, rfl, by
      intro p hp
      simp only [List.mem_cons, List.not_mem_nil, or_false] at hp
      rcases hp with rfl <;> first | rfl | exact congrArg I (by omega) | exact congrArg Value.bool (by simp <;> omega) | exact congrArg Value.bool (by simp)⟩, rfl⟩
    | exact ⟨rfl, rfl, by
      intro p hp
      simp only [List.mem_cons, List.not_mem_nil, or_false] at hp
      rcases hp with rfl <;> first | rfl | exact congrArg I (by omega) | exact congrArg Value.bool (by simp <;> omega) | exact congrArg Value.bool (by simp)⟩
    | exact ⟨rfl, ⟨rfl, rfl, by
      intro p hp
      simp only [List.mem_cons, List.not_mem_nil, or_false] at hp
      rcases hp with rfl <;> first | rfl | exact congrArg I (by omega) | exact congrArg Value.bool (by simp <;> omega) | exact congrArg Value.bool (by simp)⟩, rfl⟩

theorem in5 {w : World} {R : Value → World → Prop} {x0 : Value} (h : ∀ a, Fl 194 [(0, x0)] a → C5.wp Try.prog (bodyPost Try.prog Try.f5 (Ret R)) a w) : Calls Try.prog 5 #[x0] w (Ret R) :=
  calls_of_wp Try.func5 (show Try.f5.body = some C5 by kernel_rfl) (by
    rw [Try.ntmps5]
    exact h _ (fl_enter _ _ 194 (by simp) _ (by intro p hp; simp only [List.mem_cons, List.not_mem_nil, or_false] at hp; rcases hp with rfl <;> rfl)))

end Go.Proofs.Ytgohfdgkihoilaa.Rcp
