/- What awake (8) does. (Made by wip/tools/mk8b.py.) -/
import Derived.Test.YtgohfdgkihoilaaSome
set_option linter.unusedSimpArgs false
set_option linter.unusedVariables false
namespace Go.Proofs.Ytgohfdgkihoilaa.Rcp
open Go Go.RowKit Go.Deep Go.Maps

theorem il_new {Z : Nat → Prop} {w : World} {b : Nat} {ns : List Int} (hl : ns.length ≤ 9223372036854775807) (hb : Z b) (h : w.heap[b]? = some (.cells (ns.map I).toArray 3 (0, 0))) : IL Z w (.slice (some ⟨b, 0, none⟩) ns.length ns.length) ns :=
  ⟨_, _, rfl, hl, fun i x hi => ⟨b, 0, rfl, hb, by simp [World.cell?, h, hi]⟩⟩
theorem il_nil (Z : Nat → Prop) (w : World) : IL Z w (.slice none 0 0) [] := ⟨none, 0, rfl, by simp, fun i x hi => by simp at hi⟩
theorem someRL {w : World} {b0 b1 b2 b3 b4 : Nat} (h0 : w.heap[b0]? = some (.cells #[I 0, I 0] 3 (0, 0))) (h1 : w.heap[b1]? = some (.cells #[I 3] 3 (0, 0))) (h2 : w.heap[b2]? = some (.cells #[I 2, I 0] 3 (0, 0))) (h3 : w.heap[b3]? = some (.cells #[I 1, I 2] 3 (0, 0)))
    (h4 : w.heap[b4]? = some (.cells #[Value.slice none 0 0, I 0, I 0, I 5, I 0, Value.slice (some ⟨b0, 0, none⟩) 2 2, I 0, I 0, I 7, I 0, Value.slice (some ⟨b1, 0, none⟩) 1 1, I 0, I 0, I 1, I 0, Value.slice (some ⟨b2, 0, none⟩) 2 2, I 0, I 0, I 1, I 0, Value.slice (some ⟨b3, 0, none⟩) 2 2, I 0, I 0, I 1, I 0, Value.slice none 0 0, I 0, I 0, I (-6), I 0] 43 (0, 0))) : RL (fun i => i < w.heap.size) w (.slice (some ⟨b4, 0, none⟩) 6 6) someL := by
  have lt : ∀ {b : Nat} {o : Obj}, w.heap[b]? = some o → b < w.heap.size := fun h => (Array.getElem?_eq_some_iff.1 h).1
  have hr : ∀ (i : Nat) (cs : List Value), (∀ j v, cs[j]? = some v → (#[Value.slice none 0 0, I 0, I 0, I 5, I 0, Value.slice (some ⟨b0, 0, none⟩) 2 2, I 0, I 0, I 7, I 0, Value.slice (some ⟨b1, 0, none⟩) 1 1, I 0, I 0, I 1, I 0, Value.slice (some ⟨b2, 0, none⟩) 2 2, I 0, I 0, I 1, I 0, Value.slice (some ⟨b3, 0, none⟩) 2 2, I 0, I 0, I 1, I 0, Value.slice none 0 0, I 0, I 0, I (-6), I 0] : Array Value)[i * 5 + j]? = some v) → w.rangeAt b4 (0 + i * 5) cs := fun i cs hc j v hj => by
    have := hc j v hj
    simp only [World.cell?, h4]
    rw [show 0 + i * 5 + j = i * 5 + j by omega]
    simpa using this
  refine ⟨_, _, rfl, by simp [someL], fun i r hi => ?_⟩
  match i, hi with
  | 0, hi =>
    cases hi
    exact ⟨b4, 0, .slice none 0 0, rfl, lt h4, hr 0 _ (fun j v hj => by
      match j, hj with
      | 0, hj => exact hj
      | 1, hj => exact hj
      | 2, hj => exact hj
      | 3, hj => exact hj
      | 4, hj => exact hj
      | j + 5, hj => simp at hj), il_nil _ _⟩
  | 1, hi =>
    cases hi
    exact ⟨b4, 0, Value.slice (some ⟨b0, 0, none⟩) 2 2, rfl, lt h4, hr 1 _ (fun j v hj => by
      match j, hj with
      | 0, hj => exact hj
      | 1, hj => exact hj
      | 2, hj => exact hj
      | 3, hj => exact hj
      | 4, hj => exact hj
      | j + 5, hj => simp at hj), il_new (ns := [0, 0]) (by simp) (lt h0) h0⟩
  | 2, hi =>
    cases hi
    exact ⟨b4, 0, Value.slice (some ⟨b1, 0, none⟩) 1 1, rfl, lt h4, hr 2 _ (fun j v hj => by
      match j, hj with
      | 0, hj => exact hj
      | 1, hj => exact hj
      | 2, hj => exact hj
      | 3, hj => exact hj
      | 4, hj => exact hj
      | j + 5, hj => simp at hj), il_new (ns := [3]) (by simp) (lt h1) h1⟩
  | 3, hi =>
    cases hi
    exact ⟨b4, 0, Value.slice (some ⟨b2, 0, none⟩) 2 2, rfl, lt h4, hr 3 _ (fun j v hj => by
      match j, hj with
      | 0, hj => exact hj
      | 1, hj => exact hj
      | 2, hj => exact hj
      | 3, hj => exact hj
      | 4, hj => exact hj
      | j + 5, hj => simp at hj), il_new (ns := [2, 0]) (by simp) (lt h2) h2⟩
  | 4, hi =>
    cases hi
    exact ⟨b4, 0, Value.slice (some ⟨b3, 0, none⟩) 2 2, rfl, lt h4, hr 4 _ (fun j v hj => by
      match j, hj with
      | 0, hj => exact hj
      | 1, hj => exact hj
      | 2, hj => exact hj
      | 3, hj => exact hj
      | 4, hj => exact hj
      | j + 5, hj => simp at hj), il_new (ns := [1, 2]) (by simp) (lt h3) h3⟩
  | 5, hi =>
    cases hi
    exact ⟨b4, 0, .slice none 0 0, rfl, lt h4, hr 5 _ (fun j v hj => by
      match j, hj with
      | 0, hj => exact hj
      | 1, hj => exact hj
      | 2, hj => exact hj
      | 3, hj => exact hj
      | 4, hj => exact hj
      | j + 5, hj => simp at hj), il_nil _ _⟩
  | i + 6, hi => simp [someL] at hi

set_option maxHeartbeats 2000000 in
theorem some_any (w : World) : Calls Try.prog 25 #[] w (Ret fun v w' => RL (fun i => i < w'.heap.size) w' v someL ∧ Kp (fun i => i < w.heap.size) w w') := by
  go_enter Try.func25, Try.ntmps25
  go_wp2_with fail
  go_ret
  refine ⟨_, rfl, someRL (b0 := w.heap.size) (b1 := w.heap.size + 1) (b2 := w.heap.size + 1 + 1) (b3 := w.heap.size + 1 + 1 + 1) ?_ ?_ ?_ ?_ ?_, ?_⟩
  · rw [Below.heap_alloc _ _ _ (by simp <;> omega), Below.heap_alloc _ _ _ (by simp <;> omega), Below.heap_alloc _ _ _ (by simp <;> omega), Below.heap_alloc _ _ _ (by simp)]
    exact heap_alloc_new _ _
  · rw [Below.heap_alloc _ _ _ (by simp <;> omega), Below.heap_alloc _ _ _ (by simp <;> omega), Below.heap_alloc _ _ _ (by simp)]
    rw [show w.heap.size + 1 = (w.alloc (.cells #[I 0, I 0] 3)).heap.size by simp]
    exact heap_alloc_new _ _
  · rw [Below.heap_alloc _ _ _ (by simp <;> omega), Below.heap_alloc _ _ _ (by simp)]
    rw [show w.heap.size + 1 + 1 = ((w.alloc (.cells #[I 0, I 0] 3)).alloc (.cells #[I 3] 3)).heap.size by simp]
    exact heap_alloc_new _ _
  · rw [Below.heap_alloc _ _ _ (by simp)]
    rw [show w.heap.size + 1 + 1 + 1 = (((w.alloc (.cells #[I 0, I 0] 3)).alloc (.cells #[I 3] 3)).alloc (.cells #[I 2, I 0] 3)).heap.size by simp]
    exact heap_alloc_new _ _
  · rw [show w.heap.size + 1 + 1 + 1 + 1 = ((((w.alloc (.cells #[I 0, I 0] 3)).alloc (.cells #[I 3] 3)).alloc (.cells #[I 2, I 0] 3)).alloc (.cells #[I 1, I 2] 3)).heap.size by simp]
    exact heap_alloc_new _ _
  · exact (Kp.alloc (fun _ h => h) _).trans ((Kp.alloc (fun i hi => by simp <;> omega) _).trans ((Kp.alloc (fun i hi => by simp <;> omega) _).trans ((Kp.alloc (fun i hi => by simp <;> omega) _).trans (Kp.alloc (fun i hi => by simp <;> omega) _))))
noncomputable def C8 : Code := Try.f8.body.getD .skip
noncomputable def q8_0 : Code := (seq1 C8)
noncomputable def q8_1 : Code := (seq1 (seq2 C8))
noncomputable def q8_2 : Code := (seq1 (seq2 (seq2 C8)))
noncomputable def q8_3 : Code := (seq1 (seq2 (seq2 (seq2 C8))))
noncomputable def q8_4 : Code := (seq1 (seq2 (seq2 (seq2 (seq2 C8)))))
noncomputable def q8_5 : Code := (seq1 (seq2 (seq2 (seq2 (seq2 (seq2 C8))))))
noncomputable def q8_6 : Code := (seq1 (seq2 (seq2 (seq2 (seq2 (seq2 (seq2 C8)))))))
noncomputable def q8_7 : Code := (seq1 (seq1 (seq2 (seq2 (seq2 (seq2 (seq2 (seq2 (seq2 C8)))))))))
noncomputable def q8_8 : Code := (seq1 (condA (seq2 (seq1 (seq2 (seq2 (seq2 (seq2 (seq2 (seq2 (seq2 C8)))))))))))
noncomputable def q8_9 : Code := (seq1 (seq2 (seq2 (seq2 (seq2 (seq2 (seq2 (seq2 (seq2 C8)))))))))
theorem e8 : C8 = (.seq q8_0 (.seq q8_1 (.seq q8_2 (.seq q8_3 (.seq q8_4 (.seq q8_5 (.seq q8_6 (.seq (.seq q8_7 (.cond ( .tmp 34 ) (.seq q8_8 .ret) .skip)) (.seq q8_9 .ret))))))))) := by kernel_rfl

set_option maxHeartbeats 1000000 in
theorem p8_0 {v : World} {a : Act}   (hA : Fl 76 [] a) :
    q8_0.wp Try.prog (fun e a' w' => e = .normal ∧ (Fl 76 [] a' ∧ w' = v)) a v := by
  obtain ⟨hsz, hd, hp⟩ := hA
  obtain ⟨u, rfl, hg⟩ := litN hsz hd
  clear hg hp hsz hd
  unfold q8_0 C8 Try.f8 seq1
  simp only [Option.getD_some, lits, Nat.reduceAdd]
  go_wp2_with fail
  first
    | exact ⟨⟨rfl, rfl, fun p hp => by cases hp⟩, rfl⟩
    | exact ⟨rfl, rfl, fun p hp => by cases hp⟩
    | exact ⟨rfl, ⟨rfl, rfl, fun p hp => by cases hp⟩, rfl⟩

set_option maxHeartbeats 1000000 in
theorem p8_1 {v : World} {a : Act}   (hA : Fl 76 [] a) :
    q8_1.wp Try.prog (fun e a' w' => e = .normal ∧ (Fl 76 [(1, I 0)] a' ∧ Kp (fun i => i < v.heap.size) v w')) a v := by
  obtain ⟨hsz, hd, hp⟩ := hA
  obtain ⟨u, rfl, hg⟩ := litN hsz hd
  clear hg hp hsz hd
  unfold q8_1 C8 Try.f8 seq1 seq2
  simp only [Option.getD_some, lits, Nat.reduceAdd]
  go_wp2_with (first
    | (go_at_call 25; refine (some_any _).mono ?_; rintro e w1 ⟨_, rfl, hL1, hk1⟩)
    | (go_at_call 11; refine (right_any hL1 (fun _ h => h)).mono ?_; rintro e w2 ⟨_, rfl, rfl, hk2⟩; rw [(rightS_iff _).2 someR]))
  first
    | exact ⟨⟨rfl, rfl, by
      intro p hp
      simp only [List.mem_cons, List.not_mem_nil, or_false] at hp
      rcases hp with rfl <;> first | rfl | exact congrArg I (by omega) | exact congrArg Value.bool (by simp <;> omega) | exact congrArg Value.bool (by simp)⟩, hk1.after hk2⟩
    | exact ⟨rfl, rfl, by
      intro p hp
      simp only [List.mem_cons, List.not_mem_nil, or_false] at hp
      rcases hp with rfl <;> first | rfl | exact congrArg I (by omega) | exact congrArg Value.bool (by simp <;> omega) | exact congrArg Value.bool (by simp)⟩
    | exact ⟨rfl, ⟨rfl, rfl, by
      intro p hp
      simp only [List.mem_cons, List.not_mem_nil, or_false] at hp
      rcases hp with rfl <;> first | rfl | exact congrArg I (by omega) | exact congrArg Value.bool (by simp <;> omega) | exact congrArg Value.bool (by simp)⟩, hk1.after hk2⟩

set_option maxHeartbeats 1000000 in
theorem p8_2 {v : World} {a : Act}   (hA : Fl 76 [(1, I 0)] a) :
    q8_2.wp Try.prog (fun e a' w' => e = .normal ∧ (Fl 76 [(1, I 0), (2, I 110)] a' ∧ Kp (fun i => i < v.heap.size) v w')) a v := by
  obtain ⟨hsz, hd, hp⟩ := hA
  obtain ⟨u, rfl, hg⟩ := litN hsz hd
  simp only [List.forall_mem_cons, hg] at hp
  obtain ⟨u1, -⟩ := hp
  clear hg hsz hd
  unfold q8_2 C8 Try.f8 seq1 seq2
  simp only [Option.getD_some, lits, Nat.reduceAdd, u1]
  clear u1
  go_wp2_with (first
    | (go_at_call 11; refine (right_any (Z := fun _ => False) (l := []) ⟨none, 0, rfl, by simp, fun i r hi => by simp at hi⟩ (fun _ h => h.elim)).mono ?_; rintro e w2 ⟨_, rfl, rfl, hk2⟩; rw [rightS_nil]))
  first
    | exact ⟨⟨rfl, rfl, by
      intro p hp
      simp only [List.mem_cons, List.not_mem_nil, or_false] at hp
      rcases hp with rfl | rfl <;> first | rfl | exact congrArg I (by omega) | exact congrArg Value.bool (by simp <;> omega) | exact congrArg Value.bool (by simp)⟩, hk2⟩
    | exact ⟨rfl, rfl, by
      intro p hp
      simp only [List.mem_cons, List.not_mem_nil, or_false] at hp
      rcases hp with rfl | rfl <;> first | rfl | exact congrArg I (by omega) | exact congrArg Value.bool (by simp <;> omega) | exact congrArg Value.bool (by simp)⟩
    | exact ⟨rfl, ⟨rfl, rfl, by
      intro p hp
      simp only [List.mem_cons, List.not_mem_nil, or_false] at hp
      rcases hp with rfl | rfl <;> first | rfl | exact congrArg I (by omega) | exact congrArg Value.bool (by simp <;> omega) | exact congrArg Value.bool (by simp)⟩, hk2⟩

set_option maxHeartbeats 1000000 in
theorem p8_3 {v : World} {a : Act}   (hA : Fl 76 [(1, I 0), (2, I 110)] a) :
    q8_3.wp Try.prog (fun e a' w' => e = .normal ∧ ∃ p3 c3, (Fl 76 [(1, I 0), (2, I 110), (3, .slice p3 2 c3)] a' ∧ IL (fun i => v.heap.size ≤ i ∧ i < w'.heap.size) w' (.slice p3 2 c3) [2, 3] ∧ Kp (fun i => i < v.heap.size) v w')) a v := by
  obtain ⟨hsz, hd, hp⟩ := hA
  obtain ⟨u, rfl, hg⟩ := litN hsz hd
  simp only [List.forall_mem_cons, hg] at hp
  obtain ⟨u1, u2, -⟩ := hp
  clear hg hsz hd
  unfold q8_3 C8 Try.f8 seq1 seq2
  simp only [Option.getD_some, lits, Nat.reduceAdd, u1, u2]
  clear u1 u2
  go_wp2_with (first
    | (go_at_call 25; refine (some_any _).mono ?_; rintro e w1 ⟨_, rfl, hL1, hk1⟩)
    | (go_at_call 12; refine (rings_any hL1 (fun _ h => h)).mono ?_; rintro e w2 ⟨x3, rfl, rs, hO, -, -, hrs, hk2⟩; have hrs' : rs = [2, 3] := (hrs someR).trans some_rings; subst hrs'; obtain ⟨p3, c3, rfl, -, hc⟩ := hO.il (by simp)))
  try refine ⟨rfl, ?_⟩
  refine ⟨p3, c3, ⟨rfl, rfl, by
    intro p hp
    simp only [List.mem_cons, List.not_mem_nil, or_false] at hp
    rcases hp with rfl | rfl | rfl <;> first | rfl | exact congrArg I (by omega) | exact congrArg Value.bool (by simp <;> omega) | exact congrArg Value.bool (by simp)⟩, ⟨_, _, rfl, by simp, fun i x hi => ?_⟩, hk1.after hk2⟩
  obtain ⟨blk, off, e, hb, hcc⟩ := hc i x hi
  refine ⟨blk, off, e, ⟨?_, hO.lt blk hb⟩, hcc⟩
  exact Nat.le_of_not_lt fun h => hO.2 blk hb (Nat.lt_of_lt_of_le h hk1.size)

set_option maxHeartbeats 1000000 in
theorem p8_4 {v : World} {a : Act} {x3 : Value}  (hA : Fl 76 [(1, I 0), (2, I 110), (3, x3)] a) :
    q8_4.wp Try.prog (fun e a' w' => e = .normal ∧ (Fl 76 [(1, I 0), (2, I 110), (3, x3), (4, Bl true), (5, I 17)] a' ∧ Kp (fun i => i < v.heap.size) v w')) a v := by
  obtain ⟨hsz, hd, hp⟩ := hA
  obtain ⟨u, rfl, hg⟩ := litN hsz hd
  simp only [List.forall_mem_cons, hg] at hp
  obtain ⟨u1, u2, u3, -⟩ := hp
  clear hg hsz hd
  unfold q8_4 C8 Try.f8 seq1 seq2
  simp only [Option.getD_some, lits, Nat.reduceAdd, u1, u2, u3]
  clear u1 u2 u3
  go_wp2_with (first
    | (go_at_call 25; refine (some_any _).mono ?_; rintro e w1 ⟨_, rfl, hL1, hk1⟩)
    | (go_at_call 13; refine (fate_any hL1 (fun _ h => h) (key := 1) ⟨by omega, by omega⟩).mono ?_; rintro e w2 ⟨_, rfl, ⟨b, rfl, hb⟩, hk2⟩; obtain rfl := hb.2 some_fate1.1; rw [some_fate1.2]; clear hb))
  first
    | exact ⟨⟨rfl, rfl, by
      intro p hp
      simp only [List.mem_cons, List.not_mem_nil, or_false] at hp
      rcases hp with rfl | rfl | rfl | rfl | rfl <;> first | rfl | exact congrArg I (by omega) | exact congrArg Value.bool (by simp <;> omega) | exact congrArg Value.bool (by simp)⟩, hk1.after hk2⟩
    | exact ⟨rfl, rfl, by
      intro p hp
      simp only [List.mem_cons, List.not_mem_nil, or_false] at hp
      rcases hp with rfl | rfl | rfl | rfl | rfl <;> first | rfl | exact congrArg I (by omega) | exact congrArg Value.bool (by simp <;> omega) | exact congrArg Value.bool (by simp)⟩
    | exact ⟨rfl, ⟨rfl, rfl, by
      intro p hp
      simp only [List.mem_cons, List.not_mem_nil, or_false] at hp
      rcases hp with rfl | rfl | rfl | rfl | rfl <;> first | rfl | exact congrArg I (by omega) | exact congrArg Value.bool (by simp <;> omega) | exact congrArg Value.bool (by simp)⟩, hk1.after hk2⟩

set_option maxHeartbeats 1000000 in
theorem p8_5 {v : World} {a : Act} {x3 : Value}  (hA : Fl 76 [(1, I 0), (2, I 110), (3, x3), (4, Bl true), (5, I 17)] a) :
    q8_5.wp Try.prog (fun e a' w' => e = .normal ∧ (Fl 76 [(1, I 0), (2, I 110), (3, x3), (4, Bl true), (5, I 17), (6, Bl false)] a' ∧ Kp (fun i => i < v.heap.size) v w')) a v := by
  obtain ⟨hsz, hd, hp⟩ := hA
  obtain ⟨u, rfl, hg⟩ := litN hsz hd
  simp only [List.forall_mem_cons, hg] at hp
  obtain ⟨u1, u2, u3, u4, u5, -⟩ := hp
  clear hg hsz hd
  unfold q8_5 C8 Try.f8 seq1 seq2
  simp only [Option.getD_some, lits, Nat.reduceAdd, u1, u2, u3, u4, u5]
  clear u1 u2 u3 u4 u5
  go_wp2_with (first
    | (go_at_call 25; refine (some_any _).mono ?_; rintro e w1 ⟨_, rfl, hL1, hk1⟩)
    | (go_at_call 13; refine (fate_any hL1 (fun _ h => h) (key := 4) ⟨by omega, by omega⟩).mono ?_; rintro e w2 ⟨_, rfl, ⟨b, rfl, hb⟩, hk2⟩; have hbf := Bool.eq_false_iff.2 (fun h => some_fate4 (hb.1 h)); subst hbf; clear hb))
  first
    | exact ⟨⟨rfl, rfl, by
      intro p hp
      simp only [List.mem_cons, List.not_mem_nil, or_false] at hp
      rcases hp with rfl | rfl | rfl | rfl | rfl | rfl <;> first | rfl | exact congrArg I (by omega) | exact congrArg Value.bool (by simp <;> omega) | exact congrArg Value.bool (by simp)⟩, hk1.after hk2⟩
    | exact ⟨rfl, rfl, by
      intro p hp
      simp only [List.mem_cons, List.not_mem_nil, or_false] at hp
      rcases hp with rfl | rfl | rfl | rfl | rfl | rfl <;> first | rfl | exact congrArg I (by omega) | exact congrArg Value.bool (by simp <;> omega) | exact congrArg Value.bool (by simp)⟩
    | exact ⟨rfl, ⟨rfl, rfl, by
      intro p hp
      simp only [List.mem_cons, List.not_mem_nil, or_false] at hp
      rcases hp with rfl | rfl | rfl | rfl | rfl | rfl <;> first | rfl | exact congrArg I (by omega) | exact congrArg Value.bool (by simp <;> omega) | exact congrArg Value.bool (by simp)⟩, hk1.after hk2⟩

set_option maxHeartbeats 1000000 in
theorem p8_6 {v : World} {a : Act} {x3 : Value}  (hA : Fl 76 [(1, I 0), (2, I 110), (3, x3), (4, Bl true), (5, I 17), (6, Bl false)] a) :
    q8_6.wp Try.prog (fun e a' w' => e = .normal ∧ ∃ p8 c8, (Fl 76 [(1, I 0), (2, I 110), (3, x3), (4, Bl true), (5, I 17), (6, Bl false), (8, .slice p8 3 c8)] a' ∧ IL (fun i => v.heap.size ≤ i ∧ i < w'.heap.size) w' (.slice p8 3 c8) [0, 1, 5] ∧ Kp (fun i => i < v.heap.size) v w')) a v := by
  obtain ⟨hsz, hd, hp⟩ := hA
  obtain ⟨u, rfl, hg⟩ := litN hsz hd
  simp only [List.forall_mem_cons, hg] at hp
  obtain ⟨u1, u2, u3, u4, u5, u6, -⟩ := hp
  clear hg hsz hd
  unfold q8_6 C8 Try.f8 seq1 seq2
  simp only [Option.getD_some, lits, Nat.reduceAdd, u1, u2, u3, u4, u5, u6]
  clear u1 u2 u3 u4 u5 u6
  go_wp2_with (first
    | (go_at_call 25; refine (some_any _).mono ?_; rintro e w1 ⟨_, rfl, hL1, hk1⟩)
    | (go_at_call 14; refine (order_any (keys := [4, 5, 1]) (Z := fun i => i < w1.heap.size + 1) ((hL1.kp (Kp.alloc (fun _ h => h) _)).mono fun i hi => Nat.lt_succ_of_lt hi) (il_new (ns := [4, 5, 1]) (by simp) (Nat.lt_succ_self _) (heap_alloc_new _ _)) (fun i hi => by simpa using hi) (fun x hx => by simp at hx; rcases hx with rfl | rfl | rfl <;> exact ⟨by omega, by omega⟩)).mono ?_; rintro e w2 ⟨x8, rfl, ⟨td, hO, htd, -⟩, hk2⟩; have htd' := some_order htd; subst htd'; obtain ⟨p8, c8, rfl, -, hc⟩ := hO.il (by simp)))
  try refine ⟨rfl, ?_⟩
  refine ⟨p8, c8, ⟨rfl, rfl, by
    intro p hp
    simp only [List.mem_cons, List.not_mem_nil, or_false] at hp
    rcases hp with rfl | rfl | rfl | rfl | rfl | rfl | rfl <;> first | rfl | exact congrArg I (by omega) | exact congrArg Value.bool (by simp <;> omega) | exact congrArg Value.bool (by simp)⟩, ⟨_, _, rfl, by simp, fun i x hi => ?_⟩, hk1.after ((Kp.alloc (fun _ h => h) _).after hk2)⟩
  obtain ⟨blk, off, e, hb, hcc⟩ := hc i x hi
  refine ⟨blk, off, e, ⟨?_, hO.lt blk hb⟩, hcc⟩
  exact Nat.le_of_not_lt fun h => hO.2 blk hb (by have := hk1.size; simp; omega)

set_option maxHeartbeats 1000000 in
theorem p8_7 {v : World} {a : Act} {p3 p8 : Option Addr} {c3 c8 : Nat}  (hA : Fl 76 [(1, I 0), (2, I 110), (3, .slice p3 2 c3), (4, Bl true), (5, I 17), (6, Bl false), (8, .slice p8 3 c8)] a) :
    q8_7.wp Try.prog (fun e a' w' => e = .normal ∧ (Fl 76 [(1, I 0), (2, I 110), (3, .slice p3 2 c3), (4, Bl true), (5, I 17), (6, Bl false), (8, .slice p8 3 c8), (34, Bl false)] a' ∧ w' = v)) a v := by
  obtain ⟨hsz, hd, hp⟩ := hA
  obtain ⟨u, rfl, hg⟩ := litN hsz hd
  simp only [List.forall_mem_cons, hg] at hp
  obtain ⟨u1, u2, u3, u4, u5, u6, u8, -⟩ := hp
  clear hg hsz hd
  unfold q8_7 C8 Try.f8 seq1 seq2
  simp only [Option.getD_some, lits, Nat.reduceAdd, u1, u2, u3, u4, u5, u6, u8]
  clear u1 u2 u3 u4 u5 u6 u8
  go_wp2_with fail
  first
    | exact ⟨⟨rfl, rfl, by
      intro p hp
      simp only [List.mem_cons, List.not_mem_nil, or_false] at hp
      rcases hp with rfl | rfl | rfl | rfl | rfl | rfl | rfl | rfl <;> first | rfl | exact congrArg I (by omega) | exact congrArg Value.bool (by simp <;> omega) | exact congrArg Value.bool (by simp)⟩, rfl⟩
    | exact ⟨rfl, rfl, by
      intro p hp
      simp only [List.mem_cons, List.not_mem_nil, or_false] at hp
      rcases hp with rfl | rfl | rfl | rfl | rfl | rfl | rfl | rfl <;> first | rfl | exact congrArg I (by omega) | exact congrArg Value.bool (by simp <;> omega) | exact congrArg Value.bool (by simp)⟩
    | exact ⟨rfl, ⟨rfl, rfl, by
      intro p hp
      simp only [List.mem_cons, List.not_mem_nil, or_false] at hp
      rcases hp with rfl | rfl | rfl | rfl | rfl | rfl | rfl | rfl <;> first | rfl | exact congrArg I (by omega) | exact congrArg Value.bool (by simp <;> omega) | exact congrArg Value.bool (by simp)⟩, rfl⟩

set_option maxHeartbeats 1000000 in
theorem p8_9 {v : World} {a : Act} {g3 o3 g8 o8 c3 c8 : Nat} (h30 : v.cell? ⟨g3, o3, none⟩ = some (I 2)) (h80 : v.cell? ⟨g8, o8, none⟩ = some (I 0)) (h81 : v.cell? ⟨g8, o8 + 1, none⟩ = some (I 1)) (h82 : v.cell? ⟨g8, o8 + 2, none⟩ = some (I 5)) (hA : Fl 76 [(1, I 0), (2, I 110), (3, .slice (some ⟨g3, o3, none⟩) 2 c3), (4, Bl true), (5, I 17), (6, Bl false), (8, .slice (some ⟨g8, o8, none⟩) 3 c8)] a) :
    q8_9.wp Try.prog (fun e a' w' => e = .normal ∧ (Fl 76 [(0, Bl true)] a' ∧ w' = v)) a v := by
  obtain ⟨hsz, hd, hp⟩ := hA
  obtain ⟨u, rfl, hg⟩ := litN hsz hd
  simp only [List.forall_mem_cons, hg] at hp
  obtain ⟨u1, u2, u3, u4, u5, u6, u8, -⟩ := hp
  clear hg hsz hd
  unfold q8_9 C8 Try.f8 seq1 seq2
  simp only [Option.getD_some, lits, Nat.reduceAdd, u1, u2, u3, u4, u5, u6, u8]
  clear u1 u2 u3 u4 u5 u6 u8
  go_wp2_with fail
  first
    | exact ⟨⟨rfl, rfl, by
      intro p hp
      simp only [List.mem_cons, List.not_mem_nil, or_false] at hp
      rcases hp with rfl <;> first | rfl | exact congrArg I (by omega) | exact congrArg Value.bool (by simp <;> omega) | exact congrArg Value.bool (by simp)⟩, rfl⟩
    | exact ⟨rfl, rfl, by
      intro p hp
      simp only [List.mem_cons, List.not_mem_nil, or_false] at hp
      rcases hp with rfl <;> first | rfl | exact congrArg I (by omega) | exact congrArg Value.bool (by simp <;> omega) | exact congrArg Value.bool (by simp)⟩
    | exact ⟨rfl, ⟨rfl, rfl, by
      intro p hp
      simp only [List.mem_cons, List.not_mem_nil, or_false] at hp
      rcases hp with rfl <;> first | rfl | exact congrArg I (by omega) | exact congrArg Value.bool (by simp <;> omega) | exact congrArg Value.bool (by simp)⟩, rfl⟩

theorem in8 {w : World} {R : Value → World → Prop}  (h : ∀ a, Fl 76 [] a → C8.wp Try.prog (bodyPost Try.prog Try.f8 (Ret R)) a w) : Calls Try.prog 8 #[] w (Ret R) :=
  calls_of_wp Try.func8 (show Try.f8.body = some C8 by kernel_rfl) (by
    rw [Try.ntmps8]
    exact h _ (fl_enter _ _ 76 (by simp) _ (by intro p hp; cases hp)))

theorem awake_any (w : World) : Calls Try.prog 8 #[] w (Ret fun v w' => v = Bl true ∧ Kp (fun i => i < w.heap.size) w w') := by
  refine in8 fun a hA => ?_
  rw [e8]
  refine wp_then (p8_0 hA) fun a0 w0 h => ?_
  obtain ⟨h0, rfl⟩ := h
  refine wp_then (p8_1 h0) fun a1 w1 h => ?_
  obtain ⟨h1, k1⟩ := h
  refine wp_then (p8_2 h1) fun a2 w2 h => ?_
  obtain ⟨h2, k2⟩ := h
  refine wp_then (p8_3 h2) fun a3 w3 h => ?_
  obtain ⟨p3, c3, h3, i3, k3⟩ := h
  refine wp_then (p8_4 h3) fun a4 w4 h => ?_
  obtain ⟨h4, k4⟩ := h
  refine wp_then (p8_5 h4) fun a5 w5 h => ?_
  obtain ⟨h5, k5⟩ := h
  refine wp_then (p8_6 h5) fun a6 w6 h => ?_
  obtain ⟨p8, c8, h6, i6, k6⟩ := h
  refine wp_seq (wp_then (p8_7 h6) fun a7 w7 h => ?_)
  obtain ⟨h7, rfl⟩ := h
  refine wp_cond_false (h7.at 34 (Bl false) (by simp)) (wp_skip ?_)
  have kk : Kp (fun i => i < w3.heap.size) w3 w7 := k4.after (k5.after k6)
  have i3' := i3.kp (kk.mono fun i hi => hi.2)
  obtain ⟨g3, o3, rfl, -, d0⟩ := i3'.at (k := 0) (by simp)
  obtain ⟨g8, o8, rfl, -, f0⟩ := i6.at (k := 0) (by simp)
  obtain ⟨g8', o8', e1, -, f1⟩ := i6.at (k := 1) (by simp)
  cases e1
  obtain ⟨g8', o8', e1, -, f2⟩ := i6.at (k := 2) (by simp)
  cases e1
  refine wp_then (p8_9 (g3 := g3) (o3 := o3) (g8 := g8) (o8 := o8) (c3 := c3) (c8 := c8) d0 f0 f1 f2 (h7.sub (by simp))) fun a9 w9 h => ?_
  obtain ⟨h9, rfl⟩ := h
  exact wp_ret (fin1 rfl h9 (Bl true) (by simp) ⟨rfl, k1.after (k2.after (k3.after kk))⟩)
end Go.Proofs.Ytgohfdgkihoilaa.Rcp
