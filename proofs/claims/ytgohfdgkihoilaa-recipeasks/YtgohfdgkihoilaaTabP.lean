/- The table of what reaches what (23): its pieces. (Made by wip/tools/mk23.py.) -/
import Derived.Test.YtgohfdgkihoilaaKeys
import Derived.Deep.OwnRows
set_option linter.unusedSimpArgs false
set_option linter.unusedVariables false
namespace Go.Proofs.Ytgohfdgkihoilaa.Rcp
open Go Go.RowKit Go.Deep Go.Maps

/-- It ends so, and nowhere else. -/
def Nrm (F : Act → World → Prop) : Exit → Act → World → Prop
  | .normal, a, w => F a w
  | _, _, _ => False
theorem wp_nrm {P : Program} {c : Code} {F : Act → World → Prop} {a : Act} {w : World} (h : c.wp P (Nrm F) a w) : c.wp P (fun e a' w' => e = .normal ∧ F a' w') a w := wp_mono h fun e a w hq => by
  cases e <;> first | exact ⟨rfl, hq⟩ | exact hq.elim
theorem info41 : (Try.prog.info? 41).map (fun i => (i.zero, i.size, i.bytes)) = some (some (.slice none 0 0), 1, 24) := by kernel_rfl
theorem info4 : (Try.prog.info? 4).map (fun i => (i.zero, i.size, i.bytes)) = some (some (.bool false), 1, 1) := by kernel_rfl
/-- A slice of slices of bools that was built here, outside Z. -/
def OwnS (Z : Nat → Prop) (w : World) (v : Value) (xs : List Value) : Prop := w.ownsRow 0 41 1 v xs.length xs ∧ (∀ x ∈ xs, x.oneCell' = true) ∧ ∀ g, v.ownBlock = some g → ¬ Z g
theorem OwnS.lt {Z : Nat → Prop} {w : World} {v : Value} {xs : List Value} (h : OwnS Z w v xs) : ∀ g, v.ownBlock = some g → g < w.heap.size := by
  obtain ⟨⟨h1, h2⟩, h3⟩ := h
  intro g hg
  rcases h2 with ⟨rfl, _⟩ | ⟨g', cap, cur, rfl, r1, r2, r3⟩
  · cases hg
  · cases hg; exact (Array.getElem?_eq_some_iff.1 r2).1
theorem OwnS.stay {Z : Nat → Prop} {w w' : World} {v : Value} {xs : List Value} (h : OwnS Z w v xs) (hb : ∀ g, v.ownBlock = some g → w'.heap[g]? = w.heap[g]?) : OwnS Z w' v xs := by
  obtain ⟨⟨h1, h2⟩, h3⟩ := h
  refine ⟨⟨h1, ?_⟩, h3⟩
  rcases h2 with h2 | ⟨g, cap, cur, rfl, r1, r2, r3⟩
  · exact .inl h2
  · exact .inr ⟨g, cap, cur, rfl, r1, (hb g rfl).trans r2, r3⟩
theorem OwnS.nil (Z : Nat → Prop) (w : World) : OwnS Z w (.slice none 0 0) [] := ⟨World.ownsRow_nil _ _ _ _, fun x hx => (by cases hx), fun g hg => by cases hg⟩
theorem OwnS.cells {Z : Nat → Prop} {w : World} {v : Value} {xs : List Value} (h : OwnS Z w v xs) (h0 : 0 < xs.length) : ∃ g cap, v = .slice (some ⟨g, 0, none⟩) xs.length cap ∧ ∀ i x, xs[i]? = some x → w.cell? ⟨g, i, none⟩ = some x := by
  obtain ⟨⟨h1, ⟨_, h2⟩ | ⟨g, cap, cur, rfl, r1, r2, r3, r4, r5, r6⟩⟩, _⟩ := h
  · omega
  · refine ⟨g, cap, rfl, fun i x hi => ?_⟩
    have hil : i < xs.length := (List.getElem?_eq_some_iff.1 hi).1
    have e := congrArg (fun l => l[i]?) r6
    simp only [Nat.mul_one, List.getElem?_take, if_pos hil, hi] at e
    simp [World.cell?, r2]
    simpa using e
/-- A slice is appended. -/
theorem wp_app41 {ops : Array Oper} {rest : List Oper} {o : Oper} {a : Act} {Q : Exit → Act → World → Prop} {w : World} {Z : Nat → Prop} {v y : Value} {xs : List Value} (hgd : o.guard = none) (s x : Operand)
    (ho : o.op = .call { callee := .builtin .append, args := #[s, x], argTypes := #[39, 39] }) (hs : a.eval s = v) (hx : a.eval x = .slice (some ⟨w.heap.size, 0, none⟩) 1 1) (hy : y.oneCell' = true) (hown : OwnS Z w v xs) (hZ : ∀ i, Z i → i < w.heap.size) (hl : xs.length ≤ 1000)
    (h : ∀ g cap w', OwnS Z w' (.slice (some ⟨g, 0, none⟩) (xs.length + 1) cap) (xs ++ [y]) → Kp Z w w' → (∀ i, i < w.heap.size → v.ownBlock ≠ some i → w'.heap[i]? = w.heap[i]?) → (v.ownBlock = some g ∨ w.heap.size ≤ g) → w.heap.size ≤ w'.heap.size → wpList Try.prog ops Q rest (a.put o.dst (.slice (some ⟨g, 0, none⟩) (xs.length + 1) cap)) w') :
    wpList Try.prog ops Q (o :: rest) a (w.alloc (.cells #[y] 41)) := by
  obtain ⟨j0, hj, hj0, hj1, hj2⟩ := info_parts info41
  have hlt := hown.lt
  have hst : OwnS Z (w.alloc (.cells #[y] 41)) v xs := hown.stay fun g hg => Below.heap_alloc _ _ _ (hlt g hg)
  refine wpList_append_own_at _ hgd s x 39 ho 0 41 j0 _ 1 24 Try.underlying39 hj hj0 hj1 hj2 rfl (by decide) v xs.length xs hs hst.1 ⟨w.heap.size, 0, none⟩ 1 1 [y] hx rfl (cell_one_new _ _ _) (fun u hu => by rw [List.mem_singleton] at hu; subst hu; exact hy) (by unfold maxLen; omega) (by omega) (Nat.zero_le _) ?_
  intro v' w' h1 h2 h3 h4
  have hsz : w.heap.size ≤ w'.heap.size := Nat.le_trans (by simp) h2.size
  have hblk : ∀ i, i < w.heap.size → v.ownBlock ≠ some i → w'.heap[i]? = w.heap[i]? := fun i hi hne => (h2.block i (by simp; omega) (fun e => hne e.symm)).trans (Below.heap_alloc _ _ _ hi)
  obtain ⟨h10, ⟨_, h0⟩ | ⟨g, cap, cur, rfl, hr⟩⟩ := h1
  · omega
  have hloc : v.ownBlock = some g ∨ w.heap.size ≤ g := by
    rcases h4 with h4 | h4
    · exact .inl h4.symm
    · have e : g = (w.alloc (.cells #[y] 41)).heap.size := by injection h4
      exact .inr (by rw [e]; simp)
  have hrow : w'.ownsRow 0 41 1 (.slice (some ⟨g, 0, none⟩) (xs.length + 1) cap) (xs ++ [y]).length (xs ++ [y]) := by
    rw [List.length_append]
    exact ⟨h10, .inr ⟨g, cap, cur, rfl, hr⟩⟩
  refine h g cap w' ⟨hrow, fun x hx => ?_, fun g' hg hz => ?_⟩ ⟨h2.os, h2.tape, h2.output, hsz, fun i hi => hblk i (hZ i hi) (fun e => hown.2.2 i e hi)⟩ hblk hloc hsz
  · rcases List.mem_append.1 hx with hx | hx
    · exact hown.2.1 x hx
    · rw [List.mem_singleton] at hx; subst hx; exact hy
  cases hg
  rcases hloc with e | e
  · exact hown.2.2 g e hz
  · exact absurd (hZ g hz) (by omega)

noncomputable def C23 : Code := Try.f23.body.getD .skip
noncomputable def q23_0 : Code := (seq1 C23)
noncomputable def q23_1 : Code := (seq1 (seq2 C23))
noncomputable def q23_2 : Code := (seq1 (seq1 (seq2 (seq2 C23))))
noncomputable def q23_3 : Code := (seq1 (seq1 (loopC (blockC (seq2 (seq1 (seq2 (seq2 C23))))))))
noncomputable def q23_5 : Code := (seq1 (blockC (seq1 (seq2 (loopC (blockC (seq2 (seq1 (seq2 (seq2 C23))))))))))
noncomputable def q23_6 : Code := (seq1 (seq1 (seq2 (blockC (seq1 (seq2 (loopC (blockC (seq2 (seq1 (seq2 (seq2 C23))))))))))))
noncomputable def q23_7 : Code := (seq1 (seq1 (loopC (blockC (seq2 (seq1 (seq2 (blockC (seq1 (seq2 (loopC (blockC (seq2 (seq1 (seq2 (seq2 C23))))))))))))))))
noncomputable def q23_9 : Code := (blockC (seq1 (seq2 (loopC (blockC (seq2 (seq1 (seq2 (blockC (seq1 (seq2 (loopC (blockC (seq2 (seq1 (seq2 (seq2 C23)))))))))))))))))
noncomputable def q23_8 : Code := (seq2 (seq2 (loopC (blockC (seq2 (seq1 (seq2 (blockC (seq1 (seq2 (loopC (blockC (seq2 (seq1 (seq2 (seq2 C23))))))))))))))))
noncomputable def q23_10 : Code := (seq2 (seq2 (blockC (seq1 (seq2 (loopC (blockC (seq2 (seq1 (seq2 (seq2 C23)))))))))))
noncomputable def q23_4 : Code := (seq2 (seq2 (loopC (blockC (seq2 (seq1 (seq2 (seq2 C23))))))))
noncomputable def q23_11 : Code := (seq1 (seq1 (seq2 (seq2 (seq2 C23)))))
noncomputable def q23_12 : Code := (seq1 (seq1 (loopC (blockC (seq2 (seq1 (seq2 (seq2 (seq2 C23)))))))))
noncomputable def q23_14 : Code := (seq1 (blockC (seq1 (seq2 (loopC (blockC (seq2 (seq1 (seq2 (seq2 (seq2 C23)))))))))))
noncomputable def q23_15 : Code := (seq1 (seq1 (loopC (blockC (seq2 (blockC (seq1 (seq2 (loopC (blockC (seq2 (seq1 (seq2 (seq2 (seq2 C23)))))))))))))))
noncomputable def q23_17 : Code := (seq1 (blockC (seq1 (seq2 (loopC (blockC (seq2 (blockC (seq1 (seq2 (loopC (blockC (seq2 (seq1 (seq2 (seq2 (seq2 C23)))))))))))))))))
noncomputable def q23_18 : Code := (seq1 (seq1 (loopC (blockC (seq2 (blockC (seq1 (seq2 (loopC (blockC (seq2 (blockC (seq1 (seq2 (loopC (blockC (seq2 (seq1 (seq2 (seq2 (seq2 C23)))))))))))))))))))))
noncomputable def q23_20 : Code := (blockC (seq1 (seq2 (loopC (blockC (seq2 (blockC (seq1 (seq2 (loopC (blockC (seq2 (blockC (seq1 (seq2 (loopC (blockC (seq2 (seq1 (seq2 (seq2 (seq2 C23))))))))))))))))))))))
noncomputable def q23_19 : Code := (seq2 (seq2 (loopC (blockC (seq2 (blockC (seq1 (seq2 (loopC (blockC (seq2 (blockC (seq1 (seq2 (loopC (blockC (seq2 (seq1 (seq2 (seq2 (seq2 C23)))))))))))))))))))))
noncomputable def q23_16 : Code := (seq2 (seq2 (loopC (blockC (seq2 (blockC (seq1 (seq2 (loopC (blockC (seq2 (seq1 (seq2 (seq2 (seq2 C23)))))))))))))))
noncomputable def q23_13 : Code := (seq2 (seq2 (loopC (blockC (seq2 (seq1 (seq2 (seq2 (seq2 C23)))))))))
noncomputable def q23_21 : Code := (seq1 (seq2 (seq2 (seq2 (seq2 C23)))))
noncomputable def K23_3 : Code := q23_9
noncomputable def K23_2 : Code := (.loop (.seq (.seq q23_7 (.cond ( .tmp 26 ) .skip (.exit 2))) (.seq (.block 3 K23_3) q23_8)))
noncomputable def K23_1 : Code := (.seq q23_5 (.seq (.seq q23_6 (.block 2 K23_2)) q23_10))
noncomputable def K23_0 : Code := (.loop (.seq (.seq q23_3 (.cond ( .tmp 13 ) .skip (.exit 0))) (.seq (.block 1 K23_1) q23_4)))
noncomputable def K23_9 : Code := q23_20
noncomputable def K23_8 : Code := (.loop (.seq (.seq q23_18 (.cond ( .tmp 67 ) .skip (.exit 8))) (.seq (.block 9 K23_9) q23_19)))
noncomputable def K23_7 : Code := (.seq q23_17 (.block 8 K23_8))
noncomputable def K23_6 : Code := (.loop (.seq (.seq q23_15 (.cond ( .tmp 52 ) .skip (.exit 6))) (.seq (.block 7 K23_7) q23_16)))
noncomputable def K23_5 : Code := (.seq q23_14 (.block 6 K23_6))
noncomputable def K23_4 : Code := (.loop (.seq (.seq q23_12 (.cond ( .tmp 46 ) .skip (.exit 4))) (.seq (.block 5 K23_5) q23_13)))
theorem e23 : C23 = (.seq q23_0 (.seq q23_1 (.seq (.seq q23_2 (.block 0 K23_0)) (.seq (.seq q23_11 (.block 4 K23_4)) (.seq q23_21 .ret))))) := by kernel_rfl

set_option maxHeartbeats 1000000 in
theorem p23_0 {v : World} {a : Act} {b o n cap : Nat}  (hA : Fl 93 [(0, .slice (some ⟨b, o, none⟩) n cap)] a) :
    q23_0.wp Try.prog (fun e a' w' => e = .normal ∧ (Fl 93 [(0, .slice (some ⟨b, o, none⟩) n cap)] a' ∧ w' = v)) a v := by
  obtain ⟨hsz, hd, hp⟩ := hA
  obtain ⟨u, rfl, hg⟩ := litN hsz hd
  simp only [List.forall_mem_cons, hg] at hp
  obtain ⟨u0, -⟩ := hp
  clear hg hsz hd
  unfold q23_0 C23 Try.f23 seq1
  simp only [Option.getD_some, lits, Nat.reduceAdd, u0]
  clear u0
  go_wp2_with fail
  first
    | exact ⟨⟨rfl, rfl, by
      intro p hp
      simp only [List.mem_cons, List.not_mem_nil, or_false] at hp
      rcases hp with rfl <;> first | rfl | exact congrArg I (by omega) | exact congrArg Value.bool (by simp <;> omega) | exact congrArg Value.bool (by simp)⟩, rfl⟩
    | exact ⟨rfl, rfl, by
      intro p hp
      simp only [List.mem_cons, List.not_mem_nil, or_false] at hp
      rcases hp with rfl <;> first | rfl | exact congrArg I (by omega) | exact congrArg Value.bool (by simp <;> omega) | exact congrArg Value.bool (by simp)⟩
    | exact ⟨rfl, ⟨rfl, rfl, by
      intro p hp
      simp only [List.mem_cons, List.not_mem_nil, or_false] at hp
      rcases hp with rfl <;> first | rfl | exact congrArg I (by omega) | exact congrArg Value.bool (by simp <;> omega) | exact congrArg Value.bool (by simp)⟩, rfl⟩

set_option maxHeartbeats 1000000 in
theorem p23_1 {v : World} {a : Act} {b o n cap : Nat}  (hA : Fl 93 [(0, .slice (some ⟨b, o, none⟩) n cap)] a) :
    q23_1.wp Try.prog (fun e a' w' => e = .normal ∧ (Fl 93 [(0, .slice (some ⟨b, o, none⟩) n cap), (3, .slice none 0 0)] a' ∧ w' = v)) a v := by
  obtain ⟨hsz, hd, hp⟩ := hA
  obtain ⟨u, rfl, hg⟩ := litN hsz hd
  simp only [List.forall_mem_cons, hg] at hp
  obtain ⟨u0, -⟩ := hp
  clear hg hsz hd
  unfold q23_1 C23 Try.f23 seq1 seq2
  simp only [Option.getD_some, lits, Nat.reduceAdd, u0]
  clear u0
  go_wp2_with fail
  first
    | exact ⟨⟨rfl, rfl, by
      intro p hp
      simp only [List.mem_cons, List.not_mem_nil, or_false] at hp
      rcases hp with rfl | rfl <;> first | rfl | exact congrArg I (by omega) | exact congrArg Value.bool (by simp <;> omega) | exact congrArg Value.bool (by simp)⟩, rfl⟩
    | exact ⟨rfl, rfl, by
      intro p hp
      simp only [List.mem_cons, List.not_mem_nil, or_false] at hp
      rcases hp with rfl | rfl <;> first | rfl | exact congrArg I (by omega) | exact congrArg Value.bool (by simp <;> omega) | exact congrArg Value.bool (by simp)⟩
    | exact ⟨rfl, ⟨rfl, rfl, by
      intro p hp
      simp only [List.mem_cons, List.not_mem_nil, or_false] at hp
      rcases hp with rfl | rfl <;> first | rfl | exact congrArg I (by omega) | exact congrArg Value.bool (by simp <;> omega) | exact congrArg Value.bool (by simp)⟩, rfl⟩

set_option maxHeartbeats 1000000 in
theorem p23_2 {v : World} {a : Act} {b o n cap : Nat} {tv : Value}  (hA : Fl 93 [(0, .slice (some ⟨b, o, none⟩) n cap), (3, tv)] a) :
    q23_2.wp Try.prog (fun e a' w' => e = .normal ∧ (Fl 93 [(0, .slice (some ⟨b, o, none⟩) n cap), (3, tv), (4, I (0 : Nat))] a' ∧ w' = v)) a v := by
  obtain ⟨hsz, hd, hp⟩ := hA
  obtain ⟨u, rfl, hg⟩ := litN hsz hd
  simp only [List.forall_mem_cons, hg] at hp
  obtain ⟨u0, u3, -⟩ := hp
  clear hg hsz hd
  unfold q23_2 C23 Try.f23 seq1 seq2
  simp only [Option.getD_some, lits, Nat.reduceAdd, u0, u3]
  clear u0 u3
  go_wp2_with fail
  first
    | exact ⟨⟨rfl, rfl, by
      intro p hp
      simp only [List.mem_cons, List.not_mem_nil, or_false] at hp
      rcases hp with rfl | rfl | rfl <;> first | rfl | exact congrArg I (by omega) | exact congrArg Value.bool (by simp <;> omega) | exact congrArg Value.bool (by simp)⟩, rfl⟩
    | exact ⟨rfl, rfl, by
      intro p hp
      simp only [List.mem_cons, List.not_mem_nil, or_false] at hp
      rcases hp with rfl | rfl | rfl <;> first | rfl | exact congrArg I (by omega) | exact congrArg Value.bool (by simp <;> omega) | exact congrArg Value.bool (by simp)⟩
    | exact ⟨rfl, ⟨rfl, rfl, by
      intro p hp
      simp only [List.mem_cons, List.not_mem_nil, or_false] at hp
      rcases hp with rfl | rfl | rfl <;> first | rfl | exact congrArg I (by omega) | exact congrArg Value.bool (by simp <;> omega) | exact congrArg Value.bool (by simp)⟩, rfl⟩

set_option maxHeartbeats 1000000 in
theorem p23_3 {v : World} {a : Act} {b o n cap : Nat} {tv : Value} {i : Nat} (hn : n ≤ 100) (hA : Fl 93 [(0, .slice (some ⟨b, o, none⟩) n cap), (3, tv), (4, I (i : Nat))] a) :
    q23_3.wp Try.prog (fun e a' w' => e = .normal ∧ (Fl 93 [(13, Bl (decide (i < n))), (0, .slice (some ⟨b, o, none⟩) n cap), (3, tv), (4, I (i : Nat))] a' ∧ w' = v)) a v := by
  obtain ⟨hsz, hd, hp⟩ := hA
  obtain ⟨u, rfl, hg⟩ := litN hsz hd
  simp only [List.forall_mem_cons, hg] at hp
  obtain ⟨u0, u3, u4, -⟩ := hp
  clear hg hsz hd
  unfold q23_3 C23 Try.f23 seq1 seq2 blockC loopC
  simp only [Option.getD_some, lits, Nat.reduceAdd, u0, u3, u4]
  clear u0 u3 u4
  go_wp2_with fail
  first
    | exact ⟨⟨rfl, rfl, by
      intro p hp
      simp only [List.mem_cons, List.not_mem_nil, or_false] at hp
      rcases hp with rfl | rfl | rfl | rfl <;> first | rfl | exact congrArg I (by omega) | exact congrArg Value.bool (by simp <;> omega) | exact congrArg Value.bool (by simp)⟩, rfl⟩
    | exact ⟨rfl, rfl, by
      intro p hp
      simp only [List.mem_cons, List.not_mem_nil, or_false] at hp
      rcases hp with rfl | rfl | rfl | rfl <;> first | rfl | exact congrArg I (by omega) | exact congrArg Value.bool (by simp <;> omega) | exact congrArg Value.bool (by simp)⟩
    | exact ⟨rfl, ⟨rfl, rfl, by
      intro p hp
      simp only [List.mem_cons, List.not_mem_nil, or_false] at hp
      rcases hp with rfl | rfl | rfl | rfl <;> first | rfl | exact congrArg I (by omega) | exact congrArg Value.bool (by simp <;> omega) | exact congrArg Value.bool (by simp)⟩, rfl⟩

set_option maxHeartbeats 1000000 in
theorem p23_5 {v : World} {a : Act} {b o n cap : Nat} {tv : Value} {i : Nat} (hn : n ≤ 100) (hA : Fl 93 [(0, .slice (some ⟨b, o, none⟩) n cap), (3, tv), (4, I (i : Nat))] a) :
    q23_5.wp Try.prog (fun e a' w' => e = .normal ∧ (Fl 93 [(0, .slice (some ⟨b, o, none⟩) n cap), (3, tv), (4, I (i : Nat)), (5, .slice (some ⟨v.heap.size, 0, none⟩) n n)] a' ∧ w' = v.alloc (.cells (madeCells #[.bool false] n) 4))) a v := by
  obtain ⟨hsz, hd, hp⟩ := hA
  obtain ⟨u, rfl, hg⟩ := litN hsz hd
  simp only [List.forall_mem_cons, hg] at hp
  obtain ⟨u0, u3, u4, -⟩ := hp
  clear hg hsz hd
  unfold q23_5 C23 Try.f23 seq1 seq2 blockC loopC
  simp only [Option.getD_some, lits, Nat.reduceAdd, u0, u3, u4]
  clear u0 u3 u4
  have hmk := run_make_row' (P := Try.prog) 41 4 (.bool false) 1 Try.underlying41 info4 rfl .i64 .i64 n (by omega) (by omega)
  go_wp2_with fail
  first
    | exact ⟨⟨rfl, rfl, by
      intro p hp
      simp only [List.mem_cons, List.not_mem_nil, or_false] at hp
      rcases hp with rfl | rfl | rfl | rfl <;> first | rfl | exact congrArg I (by omega) | exact congrArg Value.bool (by simp <;> omega) | exact congrArg Value.bool (by simp)⟩, rfl⟩
    | exact ⟨rfl, rfl, by
      intro p hp
      simp only [List.mem_cons, List.not_mem_nil, or_false] at hp
      rcases hp with rfl | rfl | rfl | rfl <;> first | rfl | exact congrArg I (by omega) | exact congrArg Value.bool (by simp <;> omega) | exact congrArg Value.bool (by simp)⟩
    | exact ⟨rfl, ⟨rfl, rfl, by
      intro p hp
      simp only [List.mem_cons, List.not_mem_nil, or_false] at hp
      rcases hp with rfl | rfl | rfl | rfl <;> first | rfl | exact congrArg I (by omega) | exact congrArg Value.bool (by simp <;> omega) | exact congrArg Value.bool (by simp)⟩, rfl⟩

set_option maxHeartbeats 1000000 in
theorem p23_6 {v : World} {a : Act} {b o n cap : Nat} {tv : Value} {i : Nat} {rr : Nat}  (hA : Fl 93 [(0, .slice (some ⟨b, o, none⟩) n cap), (3, tv), (4, I (i : Nat)), (5, .slice (some ⟨rr, 0, none⟩) n n)] a) :
    q23_6.wp Try.prog (fun e a' w' => e = .normal ∧ (Fl 93 [(0, .slice (some ⟨b, o, none⟩) n cap), (3, tv), (4, I (i : Nat)), (5, .slice (some ⟨rr, 0, none⟩) n n), (6, I (0 : Nat))] a' ∧ w' = v)) a v := by
  obtain ⟨hsz, hd, hp⟩ := hA
  obtain ⟨u, rfl, hg⟩ := litN hsz hd
  simp only [List.forall_mem_cons, hg] at hp
  obtain ⟨u0, u3, u4, u5, -⟩ := hp
  clear hg hsz hd
  unfold q23_6 C23 Try.f23 seq1 seq2 blockC loopC
  simp only [Option.getD_some, lits, Nat.reduceAdd, u0, u3, u4, u5]
  clear u0 u3 u4 u5
  go_wp2_with fail
  first
    | exact ⟨⟨rfl, rfl, by
      intro p hp
      simp only [List.mem_cons, List.not_mem_nil, or_false] at hp
      rcases hp with rfl | rfl | rfl | rfl | rfl <;> first | rfl | exact congrArg I (by omega) | exact congrArg Value.bool (by simp <;> omega) | exact congrArg Value.bool (by simp)⟩, rfl⟩
    | exact ⟨rfl, rfl, by
      intro p hp
      simp only [List.mem_cons, List.not_mem_nil, or_false] at hp
      rcases hp with rfl | rfl | rfl | rfl | rfl <;> first | rfl | exact congrArg I (by omega) | exact congrArg Value.bool (by simp <;> omega) | exact congrArg Value.bool (by simp)⟩
    | exact ⟨rfl, ⟨rfl, rfl, by
      intro p hp
      simp only [List.mem_cons, List.not_mem_nil, or_false] at hp
      rcases hp with rfl | rfl | rfl | rfl | rfl <;> first | rfl | exact congrArg I (by omega) | exact congrArg Value.bool (by simp <;> omega) | exact congrArg Value.bool (by simp)⟩, rfl⟩

set_option maxHeartbeats 1000000 in
theorem p23_7 {v : World} {a : Act} {b o n cap : Nat} {tv : Value} {i : Nat} {rr : Nat} {k : Nat} {q : Option Addr} {nn nc : Nat} (c0 : v.cell? ⟨b, o + i * 5, none⟩ = some (.slice q nn nc)) (hi : i < n) (hn : n ≤ 100) (hnn : nn ≤ 20) (hA : Fl 93 [(0, .slice (some ⟨b, o, none⟩) n cap), (3, tv), (4, I (i : Nat)), (5, .slice (some ⟨rr, 0, none⟩) n n), (6, I (k : Nat))] a) :
    q23_7.wp Try.prog (fun e a' w' => e = .normal ∧ (Fl 93 [(26, Bl (decide (k < nn))), (0, .slice (some ⟨b, o, none⟩) n cap), (3, tv), (4, I (i : Nat)), (5, .slice (some ⟨rr, 0, none⟩) n n), (6, I (k : Nat))] a' ∧ w' = v)) a v := by
  obtain ⟨hsz, hd, hp⟩ := hA
  obtain ⟨u, rfl, hg⟩ := litN hsz hd
  simp only [List.forall_mem_cons, hg] at hp
  obtain ⟨u0, u3, u4, u5, u6, -⟩ := hp
  clear hg hsz hd
  unfold q23_7 C23 Try.f23 seq1 seq2 blockC loopC
  simp only [Option.getD_some, lits, Nat.reduceAdd, u0, u3, u4, u5, u6]
  clear u0 u3 u4 u5 u6
  go_wp2_with fail
  first
    | exact ⟨⟨rfl, rfl, by
      intro p hp
      simp only [List.mem_cons, List.not_mem_nil, or_false] at hp
      rcases hp with rfl | rfl | rfl | rfl | rfl | rfl <;> first | rfl | exact congrArg I (by omega) | exact congrArg Value.bool (by simp <;> omega) | exact congrArg Value.bool (by simp)⟩, rfl⟩
    | exact ⟨rfl, rfl, by
      intro p hp
      simp only [List.mem_cons, List.not_mem_nil, or_false] at hp
      rcases hp with rfl | rfl | rfl | rfl | rfl | rfl <;> first | rfl | exact congrArg I (by omega) | exact congrArg Value.bool (by simp <;> omega) | exact congrArg Value.bool (by simp)⟩
    | exact ⟨rfl, ⟨rfl, rfl, by
      intro p hp
      simp only [List.mem_cons, List.not_mem_nil, or_false] at hp
      rcases hp with rfl | rfl | rfl | rfl | rfl | rfl <;> first | rfl | exact congrArg I (by omega) | exact congrArg Value.bool (by simp <;> omega) | exact congrArg Value.bool (by simp)⟩, rfl⟩

set_option maxHeartbeats 1000000 in
theorem p23_9 {v : World} {a : Act} {b o n cap : Nat} {tv : Value} {i : Nat} {rr : Nat} {k : Nat} {nb no nn nc x : Nat} {y : Bool} (c0 : v.cell? ⟨b, o + i * 5, none⟩ = some (.slice (some ⟨nb, no, none⟩) nn nc)) (hi : i < n) (hn : n ≤ 100) (hnn : nn ≤ 20) (hk : k < nn) (cx : v.cell? ⟨nb, no + k, none⟩ = some (I (x : Nat))) (hx : x < n) (cr : v.cell? ⟨rr, x, none⟩ = some (Bl y)) (fr : v.frozen? ⟨rr, x, none⟩ = false) (hA : Fl 93 [(0, .slice (some ⟨b, o, none⟩) n cap), (3, tv), (4, I (i : Nat)), (5, .slice (some ⟨rr, 0, none⟩) n n), (6, I (k : Nat))] a) :
    q23_9.wp Try.prog (fun e a' w' => e = .normal ∧ (Fl 93 [(0, .slice (some ⟨b, o, none⟩) n cap), (3, tv), (4, I (i : Nat)), (5, .slice (some ⟨rr, 0, none⟩) n n), (6, I (k : Nat))] a' ∧ w' = v.setCell ⟨rr, x, none⟩ (Bl true))) a v := by
  obtain ⟨hsz, hd, hp⟩ := hA
  obtain ⟨u, rfl, hg⟩ := litN hsz hd
  simp only [List.forall_mem_cons, hg] at hp
  obtain ⟨u0, u3, u4, u5, u6, -⟩ := hp
  clear hg hsz hd
  unfold q23_9 C23 Try.f23 seq1 seq2 blockC loopC
  simp only [Option.getD_some, lits, Nat.reduceAdd, u0, u3, u4, u5, u6]
  clear u0 u3 u4 u5 u6
  go_wp2_with fail
  first
    | exact ⟨⟨rfl, rfl, by
      intro p hp
      simp only [List.mem_cons, List.not_mem_nil, or_false] at hp
      rcases hp with rfl | rfl | rfl | rfl | rfl <;> first | rfl | exact congrArg I (by omega) | exact congrArg Value.bool (by simp <;> omega) | exact congrArg Value.bool (by simp)⟩, rfl⟩
    | exact ⟨rfl, rfl, by
      intro p hp
      simp only [List.mem_cons, List.not_mem_nil, or_false] at hp
      rcases hp with rfl | rfl | rfl | rfl | rfl <;> first | rfl | exact congrArg I (by omega) | exact congrArg Value.bool (by simp <;> omega) | exact congrArg Value.bool (by simp)⟩
    | exact ⟨rfl, ⟨rfl, rfl, by
      intro p hp
      simp only [List.mem_cons, List.not_mem_nil, or_false] at hp
      rcases hp with rfl | rfl | rfl | rfl | rfl <;> first | rfl | exact congrArg I (by omega) | exact congrArg Value.bool (by simp <;> omega) | exact congrArg Value.bool (by simp)⟩, rfl⟩

set_option maxHeartbeats 1000000 in
theorem p23_8 {v : World} {a : Act} {b o n cap : Nat} {tv : Value} {i : Nat} {rr : Nat} {k : Nat} (hk : k < 100) (hA : Fl 93 [(0, .slice (some ⟨b, o, none⟩) n cap), (3, tv), (4, I (i : Nat)), (5, .slice (some ⟨rr, 0, none⟩) n n), (6, I (k : Nat))] a) :
    q23_8.wp Try.prog (fun e a' w' => e = .normal ∧ (Fl 93 [(0, .slice (some ⟨b, o, none⟩) n cap), (3, tv), (4, I (i : Nat)), (5, .slice (some ⟨rr, 0, none⟩) n n), (6, I ((k + 1 : Nat) : Int))] a' ∧ w' = v)) a v := by
  obtain ⟨hsz, hd, hp⟩ := hA
  obtain ⟨u, rfl, hg⟩ := litN hsz hd
  simp only [List.forall_mem_cons, hg] at hp
  obtain ⟨u0, u3, u4, u5, u6, -⟩ := hp
  clear hg hsz hd
  unfold q23_8 C23 Try.f23 seq1 seq2 blockC loopC
  simp only [Option.getD_some, lits, Nat.reduceAdd, u0, u3, u4, u5, u6]
  clear u0 u3 u4 u5 u6
  go_wp2_with fail
  first
    | exact ⟨⟨rfl, rfl, by
      intro p hp
      simp only [List.mem_cons, List.not_mem_nil, or_false] at hp
      rcases hp with rfl | rfl | rfl | rfl | rfl <;> first | rfl | exact congrArg I (by omega) | exact congrArg Value.bool (by simp <;> omega) | exact congrArg Value.bool (by simp)⟩, rfl⟩
    | exact ⟨rfl, rfl, by
      intro p hp
      simp only [List.mem_cons, List.not_mem_nil, or_false] at hp
      rcases hp with rfl | rfl | rfl | rfl | rfl <;> first | rfl | exact congrArg I (by omega) | exact congrArg Value.bool (by simp <;> omega) | exact congrArg Value.bool (by simp)⟩
    | exact ⟨rfl, ⟨rfl, rfl, by
      intro p hp
      simp only [List.mem_cons, List.not_mem_nil, or_false] at hp
      rcases hp with rfl | rfl | rfl | rfl | rfl <;> first | rfl | exact congrArg I (by omega) | exact congrArg Value.bool (by simp <;> omega) | exact congrArg Value.bool (by simp)⟩, rfl⟩

set_option maxHeartbeats 1000000 in
theorem p23_10 {v : World} {a : Act} {b o n cap : Nat} {tv : Value} {i : Nat} {rr : Nat} {Z : Nat → Prop} {xs : List Value} (hO : OwnS Z v tv xs) (hZ : ∀ i, Z i → i < v.heap.size) (hl : xs.length ≤ 1000) (hA : Fl 93 [(0, .slice (some ⟨b, o, none⟩) n cap), (3, tv), (4, I (i : Nat)), (5, .slice (some ⟨rr, 0, none⟩) n n)] a) :
    q23_10.wp Try.prog (fun e a' w' => e = .normal ∧ ∃ g ct, (Fl 93 [(0, .slice (some ⟨b, o, none⟩) n cap), (3, .slice (some ⟨g, 0, none⟩) (xs.length + 1) ct), (4, I (i : Nat))] a' ∧ OwnS Z w' (.slice (some ⟨g, 0, none⟩) (xs.length + 1) ct) (xs ++ [.slice (some ⟨rr, 0, none⟩) n n]) ∧ Kp Z v w' ∧ (∀ i, i < v.heap.size → tv.ownBlock ≠ some i → w'.heap[i]? = v.heap[i]?) ∧ (tv.ownBlock = some g ∨ v.heap.size ≤ g) ∧ v.heap.size ≤ w'.heap.size)) a v := by
  have HO : Hid (OwnS Z v tv xs) := hO
  have HZ : Hid (∀ i, Z i → i < v.heap.size) := hZ
  clear hO hZ
  obtain ⟨hsz, hd, hp⟩ := hA
  obtain ⟨u, rfl, hg⟩ := litN hsz hd
  simp only [List.forall_mem_cons, hg] at hp
  obtain ⟨u0, u3, u4, u5, -⟩ := hp
  clear hg hsz hd
  unfold q23_10 C23 Try.f23 seq1 seq2 blockC loopC
  simp only [Option.getD_some, lits, Nat.reduceAdd, u0, u3, u4, u5]
  clear u0 u3 u4 u5
  go_wp2_with (first
    | (at_builtin; refine wp_app41 (y := .slice (some ⟨rr, 0, none⟩) n n) rfl (.tmp 39) (.tmp 41) rfl rfl rfl rfl HO.out HZ.out hl ?_; intro g ct w' hO' hk' hb' hloc' hsz'; have H' : Hid (OwnS Z w' (.slice (some ⟨g, 0, none⟩) (xs.length + 1) ct) (xs ++ [.slice (some ⟨rr, 0, none⟩) n n]) ∧ Kp Z v w' ∧ (∀ i, i < v.heap.size → tv.ownBlock ≠ some i → w'.heap[i]? = v.heap[i]?) ∧ (tv.ownBlock = some g ∨ v.heap.size ≤ g) ∧ v.heap.size ≤ w'.heap.size) := ⟨hO', hk', hb', hloc', hsz'⟩; clear hO' hk' hb' hloc' hsz'))
  exact ⟨g, ct, ⟨rfl, rfl, by
    intro p hp
    simp only [List.mem_cons, List.not_mem_nil, or_false] at hp
    rcases hp with rfl | rfl | rfl <;> first | rfl | exact congrArg I (by omega) | exact congrArg Value.bool (by simp <;> omega) | exact congrArg Value.bool (by simp)⟩, H'.out⟩

set_option maxHeartbeats 1000000 in
theorem p23_4 {v : World} {a : Act} {b o n cap : Nat} {tv : Value} {i : Nat} (hi : i < 100) (hA : Fl 93 [(0, .slice (some ⟨b, o, none⟩) n cap), (3, tv), (4, I (i : Nat))] a) :
    q23_4.wp Try.prog (fun e a' w' => e = .normal ∧ (Fl 93 [(0, .slice (some ⟨b, o, none⟩) n cap), (3, tv), (4, I ((i + 1 : Nat) : Int))] a' ∧ w' = v)) a v := by
  obtain ⟨hsz, hd, hp⟩ := hA
  obtain ⟨u, rfl, hg⟩ := litN hsz hd
  simp only [List.forall_mem_cons, hg] at hp
  obtain ⟨u0, u3, u4, -⟩ := hp
  clear hg hsz hd
  unfold q23_4 C23 Try.f23 seq1 seq2 blockC loopC
  simp only [Option.getD_some, lits, Nat.reduceAdd, u0, u3, u4]
  clear u0 u3 u4
  go_wp2_with fail
  first
    | exact ⟨⟨rfl, rfl, by
      intro p hp
      simp only [List.mem_cons, List.not_mem_nil, or_false] at hp
      rcases hp with rfl | rfl | rfl <;> first | rfl | exact congrArg I (by omega) | exact congrArg Value.bool (by simp <;> omega) | exact congrArg Value.bool (by simp)⟩, rfl⟩
    | exact ⟨rfl, rfl, by
      intro p hp
      simp only [List.mem_cons, List.not_mem_nil, or_false] at hp
      rcases hp with rfl | rfl | rfl <;> first | rfl | exact congrArg I (by omega) | exact congrArg Value.bool (by simp <;> omega) | exact congrArg Value.bool (by simp)⟩
    | exact ⟨rfl, ⟨rfl, rfl, by
      intro p hp
      simp only [List.mem_cons, List.not_mem_nil, or_false] at hp
      rcases hp with rfl | rfl | rfl <;> first | rfl | exact congrArg I (by omega) | exact congrArg Value.bool (by simp <;> omega) | exact congrArg Value.bool (by simp)⟩, rfl⟩

set_option maxHeartbeats 1000000 in
theorem p23_11 {v : World} {a : Act} {b o n cap : Nat} {tv : Value}  (hA : Fl 93 [(0, .slice (some ⟨b, o, none⟩) n cap), (3, tv)] a) :
    q23_11.wp Try.prog (fun e a' w' => e = .normal ∧ (Fl 93 [(0, .slice (some ⟨b, o, none⟩) n cap), (3, tv), (7, I (0 : Nat))] a' ∧ w' = v)) a v := by
  obtain ⟨hsz, hd, hp⟩ := hA
  obtain ⟨u, rfl, hg⟩ := litN hsz hd
  simp only [List.forall_mem_cons, hg] at hp
  obtain ⟨u0, u3, -⟩ := hp
  clear hg hsz hd
  unfold q23_11 C23 Try.f23 seq1 seq2
  simp only [Option.getD_some, lits, Nat.reduceAdd, u0, u3]
  clear u0 u3
  go_wp2_with fail
  first
    | exact ⟨⟨rfl, rfl, by
      intro p hp
      simp only [List.mem_cons, List.not_mem_nil, or_false] at hp
      rcases hp with rfl | rfl | rfl <;> first | rfl | exact congrArg I (by omega) | exact congrArg Value.bool (by simp <;> omega) | exact congrArg Value.bool (by simp)⟩, rfl⟩
    | exact ⟨rfl, rfl, by
      intro p hp
      simp only [List.mem_cons, List.not_mem_nil, or_false] at hp
      rcases hp with rfl | rfl | rfl <;> first | rfl | exact congrArg I (by omega) | exact congrArg Value.bool (by simp <;> omega) | exact congrArg Value.bool (by simp)⟩
    | exact ⟨rfl, ⟨rfl, rfl, by
      intro p hp
      simp only [List.mem_cons, List.not_mem_nil, or_false] at hp
      rcases hp with rfl | rfl | rfl <;> first | rfl | exact congrArg I (by omega) | exact congrArg Value.bool (by simp <;> omega) | exact congrArg Value.bool (by simp)⟩, rfl⟩

set_option maxHeartbeats 1000000 in
theorem p23_12 {v : World} {a : Act} {b o n cap : Nat} {tv : Value} {m : Nat} (hn : n ≤ 100) (hA : Fl 93 [(0, .slice (some ⟨b, o, none⟩) n cap), (3, tv), (7, I (m : Nat))] a) :
    q23_12.wp Try.prog (fun e a' w' => e = .normal ∧ (Fl 93 [(46, Bl (decide (m < n))), (0, .slice (some ⟨b, o, none⟩) n cap), (3, tv), (7, I (m : Nat))] a' ∧ w' = v)) a v := by
  obtain ⟨hsz, hd, hp⟩ := hA
  obtain ⟨u, rfl, hg⟩ := litN hsz hd
  simp only [List.forall_mem_cons, hg] at hp
  obtain ⟨u0, u3, u7, -⟩ := hp
  clear hg hsz hd
  unfold q23_12 C23 Try.f23 seq1 seq2 blockC loopC
  simp only [Option.getD_some, lits, Nat.reduceAdd, u0, u3, u7]
  clear u0 u3 u7
  go_wp2_with fail
  first
    | exact ⟨⟨rfl, rfl, by
      intro p hp
      simp only [List.mem_cons, List.not_mem_nil, or_false] at hp
      rcases hp with rfl | rfl | rfl | rfl <;> first | rfl | exact congrArg I (by omega) | exact congrArg Value.bool (by simp <;> omega) | exact congrArg Value.bool (by simp)⟩, rfl⟩
    | exact ⟨rfl, rfl, by
      intro p hp
      simp only [List.mem_cons, List.not_mem_nil, or_false] at hp
      rcases hp with rfl | rfl | rfl | rfl <;> first | rfl | exact congrArg I (by omega) | exact congrArg Value.bool (by simp <;> omega) | exact congrArg Value.bool (by simp)⟩
    | exact ⟨rfl, ⟨rfl, rfl, by
      intro p hp
      simp only [List.mem_cons, List.not_mem_nil, or_false] at hp
      rcases hp with rfl | rfl | rfl | rfl <;> first | rfl | exact congrArg I (by omega) | exact congrArg Value.bool (by simp <;> omega) | exact congrArg Value.bool (by simp)⟩, rfl⟩

set_option maxHeartbeats 1000000 in
theorem p23_14 {v : World} {a : Act} {b o n cap : Nat} {tv : Value} {m : Nat}  (hA : Fl 93 [(0, .slice (some ⟨b, o, none⟩) n cap), (3, tv), (7, I (m : Nat))] a) :
    q23_14.wp Try.prog (fun e a' w' => e = .normal ∧ (Fl 93 [(0, .slice (some ⟨b, o, none⟩) n cap), (3, tv), (7, I (m : Nat)), (8, I (0 : Nat))] a' ∧ w' = v)) a v := by
  obtain ⟨hsz, hd, hp⟩ := hA
  obtain ⟨u, rfl, hg⟩ := litN hsz hd
  simp only [List.forall_mem_cons, hg] at hp
  obtain ⟨u0, u3, u7, -⟩ := hp
  clear hg hsz hd
  unfold q23_14 C23 Try.f23 seq1 seq2 blockC loopC
  simp only [Option.getD_some, lits, Nat.reduceAdd, u0, u3, u7]
  clear u0 u3 u7
  go_wp2_with fail
  first
    | exact ⟨⟨rfl, rfl, by
      intro p hp
      simp only [List.mem_cons, List.not_mem_nil, or_false] at hp
      rcases hp with rfl | rfl | rfl | rfl <;> first | rfl | exact congrArg I (by omega) | exact congrArg Value.bool (by simp <;> omega) | exact congrArg Value.bool (by simp)⟩, rfl⟩
    | exact ⟨rfl, rfl, by
      intro p hp
      simp only [List.mem_cons, List.not_mem_nil, or_false] at hp
      rcases hp with rfl | rfl | rfl | rfl <;> first | rfl | exact congrArg I (by omega) | exact congrArg Value.bool (by simp <;> omega) | exact congrArg Value.bool (by simp)⟩
    | exact ⟨rfl, ⟨rfl, rfl, by
      intro p hp
      simp only [List.mem_cons, List.not_mem_nil, or_false] at hp
      rcases hp with rfl | rfl | rfl | rfl <;> first | rfl | exact congrArg I (by omega) | exact congrArg Value.bool (by simp <;> omega) | exact congrArg Value.bool (by simp)⟩, rfl⟩

set_option maxHeartbeats 1000000 in
theorem p23_15 {v : World} {a : Act} {b o n cap : Nat} {tv : Value} {m : Nat} {i : Nat} (hn : n ≤ 100) (hA : Fl 93 [(0, .slice (some ⟨b, o, none⟩) n cap), (3, tv), (7, I (m : Nat)), (8, I (i : Nat))] a) :
    q23_15.wp Try.prog (fun e a' w' => e = .normal ∧ (Fl 93 [(52, Bl (decide (i < n))), (0, .slice (some ⟨b, o, none⟩) n cap), (3, tv), (7, I (m : Nat)), (8, I (i : Nat))] a' ∧ w' = v)) a v := by
  obtain ⟨hsz, hd, hp⟩ := hA
  obtain ⟨u, rfl, hg⟩ := litN hsz hd
  simp only [List.forall_mem_cons, hg] at hp
  obtain ⟨u0, u3, u7, u8, -⟩ := hp
  clear hg hsz hd
  unfold q23_15 C23 Try.f23 seq1 seq2 blockC loopC
  simp only [Option.getD_some, lits, Nat.reduceAdd, u0, u3, u7, u8]
  clear u0 u3 u7 u8
  go_wp2_with fail
  first
    | exact ⟨⟨rfl, rfl, by
      intro p hp
      simp only [List.mem_cons, List.not_mem_nil, or_false] at hp
      rcases hp with rfl | rfl | rfl | rfl | rfl <;> first | rfl | exact congrArg I (by omega) | exact congrArg Value.bool (by simp <;> omega) | exact congrArg Value.bool (by simp)⟩, rfl⟩
    | exact ⟨rfl, rfl, by
      intro p hp
      simp only [List.mem_cons, List.not_mem_nil, or_false] at hp
      rcases hp with rfl | rfl | rfl | rfl | rfl <;> first | rfl | exact congrArg I (by omega) | exact congrArg Value.bool (by simp <;> omega) | exact congrArg Value.bool (by simp)⟩
    | exact ⟨rfl, ⟨rfl, rfl, by
      intro p hp
      simp only [List.mem_cons, List.not_mem_nil, or_false] at hp
      rcases hp with rfl | rfl | rfl | rfl | rfl <;> first | rfl | exact congrArg I (by omega) | exact congrArg Value.bool (by simp <;> omega) | exact congrArg Value.bool (by simp)⟩, rfl⟩

set_option maxHeartbeats 1000000 in
theorem p23_17 {v : World} {a : Act} {b o n cap : Nat} {tv : Value} {m : Nat} {i : Nat}  (hA : Fl 93 [(0, .slice (some ⟨b, o, none⟩) n cap), (3, tv), (7, I (m : Nat)), (8, I (i : Nat))] a) :
    q23_17.wp Try.prog (fun e a' w' => e = .normal ∧ (Fl 93 [(0, .slice (some ⟨b, o, none⟩) n cap), (3, tv), (7, I (m : Nat)), (8, I (i : Nat)), (9, I (0 : Nat))] a' ∧ w' = v)) a v := by
  obtain ⟨hsz, hd, hp⟩ := hA
  obtain ⟨u, rfl, hg⟩ := litN hsz hd
  simp only [List.forall_mem_cons, hg] at hp
  obtain ⟨u0, u3, u7, u8, -⟩ := hp
  clear hg hsz hd
  unfold q23_17 C23 Try.f23 seq1 seq2 blockC loopC
  simp only [Option.getD_some, lits, Nat.reduceAdd, u0, u3, u7, u8]
  clear u0 u3 u7 u8
  go_wp2_with fail
  first
    | exact ⟨⟨rfl, rfl, by
      intro p hp
      simp only [List.mem_cons, List.not_mem_nil, or_false] at hp
      rcases hp with rfl | rfl | rfl | rfl | rfl <;> first | rfl | exact congrArg I (by omega) | exact congrArg Value.bool (by simp <;> omega) | exact congrArg Value.bool (by simp)⟩, rfl⟩
    | exact ⟨rfl, rfl, by
      intro p hp
      simp only [List.mem_cons, List.not_mem_nil, or_false] at hp
      rcases hp with rfl | rfl | rfl | rfl | rfl <;> first | rfl | exact congrArg I (by omega) | exact congrArg Value.bool (by simp <;> omega) | exact congrArg Value.bool (by simp)⟩
    | exact ⟨rfl, ⟨rfl, rfl, by
      intro p hp
      simp only [List.mem_cons, List.not_mem_nil, or_false] at hp
      rcases hp with rfl | rfl | rfl | rfl | rfl <;> first | rfl | exact congrArg I (by omega) | exact congrArg Value.bool (by simp <;> omega) | exact congrArg Value.bool (by simp)⟩, rfl⟩

set_option maxHeartbeats 1000000 in
theorem p23_18_a {v : World} {a : Act} {b o n cap : Nat} {g ct m i k ri rm : Nat} {y z : Bool} (hn : n ≤ 100) (hk : k < n) (hi : i < n) (hm : m < n) (ci : v.cell? ⟨g, i, none⟩ = some (.slice (some ⟨ri, 0, none⟩) n n)) (cm : v.cell? ⟨ri, m, none⟩ = some (Bl y)) (hA : Fl 93 [(0, .slice (some ⟨b, o, none⟩) n cap), (3, .slice (some ⟨g, 0, none⟩) n ct), (7, I (m : Nat)), (8, I (i : Nat)), (9, I (k : Nat))] a) :
    q23_18.wp Try.prog (fun e a' w' => e = .normal ∧ (Fl 93 [(67, Bl y), (0, .slice (some ⟨b, o, none⟩) n cap), (3, .slice (some ⟨g, 0, none⟩) n ct), (7, I (m : Nat)), (8, I (i : Nat)), (9, I (k : Nat))] a' ∧ w' = v)) a v := by
  obtain ⟨hsz, hd, hp⟩ := hA
  obtain ⟨u, rfl, hg⟩ := litN hsz hd
  simp only [List.forall_mem_cons, hg] at hp
  obtain ⟨u0, u3, u7, u8, u9, -⟩ := hp
  clear hg hsz hd
  unfold q23_18 C23 Try.f23 seq1 seq2 blockC loopC
  simp only [Option.getD_some, lits, Nat.reduceAdd, u0, u3, u7, u8, u9]
  clear u0 u3 u7 u8 u9
  go_wp2_with fail
  first
    | exact ⟨⟨rfl, rfl, by
      intro p hp
      simp only [List.mem_cons, List.not_mem_nil, or_false] at hp
      rcases hp with rfl | rfl | rfl | rfl | rfl | rfl <;> first | rfl | exact congrArg I (by omega) | exact congrArg Value.bool (by simp <;> omega) | exact congrArg Value.bool (by simp)⟩, rfl⟩
    | exact ⟨rfl, rfl, by
      intro p hp
      simp only [List.mem_cons, List.not_mem_nil, or_false] at hp
      rcases hp with rfl | rfl | rfl | rfl | rfl | rfl <;> first | rfl | exact congrArg I (by omega) | exact congrArg Value.bool (by simp <;> omega) | exact congrArg Value.bool (by simp)⟩
    | exact ⟨rfl, ⟨rfl, rfl, by
      intro p hp
      simp only [List.mem_cons, List.not_mem_nil, or_false] at hp
      rcases hp with rfl | rfl | rfl | rfl | rfl | rfl <;> first | rfl | exact congrArg I (by omega) | exact congrArg Value.bool (by simp <;> omega) | exact congrArg Value.bool (by simp)⟩, rfl⟩

set_option maxHeartbeats 1000000 in
theorem p23_18_b {v : World} {a : Act} {b o n cap : Nat} {g ct m i k ri rm : Nat} {y z : Bool} (hn : n ≤ 100) (hk : ¬ (k : Int) < (n : Int)) (hA : Fl 93 [(0, .slice (some ⟨b, o, none⟩) n cap), (3, .slice (some ⟨g, 0, none⟩) n ct), (7, I (m : Nat)), (8, I (i : Nat)), (9, I (k : Nat))] a) :
    q23_18.wp Try.prog (fun e a' w' => e = .normal ∧ (Fl 93 [(67, Bl false), (0, .slice (some ⟨b, o, none⟩) n cap), (3, .slice (some ⟨g, 0, none⟩) n ct), (7, I (m : Nat)), (8, I (i : Nat)), (9, I (k : Nat))] a' ∧ w' = v)) a v := by
  obtain ⟨hsz, hd, hp⟩ := hA
  obtain ⟨u, rfl, hg⟩ := litN hsz hd
  simp only [List.forall_mem_cons, hg] at hp
  obtain ⟨u0, u3, u7, u8, u9, -⟩ := hp
  clear hg hsz hd
  unfold q23_18 C23 Try.f23 seq1 seq2 blockC loopC
  simp only [Option.getD_some, lits, Nat.reduceAdd, u0, u3, u7, u8, u9]
  clear u0 u3 u7 u8 u9
  go_wp2_with fail
  first
    | exact ⟨⟨rfl, rfl, by
      intro p hp
      simp only [List.mem_cons, List.not_mem_nil, or_false] at hp
      rcases hp with rfl | rfl | rfl | rfl | rfl | rfl <;> first | rfl | exact congrArg I (by omega) | exact congrArg Value.bool (by simp <;> omega) | exact congrArg Value.bool (by simp)⟩, rfl⟩
    | exact ⟨rfl, rfl, by
      intro p hp
      simp only [List.mem_cons, List.not_mem_nil, or_false] at hp
      rcases hp with rfl | rfl | rfl | rfl | rfl | rfl <;> first | rfl | exact congrArg I (by omega) | exact congrArg Value.bool (by simp <;> omega) | exact congrArg Value.bool (by simp)⟩
    | exact ⟨rfl, ⟨rfl, rfl, by
      intro p hp
      simp only [List.mem_cons, List.not_mem_nil, or_false] at hp
      rcases hp with rfl | rfl | rfl | rfl | rfl | rfl <;> first | rfl | exact congrArg I (by omega) | exact congrArg Value.bool (by simp <;> omega) | exact congrArg Value.bool (by simp)⟩, rfl⟩

set_option maxHeartbeats 1000000 in
theorem p23_20_a {v : World} {a : Act} {b o n cap : Nat} {g ct m i k ri rm : Nat} {z : Bool} (hn : n ≤ 100) (hk : k < n) (hi : i < n) (hm : m < n) (ci : v.cell? ⟨g, i, none⟩ = some (.slice (some ⟨ri, 0, none⟩) n n)) (cmm : v.cell? ⟨g, m, none⟩ = some (.slice (some ⟨rm, 0, none⟩) n n)) (cy : v.cell? ⟨ri, k, none⟩ = some (.bool true)) (fy : v.frozen? ⟨ri, k, none⟩ = false) (cz : v.cell? ⟨rm, k, none⟩ = some (.bool z)) (hA : Fl 93 [(0, .slice (some ⟨b, o, none⟩) n cap), (3, .slice (some ⟨g, 0, none⟩) n ct), (7, I (m : Nat)), (8, I (i : Nat)), (9, I (k : Nat))] a) :
    q23_20.wp Try.prog (Nrm fun a' w' => (Fl 93 [(0, .slice (some ⟨b, o, none⟩) n cap), (3, .slice (some ⟨g, 0, none⟩) n ct), (7, I (m : Nat)), (8, I (i : Nat)), (9, I (k : Nat))] a' ∧ w'.heap = (v.setCell ⟨ri, k, none⟩ (.bool true)).heap ∧ w'.os = v.os ∧ w'.tape = v.tape ∧ w'.output = v.output)) a v := by
  obtain ⟨hsz, hd, hp⟩ := hA
  obtain ⟨u, rfl, hg⟩ := litN hsz hd
  simp only [List.forall_mem_cons, hg] at hp
  obtain ⟨u0, u3, u7, u8, u9, -⟩ := hp
  clear hg hsz hd
  unfold q23_20 C23 Try.f23 seq1 seq2 blockC loopC
  simp only [Option.getD_some, lits, Nat.reduceAdd, u0, u3, u7, u8, u9]
  clear u0 u3 u7 u8 u9
  go_region
  exact ⟨⟨rfl, rfl, by
    intro p hp
    simp only [List.mem_cons, List.not_mem_nil, or_false] at hp
    rcases hp with rfl | rfl | rfl | rfl | rfl <;> first | rfl | exact congrArg I (by omega) | exact congrArg Value.bool (by simp <;> omega) | exact congrArg Value.bool (by simp)⟩, rfl, rfl, rfl, rfl⟩

set_option maxHeartbeats 1000000 in
theorem p23_20_b {v : World} {a : Act} {b o n cap : Nat} {g ct m i k ri rm : Nat} {z : Bool} (hn : n ≤ 100) (hk : k < n) (hi : i < n) (hm : m < n) (ci : v.cell? ⟨g, i, none⟩ = some (.slice (some ⟨ri, 0, none⟩) n n)) (cmm : v.cell? ⟨g, m, none⟩ = some (.slice (some ⟨rm, 0, none⟩) n n)) (cy : v.cell? ⟨ri, k, none⟩ = some (.bool false)) (fy : v.frozen? ⟨ri, k, none⟩ = false) (cz : v.cell? ⟨rm, k, none⟩ = some (.bool z)) (hA : Fl 93 [(0, .slice (some ⟨b, o, none⟩) n cap), (3, .slice (some ⟨g, 0, none⟩) n ct), (7, I (m : Nat)), (8, I (i : Nat)), (9, I (k : Nat))] a) :
    q23_20.wp Try.prog (Nrm fun a' w' => (Fl 93 [(0, .slice (some ⟨b, o, none⟩) n cap), (3, .slice (some ⟨g, 0, none⟩) n ct), (7, I (m : Nat)), (8, I (i : Nat)), (9, I (k : Nat))] a' ∧ w'.heap = (v.setCell ⟨ri, k, none⟩ (.bool z)).heap ∧ w'.os = v.os ∧ w'.tape = v.tape ∧ w'.output = v.output)) a v := by
  obtain ⟨hsz, hd, hp⟩ := hA
  obtain ⟨u, rfl, hg⟩ := litN hsz hd
  simp only [List.forall_mem_cons, hg] at hp
  obtain ⟨u0, u3, u7, u8, u9, -⟩ := hp
  clear hg hsz hd
  unfold q23_20 C23 Try.f23 seq1 seq2 blockC loopC
  simp only [Option.getD_some, lits, Nat.reduceAdd, u0, u3, u7, u8, u9]
  clear u0 u3 u7 u8 u9
  go_region
  exact ⟨⟨rfl, rfl, by
    intro p hp
    simp only [List.mem_cons, List.not_mem_nil, or_false] at hp
    rcases hp with rfl | rfl | rfl | rfl | rfl <;> first | rfl | exact congrArg I (by omega) | exact congrArg Value.bool (by simp <;> omega) | exact congrArg Value.bool (by simp)⟩, rfl, rfl, rfl, rfl⟩

set_option maxHeartbeats 1000000 in
theorem p23_19 {v : World} {a : Act} {b o n cap : Nat} {tv : Value} {m : Nat} {i : Nat} {k : Nat} (hk : k < 100) (hA : Fl 93 [(0, .slice (some ⟨b, o, none⟩) n cap), (3, tv), (7, I (m : Nat)), (8, I (i : Nat)), (9, I (k : Nat))] a) :
    q23_19.wp Try.prog (fun e a' w' => e = .normal ∧ (Fl 93 [(0, .slice (some ⟨b, o, none⟩) n cap), (3, tv), (7, I (m : Nat)), (8, I (i : Nat)), (9, I ((k + 1 : Nat) : Int))] a' ∧ w' = v)) a v := by
  obtain ⟨hsz, hd, hp⟩ := hA
  obtain ⟨u, rfl, hg⟩ := litN hsz hd
  simp only [List.forall_mem_cons, hg] at hp
  obtain ⟨u0, u3, u7, u8, u9, -⟩ := hp
  clear hg hsz hd
  unfold q23_19 C23 Try.f23 seq1 seq2 blockC loopC
  simp only [Option.getD_some, lits, Nat.reduceAdd, u0, u3, u7, u8, u9]
  clear u0 u3 u7 u8 u9
  go_wp2_with fail
  first
    | exact ⟨⟨rfl, rfl, by
      intro p hp
      simp only [List.mem_cons, List.not_mem_nil, or_false] at hp
      rcases hp with rfl | rfl | rfl | rfl | rfl <;> first | rfl | exact congrArg I (by omega) | exact congrArg Value.bool (by simp <;> omega) | exact congrArg Value.bool (by simp)⟩, rfl⟩
    | exact ⟨rfl, rfl, by
      intro p hp
      simp only [List.mem_cons, List.not_mem_nil, or_false] at hp
      rcases hp with rfl | rfl | rfl | rfl | rfl <;> first | rfl | exact congrArg I (by omega) | exact congrArg Value.bool (by simp <;> omega) | exact congrArg Value.bool (by simp)⟩
    | exact ⟨rfl, ⟨rfl, rfl, by
      intro p hp
      simp only [List.mem_cons, List.not_mem_nil, or_false] at hp
      rcases hp with rfl | rfl | rfl | rfl | rfl <;> first | rfl | exact congrArg I (by omega) | exact congrArg Value.bool (by simp <;> omega) | exact congrArg Value.bool (by simp)⟩, rfl⟩

set_option maxHeartbeats 1000000 in
theorem p23_16 {v : World} {a : Act} {b o n cap : Nat} {tv : Value} {m : Nat} {i : Nat} (hi : i < 100) (hA : Fl 93 [(0, .slice (some ⟨b, o, none⟩) n cap), (3, tv), (7, I (m : Nat)), (8, I (i : Nat))] a) :
    q23_16.wp Try.prog (fun e a' w' => e = .normal ∧ (Fl 93 [(0, .slice (some ⟨b, o, none⟩) n cap), (3, tv), (7, I (m : Nat)), (8, I ((i + 1 : Nat) : Int))] a' ∧ w' = v)) a v := by
  obtain ⟨hsz, hd, hp⟩ := hA
  obtain ⟨u, rfl, hg⟩ := litN hsz hd
  simp only [List.forall_mem_cons, hg] at hp
  obtain ⟨u0, u3, u7, u8, -⟩ := hp
  clear hg hsz hd
  unfold q23_16 C23 Try.f23 seq1 seq2 blockC loopC
  simp only [Option.getD_some, lits, Nat.reduceAdd, u0, u3, u7, u8]
  clear u0 u3 u7 u8
  go_wp2_with fail
  first
    | exact ⟨⟨rfl, rfl, by
      intro p hp
      simp only [List.mem_cons, List.not_mem_nil, or_false] at hp
      rcases hp with rfl | rfl | rfl | rfl <;> first | rfl | exact congrArg I (by omega) | exact congrArg Value.bool (by simp <;> omega) | exact congrArg Value.bool (by simp)⟩, rfl⟩
    | exact ⟨rfl, rfl, by
      intro p hp
      simp only [List.mem_cons, List.not_mem_nil, or_false] at hp
      rcases hp with rfl | rfl | rfl | rfl <;> first | rfl | exact congrArg I (by omega) | exact congrArg Value.bool (by simp <;> omega) | exact congrArg Value.bool (by simp)⟩
    | exact ⟨rfl, ⟨rfl, rfl, by
      intro p hp
      simp only [List.mem_cons, List.not_mem_nil, or_false] at hp
      rcases hp with rfl | rfl | rfl | rfl <;> first | rfl | exact congrArg I (by omega) | exact congrArg Value.bool (by simp <;> omega) | exact congrArg Value.bool (by simp)⟩, rfl⟩

set_option maxHeartbeats 1000000 in
theorem p23_13 {v : World} {a : Act} {b o n cap : Nat} {tv : Value} {m : Nat} (hm : m < 100) (hA : Fl 93 [(0, .slice (some ⟨b, o, none⟩) n cap), (3, tv), (7, I (m : Nat))] a) :
    q23_13.wp Try.prog (fun e a' w' => e = .normal ∧ (Fl 93 [(0, .slice (some ⟨b, o, none⟩) n cap), (3, tv), (7, I ((m + 1 : Nat) : Int))] a' ∧ w' = v)) a v := by
  obtain ⟨hsz, hd, hp⟩ := hA
  obtain ⟨u, rfl, hg⟩ := litN hsz hd
  simp only [List.forall_mem_cons, hg] at hp
  obtain ⟨u0, u3, u7, -⟩ := hp
  clear hg hsz hd
  unfold q23_13 C23 Try.f23 seq1 seq2 blockC loopC
  simp only [Option.getD_some, lits, Nat.reduceAdd, u0, u3, u7]
  clear u0 u3 u7
  go_wp2_with fail
  first
    | exact ⟨⟨rfl, rfl, by
      intro p hp
      simp only [List.mem_cons, List.not_mem_nil, or_false] at hp
      rcases hp with rfl | rfl | rfl <;> first | rfl | exact congrArg I (by omega) | exact congrArg Value.bool (by simp <;> omega) | exact congrArg Value.bool (by simp)⟩, rfl⟩
    | exact ⟨rfl, rfl, by
      intro p hp
      simp only [List.mem_cons, List.not_mem_nil, or_false] at hp
      rcases hp with rfl | rfl | rfl <;> first | rfl | exact congrArg I (by omega) | exact congrArg Value.bool (by simp <;> omega) | exact congrArg Value.bool (by simp)⟩
    | exact ⟨rfl, ⟨rfl, rfl, by
      intro p hp
      simp only [List.mem_cons, List.not_mem_nil, or_false] at hp
      rcases hp with rfl | rfl | rfl <;> first | rfl | exact congrArg I (by omega) | exact congrArg Value.bool (by simp <;> omega) | exact congrArg Value.bool (by simp)⟩, rfl⟩

set_option maxHeartbeats 1000000 in
theorem p23_21 {v : World} {a : Act} {b o n cap : Nat} {tv : Value}  (hA : Fl 93 [(0, .slice (some ⟨b, o, none⟩) n cap), (3, tv)] a) :
    q23_21.wp Try.prog (fun e a' w' => e = .normal ∧ (Fl 93 [(2, tv)] a' ∧ w' = v)) a v := by
  obtain ⟨hsz, hd, hp⟩ := hA
  obtain ⟨u, rfl, hg⟩ := litN hsz hd
  simp only [List.forall_mem_cons, hg] at hp
  obtain ⟨u0, u3, -⟩ := hp
  clear hg hsz hd
  unfold q23_21 C23 Try.f23 seq1 seq2
  simp only [Option.getD_some, lits, Nat.reduceAdd, u0, u3]
  clear u0 u3
  go_wp2_with fail
  first
    | exact ⟨⟨rfl, rfl, by
      intro p hp
      simp only [List.mem_cons, List.not_mem_nil, or_false] at hp
      rcases hp with rfl <;> first | rfl | exact congrArg I (by omega) | exact congrArg Value.bool (by simp <;> omega) | exact congrArg Value.bool (by simp)⟩, rfl⟩
    | exact ⟨rfl, rfl, by
      intro p hp
      simp only [List.mem_cons, List.not_mem_nil, or_false] at hp
      rcases hp with rfl <;> first | rfl | exact congrArg I (by omega) | exact congrArg Value.bool (by simp <;> omega) | exact congrArg Value.bool (by simp)⟩
    | exact ⟨rfl, ⟨rfl, rfl, by
      intro p hp
      simp only [List.mem_cons, List.not_mem_nil, or_false] at hp
      rcases hp with rfl <;> first | rfl | exact congrArg I (by omega) | exact congrArg Value.bool (by simp <;> omega) | exact congrArg Value.bool (by simp)⟩, rfl⟩

theorem in23 {w : World} {R : Value → World → Prop} {x0 : Value} (h : ∀ a, Fl 93 [(0, x0)] a → C23.wp Try.prog (bodyPost Try.prog Try.f23 (Ret R)) a w) : Calls Try.prog 23 #[x0] w (Ret R) :=
  calls_of_wp Try.func23 (show Try.f23.body = some C23 by kernel_rfl) (by
    rw [Try.ntmps23]
    exact h _ (fl_enter _ _ 93 (by simp) _ (by intro p hp; simp only [List.mem_cons, List.not_mem_nil, or_false] at hp; rcases hp with rfl <;> rfl)))

end Go.Proofs.Ytgohfdgkihoilaa.Rcp
