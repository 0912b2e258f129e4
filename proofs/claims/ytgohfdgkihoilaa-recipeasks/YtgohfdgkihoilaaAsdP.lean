/- Which keys are asked for (24): its pieces. (Made by wip/tools/mk24.py.) -/
import Derived.Test.YtgohfdgkihoilaaTabP
import Derived.Test.YtgohfdgkihoilaaFate
import Derived.Test.YtgohfdgkihoilaaAkB
import Derived.ArgAppend
set_option linter.unusedSimpArgs false
set_option linter.unusedVariables false
namespace Go.Proofs.Ytgohfdgkihoilaa.Rcp
open Go Go.RowKit Go.Deep Go.Maps

/-- A queue of ints that was built here, outside Z: it may begin anywhere in its row. -/
def QI (Z : Nat → Prop) (w : World) (v : Value) (xs : List Int) : Prop :=
  (v = .slice none 0 0 ∧ xs = []) ∨ ∃ g off cap cur, v = .slice (some ⟨g, off, none⟩) xs.length cap ∧ ¬ Z g ∧ w.heap[g]? = some (.cells cur 3 (0, 0)) ∧ off + cap ≤ cur.size ∧ xs.length ≤ cap ∧ cap ≤ maxLen ∧ ∀ (i : Nat) (x : Int), xs[i]? = some x → cur[off + i]? = some (I x)
theorem QI.lt {Z : Nat → Prop} {w : World} {v : Value} {xs : List Int} (h : QI Z w v xs) : ∀ g, v.ownBlock = some g → g < w.heap.size ∧ ¬ Z g := by
  intro g hg
  rcases h with ⟨rfl, _⟩ | ⟨g', off, cap, cur, rfl, hz, hb, _⟩
  · cases hg
  · cases hg; exact ⟨(Array.getElem?_eq_some_iff.1 hb).1, hz⟩
theorem QI.stay {Z : Nat → Prop} {w w' : World} {v : Value} {xs : List Int} (h : QI Z w v xs) (hb : ∀ g, v.ownBlock = some g → w'.heap[g]? = w.heap[g]?) : QI Z w' v xs := by
  rcases h with h | ⟨g', off, cap, cur, rfl, hz, hc, r⟩
  · exact .inl h
  · exact .inr ⟨g', off, cap, cur, rfl, hz, (hb g' rfl).trans hc, r⟩
theorem QI.kp {Z : Nat → Prop} {w w' : World} {v : Value} {xs : List Int} (h : QI Z w v xs) (k : Kp (fun i => i < w.heap.size) w w') : QI Z w' v xs := h.stay fun g hg => k.block g (h.lt g hg).1
theorem QI.shape {Z : Nat → Prop} {w : World} {v : Value} {xs : List Int} (h : QI Z w v xs) : ∃ p cap, v = .slice p xs.length cap := by
  rcases h with ⟨rfl, rfl⟩ | ⟨g', off, cap, cur, rfl, _⟩
  · exact ⟨none, 0, rfl⟩
  · exact ⟨_, cap, rfl⟩
theorem QI.head {Z : Nat → Prop} {w : World} {v : Value} {x : Int} {xs : List Int} (h : QI Z w v (x :: xs)) : ∃ g off cap, v = .slice (some ⟨g, off, none⟩) (xs.length + 1) (cap + 1) ∧ w.cell? ⟨g, off, none⟩ = some (I x) ∧ QI Z w (.slice (some ⟨g, off + 1, none⟩) xs.length cap) xs ∧ cap < 9223372036854775807 ∧ xs.length ≤ cap := by
  rcases h with ⟨_, h⟩ | ⟨g', off, cap, cur, rfl, hz, hb, h1, h2, h3, h4⟩
  · cases h
  · cases cap with
    | zero => simp at h2
    | succ cap =>
      refine ⟨g', off, cap, rfl, ?_, .inr ⟨g', off + 1, cap, cur, rfl, hz, hb, by omega, by simpa using h2, by omega, fun i y hi => ?_⟩, by unfold maxLen at h3; omega, by simpa using h2⟩
      · have := h4 0 x rfl
        simp [World.cell?, hb]
        simpa using this
      · have := h4 (i + 1) y (by simpa using hi)
        rw [show off + 1 + i = off + (i + 1) by omega]
        exact this
theorem own_qi {Z : Nat → Prop} {w w' : World} {v : Value} {xs : List Int} (hZ : ∀ i, Z i → i < w.heap.size) (h : w'.ownsRow w.heap.size 3 1 v xs.length (xs.map I)) : QI Z w' v xs ∧ ∀ g, v.ownBlock = some g → w.heap.size ≤ g := by
  obtain ⟨h1, ⟨rfl, h2⟩ | ⟨g, cap, cur, rfl, r1, r2, r3, r4, r5, r6⟩⟩ := h
  · exact ⟨.inl ⟨rfl, List.eq_nil_of_length_eq_zero h2⟩, fun g hg => by cases hg⟩
  · refine ⟨.inr ⟨g, 0, cap, cur, rfl, fun h => by have := hZ g h; omega, r2, by omega, r3, r4, fun i x hi => ?_⟩, fun g' hg => by cases hg; exact r1⟩
    have hil : i < xs.length := (List.getElem?_eq_some_iff.1 hi).1
    have e : (cur.toList.take (xs.length * 1))[i]? = (xs.map I)[i]? := by rw [r6]
    rw [List.getElem?_take_of_lt (by omega), List.getElem?_map, hi] at e
    simpa using e
/-- An int is put into the queue. -/
theorem wp_appQ {ops : Array Oper} {rest : List Oper} {o : Oper} {a : Act} {Q : Exit → Act → World → Prop} {w : World} {Z : Nat → Prop} {v : Value} {xs : List Int} {n : Int} (hgd : o.guard = none) (s x : Operand)
    (ho : o.op = .call { callee := .builtin .append, args := #[s, x], argTypes := #[26, 26] }) (hs : a.eval s = v) (hx : a.eval x = .slice (some ⟨w.heap.size, 0, none⟩) 1 1) (hown : QI Z w v xs) (hZ : ∀ i, Z i → i < w.heap.size) (hl : xs.length ≤ 1000000)
    (h : ∀ v' w', QI Z w' v' (xs ++ [n]) → Kp Z w w' → (∀ i, i < w.heap.size → v.ownBlock ≠ some i → w'.heap[i]? = w.heap[i]?) → w.heap.size ≤ w'.heap.size → wpList Try.prog ops Q rest (a.put o.dst v') w') :
    wpList Try.prog ops Q (o :: rest) a (w.alloc (.cells #[I n] 3)) := by
  obtain ⟨j0, hj, hj0, hj1, hj2⟩ := info_parts info3
  have news : ∀ (j : Nat) (u : Value), [I n][j]? = some u → (w.alloc (.cells #[I n] 3)).cell? ((⟨w.heap.size, 0, none⟩ : Addr).add j) = some u := cell_one_new _ _ _
  have ones : ∀ u ∈ [I n], u.oneCell' = true := ints_oneCell .i64 [n]
  have grown : ∀ v' w', w'.ownsRow (w.alloc (.cells #[I n] 3)).heap.size 3 1 v' (xs.length + 1) (xs.map I ++ [I n]) → (w.alloc (.cells #[I n] 3)).grownBy w' none → wpList Try.prog ops Q rest (a.put o.dst v') w' := by
    intro v' w' h1 h2
    have hsz : w.heap.size ≤ w'.heap.size := Nat.le_trans (by simp) h2.size
    have hblk : ∀ i, i < w.heap.size → w'.heap[i]? = w.heap[i]? := fun i hi => (h2.block i (by simp; omega) (by simp)).trans (Below.heap_alloc _ _ _ hi)
    have hq := own_qi (w := w.alloc (.cells #[I n] 3)) (xs := xs ++ [n]) (Z := Z) (fun i hi => by have := hZ i hi; simp; omega) (by rw [List.length_append, List.map_append]; exact h1)
    exact h v' w' hq.1 ⟨h2.os, h2.tape, h2.output, hsz, fun i hi => hblk i (hZ i hi)⟩ (fun i hi _ => hblk i hi) hsz
  rcases hown with ⟨rfl, rfl⟩ | ⟨g, off, cap, cur, rfl, hz, hb, h1, h2, h3, h4⟩
  · exact wpList_append_grows _ hgd s x 26 ho 3 j0 _ 1 8 Try.underlying26 hj hj0 hj1 hj2 rfl (by decide) none 0 0 [] hs (fun _ => ⟨rfl, rfl⟩) rfl (fun b e => by cases e) ⟨w.heap.size, 0, none⟩ 1 1 [I n] hx rfl news ones (by omega) (by unfold maxLen; omega) (by omega) (fun v' w' a b => grown v' w' (by simpa using a) b)
  · have hg : g < w.heap.size := (Array.getElem?_eq_some_iff.1 hb).1
    have hb' : (w.alloc (.cells #[I n] 3)).heap[g]? = some (.cells cur 3 (0, 0)) := (Below.heap_alloc _ _ _ hg).trans hb
    refine wpList_append_arg _ hgd s x 26 ho 3 j0 _ 1 8 Try.underlying26 hj hj0 hj1 hj2 rfl (by decide) g off xs.length cap (xs.map I) hs (by simp) (fun j u hu => ?_) ⟨w.heap.size, 0, none⟩ 1 1 [I n] hx rfl news ones (fun hr j hj => ?_) (by unfold maxLen; omega) (by omega) (fun hr => ?_) (fun _ v' w' a b => grown v' w' a b)
    · rw [List.getElem?_map] at hu
      obtain ⟨y, hy, rfl⟩ := Option.map_eq_some_iff.1 hu
      have := h4 j y hy
      simp [World.cell?, hb']
      simpa using this
    · have hj0' : j = 0 := by simp at hj; omega
      subst hj0'
      refine ⟨?_, by simp [World.frozen?, hb']⟩
      have hlt : off + xs.length * 1 + 0 < cur.size := by omega
      simp only [World.cell?, hb']
      simp
      omega
    · have e : (w.alloc (.cells #[I n] 3)).setCells g (off + xs.length * 1) [I n] = (w.alloc (.cells #[I n] 3)).setCell ⟨g, off + xs.length, none⟩ (I n) := by simp [World.setCells]
      rw [e]
      have hnew : ((w.alloc (.cells #[I n] 3)).setCell ⟨g, off + xs.length, none⟩ (I n)).heap[g]? = some (.cells (cur.setIfInBounds (off + xs.length) (I n)) 3 (0, 0)) := by
        simp [World.setCell, Array.getElem?_modify, hb']
      have hblk : ∀ i, i < w.heap.size → g ≠ i → ((w.alloc (.cells #[I n] 3)).setCell ⟨g, off + xs.length, none⟩ (I n)).heap[i]? = w.heap[i]? := fun i hi hne => (Below.heap_setCell _ _ _ _ (fun e => hne e.symm)).trans (Below.heap_alloc _ _ _ hi)
      have hsz : w.heap.size ≤ ((w.alloc (.cells #[I n] 3)).setCell ⟨g, off + xs.length, none⟩ (I n)).heap.size := by simp [World.setCell]
      refine h (.slice (some ⟨g, off, none⟩) (xs.length + 1) cap) _ (.inr ⟨g, off, cap, _, by simp, hz, hnew, by simpa using h1, by simp; omega, h3, fun i y hi => ?_⟩) ⟨rfl, rfl, rfl, hsz, fun i hi => hblk i (hZ i hi) (fun e => hz (e ▸ hi))⟩ (fun i hi hne => hblk i hi (fun e => hne (by rw [← e]; rfl))) hsz
      rw [Array.getElem?_setIfInBounds]
      by_cases hil : i < xs.length
      · rw [List.getElem?_append_left hil] at hi
        rw [if_neg (by omega)]
        exact h4 i y hi
      · have hie : i = xs.length := by have := (List.getElem?_eq_some_iff.1 hi).1; simp at this; omega
        subst hie
        simp at hi
        subst hi
        rw [if_pos rfl, if_pos (by omega)]

noncomputable def C24 : Code := Try.f24.body.getD .skip
noncomputable def q24_0 : Code := (seq1 C24)
noncomputable def q24_1 : Code := (seq1 (seq2 C24))
noncomputable def q24_2 : Code := (seq1 (seq2 (seq2 C24)))
noncomputable def q24_3 : Code := (seq1 (seq1 (seq2 (seq2 (seq2 C24)))))
noncomputable def q24_4 : Code := (seq1 (seq1 (loopC (blockC (seq2 (seq1 (seq2 (seq2 (seq2 C24)))))))))
noncomputable def q24_6 : Code := (seq1 (blockC (seq1 (seq2 (loopC (blockC (seq2 (seq1 (seq2 (seq2 (seq2 C24)))))))))))
noncomputable def q24_7 : Code := (condA (seq2 (blockC (seq1 (seq2 (loopC (blockC (seq2 (seq1 (seq2 (seq2 (seq2 C24))))))))))))
noncomputable def q24_5 : Code := (seq2 (seq2 (loopC (blockC (seq2 (seq1 (seq2 (seq2 (seq2 C24)))))))))
noncomputable def q24_8 : Code := (seq1 (seq1 (loopC (blockC (seq1 (seq2 (seq2 (seq2 (seq2 C24)))))))))
noncomputable def q24_9 : Code := (seq1 (blockC (seq2 (loopC (blockC (seq1 (seq2 (seq2 (seq2 (seq2 C24))))))))))
noncomputable def q24_10 : Code := (seq1 (seq2 (blockC (seq2 (loopC (blockC (seq1 (seq2 (seq2 (seq2 (seq2 C24)))))))))))
noncomputable def q24_11 : Code := (seq1 (seq1 (seq2 (seq2 (blockC (seq2 (loopC (blockC (seq1 (seq2 (seq2 (seq2 (seq2 C24)))))))))))))
noncomputable def q24_12 : Code := (seq1 (seq2 (seq2 (seq2 (blockC (seq2 (loopC (blockC (seq1 (seq2 (seq2 (seq2 (seq2 C24)))))))))))))
noncomputable def q24_13 : Code := (seq1 (seq2 (seq2 (seq2 (seq2 (blockC (seq2 (loopC (blockC (seq1 (seq2 (seq2 (seq2 (seq2 C24))))))))))))))
noncomputable def q24_14 : Code := (seq1 (seq1 (loopC (blockC (seq2 (seq2 (seq2 (seq2 (seq2 (blockC (seq2 (loopC (blockC (seq1 (seq2 (seq2 (seq2 (seq2 C24))))))))))))))))))
noncomputable def q24_16 : Code := (seq1 (blockC (seq1 (seq2 (loopC (blockC (seq2 (seq2 (seq2 (seq2 (seq2 (blockC (seq2 (loopC (blockC (seq1 (seq2 (seq2 (seq2 (seq2 C24))))))))))))))))))))
noncomputable def q24_17 : Code := (seq1 (seq2 (blockC (seq1 (seq2 (loopC (blockC (seq2 (seq2 (seq2 (seq2 (seq2 (blockC (seq2 (loopC (blockC (seq1 (seq2 (seq2 (seq2 (seq2 C24)))))))))))))))))))))
noncomputable def q24_18 : Code := (seq1 (seq2 (seq2 (blockC (seq1 (seq2 (loopC (blockC (seq2 (seq2 (seq2 (seq2 (seq2 (blockC (seq2 (loopC (blockC (seq1 (seq2 (seq2 (seq2 (seq2 C24))))))))))))))))))))))
noncomputable def q24_15 : Code := (seq2 (seq2 (loopC (blockC (seq2 (seq2 (seq2 (seq2 (seq2 (blockC (seq2 (loopC (blockC (seq1 (seq2 (seq2 (seq2 (seq2 C24))))))))))))))))))
noncomputable def q24_19 : Code := (seq1 (seq2 (seq2 (seq2 (seq2 (seq2 C24))))))
noncomputable def K24_1 : Code := (.seq q24_6 (.cond ( .tmp 34 ) q24_7 .skip))
noncomputable def K24_0 : Code := (.loop (.seq (.seq q24_4 (.cond ( .tmp 18 ) .skip (.exit 0))) (.seq (.block 1 K24_1) q24_5)))
noncomputable def K24_5 : Code := (.seq q24_16 (.seq q24_17 (.seq q24_18 (.cond ( .tmp 92 ) (.exit 4) .skip))))
noncomputable def K24_4 : Code := (.loop (.seq (.seq q24_14 (.cond ( .tmp 64 ) .skip (.exit 4))) (.seq (.block 5 K24_5) q24_15)))
noncomputable def K24_3 : Code := (.seq q24_9 (.seq q24_10 (.seq (.seq q24_11 (.cond ( .tmp 53 ) (.exit 3) .skip)) (.seq q24_12 (.seq q24_13 (.block 4 K24_4))))))
noncomputable def K24_2 : Code := (.loop (.seq (.seq q24_8 (.cond ( .tmp 44 ) .skip (.exit 2))) (.block 3 K24_3)))
theorem e24 : C24 = (.seq q24_0 (.seq q24_1 (.seq q24_2 (.seq (.seq q24_3 (.block 0 K24_0)) (.seq (.block 2 K24_2) (.seq q24_19 .ret)))))) := by kernel_rfl

set_option maxHeartbeats 1000000 in
set_option maxRecDepth 100000 in
theorem p24_0 {v : World} {a : Act} {b o n cap : Nat} {kv : Value}  (hA : Fl 94 [(0, .slice (some ⟨b, o, none⟩) n cap), (1, kv)] a) :
    q24_0.wp Try.prog (fun e a' w' => e = .normal ∧ (Fl 94 [(0, .slice (some ⟨b, o, none⟩) n cap), (1, kv)] a' ∧ w' = v)) a v := by
  obtain ⟨hsz, hd, hp⟩ := hA
  obtain ⟨u, rfl, hg⟩ := litN hsz hd
  simp only [List.forall_mem_cons, hg] at hp
  obtain ⟨u0, u1, -⟩ := hp
  clear hg hsz hd
  unfold q24_0 C24 Try.f24 seq1
  simp only [Option.getD_some, lits, Nat.reduceAdd, u0, u1]
  clear u0 u1
  go_wp2_with fail
  first
    | exact ⟨⟨rfl, rfl, by
      intro p hp
      simp only [List.mem_cons, List.not_mem_nil, or_false] at hp
      rcases hp with rfl | rfl <;> first | rfl | exact congrArg I (by omega) | exact congrArg Value.bool (by simp <;> omega) | exact congrArg Value.bool (by simp)⟩, rfl⟩
    | exact ⟨rfl, rfl, by
      intro p hp
      simp only [List.mem_cons, List.not_mem_nil, or_false] at hp
      rcases hp with rfl | rfl <;> first | rfl | exact congrArg I (by omega) | exact congrArg Value.bool (by simp <;> omega) | exact congrArg Value.bool (by simp)⟩
    | exact ⟨rfl, ⟨rfl, rfl, by
      intro p hp
      simp only [List.mem_cons, List.not_mem_nil, or_false] at hp
      rcases hp with rfl | rfl <;> first | rfl | exact congrArg I (by omega) | exact congrArg Value.bool (by simp <;> omega) | exact congrArg Value.bool (by simp)⟩, rfl⟩

set_option maxHeartbeats 1000000 in
set_option maxRecDepth 100000 in
theorem p24_1 {v : World} {a : Act} {b o n cap : Nat} {kv : Value} (hn : n ≤ 100) (hA : Fl 94 [(0, .slice (some ⟨b, o, none⟩) n cap), (1, kv)] a) :
    q24_1.wp Try.prog (fun e a' w' => e = .normal ∧ (Fl 94 [(0, .slice (some ⟨b, o, none⟩) n cap), (1, kv), (5, .slice (some ⟨v.heap.size, 0, none⟩) n n)] a' ∧ w' = v.alloc (.cells (madeCells #[.bool false] n) 4))) a v := by
  obtain ⟨hsz, hd, hp⟩ := hA
  obtain ⟨u, rfl, hg⟩ := litN hsz hd
  simp only [List.forall_mem_cons, hg] at hp
  obtain ⟨u0, u1, -⟩ := hp
  clear hg hsz hd
  unfold q24_1 C24 Try.f24 seq1 seq2
  simp only [Option.getD_some, lits, Nat.reduceAdd, u0, u1]
  clear u0 u1
  have hmk := run_make_row' (P := Try.prog) 41 4 (.bool false) 1 Try.underlying41 info4 rfl .i64 .i64 n (by omega) (by omega)
  go_wp2_with fail
  first
    | exact ⟨⟨rfl, rfl, by
      intro p hp
      simp only [List.mem_cons, List.not_mem_nil, or_false] at hp
      rcases hp with rfl | rfl | rfl <;> first | rfl | exact congrArg I (by omega) | exact congrArg Value.bool (by simp <;> omega) | exact congrArg Value.bool (by simp)⟩, rfl⟩
    | exact ⟨rfl, rfl, by
      intro p hp
      simp only [List.mem_cons, List.not_mem_nil, or_false] at hp
      rcases hp with rfl | rfl | rfl <;> first | rfl | exact congrArg I (by omega) | exact congrArg Value.bool (by simp <;> omega) | exact congrArg Value.bool (by simp)⟩
    | exact ⟨rfl, ⟨rfl, rfl, by
      intro p hp
      simp only [List.mem_cons, List.not_mem_nil, or_false] at hp
      rcases hp with rfl | rfl | rfl <;> first | rfl | exact congrArg I (by omega) | exact congrArg Value.bool (by simp <;> omega) | exact congrArg Value.bool (by simp)⟩, rfl⟩

set_option maxHeartbeats 1000000 in
set_option maxRecDepth 100000 in
theorem p24_2 {v : World} {a : Act} {b o n cap : Nat} {kv : Value} {ob : Nat}  (hA : Fl 94 [(0, .slice (some ⟨b, o, none⟩) n cap), (1, kv), (5, .slice (some ⟨ob, 0, none⟩) n n)] a) :
    q24_2.wp Try.prog (fun e a' w' => e = .normal ∧ (Fl 94 [(0, .slice (some ⟨b, o, none⟩) n cap), (1, kv), (5, .slice (some ⟨ob, 0, none⟩) n n), (6, .slice none 0 0)] a' ∧ w' = v)) a v := by
  obtain ⟨hsz, hd, hp⟩ := hA
  obtain ⟨u, rfl, hg⟩ := litN hsz hd
  simp only [List.forall_mem_cons, hg] at hp
  obtain ⟨u0, u1, u5, -⟩ := hp
  clear hg hsz hd
  unfold q24_2 C24 Try.f24 seq1 seq2
  simp only [Option.getD_some, lits, Nat.reduceAdd, u0, u1, u5]
  clear u0 u1 u5
  go_wp2_with fail
  first
    | exact ⟨⟨rfl, rfl, by
      intro p hp
      simp only [List.mem_cons, List.not_mem_nil, or_false] at hp
      rcases hp with rfl | rfl | rfl | rfl <;> first | rfl | exact congrArg I (by omega) | exact congrArg Value.bool (by simp <;> omega) | exact congrArg Value.bool (by simp)⟩, rfl⟩
    | exact ⟨rfl, rfl, by
      intro p hp
      simp only [List.mem_cons, List.not_mem_nil, or_false] at hp
      rcases hp with rfl | rfl | rfl | rfl <;> first | rfl | exact congrArg I (by omega) | exact congrArg Value.bool (by simp <;> omega) | exact congrArg Value.bool (by simp)⟩
    | exact ⟨rfl, ⟨rfl, rfl, by
      intro p hp
      simp only [List.mem_cons, List.not_mem_nil, or_false] at hp
      rcases hp with rfl | rfl | rfl | rfl <;> first | rfl | exact congrArg I (by omega) | exact congrArg Value.bool (by simp <;> omega) | exact congrArg Value.bool (by simp)⟩, rfl⟩

set_option maxHeartbeats 1000000 in
set_option maxRecDepth 100000 in
theorem p24_3 {v : World} {a : Act} {b o n cap : Nat} {kv : Value} {ob : Nat} {tq : Value}  (hA : Fl 94 [(0, .slice (some ⟨b, o, none⟩) n cap), (1, kv), (5, .slice (some ⟨ob, 0, none⟩) n n), (6, tq)] a) :
    q24_3.wp Try.prog (fun e a' w' => e = .normal ∧ (Fl 94 [(0, .slice (some ⟨b, o, none⟩) n cap), (1, kv), (5, .slice (some ⟨ob, 0, none⟩) n n), (6, tq), (7, I (0 : Nat))] a' ∧ w' = v)) a v := by
  obtain ⟨hsz, hd, hp⟩ := hA
  obtain ⟨u, rfl, hg⟩ := litN hsz hd
  simp only [List.forall_mem_cons, hg] at hp
  obtain ⟨u0, u1, u5, u6, -⟩ := hp
  clear hg hsz hd
  unfold q24_3 C24 Try.f24 seq1 seq2
  simp only [Option.getD_some, lits, Nat.reduceAdd, u0, u1, u5, u6]
  clear u0 u1 u5 u6
  go_wp2_with fail
  first
    | exact ⟨⟨rfl, rfl, by
      intro p hp
      simp only [List.mem_cons, List.not_mem_nil, or_false] at hp
      rcases hp with rfl | rfl | rfl | rfl | rfl <;> first | rfl | exact congrArg I (by omega) | exact congrArg Value.bool (by simp <;> omega) | exact congrArg Value.bool (by simp)⟩, rfl⟩
    | exact ⟨rfl, rfl, by
      intro p hp
      simp only [List.mem_cons, List.not_mem_nil, or_false] at hp
      rcases hp with rfl | rfl | rfl | rfl | rfl <;> first | rfl | exact congrArg I (by omega) | exact congrArg Value.bool (by simp <;> omega) | exact congrArg Value.bool (by simp)⟩
    | exact ⟨rfl, ⟨rfl, rfl, by
      intro p hp
      simp only [List.mem_cons, List.not_mem_nil, or_false] at hp
      rcases hp with rfl | rfl | rfl | rfl | rfl <;> first | rfl | exact congrArg I (by omega) | exact congrArg Value.bool (by simp <;> omega) | exact congrArg Value.bool (by simp)⟩, rfl⟩

set_option maxHeartbeats 1000000 in
set_option maxRecDepth 100000 in
theorem p24_4 {v : World} {a : Act} {b o n cap : Nat} {ob : Nat} {tq : Value} {i kn kc : Nat} {kp : Option Addr} (hkn : kn ≤ 300) (hA : Fl 94 [(0, .slice (some ⟨b, o, none⟩) n cap), (1, .slice kp kn kc), (5, .slice (some ⟨ob, 0, none⟩) n n), (6, tq), (7, I (i : Nat))] a) :
    q24_4.wp Try.prog (fun e a' w' => e = .normal ∧ (Fl 94 [(18, .bool (decide (i < kn))), (0, .slice (some ⟨b, o, none⟩) n cap), (1, .slice kp kn kc), (5, .slice (some ⟨ob, 0, none⟩) n n), (6, tq), (7, I (i : Nat))] a' ∧ w' = v)) a v := by
  obtain ⟨hsz, hd, hp⟩ := hA
  obtain ⟨u, rfl, hg⟩ := litN hsz hd
  simp only [List.forall_mem_cons, hg] at hp
  obtain ⟨u0, u1, u5, u6, u7, -⟩ := hp
  clear hg hsz hd
  unfold q24_4 C24 Try.f24 seq1 seq2 blockC loopC
  simp only [Option.getD_some, lits, Nat.reduceAdd, u0, u1, u5, u6, u7]
  clear u0 u1 u5 u6 u7
  go_wp2_with fail
  first
    | exact ⟨⟨rfl, rfl, by
      intro p hp
      simp only [List.mem_cons, List.not_mem_nil, or_false] at hp
      rcases hp with rfl | rfl | rfl | rfl | rfl | rfl <;> first | rfl | exact congrArg I (by omega) | exact congrArg Value.bool (by simp <;> omega) | exact congrArg Value.bool (by simp)⟩, rfl⟩
    | exact ⟨rfl, rfl, by
      intro p hp
      simp only [List.mem_cons, List.not_mem_nil, or_false] at hp
      rcases hp with rfl | rfl | rfl | rfl | rfl | rfl <;> first | rfl | exact congrArg I (by omega) | exact congrArg Value.bool (by simp <;> omega) | exact congrArg Value.bool (by simp)⟩
    | exact ⟨rfl, ⟨rfl, rfl, by
      intro p hp
      simp only [List.mem_cons, List.not_mem_nil, or_false] at hp
      rcases hp with rfl | rfl | rfl | rfl | rfl | rfl <;> first | rfl | exact congrArg I (by omega) | exact congrArg Value.bool (by simp <;> omega) | exact congrArg Value.bool (by simp)⟩, rfl⟩

set_option maxHeartbeats 1000000 in
set_option maxRecDepth 100000 in
theorem p24_6_a {v : World} {a : Act} {b o n cap : Nat} {ob : Nat} {tq : Value} {i kn kc : Nat} {kb ko : Nat} {x : Int} (hkn : kn ≤ 300) (hi : i < kn) (cx : v.cell? ⟨kb, ko + i, none⟩ = some (I x)) (h : decide (0 ≤ x) = false) (hA : Fl 94 [(0, .slice (some ⟨b, o, none⟩) n cap), (1, .slice (some ⟨kb, ko, none⟩) kn kc), (5, .slice (some ⟨ob, 0, none⟩) n n), (6, tq), (7, I (i : Nat))] a) :
    q24_6.wp Try.prog (fun e a' w' => e = .normal ∧ (Fl 94 [(34, .bool false), (0, .slice (some ⟨b, o, none⟩) n cap), (1, .slice (some ⟨kb, ko, none⟩) kn kc), (5, .slice (some ⟨ob, 0, none⟩) n n), (6, tq), (7, I (i : Nat))] a' ∧ w' = v)) a v := by
  obtain ⟨hsz, hd, hp⟩ := hA
  obtain ⟨u, rfl, hg⟩ := litN hsz hd
  simp only [List.forall_mem_cons, hg] at hp
  obtain ⟨u0, u1, u5, u6, u7, -⟩ := hp
  clear hg hsz hd
  unfold q24_6 C24 Try.f24 seq1 seq2 blockC loopC
  simp only [Option.getD_some, lits, Nat.reduceAdd, u0, u1, u5, u6, u7]
  clear u0 u1 u5 u6 u7
  go_wp2_with fail
  first
    | exact ⟨⟨rfl, rfl, by
      intro p hp
      simp only [List.mem_cons, List.not_mem_nil, or_false] at hp
      rcases hp with rfl | rfl | rfl | rfl | rfl | rfl <;> first | rfl | exact congrArg I (by omega) | exact congrArg Value.bool (by simp <;> omega) | exact congrArg Value.bool (by simp)⟩, rfl⟩
    | exact ⟨rfl, rfl, by
      intro p hp
      simp only [List.mem_cons, List.not_mem_nil, or_false] at hp
      rcases hp with rfl | rfl | rfl | rfl | rfl | rfl <;> first | rfl | exact congrArg I (by omega) | exact congrArg Value.bool (by simp <;> omega) | exact congrArg Value.bool (by simp)⟩
    | exact ⟨rfl, ⟨rfl, rfl, by
      intro p hp
      simp only [List.mem_cons, List.not_mem_nil, or_false] at hp
      rcases hp with rfl | rfl | rfl | rfl | rfl | rfl <;> first | rfl | exact congrArg I (by omega) | exact congrArg Value.bool (by simp <;> omega) | exact congrArg Value.bool (by simp)⟩, rfl⟩

set_option maxHeartbeats 1000000 in
set_option maxRecDepth 100000 in
theorem p24_6_b {v : World} {a : Act} {b o n cap : Nat} {ob : Nat} {tq : Value} {i kn kc : Nat} {kb ko : Nat} {x : Int} (hkn : kn ≤ 300) (hi : i < kn) (cx : v.cell? ⟨kb, ko + i, none⟩ = some (I x)) (h : 0 ≤ x) (hA : Fl 94 [(0, .slice (some ⟨b, o, none⟩) n cap), (1, .slice (some ⟨kb, ko, none⟩) kn kc), (5, .slice (some ⟨ob, 0, none⟩) n n), (6, tq), (7, I (i : Nat))] a) :
    q24_6.wp Try.prog (fun e a' w' => e = .normal ∧ (Fl 94 [(34, .bool (decide (x < (n : Int)))), (0, .slice (some ⟨b, o, none⟩) n cap), (1, .slice (some ⟨kb, ko, none⟩) kn kc), (5, .slice (some ⟨ob, 0, none⟩) n n), (6, tq), (7, I (i : Nat))] a' ∧ w' = v)) a v := by
  obtain ⟨hsz, hd, hp⟩ := hA
  obtain ⟨u, rfl, hg⟩ := litN hsz hd
  simp only [List.forall_mem_cons, hg] at hp
  obtain ⟨u0, u1, u5, u6, u7, -⟩ := hp
  clear hg hsz hd
  unfold q24_6 C24 Try.f24 seq1 seq2 blockC loopC
  simp only [Option.getD_some, lits, Nat.reduceAdd, u0, u1, u5, u6, u7]
  clear u0 u1 u5 u6 u7
  go_wp2_with fail
  first
    | exact ⟨⟨rfl, rfl, by
      intro p hp
      simp only [List.mem_cons, List.not_mem_nil, or_false] at hp
      rcases hp with rfl | rfl | rfl | rfl | rfl | rfl <;> first | rfl | exact congrArg I (by omega) | exact congrArg Value.bool (by simp <;> omega) | exact congrArg Value.bool (by simp)⟩, rfl⟩
    | exact ⟨rfl, rfl, by
      intro p hp
      simp only [List.mem_cons, List.not_mem_nil, or_false] at hp
      rcases hp with rfl | rfl | rfl | rfl | rfl | rfl <;> first | rfl | exact congrArg I (by omega) | exact congrArg Value.bool (by simp <;> omega) | exact congrArg Value.bool (by simp)⟩
    | exact ⟨rfl, ⟨rfl, rfl, by
      intro p hp
      simp only [List.mem_cons, List.not_mem_nil, or_false] at hp
      rcases hp with rfl | rfl | rfl | rfl | rfl | rfl <;> first | rfl | exact congrArg I (by omega) | exact congrArg Value.bool (by simp <;> omega) | exact congrArg Value.bool (by simp)⟩, rfl⟩

set_option maxHeartbeats 1000000 in
set_option maxRecDepth 100000 in
theorem p24_7 {v : World} {a : Act} {b o n cap : Nat} {ob : Nat} {tq : Value} {i kn kc : Nat} {kb ko : Nat} {x : Int} {Z : Nat → Prop} {xs : List Int} (hkn : kn ≤ 300) (hi : i < kn) (cx : v.cell? ⟨kb, ko + i, none⟩ = some (I x)) (hO : QI Z v tq xs) (hZ : ∀ i, Z i → i < v.heap.size) (hl : xs.length ≤ 1000000) (hA : Fl 94 [(0, .slice (some ⟨b, o, none⟩) n cap), (1, .slice (some ⟨kb, ko, none⟩) kn kc), (5, .slice (some ⟨ob, 0, none⟩) n n), (6, tq), (7, I (i : Nat))] a) :
    q24_7.wp Try.prog (fun e a' w' => e = .normal ∧ ∃ tq', (Fl 94 [(0, .slice (some ⟨b, o, none⟩) n cap), (1, .slice (some ⟨kb, ko, none⟩) kn kc), (5, .slice (some ⟨ob, 0, none⟩) n n), (6, tq'), (7, I (i : Nat))] a' ∧ QI Z w' tq' (xs ++ [x]) ∧ Kp Z v w' ∧ (∀ i, i < v.heap.size → tq.ownBlock ≠ some i → w'.heap[i]? = v.heap[i]?))) a v := by
  have HO : Hid (QI Z v tq xs) := hO
  have HZ : Hid (∀ i, Z i → i < v.heap.size) := hZ
  clear hO hZ
  obtain ⟨hsz, hd, hp⟩ := hA
  obtain ⟨u, rfl, hg⟩ := litN hsz hd
  simp only [List.forall_mem_cons, hg] at hp
  obtain ⟨u0, u1, u5, u6, u7, -⟩ := hp
  clear hg hsz hd
  unfold q24_7 C24 Try.f24 seq1 seq2 condA blockC loopC
  simp only [Option.getD_some, lits, Nat.reduceAdd, u0, u1, u5, u6, u7]
  clear u0 u1 u5 u6 u7
  go_wp2_with (first
    | (at_builtin; refine wp_appQ (n := x) rfl (.tmp 35) (.tmp 40) rfl rfl rfl HO.out HZ.out hl ?_; intro tq' w' hO' hk' hb' hsz'; have H' : Hid (QI Z w' tq' (xs ++ [x]) ∧ Kp Z v w' ∧ (∀ i, i < v.heap.size → tq.ownBlock ≠ some i → w'.heap[i]? = v.heap[i]?)) := ⟨hO', hk', hb'⟩; clear hO' hk' hb' hsz'))
  exact ⟨tq', ⟨rfl, rfl, by
    intro p hp
    simp only [List.mem_cons, List.not_mem_nil, or_false] at hp
    rcases hp with rfl | rfl | rfl | rfl | rfl <;> first | rfl | exact congrArg I (by omega) | exact congrArg Value.bool (by simp <;> omega) | exact congrArg Value.bool (by simp)⟩, H'.out⟩

set_option maxHeartbeats 1000000 in
set_option maxRecDepth 100000 in
theorem p24_5 {v : World} {a : Act} {b o n cap : Nat} {kv : Value} {ob : Nat} {tq : Value} {i : Nat} (hi : i < 1000) (hA : Fl 94 [(0, .slice (some ⟨b, o, none⟩) n cap), (1, kv), (5, .slice (some ⟨ob, 0, none⟩) n n), (6, tq), (7, I (i : Nat))] a) :
    q24_5.wp Try.prog (fun e a' w' => e = .normal ∧ (Fl 94 [(0, .slice (some ⟨b, o, none⟩) n cap), (1, kv), (5, .slice (some ⟨ob, 0, none⟩) n n), (6, tq), (7, I ((i + 1 : Nat) : Int))] a' ∧ w' = v)) a v := by
  obtain ⟨hsz, hd, hp⟩ := hA
  obtain ⟨u, rfl, hg⟩ := litN hsz hd
  simp only [List.forall_mem_cons, hg] at hp
  obtain ⟨u0, u1, u5, u6, u7, -⟩ := hp
  clear hg hsz hd
  unfold q24_5 C24 Try.f24 seq1 seq2 blockC loopC
  simp only [Option.getD_some, lits, Nat.reduceAdd, u0, u1, u5, u6, u7]
  clear u0 u1 u5 u6 u7
  go_wp2_with fail
  first
    | exact ⟨⟨rfl, rfl, by
      intro p hp
      simp only [List.mem_cons, List.not_mem_nil, or_false] at hp
      rcases hp with rfl | rfl | rfl | rfl | rfl <;> first | rfl | exact congrArg I (by omega) | exact congrArg Value.bool (by simp <;> omega) | exact congrArg Value.bool (by simp)⟩, rfl⟩
    | exact ⟨rfl, rfl, by
      intro p hp
      simp only [List.mem_cons, List.not_mem_nil, or_false] at hp
      rcases hp with rfl | rfl | rfl | rfl | rfl <;> first | rfl | exact congrArg I (by omega) | exact congrArg Value.bool (by simp <;> omega) | exact congrArg Value.bool (by simp)⟩
    | exact ⟨rfl, ⟨rfl, rfl, by
      intro p hp
      simp only [List.mem_cons, List.not_mem_nil, or_false] at hp
      rcases hp with rfl | rfl | rfl | rfl | rfl <;> first | rfl | exact congrArg I (by omega) | exact congrArg Value.bool (by simp <;> omega) | exact congrArg Value.bool (by simp)⟩, rfl⟩

set_option maxHeartbeats 1000000 in
set_option maxRecDepth 100000 in
theorem p24_8 {v : World} {a : Act} {b o n cap : Nat} {kv : Value} {ob : Nat} {tp : Option Addr} {tn tc : Nat} (ht : tn ≤ 1000000) (hA : Fl 94 [(0, .slice (some ⟨b, o, none⟩) n cap), (1, kv), (5, .slice (some ⟨ob, 0, none⟩) n n), (6, .slice tp tn tc)] a) :
    q24_8.wp Try.prog (fun e a' w' => e = .normal ∧ (Fl 94 [(44, .bool (decide (0 < tn))), (0, .slice (some ⟨b, o, none⟩) n cap), (1, kv), (5, .slice (some ⟨ob, 0, none⟩) n n), (6, .slice tp tn tc)] a' ∧ w' = v)) a v := by
  obtain ⟨hsz, hd, hp⟩ := hA
  obtain ⟨u, rfl, hg⟩ := litN hsz hd
  simp only [List.forall_mem_cons, hg] at hp
  obtain ⟨u0, u1, u5, u6, -⟩ := hp
  clear hg hsz hd
  unfold q24_8 C24 Try.f24 seq1 seq2 blockC loopC
  simp only [Option.getD_some, lits, Nat.reduceAdd, u0, u1, u5, u6]
  clear u0 u1 u5 u6
  go_wp2_with fail
  first
    | exact ⟨⟨rfl, rfl, by
      intro p hp
      simp only [List.mem_cons, List.not_mem_nil, or_false] at hp
      rcases hp with rfl | rfl | rfl | rfl | rfl <;> first | rfl | exact congrArg I (by omega) | exact congrArg Value.bool (by simp <;> omega) | exact congrArg Value.bool (by simp)⟩, rfl⟩
    | exact ⟨rfl, rfl, by
      intro p hp
      simp only [List.mem_cons, List.not_mem_nil, or_false] at hp
      rcases hp with rfl | rfl | rfl | rfl | rfl <;> first | rfl | exact congrArg I (by omega) | exact congrArg Value.bool (by simp <;> omega) | exact congrArg Value.bool (by simp)⟩
    | exact ⟨rfl, ⟨rfl, rfl, by
      intro p hp
      simp only [List.mem_cons, List.not_mem_nil, or_false] at hp
      rcases hp with rfl | rfl | rfl | rfl | rfl <;> first | rfl | exact congrArg I (by omega) | exact congrArg Value.bool (by simp <;> omega) | exact congrArg Value.bool (by simp)⟩, rfl⟩

set_option maxHeartbeats 1000000 in
set_option maxRecDepth 100000 in
theorem p24_9 {v : World} {a : Act} {b o n cap : Nat} {kv : Value} {ob : Nat} {tg to tn tc : Nat} {x : Int} (ht : tn ≤ 1000000) (cx : v.cell? ⟨tg, to, none⟩ = some (I x)) (hA : Fl 94 [(0, .slice (some ⟨b, o, none⟩) n cap), (1, kv), (5, .slice (some ⟨ob, 0, none⟩) n n), (6, .slice (some ⟨tg, to, none⟩) (tn + 1) (tc + 1))] a) :
    q24_9.wp Try.prog (fun e a' w' => e = .normal ∧ (Fl 94 [(0, .slice (some ⟨b, o, none⟩) n cap), (1, kv), (5, .slice (some ⟨ob, 0, none⟩) n n), (6, .slice (some ⟨tg, to, none⟩) (tn + 1) (tc + 1)), (8, I x)] a' ∧ w' = v)) a v := by
  obtain ⟨hsz, hd, hp⟩ := hA
  obtain ⟨u, rfl, hg⟩ := litN hsz hd
  simp only [List.forall_mem_cons, hg] at hp
  obtain ⟨u0, u1, u5, u6, -⟩ := hp
  clear hg hsz hd
  unfold q24_9 C24 Try.f24 seq1 seq2 blockC loopC
  simp only [Option.getD_some, lits, Nat.reduceAdd, u0, u1, u5, u6]
  clear u0 u1 u5 u6
  go_wp2_with fail
  first
    | exact ⟨⟨rfl, rfl, by
      intro p hp
      simp only [List.mem_cons, List.not_mem_nil, or_false] at hp
      rcases hp with rfl | rfl | rfl | rfl | rfl <;> first | rfl | exact congrArg I (by omega) | exact congrArg Value.bool (by simp <;> omega) | exact congrArg Value.bool (by simp)⟩, rfl⟩
    | exact ⟨rfl, rfl, by
      intro p hp
      simp only [List.mem_cons, List.not_mem_nil, or_false] at hp
      rcases hp with rfl | rfl | rfl | rfl | rfl <;> first | rfl | exact congrArg I (by omega) | exact congrArg Value.bool (by simp <;> omega) | exact congrArg Value.bool (by simp)⟩
    | exact ⟨rfl, ⟨rfl, rfl, by
      intro p hp
      simp only [List.mem_cons, List.not_mem_nil, or_false] at hp
      rcases hp with rfl | rfl | rfl | rfl | rfl <;> first | rfl | exact congrArg I (by omega) | exact congrArg Value.bool (by simp <;> omega) | exact congrArg Value.bool (by simp)⟩, rfl⟩

set_option maxHeartbeats 1000000 in
set_option maxRecDepth 100000 in
theorem p24_10_a {v : World} {a : Act} {b o n cap : Nat} {kv : Value} {ob : Nat} {tg to tn tc : Nat} {x : Int} (ht : tn ≤ tc) (htc : tc < 9223372036854775807) (h0 : ¬ tc = 0) (hA : Fl 94 [(0, .slice (some ⟨b, o, none⟩) n cap), (1, kv), (5, .slice (some ⟨ob, 0, none⟩) n n), (6, .slice (some ⟨tg, to, none⟩) (tn + 1) (tc + 1)), (8, I x)] a) :
    q24_10.wp Try.prog (fun e a' w' => e = .normal ∧ (Fl 94 [(0, .slice (some ⟨b, o, none⟩) n cap), (1, kv), (5, .slice (some ⟨ob, 0, none⟩) n n), (6, .slice (some ⟨tg, to + 1, none⟩) tn tc), (8, I x)] a' ∧ w' = v)) a v := by
  obtain ⟨hsz, hd, hp⟩ := hA
  obtain ⟨u, rfl, hg⟩ := litN hsz hd
  simp only [List.forall_mem_cons, hg] at hp
  obtain ⟨u0, u1, u5, u6, u8, -⟩ := hp
  clear hg hsz hd
  unfold q24_10 C24 Try.f24 seq1 seq2 blockC loopC
  simp only [Option.getD_some, lits, Nat.reduceAdd, u0, u1, u5, u6, u8]
  clear u0 u1 u5 u6 u8
  go_wp2_with fail
  first
    | exact ⟨⟨rfl, rfl, by
      intro p hp
      simp only [List.mem_cons, List.not_mem_nil, or_false] at hp
      rcases hp with rfl | rfl | rfl | rfl | rfl <;> first | rfl | exact congrArg I (by omega) | exact congrArg Value.bool (by simp <;> omega) | exact congrArg Value.bool (by simp)⟩, rfl⟩
    | exact ⟨rfl, rfl, by
      intro p hp
      simp only [List.mem_cons, List.not_mem_nil, or_false] at hp
      rcases hp with rfl | rfl | rfl | rfl | rfl <;> first | rfl | exact congrArg I (by omega) | exact congrArg Value.bool (by simp <;> omega) | exact congrArg Value.bool (by simp)⟩
    | exact ⟨rfl, ⟨rfl, rfl, by
      intro p hp
      simp only [List.mem_cons, List.not_mem_nil, or_false] at hp
      rcases hp with rfl | rfl | rfl | rfl | rfl <;> first | rfl | exact congrArg I (by omega) | exact congrArg Value.bool (by simp <;> omega) | exact congrArg Value.bool (by simp)⟩, rfl⟩

set_option maxHeartbeats 1000000 in
set_option maxRecDepth 100000 in
theorem p24_10_b {v : World} {a : Act} {b o n cap : Nat} {kv : Value} {ob : Nat} {tg to : Nat} {x : Int}  (hA : Fl 94 [(0, .slice (some ⟨b, o, none⟩) n cap), (1, kv), (5, .slice (some ⟨ob, 0, none⟩) n n), (6, .slice (some ⟨tg, to, none⟩) (0 + 1) (0 + 1)), (8, I x)] a) :
    q24_10.wp Try.prog (fun e a' w' => e = .normal ∧ (Fl 94 [(0, .slice (some ⟨b, o, none⟩) n cap), (1, kv), (5, .slice (some ⟨ob, 0, none⟩) n n), (6, .slice (some ⟨tg, to, none⟩) 0 0), (8, I x)] a' ∧ w' = v)) a v := by
  obtain ⟨hsz, hd, hp⟩ := hA
  obtain ⟨u, rfl, hg⟩ := litN hsz hd
  simp only [List.forall_mem_cons, hg] at hp
  obtain ⟨u0, u1, u5, u6, u8, -⟩ := hp
  clear hg hsz hd
  unfold q24_10 C24 Try.f24 seq1 seq2 blockC loopC
  simp only [Option.getD_some, lits, Nat.reduceAdd, u0, u1, u5, u6, u8]
  clear u0 u1 u5 u6 u8
  go_wp2_with fail
  first
    | exact ⟨⟨rfl, rfl, by
      intro p hp
      simp only [List.mem_cons, List.not_mem_nil, or_false] at hp
      rcases hp with rfl | rfl | rfl | rfl | rfl <;> first | rfl | exact congrArg I (by omega) | exact congrArg Value.bool (by simp <;> omega) | exact congrArg Value.bool (by simp)⟩, rfl⟩
    | exact ⟨rfl, rfl, by
      intro p hp
      simp only [List.mem_cons, List.not_mem_nil, or_false] at hp
      rcases hp with rfl | rfl | rfl | rfl | rfl <;> first | rfl | exact congrArg I (by omega) | exact congrArg Value.bool (by simp <;> omega) | exact congrArg Value.bool (by simp)⟩
    | exact ⟨rfl, ⟨rfl, rfl, by
      intro p hp
      simp only [List.mem_cons, List.not_mem_nil, or_false] at hp
      rcases hp with rfl | rfl | rfl | rfl | rfl <;> first | rfl | exact congrArg I (by omega) | exact congrArg Value.bool (by simp <;> omega) | exact congrArg Value.bool (by simp)⟩, rfl⟩

set_option maxHeartbeats 1000000 in
set_option maxRecDepth 100000 in
theorem p24_11 {v : World} {a : Act} {b o n cap : Nat} {kv : Value} {ob : Nat} {tq : Value} {k : Nat} {y : Bool} (hn : n ≤ 100) (hk : k < n) (c : v.cell? ⟨ob, k, none⟩ = some (.bool y)) (hA : Fl 94 [(0, .slice (some ⟨b, o, none⟩) n cap), (1, kv), (5, .slice (some ⟨ob, 0, none⟩) n n), (6, tq), (8, I (k : Nat))] a) :
    q24_11.wp Try.prog (fun e a' w' => e = .normal ∧ (Fl 94 [(53, .bool y), (0, .slice (some ⟨b, o, none⟩) n cap), (1, kv), (5, .slice (some ⟨ob, 0, none⟩) n n), (6, tq), (8, I (k : Nat))] a' ∧ w' = v)) a v := by
  obtain ⟨hsz, hd, hp⟩ := hA
  obtain ⟨u, rfl, hg⟩ := litN hsz hd
  simp only [List.forall_mem_cons, hg] at hp
  obtain ⟨u0, u1, u5, u6, u8, -⟩ := hp
  clear hg hsz hd
  unfold q24_11 C24 Try.f24 seq1 seq2 blockC loopC
  simp only [Option.getD_some, lits, Nat.reduceAdd, u0, u1, u5, u6, u8]
  clear u0 u1 u5 u6 u8
  go_wp2_with fail
  first
    | exact ⟨⟨rfl, rfl, by
      intro p hp
      simp only [List.mem_cons, List.not_mem_nil, or_false] at hp
      rcases hp with rfl | rfl | rfl | rfl | rfl | rfl <;> first | rfl | exact congrArg I (by omega) | exact congrArg Value.bool (by simp <;> omega) | exact congrArg Value.bool (by simp)⟩, rfl⟩
    | exact ⟨rfl, rfl, by
      intro p hp
      simp only [List.mem_cons, List.not_mem_nil, or_false] at hp
      rcases hp with rfl | rfl | rfl | rfl | rfl | rfl <;> first | rfl | exact congrArg I (by omega) | exact congrArg Value.bool (by simp <;> omega) | exact congrArg Value.bool (by simp)⟩
    | exact ⟨rfl, ⟨rfl, rfl, by
      intro p hp
      simp only [List.mem_cons, List.not_mem_nil, or_false] at hp
      rcases hp with rfl | rfl | rfl | rfl | rfl | rfl <;> first | rfl | exact congrArg I (by omega) | exact congrArg Value.bool (by simp <;> omega) | exact congrArg Value.bool (by simp)⟩, rfl⟩

set_option maxHeartbeats 1000000 in
set_option maxRecDepth 100000 in
theorem p24_12 {v : World} {a : Act} {b o n cap : Nat} {kv : Value} {ob : Nat} {tq : Value} {k : Nat} {y : Bool} (hn : n ≤ 100) (hk : k < n) (c : v.cell? ⟨ob, k, none⟩ = some (.bool y)) (f : v.frozen? ⟨ob, k, none⟩ = false) (hA : Fl 94 [(0, .slice (some ⟨b, o, none⟩) n cap), (1, kv), (5, .slice (some ⟨ob, 0, none⟩) n n), (6, tq), (8, I (k : Nat))] a) :
    q24_12.wp Try.prog (fun e a' w' => e = .normal ∧ (Fl 94 [(0, .slice (some ⟨b, o, none⟩) n cap), (1, kv), (5, .slice (some ⟨ob, 0, none⟩) n n), (6, tq), (8, I (k : Nat))] a' ∧ w' = v.setCell ⟨ob, k, none⟩ (.bool true))) a v := by
  obtain ⟨hsz, hd, hp⟩ := hA
  obtain ⟨u, rfl, hg⟩ := litN hsz hd
  simp only [List.forall_mem_cons, hg] at hp
  obtain ⟨u0, u1, u5, u6, u8, -⟩ := hp
  clear hg hsz hd
  unfold q24_12 C24 Try.f24 seq1 seq2 blockC loopC
  simp only [Option.getD_some, lits, Nat.reduceAdd, u0, u1, u5, u6, u8]
  clear u0 u1 u5 u6 u8
  go_wp2_with fail
  first
    | exact ⟨⟨rfl, rfl, by
      intro p hp
      simp only [List.mem_cons, List.not_mem_nil, or_false] at hp
      rcases hp with rfl | rfl | rfl | rfl | rfl <;> first | rfl | exact congrArg I (by omega) | exact congrArg Value.bool (by simp <;> omega) | exact congrArg Value.bool (by simp)⟩, rfl⟩
    | exact ⟨rfl, rfl, by
      intro p hp
      simp only [List.mem_cons, List.not_mem_nil, or_false] at hp
      rcases hp with rfl | rfl | rfl | rfl | rfl <;> first | rfl | exact congrArg I (by omega) | exact congrArg Value.bool (by simp <;> omega) | exact congrArg Value.bool (by simp)⟩
    | exact ⟨rfl, ⟨rfl, rfl, by
      intro p hp
      simp only [List.mem_cons, List.not_mem_nil, or_false] at hp
      rcases hp with rfl | rfl | rfl | rfl | rfl <;> first | rfl | exact congrArg I (by omega) | exact congrArg Value.bool (by simp <;> omega) | exact congrArg Value.bool (by simp)⟩, rfl⟩

set_option maxHeartbeats 1000000 in
set_option maxRecDepth 100000 in
theorem p24_13 {v : World} {a : Act} {b o n cap : Nat} {kv : Value} {ob : Nat} {tq : Value} {k : Nat}  (hA : Fl 94 [(0, .slice (some ⟨b, o, none⟩) n cap), (1, kv), (5, .slice (some ⟨ob, 0, none⟩) n n), (6, tq), (8, I (k : Nat))] a) :
    q24_13.wp Try.prog (fun e a' w' => e = .normal ∧ (Fl 94 [(0, .slice (some ⟨b, o, none⟩) n cap), (1, kv), (5, .slice (some ⟨ob, 0, none⟩) n n), (6, tq), (8, I (k : Nat)), (9, I (0 : Nat))] a' ∧ w' = v)) a v := by
  obtain ⟨hsz, hd, hp⟩ := hA
  obtain ⟨u, rfl, hg⟩ := litN hsz hd
  simp only [List.forall_mem_cons, hg] at hp
  obtain ⟨u0, u1, u5, u6, u8, -⟩ := hp
  clear hg hsz hd
  unfold q24_13 C24 Try.f24 seq1 seq2 blockC loopC
  simp only [Option.getD_some, lits, Nat.reduceAdd, u0, u1, u5, u6, u8]
  clear u0 u1 u5 u6 u8
  go_wp2_with fail
  first
    | exact ⟨⟨rfl, rfl, by
      intro p hp
      simp only [List.mem_cons, List.not_mem_nil, or_false] at hp
      rcases hp with rfl | rfl | rfl | rfl | rfl | rfl <;> first | rfl | exact congrArg I (by omega) | exact congrArg Value.bool (by simp <;> omega) | exact congrArg Value.bool (by simp)⟩, rfl⟩
    | exact ⟨rfl, rfl, by
      intro p hp
      simp only [List.mem_cons, List.not_mem_nil, or_false] at hp
      rcases hp with rfl | rfl | rfl | rfl | rfl | rfl <;> first | rfl | exact congrArg I (by omega) | exact congrArg Value.bool (by simp <;> omega) | exact congrArg Value.bool (by simp)⟩
    | exact ⟨rfl, ⟨rfl, rfl, by
      intro p hp
      simp only [List.mem_cons, List.not_mem_nil, or_false] at hp
      rcases hp with rfl | rfl | rfl | rfl | rfl | rfl <;> first | rfl | exact congrArg I (by omega) | exact congrArg Value.bool (by simp <;> omega) | exact congrArg Value.bool (by simp)⟩, rfl⟩

set_option maxHeartbeats 1000000 in
set_option maxRecDepth 100000 in
theorem p24_14 {v : World} {a : Act} {b o n cap : Nat} {kv : Value} {ob : Nat} {tq : Value} {k : Nat} {t : Nat} {q : Option Addr} {nn nc : Nat} (hn : n ≤ 100) (c0 : v.cell? ⟨b, o + k * 5, none⟩ = some (.slice q nn nc)) (hk : k < n) (hnn : nn ≤ 20) (hA : Fl 94 [(0, .slice (some ⟨b, o, none⟩) n cap), (1, kv), (5, .slice (some ⟨ob, 0, none⟩) n n), (6, tq), (8, I (k : Nat)), (9, I (t : Nat))] a) :
    q24_14.wp Try.prog (fun e a' w' => e = .normal ∧ (Fl 94 [(64, .bool (decide (t < nn))), (0, .slice (some ⟨b, o, none⟩) n cap), (1, kv), (5, .slice (some ⟨ob, 0, none⟩) n n), (6, tq), (8, I (k : Nat)), (9, I (t : Nat))] a' ∧ w' = v)) a v := by
  obtain ⟨hsz, hd, hp⟩ := hA
  obtain ⟨u, rfl, hg⟩ := litN hsz hd
  simp only [List.forall_mem_cons, hg] at hp
  obtain ⟨u0, u1, u5, u6, u8, u9, -⟩ := hp
  clear hg hsz hd
  unfold q24_14 C24 Try.f24 seq1 seq2 blockC loopC
  simp only [Option.getD_some, lits, Nat.reduceAdd, u0, u1, u5, u6, u8, u9]
  clear u0 u1 u5 u6 u8 u9
  go_wp2_with fail
  first
    | exact ⟨⟨rfl, rfl, by
      intro p hp
      simp only [List.mem_cons, List.not_mem_nil, or_false] at hp
      rcases hp with rfl | rfl | rfl | rfl | rfl | rfl | rfl <;> first | rfl | exact congrArg I (by omega) | exact congrArg Value.bool (by simp <;> omega) | exact congrArg Value.bool (by simp)⟩, rfl⟩
    | exact ⟨rfl, rfl, by
      intro p hp
      simp only [List.mem_cons, List.not_mem_nil, or_false] at hp
      rcases hp with rfl | rfl | rfl | rfl | rfl | rfl | rfl <;> first | rfl | exact congrArg I (by omega) | exact congrArg Value.bool (by simp <;> omega) | exact congrArg Value.bool (by simp)⟩
    | exact ⟨rfl, ⟨rfl, rfl, by
      intro p hp
      simp only [List.mem_cons, List.not_mem_nil, or_false] at hp
      rcases hp with rfl | rfl | rfl | rfl | rfl | rfl | rfl <;> first | rfl | exact congrArg I (by omega) | exact congrArg Value.bool (by simp <;> omega) | exact congrArg Value.bool (by simp)⟩, rfl⟩

set_option maxHeartbeats 1000000 in
set_option maxRecDepth 100000 in
theorem p24_16 {v : World} {a : Act} {b o n cap : Nat} {kv : Value} {ob : Nat} {tq : Value} {k : Nat} {t : Nat} {nb no nn nc x : Nat} {Z : Nat → Prop} {xs : List Int} (hn : n ≤ 100) (c0 : v.cell? ⟨b, o + k * 5, none⟩ = some (.slice (some ⟨nb, no, none⟩) nn nc)) (hk : k < n) (hnn : nn ≤ 20) (ht : t < nn) (cx : v.cell? ⟨nb, no + t, none⟩ = some (I (x : Nat))) (hO : QI Z v tq xs) (hZ : ∀ i, Z i → i < v.heap.size) (hl : xs.length ≤ 1000000) (hA : Fl 94 [(0, .slice (some ⟨b, o, none⟩) n cap), (1, kv), (5, .slice (some ⟨ob, 0, none⟩) n n), (6, tq), (8, I (k : Nat)), (9, I (t : Nat))] a) :
    q24_16.wp Try.prog (fun e a' w' => e = .normal ∧ ∃ tq', (Fl 94 [(0, .slice (some ⟨b, o, none⟩) n cap), (1, kv), (5, .slice (some ⟨ob, 0, none⟩) n n), (6, tq'), (8, I (k : Nat)), (9, I (t : Nat))] a' ∧ QI Z w' tq' (xs ++ [((x : Nat) : Int)]) ∧ Kp Z v w' ∧ (∀ i, i < v.heap.size → tq.ownBlock ≠ some i → w'.heap[i]? = v.heap[i]?))) a v := by
  have HO : Hid (QI Z v tq xs) := hO
  have HZ : Hid (∀ i, Z i → i < v.heap.size) := hZ
  clear hO hZ
  obtain ⟨hsz, hd, hp⟩ := hA
  obtain ⟨u, rfl, hg⟩ := litN hsz hd
  simp only [List.forall_mem_cons, hg] at hp
  obtain ⟨u0, u1, u5, u6, u8, u9, -⟩ := hp
  clear hg hsz hd
  unfold q24_16 C24 Try.f24 seq1 seq2 blockC loopC
  simp only [Option.getD_some, lits, Nat.reduceAdd, u0, u1, u5, u6, u8, u9]
  clear u0 u1 u5 u6 u8 u9
  go_wp2_with (first
    | (at_builtin; refine wp_appQ (n := (x : Nat)) rfl (.tmp 67) (.tmp 76) rfl rfl rfl HO.out HZ.out hl ?_; intro tq' w' hO' hk' hb' hsz'; have H' : Hid (QI Z w' tq' (xs ++ [((x : Nat) : Int)]) ∧ Kp Z v w' ∧ (∀ i, i < v.heap.size → tq.ownBlock ≠ some i → w'.heap[i]? = v.heap[i]?)) := ⟨hO', hk', hb'⟩; clear hO' hk' hb' hsz'))
  exact ⟨tq', ⟨rfl, rfl, by
    intro p hp
    simp only [List.mem_cons, List.not_mem_nil, or_false] at hp
    rcases hp with rfl | rfl | rfl | rfl | rfl | rfl <;> first | rfl | exact congrArg I (by omega) | exact congrArg Value.bool (by simp <;> omega) | exact congrArg Value.bool (by simp)⟩, H'.out⟩

set_option maxHeartbeats 1000000 in
set_option maxRecDepth 100000 in
theorem p24_17 {v : World} {a : Act} {b o n cap : Nat} {kv : Value} {ob : Nat} {tq : Value} {k : Nat} {t : Nat} {nb no nn nc x : Nat} {Z : Nat → Prop} {l : List Rc} {is : Bool} (hn : n ≤ 100) (c0 : v.cell? ⟨b, o + k * 5, none⟩ = some (.slice (some ⟨nb, no, none⟩) nn nc)) (hk : k < n) (hnn : nn ≤ 20) (ht : t < nn) (cx : v.cell? ⟨nb, no + t, none⟩ = some (I (x : Nat))) (hl : RL Z v (.slice (some ⟨b, o, none⟩) n cap) l) (hZ : ∀ i, Z i → i < v.heap.size) (hx : x < 100) (his : is = true ↔ FateB l x) (hA : Fl 94 [(0, .slice (some ⟨b, o, none⟩) n cap), (1, kv), (5, .slice (some ⟨ob, 0, none⟩) n n), (6, tq), (8, I (k : Nat)), (9, I (t : Nat))] a) :
    q24_17.wp Try.prog (fun e a' w' => e = .normal ∧ (Fl 94 [(0, .slice (some ⟨b, o, none⟩) n cap), (1, kv), (5, .slice (some ⟨ob, 0, none⟩) n n), (6, tq), (8, I (k : Nat)), (9, I (t : Nat)), (10, .bool is)] a' ∧ Kp (fun i => i < v.heap.size) v w')) a v := by
  have HC : Hid (Calls Try.prog 13 #[.slice (some ⟨b, o, none⟩) n cap, I (x : Nat)] v _) := fate_any hl hZ ⟨by omega, by omega⟩
  have HIS : Hid (is = true ↔ FateB l x) := his
  clear hl hZ his
  obtain ⟨hsz, hd, hp⟩ := hA
  obtain ⟨u, rfl, hg⟩ := litN hsz hd
  simp only [List.forall_mem_cons, hg] at hp
  obtain ⟨u0, u1, u5, u6, u8, u9, -⟩ := hp
  clear hg hsz hd
  unfold q24_17 C24 Try.f24 seq1 seq2 blockC loopC
  simp only [Option.getD_some, lits, Nat.reduceAdd, u0, u1, u5, u6, u8, u9]
  clear u0 u1 u5 u6 u8 u9
  go_wp2_with (first
    | (go_at_call 13; refine HC.out.mono ?_; rintro e w1 ⟨_, rfl, ⟨is', rfl, hb⟩, hk⟩; have he : is' = is := Bool.eq_iff_iff.2 (hb.trans HIS.out.symm); subst he; have HK : Hid (Kp (fun i => i < v.heap.size) v w1) := hk; clear hb hk))
  first
    | exact ⟨⟨rfl, rfl, by
      intro p hp
      simp only [List.mem_cons, List.not_mem_nil, or_false] at hp
      rcases hp with rfl | rfl | rfl | rfl | rfl | rfl | rfl <;> first | rfl | exact congrArg I (by omega) | exact congrArg Value.bool (by simp <;> omega) | exact congrArg Value.bool (by simp)⟩, HK.out⟩
    | exact ⟨rfl, rfl, by
      intro p hp
      simp only [List.mem_cons, List.not_mem_nil, or_false] at hp
      rcases hp with rfl | rfl | rfl | rfl | rfl | rfl | rfl <;> first | rfl | exact congrArg I (by omega) | exact congrArg Value.bool (by simp <;> omega) | exact congrArg Value.bool (by simp)⟩
    | exact ⟨rfl, ⟨rfl, rfl, by
      intro p hp
      simp only [List.mem_cons, List.not_mem_nil, or_false] at hp
      rcases hp with rfl | rfl | rfl | rfl | rfl | rfl | rfl <;> first | rfl | exact congrArg I (by omega) | exact congrArg Value.bool (by simp <;> omega) | exact congrArg Value.bool (by simp)⟩, HK.out⟩

set_option maxHeartbeats 1000000 in
set_option maxRecDepth 100000 in
theorem p24_18 {v : World} {a : Act} {b o n cap : Nat} {kv : Value} {ob : Nat} {tq : Value} {k : Nat} {t : Nat} {is : Bool}  (hA : Fl 94 [(0, .slice (some ⟨b, o, none⟩) n cap), (1, kv), (5, .slice (some ⟨ob, 0, none⟩) n n), (6, tq), (8, I (k : Nat)), (9, I (t : Nat)), (10, .bool is)] a) :
    q24_18.wp Try.prog (fun e a' w' => e = .normal ∧ (Fl 94 [(92, .bool (!is)), (0, .slice (some ⟨b, o, none⟩) n cap), (1, kv), (5, .slice (some ⟨ob, 0, none⟩) n n), (6, tq), (8, I (k : Nat)), (9, I (t : Nat))] a' ∧ w' = v)) a v := by
  obtain ⟨hsz, hd, hp⟩ := hA
  obtain ⟨u, rfl, hg⟩ := litN hsz hd
  simp only [List.forall_mem_cons, hg] at hp
  obtain ⟨u0, u1, u5, u6, u8, u9, u10, -⟩ := hp
  clear hg hsz hd
  unfold q24_18 C24 Try.f24 seq1 seq2 blockC loopC
  simp only [Option.getD_some, lits, Nat.reduceAdd, u0, u1, u5, u6, u8, u9, u10]
  clear u0 u1 u5 u6 u8 u9 u10
  go_wp2_with fail
  first
    | exact ⟨⟨rfl, rfl, by
      intro p hp
      simp only [List.mem_cons, List.not_mem_nil, or_false] at hp
      rcases hp with rfl | rfl | rfl | rfl | rfl | rfl | rfl <;> first | rfl | exact congrArg I (by omega) | exact congrArg Value.bool (by simp <;> omega) | exact congrArg Value.bool (by simp)⟩, rfl⟩
    | exact ⟨rfl, rfl, by
      intro p hp
      simp only [List.mem_cons, List.not_mem_nil, or_false] at hp
      rcases hp with rfl | rfl | rfl | rfl | rfl | rfl | rfl <;> first | rfl | exact congrArg I (by omega) | exact congrArg Value.bool (by simp <;> omega) | exact congrArg Value.bool (by simp)⟩
    | exact ⟨rfl, ⟨rfl, rfl, by
      intro p hp
      simp only [List.mem_cons, List.not_mem_nil, or_false] at hp
      rcases hp with rfl | rfl | rfl | rfl | rfl | rfl | rfl <;> first | rfl | exact congrArg I (by omega) | exact congrArg Value.bool (by simp <;> omega) | exact congrArg Value.bool (by simp)⟩, rfl⟩

set_option maxHeartbeats 1000000 in
set_option maxRecDepth 100000 in
theorem p24_15 {v : World} {a : Act} {b o n cap : Nat} {kv : Value} {ob : Nat} {tq : Value} {k : Nat} {t : Nat} (ht : t < 100) (hA : Fl 94 [(0, .slice (some ⟨b, o, none⟩) n cap), (1, kv), (5, .slice (some ⟨ob, 0, none⟩) n n), (6, tq), (8, I (k : Nat)), (9, I (t : Nat))] a) :
    q24_15.wp Try.prog (fun e a' w' => e = .normal ∧ (Fl 94 [(0, .slice (some ⟨b, o, none⟩) n cap), (1, kv), (5, .slice (some ⟨ob, 0, none⟩) n n), (6, tq), (8, I (k : Nat)), (9, I ((t + 1 : Nat) : Int))] a' ∧ w' = v)) a v := by
  obtain ⟨hsz, hd, hp⟩ := hA
  obtain ⟨u, rfl, hg⟩ := litN hsz hd
  simp only [List.forall_mem_cons, hg] at hp
  obtain ⟨u0, u1, u5, u6, u8, u9, -⟩ := hp
  clear hg hsz hd
  unfold q24_15 C24 Try.f24 seq1 seq2 blockC loopC
  simp only [Option.getD_some, lits, Nat.reduceAdd, u0, u1, u5, u6, u8, u9]
  clear u0 u1 u5 u6 u8 u9
  go_wp2_with fail
  first
    | exact ⟨⟨rfl, rfl, by
      intro p hp
      simp only [List.mem_cons, List.not_mem_nil, or_false] at hp
      rcases hp with rfl | rfl | rfl | rfl | rfl | rfl <;> first | rfl | exact congrArg I (by omega) | exact congrArg Value.bool (by simp <;> omega) | exact congrArg Value.bool (by simp)⟩, rfl⟩
    | exact ⟨rfl, rfl, by
      intro p hp
      simp only [List.mem_cons, List.not_mem_nil, or_false] at hp
      rcases hp with rfl | rfl | rfl | rfl | rfl | rfl <;> first | rfl | exact congrArg I (by omega) | exact congrArg Value.bool (by simp <;> omega) | exact congrArg Value.bool (by simp)⟩
    | exact ⟨rfl, ⟨rfl, rfl, by
      intro p hp
      simp only [List.mem_cons, List.not_mem_nil, or_false] at hp
      rcases hp with rfl | rfl | rfl | rfl | rfl | rfl <;> first | rfl | exact congrArg I (by omega) | exact congrArg Value.bool (by simp <;> omega) | exact congrArg Value.bool (by simp)⟩, rfl⟩

set_option maxHeartbeats 1000000 in
set_option maxRecDepth 100000 in
theorem p24_19 {v : World} {a : Act} {b o n cap : Nat} {kv : Value} {ob : Nat}  (hA : Fl 94 [(0, .slice (some ⟨b, o, none⟩) n cap), (1, kv), (5, .slice (some ⟨ob, 0, none⟩) n n)] a) :
    q24_19.wp Try.prog (fun e a' w' => e = .normal ∧ (Fl 94 [(4, .slice (some ⟨ob, 0, none⟩) n n)] a' ∧ w' = v)) a v := by
  obtain ⟨hsz, hd, hp⟩ := hA
  obtain ⟨u, rfl, hg⟩ := litN hsz hd
  simp only [List.forall_mem_cons, hg] at hp
  obtain ⟨u0, u1, u5, -⟩ := hp
  clear hg hsz hd
  unfold q24_19 C24 Try.f24 seq1 seq2
  simp only [Option.getD_some, lits, Nat.reduceAdd, u0, u1, u5]
  clear u0 u1 u5
  go_wp2_with fail
  first
    | exact ⟨⟨rfl, rfl, by
      intro p hp
      simp only [List.mem_cons, List.not_mem_nil, or_false] at hp
      rcases hp with rfl <;> first | rfl | exact congrArg I (by omega) | exact congrArg Value.bool (by simp <;> omega) | exact congrArg Value.bool (by simp)⟩, rfl⟩
    | exact ⟨rfl, rfl, by
      intro p hp
      simp only [List.mem_cons, List.not_mem_nil, or_false] at hp
      rcases hp with rfl <;> first | rfl | exact congrArg I (by omega) | exact congrArg Value.bool (by simp <;> omega) | exact congrArg Value.bool (by simp)⟩
    | exact ⟨rfl, ⟨rfl, rfl, by
      intro p hp
      simp only [List.mem_cons, List.not_mem_nil, or_false] at hp
      rcases hp with rfl <;> first | rfl | exact congrArg I (by omega) | exact congrArg Value.bool (by simp <;> omega) | exact congrArg Value.bool (by simp)⟩, rfl⟩

theorem in24 {w : World} {R : Value → World → Prop} {x0 x1 : Value} (h : ∀ a, Fl 94 [(0, x0), (1, x1)] a → C24.wp Try.prog (bodyPost Try.prog Try.f24 (Ret R)) a w) : Calls Try.prog 24 #[x0, x1] w (Ret R) :=
  calls_of_wp Try.func24 (show Try.f24.body = some C24 by kernel_rfl) (by
    rw [Try.ntmps24]
    exact h _ (fl_enter _ _ 94 (by simp) _ (by intro p hp; simp only [List.mem_cons, List.not_mem_nil, or_false] at hp; rcases hp with rfl | rfl <;> rfl)))

end Go.Proofs.Ytgohfdgkihoilaa.Rcp
