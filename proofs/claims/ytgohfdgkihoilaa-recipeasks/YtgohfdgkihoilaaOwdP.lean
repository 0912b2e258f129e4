/- What owned (22) does: its pieces. (Made by wip/tools/mk22.py.) -/
import Derived.Test.YtgohfdgkihoilaaKep
set_option linter.unusedSimpArgs false
set_option linter.unusedVariables false
namespace Go.Proofs.Ytgohfdgkihoilaa.Rcp
open Go Go.RowKit Go.Deep Go.Maps

/-- An int is appended; what the old slice holds stays. -/
theorem wp_appK {ops : Array Oper} {rest : List Oper} {o : Oper} {a : Act} {Q : Exit → Act → World → Prop} {w : World} {Z : Nat → Prop} {v : Value} {xs : List Int} {n : Int} (hgd : o.guard = none) (s x : Operand)
    (ho : o.op = .call { callee := .builtin .append, args := #[s, x], argTypes := #[26, 26] }) (hs : a.eval s = v) (hx : a.eval x = .slice (some ⟨w.heap.size, 0, none⟩) 1 1) (hown : OwnI Z w v xs) (hZ : ∀ i, Z i → i < w.heap.size) (hl : xs.length ≤ 100000)
    (h : ∀ v' w', OwnI Z w' v' (xs ++ [n]) → Kp Z w w' → (∀ i, i < w.heap.size → v.ownBlock ≠ some i → w'.heap[i]? = w.heap[i]?) → (∀ g j y, v.ownBlock = some g → xs[j]? = some y → w'.cell? ⟨g, j, none⟩ = some (I y)) → (∀ g, v'.ownBlock = some g → v.ownBlock = some g ∨ w.heap.size ≤ g) → wpList Try.prog ops Q rest (a.put o.dst v') w') :
    wpList Try.prog ops Q (o :: rest) a (w.alloc (.cells #[I n] 3)) := by
  obtain ⟨j0, hj, hj0, hj1, hj2⟩ := info_parts info3
  have news : ∀ (j : Nat) (u : Value), [I n][j]? = some u → (w.alloc (.cells #[I n] 3)).cell? ((⟨w.heap.size, 0, none⟩ : Addr).add j) = some u := cell_one_new _ _ _
  have ones : ∀ u ∈ [I n], u.oneCell' = true := ints_oneCell .i64 [n]
  have rd : ∀ (w' : World), (∀ i, i < w.heap.size → w'.heap[i]? = w.heap[i]?) → ∀ g j y, v.ownBlock = some g → xs[j]? = some y → w'.cell? ⟨g, j, none⟩ = some (I y) := by
    intro w' hb g j y hg hy
    obtain ⟨p, cap, e, -, hc⟩ := hown.il (by omega)
    subst e
    obtain ⟨b, off, e, e2, hc1⟩ := hc j y hy
    clear hc
    subst e
    have hgb : b = g := by injection hg
    subst hgb
    have hoff : off = 0 := by
      obtain ⟨-, ⟨e, -⟩ | ⟨g', cap', cur, e, -⟩⟩ := hown.1
      · cases e
      · injection e with e; injection e with e; injection e
    subst hoff
    rw [World.cell?_of_block (w := w) (a := ⟨b, j, none⟩) (hb b (hown.lt b rfl))]
    simpa using hc1
  have grown : ∀ v' w', w'.ownsRow (w.alloc (.cells #[I n] 3)).heap.size 3 1 v' (xs.length + 1) (xs.map I ++ [I n]) → (w.alloc (.cells #[I n] 3)).grownBy w' none → wpList Try.prog ops Q rest (a.put o.dst v') w' := by
    intro v' w' h1 h2
    have hsz : w.heap.size ≤ w'.heap.size := Nat.le_trans (by simp) h2.size
    have hblk : ∀ i, i < w.heap.size → w'.heap[i]? = w.heap[i]? := fun i hi => (h2.block i (by simp; omega) (by simp)).trans (Below.heap_alloc _ _ _ hi)
    have fr : ∀ g, v'.ownBlock = some g → w.heap.size ≤ g := by
      intro g hg
      obtain ⟨-, ⟨rfl, h0⟩ | ⟨g', cap, cur, rfl, r1, -⟩⟩ := h1
      · cases hg
      · have e : g' = g := by injection hg
        subst e; simp at r1; omega
    refine h v' w' ⟨?_, fun g hg hz => ?_⟩ ⟨h2.os, h2.tape, h2.output, hsz, fun i hi => hblk i (hZ i hi)⟩ (fun i hi _ => hblk i hi) (rd w' hblk) (fun g hg => .inr (fr g hg))
    · rw [List.length_append, List.map_append]
      obtain ⟨e1, ⟨rfl, h0⟩ | ⟨g', cap, cur, rfl, r1, r⟩⟩ := h1
      · omega
      · exact ⟨e1, .inr ⟨g', cap, cur, rfl, Nat.zero_le _, r⟩⟩
    · have := hZ g hz; have := fr g hg; omega
  have hO := hown
  obtain ⟨h1, ⟨rfl, h0⟩ | ⟨g, cap, cur, rfl, r1, r2, r3, r4, r5, r6⟩⟩ := hown.1
  · have hxs : xs = [] := List.eq_nil_of_length_eq_zero h0
    subst hxs
    exact wpList_append_grows _ hgd s x 26 ho 3 j0 _ 1 8 Try.underlying26 hj hj0 hj1 hj2 rfl (by decide) none 0 0 [] hs (fun _ => ⟨rfl, rfl⟩) rfl (fun b e => by cases e) ⟨w.heap.size, 0, none⟩ 1 1 [I n] hx rfl news ones (by omega) (by unfold maxLen; omega) (by omega) (fun v' w' a b => grown v' w' (by simpa using a) b)
  · have hg : g < w.heap.size := (Array.getElem?_eq_some_iff.1 r2).1
    have hb' : (w.alloc (.cells #[I n] 3)).heap[g]? = some (.cells cur 3 (0, 0)) := (Below.heap_alloc _ _ _ hg).trans r2
    have h4 : ∀ (i : Nat) (x : Int), xs[i]? = some x → cur[i]? = some (I x) := fun i x hi => by
      have hil : i < xs.length := (List.getElem?_eq_some_iff.1 hi).1
      have e : (cur.toList.take (xs.length * 1))[i]? = (xs.map I)[i]? := by rw [r6]
      rw [List.getElem?_take_of_lt (by omega), List.getElem?_map, hi] at e
      simpa using e
    refine wpList_append_arg _ hgd s x 26 ho 3 j0 _ 1 8 Try.underlying26 hj hj0 hj1 hj2 rfl (by decide) g 0 xs.length cap (xs.map I) hs (by simp) (fun j u hu => ?_) ⟨w.heap.size, 0, none⟩ 1 1 [I n] hx rfl news ones (fun hr j hj => ?_) (by unfold maxLen; omega) (by omega) (fun hr => ?_) (fun _ v' w' a b => grown v' w' a b)
    · rw [List.getElem?_map] at hu
      obtain ⟨y, hy, rfl⟩ := Option.map_eq_some_iff.1 hu
      have := h4 j y hy
      simp [World.cell?, hb']
      simpa using this
    · have hj0' : j = 0 := by simp at hj; omega
      subst hj0'
      refine ⟨?_, by simp [World.frozen?, hb']⟩
      simp only [World.cell?, hb']
      simp
      omega
    · have e : (w.alloc (.cells #[I n] 3)).setCells g (0 + xs.length * 1) [I n] = (w.alloc (.cells #[I n] 3)).setCell ⟨g, xs.length, none⟩ (I n) := by simp [World.setCells]
      rw [e]
      have hnew : ((w.alloc (.cells #[I n] 3)).setCell ⟨g, xs.length, none⟩ (I n)).heap[g]? = some (.cells (cur.setIfInBounds xs.length (I n)) 3 (0, 0)) := by
        simp [World.setCell, Array.getElem?_modify, hb']
      have hblk : ∀ i, i < w.heap.size → g ≠ i → ((w.alloc (.cells #[I n] 3)).setCell ⟨g, xs.length, none⟩ (I n)).heap[i]? = w.heap[i]? := fun i hi hne => (Below.heap_setCell _ _ _ _ (fun e => hne e.symm)).trans (Below.heap_alloc _ _ _ hi)
      have hsz : w.heap.size ≤ ((w.alloc (.cells #[I n] 3)).setCell ⟨g, xs.length, none⟩ (I n)).heap.size := by simp [World.setCell]
      refine h (.slice (some ⟨g, 0, none⟩) (xs.length + 1) cap) _ ⟨⟨by simp, .inr ⟨g, cap, _, by simp, Nat.zero_le _, hnew, by simp; omega, r4, by simpa using r5, ?_⟩⟩, fun g' hg' hz => hO.2 g' (by cases hg'; rfl) hz⟩ ⟨rfl, rfl, rfl, hsz, fun i hi => hblk i (hZ i hi) (fun e => hO.2 g rfl (e ▸ hi))⟩ (fun i hi hne => hblk i hi (fun e => hne (by rw [← e]; rfl))) (fun g' j y hg' hy => ?_) (fun g' hg' => .inl (by cases hg'; rfl))
      · apply List.ext_getElem?
        intro j
        rw [List.length_append, List.map_append]
        by_cases hjl : j < xs.length + 1
        · rw [List.getElem?_take_of_lt (by simp; omega), Array.getElem?_toList, Array.getElem?_setIfInBounds]
          by_cases hje : xs.length = j
          · subst hje
            rw [if_pos rfl, if_pos (by omega)]
            simp
          · rw [if_neg hje, List.getElem?_append_left (by simp; omega), List.getElem?_map]
            have hj2 : j < xs.length := by omega
            rw [h4 j _ (List.getElem?_eq_getElem hj2), List.getElem?_eq_getElem hj2]
            rfl
        · rw [List.getElem?_eq_none (by simp; omega), List.getElem?_eq_none (by simp; omega)]
      · cases hg'
        have hj2 : j < xs.length := (List.getElem?_eq_some_iff.1 hy).1
        simp only [World.cell?, hnew]
        rw [Array.getElem?_setIfInBounds, if_neg (show ¬ xs.length = j by omega)]
        exact h4 j y hy
/-- A slice of slices that was built here, outside Z. -/
def OwnV (Z : Nat → Prop) (w : World) (v : Value) (vs : List Value) : Prop := w.ownsRow 0 26 1 v vs.length vs ∧ ∀ g, v.ownBlock = some g → ¬ Z g
theorem OwnV.nil (Z : Nat → Prop) (w : World) : OwnV Z w (.slice none 0 0) [] := ⟨World.ownsRow_nil _ _ _ _, fun g hg => by cases hg⟩
theorem OwnV.lt {Z : Nat → Prop} {w : World} {v : Value} {xs : List Value} (h : OwnV Z w v xs) : ∀ g, v.ownBlock = some g → g < w.heap.size := by
  obtain ⟨⟨h1, h2⟩, h3⟩ := h
  intro g hg
  rcases h2 with ⟨rfl, _⟩ | ⟨g', cap, cur, rfl, r1, r2, r3⟩
  · cases hg
  · cases hg; exact (Array.getElem?_eq_some_iff.1 r2).1
theorem OwnV.stay {Z : Nat → Prop} {w w' : World} {v : Value} {xs : List Value} (h : OwnV Z w v xs) (hb : ∀ g, v.ownBlock = some g → w'.heap[g]? = w.heap[g]?) : OwnV Z w' v xs := by
  obtain ⟨⟨h1, h2⟩, h3⟩ := h
  refine ⟨⟨h1, ?_⟩, h3⟩
  rcases h2 with h2 | ⟨g, cap, cur, rfl, r1, r2, r3⟩
  · exact .inl h2
  · exact .inr ⟨g, cap, cur, rfl, r1, (hb g rfl).trans r2, r3⟩
theorem OwnV.mono {Z Z' : Nat → Prop} {w : World} {v : Value} {xs : List Value} (h : OwnV Z w v xs) (hZ : ∀ i, Z' i → Z i) : OwnV Z' w v xs := ⟨h.1, fun g hg hz => h.2 g hg (hZ g hz)⟩
theorem OwnV.shape {Z : Nat → Prop} {w : World} {v : Value} {vs : List Value} (h : OwnV Z w v vs) : ∃ p cap, v = .slice p vs.length cap ∧ ∀ k u, vs[k]? = some u → ∃ fb, p = some ⟨fb, 0, none⟩ ∧ w.cell? ⟨fb, k, none⟩ = some u := by
  obtain ⟨h1, ⟨rfl, h0⟩ | ⟨g, cap, cur, rfl, r1, r2, r3, r4, r5, r6⟩⟩ := h.1
  · have hvs : vs = [] := List.eq_nil_of_length_eq_zero h0
    subst hvs
    exact ⟨none, 0, rfl, fun k u hu => by simp at hu⟩
  · refine ⟨_, cap, rfl, fun k u hu => ⟨g, rfl, ?_⟩⟩
    have hil : k < vs.length := (List.getElem?_eq_some_iff.1 hu).1
    have e : (cur.toList.take (vs.length * 1))[k]? = vs[k]? := by rw [r6]
    rw [List.getElem?_take_of_lt (by omega), hu] at e
    simp only [World.cell?, r2]
    simpa using e
theorem info26 : (Try.prog.info? 26).map (fun i => (i.zero, i.size, i.bytes)) = some (some (.slice none 0 0), 1, 24) := by kernel_rfl
theorem wp_app2 {ops : Array Oper} {rest : List Oper} {o : Oper} {a : Act} {Q : Exit → Act → World → Prop} {w : World} {Z : Nat → Prop} {v u x : Value} {vs : List Value} (hgd : o.guard = none) (s t : Operand)
    (ho : o.op = .call { callee := .builtin .append, args := #[s, t], argTypes := #[37, 37] }) (hs : a.eval s = v) (hx : a.eval t = .slice (some ⟨w.heap.size, 0, none⟩) 2 2) (h1 : u.oneCell' = true) (h2 : x.oneCell' = true) (hown : OwnV Z w v vs) (hZ : ∀ i, Z i → i < w.heap.size) (hl : vs.length ≤ 100000)
    (h : ∀ v' w', OwnV Z w' v' (vs ++ [u, x]) → Kp Z w w' → (∀ i, i < w.heap.size → v.ownBlock ≠ some i → w'.heap[i]? = w.heap[i]?) → wpList Try.prog ops Q rest (a.put o.dst v') w') :
    wpList Try.prog ops Q (o :: rest) a (w.alloc (.cells #[u, x] 26)) := by
  obtain ⟨j0, hj, hj0, hj1, hj2⟩ := info_parts info26
  have hlt := hown.lt
  have hst : OwnV Z (w.alloc (.cells #[u, x] 26)) v vs := hown.stay fun g hg => Below.heap_alloc _ _ _ (hlt g hg)
  refine wpList_append_own_at _ hgd s t 37 ho 0 26 j0 _ 1 24 Try.underlying37 hj hj0 hj1 hj2 rfl (by decide) v vs.length vs hs hst.1 ⟨w.heap.size, 0, none⟩ 2 2 [u, x] hx rfl (fun j y hj => ?_) (fun y hy => ?_) (by unfold maxLen; omega) (by omega) (Nat.zero_le _) ?_
  · rw [Addr.add_mid, World.cell?_alloc_at _ _ _ _ rfl]
    simpa using hj
  · simp only [List.mem_cons, List.not_mem_nil, or_false] at hy
    rcases hy with rfl | rfl
    · exact h1
    · exact h2
  intro v' w' g1 g2 g3 g4
  have hsz : w.heap.size ≤ w'.heap.size := Nat.le_trans (by simp) g2.size
  have hblk : ∀ i, i < w.heap.size → v.ownBlock ≠ some i → w'.heap[i]? = w.heap[i]? := fun i hi hne => (g2.block i (by simp; omega) (fun e => hne e.symm)).trans (Below.heap_alloc _ _ _ hi)
  refine h v' w' ⟨?_, fun g hg hz => ?_⟩ ⟨g2.os, g2.tape, g2.output, hsz, fun i hi => hblk i (hZ i hi) (fun e => hown.2 i e hi)⟩ hblk
  · rw [List.length_append]; exact g1
  · rcases g4 with g4 | g4
    · rw [g4] at hg
      exact hown.2 g hg hz
    · rw [g4] at hg
      injection hg with hg
      have := hZ g hz
      simp at hg
      omega
noncomputable def C22 : Code := Try.f22.body.getD .skip
noncomputable def q22_0 : Code := (seq1 C22)
noncomputable def q22_1 : Code := (seq1 (seq1 (seq2 C22)))
noncomputable def q22_2 : Code := (seq1 (seq1 (loopC (blockC (seq2 (seq1 (seq2 C22)))))))
noncomputable def q22_4 : Code := (seq1 (blockC (seq1 (seq2 (loopC (blockC (seq2 (seq1 (seq2 C22)))))))))
noncomputable def q22_5 : Code := (seq1 (seq1 (loopC (blockC (seq2 (blockC (seq1 (seq2 (loopC (blockC (seq2 (seq1 (seq2 C22)))))))))))))
noncomputable def q22_7 : Code := (blockC (seq1 (seq2 (loopC (blockC (seq2 (blockC (seq1 (seq2 (loopC (blockC (seq2 (seq1 (seq2 C22))))))))))))))
noncomputable def q22_6 : Code := (seq2 (seq2 (loopC (blockC (seq2 (blockC (seq1 (seq2 (loopC (blockC (seq2 (seq1 (seq2 C22)))))))))))))
noncomputable def q22_3 : Code := (seq2 (seq2 (loopC (blockC (seq2 (seq1 (seq2 C22)))))))
noncomputable def q22_8 : Code := (seq1 (seq2 (seq2 C22)))
noncomputable def q22_9 : Code := (seq1 (seq1 (seq2 (seq2 (seq2 C22)))))
noncomputable def q22_10 : Code := (seq1 (seq1 (loopC (blockC (seq2 (seq1 (seq2 (seq2 (seq2 C22)))))))))
noncomputable def q22_12 : Code := (seq1 (blockC (seq1 (seq2 (loopC (blockC (seq2 (seq1 (seq2 (seq2 (seq2 C22)))))))))))
noncomputable def q22_13 : Code := (seq1 (seq1 (seq2 (blockC (seq1 (seq2 (loopC (blockC (seq2 (seq1 (seq2 (seq2 (seq2 C22)))))))))))))
noncomputable def q22_14 : Code := (seq1 (seq1 (loopC (blockC (seq2 (seq1 (seq2 (blockC (seq1 (seq2 (loopC (blockC (seq2 (seq1 (seq2 (seq2 (seq2 C22)))))))))))))))))
noncomputable def q22_16 : Code := (blockC (seq1 (seq2 (loopC (blockC (seq2 (seq1 (seq2 (blockC (seq1 (seq2 (loopC (blockC (seq2 (seq1 (seq2 (seq2 (seq2 C22))))))))))))))))))
noncomputable def q22_15 : Code := (seq2 (seq2 (loopC (blockC (seq2 (seq1 (seq2 (blockC (seq1 (seq2 (loopC (blockC (seq2 (seq1 (seq2 (seq2 (seq2 C22)))))))))))))))))
noncomputable def q22_17 : Code := (seq2 (seq2 (blockC (seq1 (seq2 (loopC (blockC (seq2 (seq1 (seq2 (seq2 (seq2 C22))))))))))))
noncomputable def q22_11 : Code := (seq2 (seq2 (loopC (blockC (seq2 (seq1 (seq2 (seq2 (seq2 C22)))))))))
noncomputable def q22_18 : Code := (seq1 (seq1 (seq2 (seq2 (seq2 (seq2 C22))))))
noncomputable def q22_19 : Code := (seq1 (seq1 (loopC (blockC (seq2 (seq1 (seq2 (seq2 (seq2 (seq2 C22))))))))))
noncomputable def q22_21 : Code := (seq1 (blockC (seq1 (seq2 (loopC (blockC (seq2 (seq1 (seq2 (seq2 (seq2 (seq2 C22))))))))))))
noncomputable def q22_22 : Code := (seq1 (seq1 (loopC (blockC (seq2 (blockC (seq1 (seq2 (loopC (blockC (seq2 (seq1 (seq2 (seq2 (seq2 (seq2 C22))))))))))))))))
noncomputable def q22_24 : Code := (seq1 (blockC (seq1 (seq2 (loopC (blockC (seq2 (blockC (seq1 (seq2 (loopC (blockC (seq2 (seq1 (seq2 (seq2 (seq2 (seq2 C22))))))))))))))))))
noncomputable def q22_25 : Code := (seq1 (condA (seq2 (blockC (seq1 (seq2 (loopC (blockC (seq2 (blockC (seq1 (seq2 (loopC (blockC (seq2 (seq1 (seq2 (seq2 (seq2 (seq2 C22))))))))))))))))))))
noncomputable def q22_23 : Code := (seq2 (seq2 (loopC (blockC (seq2 (blockC (seq1 (seq2 (loopC (blockC (seq2 (seq1 (seq2 (seq2 (seq2 (seq2 C22))))))))))))))))
noncomputable def q22_20 : Code := (seq2 (seq2 (loopC (blockC (seq2 (seq1 (seq2 (seq2 (seq2 (seq2 C22))))))))))
noncomputable def q22_26 : Code := (seq1 (seq2 (seq2 (seq2 (seq2 (seq2 C22))))))
noncomputable def K22_3 : Code := q22_7
noncomputable def K22_2 : Code := (.loop (.seq (.seq q22_5 (.cond ( .tmp 23 ) .skip (.exit 2))) (.seq (.block 3 K22_3) q22_6)))
noncomputable def K22_1 : Code := (.seq q22_4 (.block 2 K22_2))
noncomputable def K22_0 : Code := (.loop (.seq (.seq q22_2 (.cond ( .tmp 14 ) .skip (.exit 0))) (.seq (.block 1 K22_1) q22_3)))
noncomputable def K22_7 : Code := q22_16
noncomputable def K22_6 : Code := (.loop (.seq (.seq q22_14 (.cond ( .tmp 45 ) .skip (.exit 6))) (.seq (.block 7 K22_7) q22_15)))
noncomputable def K22_5 : Code := (.seq q22_12 (.seq (.seq q22_13 (.block 6 K22_6)) q22_17))
noncomputable def K22_4 : Code := (.loop (.seq (.seq q22_10 (.cond ( .tmp 37 ) .skip (.exit 4))) (.seq (.block 5 K22_5) q22_11)))
noncomputable def K22_11 : Code := (.seq q22_24 (.cond ( .tmp 86 ) (.seq q22_25 .ret) .skip))
noncomputable def K22_10 : Code := (.loop (.seq (.seq q22_22 (.cond ( .tmp 73 ) .skip (.exit 10))) (.seq (.block 11 K22_11) q22_23)))
noncomputable def K22_9 : Code := (.seq q22_21 (.block 10 K22_10))
noncomputable def K22_8 : Code := (.loop (.seq (.seq q22_19 (.cond ( .tmp 64 ) .skip (.exit 8))) (.seq (.block 9 K22_9) q22_20)))
theorem e22 : C22 = (.seq q22_0 (.seq (.seq q22_1 (.block 0 K22_0)) (.seq q22_8 (.seq (.seq q22_9 (.block 4 K22_4)) (.seq (.seq q22_18 (.block 8 K22_8)) (.seq q22_26 .ret)))))) := by kernel_rfl

set_option maxHeartbeats 1000000 in
set_option maxRecDepth 100000 in
theorem p22_0 {v : World} {a : Act} {lb n : Nat}  (hA : Fl 87 [(0, .slice (some ⟨lb, 0, none⟩) n n)] a) :
    q22_0.wp Try.prog (fun e a' w' => e = .normal ∧ (Fl 87 [(0, .slice (some ⟨lb, 0, none⟩) n n)] a' ∧ w' = v)) a v := by
  obtain ⟨hsz, hd, hp⟩ := hA
  obtain ⟨u, rfl, hg⟩ := litN hsz hd
  simp only [List.forall_mem_cons, hg] at hp
  obtain ⟨u0, -⟩ := hp
  clear hg hsz hd
  unfold q22_0 C22 Try.f22 seq1
  simp only [Option.getD_some, lits, Nat.reduceAdd, u0]
  clear u0
  go_wp2_with fail
  first
    | exact ⟨⟨rfl, rfl, by
      intro p hp
      simp only [List.mem_cons, List.not_mem_nil, or_false] at hp
      rcases hp with rfl <;> first | rfl | exact congrArg I (by omega) | exact congrArg Value.bool (by simp <;> omega) | exact congrArg Value.bool (by simp)⟩, rfl⟩
    | exact ⟨rfl, rfl, by
      intro p hp
      simp only [List.mem_cons, List.not_mem_nil, or_false] at hp
      rcases hp with rfl <;> first | rfl | exact congrArg I (by omega) | exact congrArg Value.bool (by simp <;> omega) | exact congrArg Value.bool (by simp)⟩
    | exact ⟨rfl, ⟨rfl, rfl, by
      intro p hp
      simp only [List.mem_cons, List.not_mem_nil, or_false] at hp
      rcases hp with rfl <;> first | rfl | exact congrArg I (by omega) | exact congrArg Value.bool (by simp <;> omega) | exact congrArg Value.bool (by simp)⟩, rfl⟩

set_option maxHeartbeats 1000000 in
set_option maxRecDepth 100000 in
theorem p22_1 {v : World} {a : Act} {lb n : Nat}  (hA : Fl 87 [(0, .slice (some ⟨lb, 0, none⟩) n n)] a) :
    q22_1.wp Try.prog (fun e a' w' => e = .normal ∧ (Fl 87 [(0, .slice (some ⟨lb, 0, none⟩) n n), (3, I (0 : Nat))] a' ∧ w' = v)) a v := by
  obtain ⟨hsz, hd, hp⟩ := hA
  obtain ⟨u, rfl, hg⟩ := litN hsz hd
  simp only [List.forall_mem_cons, hg] at hp
  obtain ⟨u0, -⟩ := hp
  clear hg hsz hd
  unfold q22_1 C22 Try.f22 seq1 seq2
  simp only [Option.getD_some, lits, Nat.reduceAdd, u0]
  clear u0
  go_wp2_with fail
  first
    | exact ⟨⟨rfl, rfl, by
      intro p hp
      simp only [List.mem_cons, List.not_mem_nil, or_false] at hp
      rcases hp with rfl | rfl <;> first | rfl | exact congrArg I (by omega) | exact congrArg Value.bool (by simp <;> omega) | exact congrArg Value.bool (by simp)⟩, rfl⟩
    | exact ⟨rfl, rfl, by
      intro p hp
      simp only [List.mem_cons, List.not_mem_nil, or_false] at hp
      rcases hp with rfl | rfl <;> first | rfl | exact congrArg I (by omega) | exact congrArg Value.bool (by simp <;> omega) | exact congrArg Value.bool (by simp)⟩
    | exact ⟨rfl, ⟨rfl, rfl, by
      intro p hp
      simp only [List.mem_cons, List.not_mem_nil, or_false] at hp
      rcases hp with rfl | rfl <;> first | rfl | exact congrArg I (by omega) | exact congrArg Value.bool (by simp <;> omega) | exact congrArg Value.bool (by simp)⟩, rfl⟩

set_option maxHeartbeats 1000000 in
set_option maxRecDepth 100000 in
theorem p22_2 {v : World} {a : Act} {lb n i : Nat} (hn : n ≤ 100) (hA : Fl 87 [(0, .slice (some ⟨lb, 0, none⟩) n n), (3, I (i : Nat))] a) :
    q22_2.wp Try.prog (fun e a' w' => e = .normal ∧ (Fl 87 [(14, .bool (decide (i < n))), (0, .slice (some ⟨lb, 0, none⟩) n n), (3, I (i : Nat))] a' ∧ w' = v)) a v := by
  obtain ⟨hsz, hd, hp⟩ := hA
  obtain ⟨u, rfl, hg⟩ := litN hsz hd
  simp only [List.forall_mem_cons, hg] at hp
  obtain ⟨u0, u3, -⟩ := hp
  clear hg hsz hd
  unfold q22_2 C22 Try.f22 seq1 seq2 blockC loopC
  simp only [Option.getD_some, lits, Nat.reduceAdd, u0, u3]
  clear u0 u3
  go_wp2_with fail
  first
    | exact ⟨⟨rfl, rfl, by
      intro p hp
      simp only [List.mem_cons, List.not_mem_nil, or_false] at hp
      rcases hp with rfl | rfl | rfl <;> first | rfl | exact congrArg I (by omega) | exact congrArg Value.bool (by simp <;> omega) | exact congrArg Value.bool (by simp)⟩, rfl⟩
    | exact ⟨rfl, rfl, by
      intro p hp
      simp only [List.mem_cons, List.not_mem_nil, or_false] at hp
      rcases hp with rfl | rfl | rfl <;> first | rfl | exact congrArg I (by omega) | exact congrArg Value.bool (by simp <;> omega) | exact congrArg Value.bool (by simp)⟩
    | exact ⟨rfl, ⟨rfl, rfl, by
      intro p hp
      simp only [List.mem_cons, List.not_mem_nil, or_false] at hp
      rcases hp with rfl | rfl | rfl <;> first | rfl | exact congrArg I (by omega) | exact congrArg Value.bool (by simp <;> omega) | exact congrArg Value.bool (by simp)⟩, rfl⟩

set_option maxHeartbeats 1000000 in
set_option maxRecDepth 100000 in
theorem p22_3 {v : World} {a : Act} {lb n i : Nat} (hi : i < 100) (hA : Fl 87 [(0, .slice (some ⟨lb, 0, none⟩) n n), (3, I (i : Nat))] a) :
    q22_3.wp Try.prog (fun e a' w' => e = .normal ∧ (Fl 87 [(0, .slice (some ⟨lb, 0, none⟩) n n), (3, I ((i + 1 : Nat) : Int))] a' ∧ w' = v)) a v := by
  obtain ⟨hsz, hd, hp⟩ := hA
  obtain ⟨u, rfl, hg⟩ := litN hsz hd
  simp only [List.forall_mem_cons, hg] at hp
  obtain ⟨u0, u3, -⟩ := hp
  clear hg hsz hd
  unfold q22_3 C22 Try.f22 seq1 seq2 blockC loopC
  simp only [Option.getD_some, lits, Nat.reduceAdd, u0, u3]
  clear u0 u3
  go_wp2_with fail
  first
    | exact ⟨⟨rfl, rfl, by
      intro p hp
      simp only [List.mem_cons, List.not_mem_nil, or_false] at hp
      rcases hp with rfl | rfl <;> first | rfl | exact congrArg I (by omega) | exact congrArg Value.bool (by simp <;> omega) | exact congrArg Value.bool (by simp)⟩, rfl⟩
    | exact ⟨rfl, rfl, by
      intro p hp
      simp only [List.mem_cons, List.not_mem_nil, or_false] at hp
      rcases hp with rfl | rfl <;> first | rfl | exact congrArg I (by omega) | exact congrArg Value.bool (by simp <;> omega) | exact congrArg Value.bool (by simp)⟩
    | exact ⟨rfl, ⟨rfl, rfl, by
      intro p hp
      simp only [List.mem_cons, List.not_mem_nil, or_false] at hp
      rcases hp with rfl | rfl <;> first | rfl | exact congrArg I (by omega) | exact congrArg Value.bool (by simp <;> omega) | exact congrArg Value.bool (by simp)⟩, rfl⟩

set_option maxHeartbeats 1000000 in
set_option maxRecDepth 100000 in
theorem p22_4 {v : World} {a : Act} {lb n i : Nat}  (hA : Fl 87 [(0, .slice (some ⟨lb, 0, none⟩) n n), (3, I (i : Nat))] a) :
    q22_4.wp Try.prog (fun e a' w' => e = .normal ∧ (Fl 87 [(0, .slice (some ⟨lb, 0, none⟩) n n), (3, I (i : Nat)), (4, I (0 : Nat))] a' ∧ w' = v)) a v := by
  obtain ⟨hsz, hd, hp⟩ := hA
  obtain ⟨u, rfl, hg⟩ := litN hsz hd
  simp only [List.forall_mem_cons, hg] at hp
  obtain ⟨u0, u3, -⟩ := hp
  clear hg hsz hd
  unfold q22_4 C22 Try.f22 seq1 seq2 blockC loopC
  simp only [Option.getD_some, lits, Nat.reduceAdd, u0, u3]
  clear u0 u3
  go_wp2_with fail
  first
    | exact ⟨⟨rfl, rfl, by
      intro p hp
      simp only [List.mem_cons, List.not_mem_nil, or_false] at hp
      rcases hp with rfl | rfl | rfl <;> first | rfl | exact congrArg I (by omega) | exact congrArg Value.bool (by simp <;> omega) | exact congrArg Value.bool (by simp)⟩, rfl⟩
    | exact ⟨rfl, rfl, by
      intro p hp
      simp only [List.mem_cons, List.not_mem_nil, or_false] at hp
      rcases hp with rfl | rfl | rfl <;> first | rfl | exact congrArg I (by omega) | exact congrArg Value.bool (by simp <;> omega) | exact congrArg Value.bool (by simp)⟩
    | exact ⟨rfl, ⟨rfl, rfl, by
      intro p hp
      simp only [List.mem_cons, List.not_mem_nil, or_false] at hp
      rcases hp with rfl | rfl | rfl <;> first | rfl | exact congrArg I (by omega) | exact congrArg Value.bool (by simp <;> omega) | exact congrArg Value.bool (by simp)⟩, rfl⟩

set_option maxHeartbeats 1000000 in
set_option maxRecDepth 100000 in
theorem p22_5 {v : World} {a : Act} {lb n i t : Nat} {q : Option Addr} {len cap : Nat} (hn : n ≤ 100) (hl : len ≤ 2000) (hi : i < n) (c : v.cell? ⟨lb, i, none⟩ = some (.slice q len cap)) (hA : Fl 87 [(0, .slice (some ⟨lb, 0, none⟩) n n), (3, I (i : Nat)), (4, I (t : Nat))] a) :
    q22_5.wp Try.prog (fun e a' w' => e = .normal ∧ (Fl 87 [(23, .bool (decide (t < len))), (0, .slice (some ⟨lb, 0, none⟩) n n), (3, I (i : Nat)), (4, I (t : Nat))] a' ∧ w' = v)) a v := by
  obtain ⟨hsz, hd, hp⟩ := hA
  obtain ⟨u, rfl, hg⟩ := litN hsz hd
  simp only [List.forall_mem_cons, hg] at hp
  obtain ⟨u0, u3, u4, -⟩ := hp
  clear hg hsz hd
  unfold q22_5 C22 Try.f22 seq1 seq2 blockC loopC
  simp only [Option.getD_some, lits, Nat.reduceAdd, u0, u3, u4]
  clear u0 u3 u4
  go_wp2_with fail
  first
    | exact ⟨⟨rfl, rfl, by
      intro p hp
      simp only [List.mem_cons, List.not_mem_nil, or_false] at hp
      rcases hp with rfl | rfl | rfl | rfl <;> first | rfl | exact congrArg I (by omega) | exact congrArg Value.bool (by simp <;> omega) | exact congrArg Value.bool (by simp)⟩, rfl⟩
    | exact ⟨rfl, rfl, by
      intro p hp
      simp only [List.mem_cons, List.not_mem_nil, or_false] at hp
      rcases hp with rfl | rfl | rfl | rfl <;> first | rfl | exact congrArg I (by omega) | exact congrArg Value.bool (by simp <;> omega) | exact congrArg Value.bool (by simp)⟩
    | exact ⟨rfl, ⟨rfl, rfl, by
      intro p hp
      simp only [List.mem_cons, List.not_mem_nil, or_false] at hp
      rcases hp with rfl | rfl | rfl | rfl <;> first | rfl | exact congrArg I (by omega) | exact congrArg Value.bool (by simp <;> omega) | exact congrArg Value.bool (by simp)⟩, rfl⟩

set_option maxHeartbeats 1000000 in
set_option maxRecDepth 100000 in
theorem p22_6 {v : World} {a : Act} {lb n i t : Nat} (ht : t < 2000) (hA : Fl 87 [(0, .slice (some ⟨lb, 0, none⟩) n n), (3, I (i : Nat)), (4, I (t : Nat))] a) :
    q22_6.wp Try.prog (fun e a' w' => e = .normal ∧ (Fl 87 [(0, .slice (some ⟨lb, 0, none⟩) n n), (3, I (i : Nat)), (4, I ((t + 1 : Nat) : Int))] a' ∧ w' = v)) a v := by
  obtain ⟨hsz, hd, hp⟩ := hA
  obtain ⟨u, rfl, hg⟩ := litN hsz hd
  simp only [List.forall_mem_cons, hg] at hp
  obtain ⟨u0, u3, u4, -⟩ := hp
  clear hg hsz hd
  unfold q22_6 C22 Try.f22 seq1 seq2 blockC loopC
  simp only [Option.getD_some, lits, Nat.reduceAdd, u0, u3, u4]
  clear u0 u3 u4
  go_wp2_with fail
  first
    | exact ⟨⟨rfl, rfl, by
      intro p hp
      simp only [List.mem_cons, List.not_mem_nil, or_false] at hp
      rcases hp with rfl | rfl | rfl <;> first | rfl | exact congrArg I (by omega) | exact congrArg Value.bool (by simp <;> omega) | exact congrArg Value.bool (by simp)⟩, rfl⟩
    | exact ⟨rfl, rfl, by
      intro p hp
      simp only [List.mem_cons, List.not_mem_nil, or_false] at hp
      rcases hp with rfl | rfl | rfl <;> first | rfl | exact congrArg I (by omega) | exact congrArg Value.bool (by simp <;> omega) | exact congrArg Value.bool (by simp)⟩
    | exact ⟨rfl, ⟨rfl, rfl, by
      intro p hp
      simp only [List.mem_cons, List.not_mem_nil, or_false] at hp
      rcases hp with rfl | rfl | rfl <;> first | rfl | exact congrArg I (by omega) | exact congrArg Value.bool (by simp <;> omega) | exact congrArg Value.bool (by simp)⟩, rfl⟩

set_option maxHeartbeats 1000000 in
set_option maxRecDepth 100000 in
theorem p22_7 {v : World} {a : Act} {lb n i t : Nat} {g len cap : Nat} {u : Value} (hn : n ≤ 100) (hl : len ≤ 2000) (hi : i < n) (c : v.cell? ⟨lb, i, none⟩ = some (.slice (some ⟨g, 0, none⟩) len cap)) (ht : t < len) (e : v.cell? ⟨g, t, none⟩ = some u) (f : v.frozen? ⟨g, t, none⟩ = false) (hA : Fl 87 [(0, .slice (some ⟨lb, 0, none⟩) n n), (3, I (i : Nat)), (4, I (t : Nat))] a) :
    q22_7.wp Try.prog (fun e a' w' => e = .normal ∧ (Fl 87 [(0, .slice (some ⟨lb, 0, none⟩) n n), (3, I (i : Nat)), (4, I (t : Nat))] a' ∧ w' = v.setCell ⟨g, t, none⟩ (I (-9 - (i : Int))))) a v := by
  obtain ⟨hsz, hd, hp⟩ := hA
  obtain ⟨u, rfl, hg⟩ := litN hsz hd
  simp only [List.forall_mem_cons, hg] at hp
  obtain ⟨u0, u3, u4, -⟩ := hp
  clear hg hsz hd
  unfold q22_7 C22 Try.f22 seq1 seq2 blockC loopC
  simp only [Option.getD_some, lits, Nat.reduceAdd, u0, u3, u4]
  clear u0 u3 u4
  go_wp2_with fail
  first
    | exact ⟨⟨rfl, rfl, by
      intro p hp
      simp only [List.mem_cons, List.not_mem_nil, or_false] at hp
      rcases hp with rfl | rfl | rfl <;> first | rfl | exact congrArg I (by omega) | exact congrArg Value.bool (by simp <;> omega) | exact congrArg Value.bool (by simp)⟩, rfl⟩
    | exact ⟨rfl, rfl, by
      intro p hp
      simp only [List.mem_cons, List.not_mem_nil, or_false] at hp
      rcases hp with rfl | rfl | rfl <;> first | rfl | exact congrArg I (by omega) | exact congrArg Value.bool (by simp <;> omega) | exact congrArg Value.bool (by simp)⟩
    | exact ⟨rfl, ⟨rfl, rfl, by
      intro p hp
      simp only [List.mem_cons, List.not_mem_nil, or_false] at hp
      rcases hp with rfl | rfl | rfl <;> first | rfl | exact congrArg I (by omega) | exact congrArg Value.bool (by simp <;> omega) | exact congrArg Value.bool (by simp)⟩, rfl⟩

set_option maxHeartbeats 1000000 in
set_option maxRecDepth 100000 in
theorem p22_8 {v : World} {a : Act} {lb n : Nat}  (hA : Fl 87 [(0, .slice (some ⟨lb, 0, none⟩) n n)] a) :
    q22_8.wp Try.prog (fun e a' w' => e = .normal ∧ (Fl 87 [(0, .slice (some ⟨lb, 0, none⟩) n n), (5, .slice none 0 0)] a' ∧ w' = v)) a v := by
  obtain ⟨hsz, hd, hp⟩ := hA
  obtain ⟨u, rfl, hg⟩ := litN hsz hd
  simp only [List.forall_mem_cons, hg] at hp
  obtain ⟨u0, -⟩ := hp
  clear hg hsz hd
  unfold q22_8 C22 Try.f22 seq1 seq2
  simp only [Option.getD_some, lits, Nat.reduceAdd, u0]
  clear u0
  go_wp2_with fail
  first
    | exact ⟨⟨rfl, rfl, by
      intro p hp
      simp only [List.mem_cons, List.not_mem_nil, or_false] at hp
      rcases hp with rfl | rfl <;> first | rfl | exact congrArg I (by omega) | exact congrArg Value.bool (by simp <;> omega) | exact congrArg Value.bool (by simp)⟩, rfl⟩
    | exact ⟨rfl, rfl, by
      intro p hp
      simp only [List.mem_cons, List.not_mem_nil, or_false] at hp
      rcases hp with rfl | rfl <;> first | rfl | exact congrArg I (by omega) | exact congrArg Value.bool (by simp <;> omega) | exact congrArg Value.bool (by simp)⟩
    | exact ⟨rfl, ⟨rfl, rfl, by
      intro p hp
      simp only [List.mem_cons, List.not_mem_nil, or_false] at hp
      rcases hp with rfl | rfl <;> first | rfl | exact congrArg I (by omega) | exact congrArg Value.bool (by simp <;> omega) | exact congrArg Value.bool (by simp)⟩, rfl⟩

set_option maxHeartbeats 1000000 in
set_option maxRecDepth 100000 in
theorem p22_9 {v : World} {a : Act} {lb n : Nat} {tv : Value}  (hA : Fl 87 [(0, .slice (some ⟨lb, 0, none⟩) n n), (5, tv)] a) :
    q22_9.wp Try.prog (fun e a' w' => e = .normal ∧ (Fl 87 [(0, .slice (some ⟨lb, 0, none⟩) n n), (5, tv), (6, I (0 : Nat))] a' ∧ w' = v)) a v := by
  obtain ⟨hsz, hd, hp⟩ := hA
  obtain ⟨u, rfl, hg⟩ := litN hsz hd
  simp only [List.forall_mem_cons, hg] at hp
  obtain ⟨u0, u5, -⟩ := hp
  clear hg hsz hd
  unfold q22_9 C22 Try.f22 seq1 seq2
  simp only [Option.getD_some, lits, Nat.reduceAdd, u0, u5]
  clear u0 u5
  go_wp2_with fail
  first
    | exact ⟨⟨rfl, rfl, by
      intro p hp
      simp only [List.mem_cons, List.not_mem_nil, or_false] at hp
      rcases hp with rfl | rfl | rfl <;> first | rfl | exact congrArg I (by omega) | exact congrArg Value.bool (by simp <;> omega) | exact congrArg Value.bool (by simp)⟩, rfl⟩
    | exact ⟨rfl, rfl, by
      intro p hp
      simp only [List.mem_cons, List.not_mem_nil, or_false] at hp
      rcases hp with rfl | rfl | rfl <;> first | rfl | exact congrArg I (by omega) | exact congrArg Value.bool (by simp <;> omega) | exact congrArg Value.bool (by simp)⟩
    | exact ⟨rfl, ⟨rfl, rfl, by
      intro p hp
      simp only [List.mem_cons, List.not_mem_nil, or_false] at hp
      rcases hp with rfl | rfl | rfl <;> first | rfl | exact congrArg I (by omega) | exact congrArg Value.bool (by simp <;> omega) | exact congrArg Value.bool (by simp)⟩, rfl⟩

set_option maxHeartbeats 1000000 in
set_option maxRecDepth 100000 in
theorem p22_10 {v : World} {a : Act} {lb n i : Nat} {tv : Value} (hn : n ≤ 100) (hA : Fl 87 [(0, .slice (some ⟨lb, 0, none⟩) n n), (5, tv), (6, I (i : Nat))] a) :
    q22_10.wp Try.prog (fun e a' w' => e = .normal ∧ (Fl 87 [(37, .bool (decide (i < n))), (0, .slice (some ⟨lb, 0, none⟩) n n), (5, tv), (6, I (i : Nat))] a' ∧ w' = v)) a v := by
  obtain ⟨hsz, hd, hp⟩ := hA
  obtain ⟨u, rfl, hg⟩ := litN hsz hd
  simp only [List.forall_mem_cons, hg] at hp
  obtain ⟨u0, u5, u6, -⟩ := hp
  clear hg hsz hd
  unfold q22_10 C22 Try.f22 seq1 seq2 blockC loopC
  simp only [Option.getD_some, lits, Nat.reduceAdd, u0, u5, u6]
  clear u0 u5 u6
  go_wp2_with fail
  first
    | exact ⟨⟨rfl, rfl, by
      intro p hp
      simp only [List.mem_cons, List.not_mem_nil, or_false] at hp
      rcases hp with rfl | rfl | rfl | rfl <;> first | rfl | exact congrArg I (by omega) | exact congrArg Value.bool (by simp <;> omega) | exact congrArg Value.bool (by simp)⟩, rfl⟩
    | exact ⟨rfl, rfl, by
      intro p hp
      simp only [List.mem_cons, List.not_mem_nil, or_false] at hp
      rcases hp with rfl | rfl | rfl | rfl <;> first | rfl | exact congrArg I (by omega) | exact congrArg Value.bool (by simp <;> omega) | exact congrArg Value.bool (by simp)⟩
    | exact ⟨rfl, ⟨rfl, rfl, by
      intro p hp
      simp only [List.mem_cons, List.not_mem_nil, or_false] at hp
      rcases hp with rfl | rfl | rfl | rfl <;> first | rfl | exact congrArg I (by omega) | exact congrArg Value.bool (by simp <;> omega) | exact congrArg Value.bool (by simp)⟩, rfl⟩

set_option maxHeartbeats 1000000 in
set_option maxRecDepth 100000 in
theorem p22_11 {v : World} {a : Act} {lb n i : Nat} {tv : Value} (hi : i < 100) (hA : Fl 87 [(0, .slice (some ⟨lb, 0, none⟩) n n), (5, tv), (6, I (i : Nat))] a) :
    q22_11.wp Try.prog (fun e a' w' => e = .normal ∧ (Fl 87 [(0, .slice (some ⟨lb, 0, none⟩) n n), (5, tv), (6, I ((i + 1 : Nat) : Int))] a' ∧ w' = v)) a v := by
  obtain ⟨hsz, hd, hp⟩ := hA
  obtain ⟨u, rfl, hg⟩ := litN hsz hd
  simp only [List.forall_mem_cons, hg] at hp
  obtain ⟨u0, u5, u6, -⟩ := hp
  clear hg hsz hd
  unfold q22_11 C22 Try.f22 seq1 seq2 blockC loopC
  simp only [Option.getD_some, lits, Nat.reduceAdd, u0, u5, u6]
  clear u0 u5 u6
  go_wp2_with fail
  first
    | exact ⟨⟨rfl, rfl, by
      intro p hp
      simp only [List.mem_cons, List.not_mem_nil, or_false] at hp
      rcases hp with rfl | rfl | rfl <;> first | rfl | exact congrArg I (by omega) | exact congrArg Value.bool (by simp <;> omega) | exact congrArg Value.bool (by simp)⟩, rfl⟩
    | exact ⟨rfl, rfl, by
      intro p hp
      simp only [List.mem_cons, List.not_mem_nil, or_false] at hp
      rcases hp with rfl | rfl | rfl <;> first | rfl | exact congrArg I (by omega) | exact congrArg Value.bool (by simp <;> omega) | exact congrArg Value.bool (by simp)⟩
    | exact ⟨rfl, ⟨rfl, rfl, by
      intro p hp
      simp only [List.mem_cons, List.not_mem_nil, or_false] at hp
      rcases hp with rfl | rfl | rfl <;> first | rfl | exact congrArg I (by omega) | exact congrArg Value.bool (by simp <;> omega) | exact congrArg Value.bool (by simp)⟩, rfl⟩

set_option maxHeartbeats 1000000 in
set_option maxRecDepth 100000 in
theorem p22_12 {v : World} {a : Act} {lb n i : Nat} {tv : Value} {vi : Value} (hn : n ≤ 100) (hi : i < n) (c : v.cell? ⟨lb, i, none⟩ = some vi) (hA : Fl 87 [(0, .slice (some ⟨lb, 0, none⟩) n n), (5, tv), (6, I (i : Nat))] a) :
    q22_12.wp Try.prog (fun e a' w' => e = .normal ∧ (Fl 87 [(0, .slice (some ⟨lb, 0, none⟩) n n), (5, tv), (6, I (i : Nat)), (7, vi)] a' ∧ w' = v)) a v := by
  obtain ⟨hsz, hd, hp⟩ := hA
  obtain ⟨u, rfl, hg⟩ := litN hsz hd
  simp only [List.forall_mem_cons, hg] at hp
  obtain ⟨u0, u5, u6, -⟩ := hp
  clear hg hsz hd
  unfold q22_12 C22 Try.f22 seq1 seq2 blockC loopC
  simp only [Option.getD_some, lits, Nat.reduceAdd, u0, u5, u6]
  clear u0 u5 u6
  go_wp2_with fail
  first
    | exact ⟨⟨rfl, rfl, by
      intro p hp
      simp only [List.mem_cons, List.not_mem_nil, or_false] at hp
      rcases hp with rfl | rfl | rfl | rfl <;> first | rfl | exact congrArg I (by omega) | exact congrArg Value.bool (by simp <;> omega) | exact congrArg Value.bool (by simp)⟩, rfl⟩
    | exact ⟨rfl, rfl, by
      intro p hp
      simp only [List.mem_cons, List.not_mem_nil, or_false] at hp
      rcases hp with rfl | rfl | rfl | rfl <;> first | rfl | exact congrArg I (by omega) | exact congrArg Value.bool (by simp <;> omega) | exact congrArg Value.bool (by simp)⟩
    | exact ⟨rfl, ⟨rfl, rfl, by
      intro p hp
      simp only [List.mem_cons, List.not_mem_nil, or_false] at hp
      rcases hp with rfl | rfl | rfl | rfl <;> first | rfl | exact congrArg I (by omega) | exact congrArg Value.bool (by simp <;> omega) | exact congrArg Value.bool (by simp)⟩, rfl⟩

set_option maxHeartbeats 1000000 in
set_option maxRecDepth 100000 in
theorem p22_13 {v : World} {a : Act} {lb n i : Nat} {tv : Value} {vi : Value}  (hA : Fl 87 [(0, .slice (some ⟨lb, 0, none⟩) n n), (5, tv), (6, I (i : Nat)), (7, vi)] a) :
    q22_13.wp Try.prog (fun e a' w' => e = .normal ∧ (Fl 87 [(0, .slice (some ⟨lb, 0, none⟩) n n), (5, tv), (6, I (i : Nat)), (7, vi), (8, I (0 : Nat))] a' ∧ w' = v)) a v := by
  obtain ⟨hsz, hd, hp⟩ := hA
  obtain ⟨u, rfl, hg⟩ := litN hsz hd
  simp only [List.forall_mem_cons, hg] at hp
  obtain ⟨u0, u5, u6, u7, -⟩ := hp
  clear hg hsz hd
  unfold q22_13 C22 Try.f22 seq1 seq2 blockC loopC
  simp only [Option.getD_some, lits, Nat.reduceAdd, u0, u5, u6, u7]
  clear u0 u5 u6 u7
  go_wp2_with fail
  first
    | exact ⟨⟨rfl, rfl, by
      intro p hp
      simp only [List.mem_cons, List.not_mem_nil, or_false] at hp
      rcases hp with rfl | rfl | rfl | rfl | rfl <;> first | rfl | exact congrArg I (by omega) | exact congrArg Value.bool (by simp <;> omega) | exact congrArg Value.bool (by simp)⟩, rfl⟩
    | exact ⟨rfl, rfl, by
      intro p hp
      simp only [List.mem_cons, List.not_mem_nil, or_false] at hp
      rcases hp with rfl | rfl | rfl | rfl | rfl <;> first | rfl | exact congrArg I (by omega) | exact congrArg Value.bool (by simp <;> omega) | exact congrArg Value.bool (by simp)⟩
    | exact ⟨rfl, ⟨rfl, rfl, by
      intro p hp
      simp only [List.mem_cons, List.not_mem_nil, or_false] at hp
      rcases hp with rfl | rfl | rfl | rfl | rfl <;> first | rfl | exact congrArg I (by omega) | exact congrArg Value.bool (by simp <;> omega) | exact congrArg Value.bool (by simp)⟩, rfl⟩

set_option maxHeartbeats 1000000 in
set_option maxRecDepth 100000 in
theorem p22_14 {v : World} {a : Act} {lb n i : Nat} {tv : Value} {vi : Value} {k : Nat} (hk : k ≤ 20) (hA : Fl 87 [(0, .slice (some ⟨lb, 0, none⟩) n n), (5, tv), (6, I (i : Nat)), (7, vi), (8, I (k : Nat))] a) :
    q22_14.wp Try.prog (fun e a' w' => e = .normal ∧ (Fl 87 [(45, .bool (decide (k < 20))), (0, .slice (some ⟨lb, 0, none⟩) n n), (5, tv), (6, I (i : Nat)), (7, vi), (8, I (k : Nat))] a' ∧ w' = v)) a v := by
  obtain ⟨hsz, hd, hp⟩ := hA
  obtain ⟨u, rfl, hg⟩ := litN hsz hd
  simp only [List.forall_mem_cons, hg] at hp
  obtain ⟨u0, u5, u6, u7, u8, -⟩ := hp
  clear hg hsz hd
  unfold q22_14 C22 Try.f22 seq1 seq2 blockC loopC
  simp only [Option.getD_some, lits, Nat.reduceAdd, u0, u5, u6, u7, u8]
  clear u0 u5 u6 u7 u8
  go_wp2_with fail
  first
    | exact ⟨⟨rfl, rfl, by
      intro p hp
      simp only [List.mem_cons, List.not_mem_nil, or_false] at hp
      rcases hp with rfl | rfl | rfl | rfl | rfl | rfl <;> first | rfl | exact congrArg I (by omega) | exact congrArg Value.bool (by simp <;> omega) | exact congrArg Value.bool (by simp)⟩, rfl⟩
    | exact ⟨rfl, rfl, by
      intro p hp
      simp only [List.mem_cons, List.not_mem_nil, or_false] at hp
      rcases hp with rfl | rfl | rfl | rfl | rfl | rfl <;> first | rfl | exact congrArg I (by omega) | exact congrArg Value.bool (by simp <;> omega) | exact congrArg Value.bool (by simp)⟩
    | exact ⟨rfl, ⟨rfl, rfl, by
      intro p hp
      simp only [List.mem_cons, List.not_mem_nil, or_false] at hp
      rcases hp with rfl | rfl | rfl | rfl | rfl | rfl <;> first | rfl | exact congrArg I (by omega) | exact congrArg Value.bool (by simp <;> omega) | exact congrArg Value.bool (by simp)⟩, rfl⟩

set_option maxHeartbeats 1000000 in
set_option maxRecDepth 100000 in
theorem p22_15 {v : World} {a : Act} {lb n i : Nat} {tv : Value} {vi : Value} {k : Nat} (hk : k < 20) (hA : Fl 87 [(0, .slice (some ⟨lb, 0, none⟩) n n), (5, tv), (6, I (i : Nat)), (7, vi), (8, I (k : Nat))] a) :
    q22_15.wp Try.prog (fun e a' w' => e = .normal ∧ (Fl 87 [(0, .slice (some ⟨lb, 0, none⟩) n n), (5, tv), (6, I (i : Nat)), (7, vi), (8, I ((k + 1 : Nat) : Int))] a' ∧ w' = v)) a v := by
  obtain ⟨hsz, hd, hp⟩ := hA
  obtain ⟨u, rfl, hg⟩ := litN hsz hd
  simp only [List.forall_mem_cons, hg] at hp
  obtain ⟨u0, u5, u6, u7, u8, -⟩ := hp
  clear hg hsz hd
  unfold q22_15 C22 Try.f22 seq1 seq2 blockC loopC
  simp only [Option.getD_some, lits, Nat.reduceAdd, u0, u5, u6, u7, u8]
  clear u0 u5 u6 u7 u8
  go_wp2_with fail
  first
    | exact ⟨⟨rfl, rfl, by
      intro p hp
      simp only [List.mem_cons, List.not_mem_nil, or_false] at hp
      rcases hp with rfl | rfl | rfl | rfl | rfl <;> first | rfl | exact congrArg I (by omega) | exact congrArg Value.bool (by simp <;> omega) | exact congrArg Value.bool (by simp)⟩, rfl⟩
    | exact ⟨rfl, rfl, by
      intro p hp
      simp only [List.mem_cons, List.not_mem_nil, or_false] at hp
      rcases hp with rfl | rfl | rfl | rfl | rfl <;> first | rfl | exact congrArg I (by omega) | exact congrArg Value.bool (by simp <;> omega) | exact congrArg Value.bool (by simp)⟩
    | exact ⟨rfl, ⟨rfl, rfl, by
      intro p hp
      simp only [List.mem_cons, List.not_mem_nil, or_false] at hp
      rcases hp with rfl | rfl | rfl | rfl | rfl <;> first | rfl | exact congrArg I (by omega) | exact congrArg Value.bool (by simp <;> omega) | exact congrArg Value.bool (by simp)⟩, rfl⟩

set_option maxHeartbeats 1000000 in
set_option maxRecDepth 100000 in
theorem p22_16 {v : World} {a : Act} {lb n i : Nat} {tv : Value} {vi : Value} {k : Nat} {Z : Nat → Prop} {xs : List Int} (hi : i < 100) (hO : OwnI Z v vi xs) (hZ : ∀ i, Z i → i < v.heap.size) (hl : xs.length ≤ 100000) (hA : Fl 87 [(0, .slice (some ⟨lb, 0, none⟩) n n), (5, tv), (6, I (i : Nat)), (7, vi), (8, I (k : Nat))] a) :
    q22_16.wp Try.prog (fun e a' w' => e = .normal ∧ ∃ u', (Fl 87 [(0, .slice (some ⟨lb, 0, none⟩) n n), (5, tv), (6, I (i : Nat)), (7, u'), (8, I (k : Nat))] a' ∧ OwnI Z w' u' (xs ++ [-9 - (i : Int)]) ∧ Kp Z v w' ∧ (∀ j, j < v.heap.size → vi.ownBlock ≠ some j → w'.heap[j]? = v.heap[j]?) ∧ (∀ g j y, vi.ownBlock = some g → xs[j]? = some y → w'.cell? ⟨g, j, none⟩ = some (I y)) ∧ ((∀ g, u'.ownBlock = some g → vi.ownBlock = some g ∨ v.heap.size ≤ g)))) a v := by
  have HO : Hid (OwnI Z v vi xs) := hO
  have HZ : Hid (∀ i, Z i → i < v.heap.size) := hZ
  have HL : Hid (xs.length ≤ 100000) := hl
  clear hO hZ hl
  obtain ⟨hsz, hd, hp⟩ := hA
  obtain ⟨u, rfl, hg⟩ := litN hsz hd
  simp only [List.forall_mem_cons, hg] at hp
  obtain ⟨u0, u5, u6, u7, u8, -⟩ := hp
  clear hg hsz hd
  unfold q22_16 C22 Try.f22 seq1 seq2 blockC loopC
  simp only [Option.getD_some, lits, Nat.reduceAdd, u0, u5, u6, u7, u8]
  clear u0 u5 u6 u7 u8
  go_wp2_with (first
    | (at_builtin; refine wp_appK (n := -9 - (i : Int)) rfl (.tmp 48) (.tmp 51) rfl rfl rfl HO.out HZ.out HL.out ?_; intro u' w' h1 h2 h3 h4 h5; have H' : Hid (OwnI Z w' u' (xs ++ [-9 - (i : Int)]) ∧ Kp Z v w' ∧ (∀ j, j < v.heap.size → vi.ownBlock ≠ some j → w'.heap[j]? = v.heap[j]?) ∧ (∀ g j y, vi.ownBlock = some g → xs[j]? = some y → w'.cell? ⟨g, j, none⟩ = some (I y)) ∧ ((∀ g, u'.ownBlock = some g → vi.ownBlock = some g ∨ v.heap.size ≤ g))) := ⟨h1, h2, h3, h4, h5⟩; clear h1 h2 h3 h4 h5))
  exact ⟨u', ⟨rfl, rfl, by
    intro p hp
    simp only [List.mem_cons, List.not_mem_nil, or_false] at hp
    rcases hp with rfl | rfl | rfl | rfl | rfl <;> first | rfl | exact congrArg I (by omega) | exact congrArg Value.bool (by simp <;> omega) | exact congrArg Value.bool (by simp)⟩, H'.out⟩

set_option maxHeartbeats 1000000 in
set_option maxRecDepth 100000 in
theorem p22_17 {v : World} {a : Act} {lb n i : Nat} {tv : Value} {Z : Nat → Prop} {vs : List Value} {vq xq : Option Addr} {vl vc xl xc : Nat} (hn : n ≤ 100) (hi : i < n) (c : v.cell? ⟨lb, i, none⟩ = some (.slice xq xl xc)) (hO : OwnV Z v tv vs) (hZ : ∀ i, Z i → i < v.heap.size) (hl : vs.length ≤ 100000) (hA : Fl 87 [(0, .slice (some ⟨lb, 0, none⟩) n n), (5, tv), (6, I (i : Nat)), (7, .slice vq vl vc)] a) :
    q22_17.wp Try.prog (fun e a' w' => e = .normal ∧ ∃ tv', (Fl 87 [(0, .slice (some ⟨lb, 0, none⟩) n n), (5, tv'), (6, I (i : Nat))] a' ∧ OwnV Z w' tv' (vs ++ [.slice vq vl vc, .slice xq xl xc]) ∧ Kp Z v w' ∧ (∀ j, j < v.heap.size → tv.ownBlock ≠ some j → w'.heap[j]? = v.heap[j]?))) a v := by
  have HO : Hid (OwnV Z v tv vs) := hO
  have HZ : Hid (∀ i, Z i → i < v.heap.size) := hZ
  have HL : Hid (vs.length ≤ 100000) := hl
  clear hO hZ hl
  obtain ⟨hsz, hd, hp⟩ := hA
  obtain ⟨u, rfl, hg⟩ := litN hsz hd
  simp only [List.forall_mem_cons, hg] at hp
  obtain ⟨u0, u5, u6, u7, -⟩ := hp
  clear hg hsz hd
  unfold q22_17 C22 Try.f22 seq1 seq2 blockC loopC
  simp only [Option.getD_some, lits, Nat.reduceAdd, u0, u5, u6, u7]
  clear u0 u5 u6 u7
  go_wp2_with (first
    | (at_builtin; refine wp_app2 (u := .slice vq vl vc) (x := .slice xq xl xc) rfl (.tmp 53) (.tmp 59) rfl rfl rfl rfl rfl HO.out HZ.out HL.out ?_; intro tv' w' h1 h2 h3; have H' : Hid (OwnV Z w' tv' (vs ++ [.slice vq vl vc, .slice xq xl xc]) ∧ Kp Z v w' ∧ (∀ j, j < v.heap.size → tv.ownBlock ≠ some j → w'.heap[j]? = v.heap[j]?)) := ⟨h1, h2, h3⟩; clear h1 h2 h3))
  exact ⟨tv', ⟨rfl, rfl, by
    intro p hp
    simp only [List.mem_cons, List.not_mem_nil, or_false] at hp
    rcases hp with rfl | rfl | rfl <;> first | rfl | exact congrArg I (by omega) | exact congrArg Value.bool (by simp <;> omega) | exact congrArg Value.bool (by simp)⟩, H'.out⟩

set_option maxHeartbeats 1000000 in
set_option maxRecDepth 100000 in
theorem p22_18 {v : World} {a : Act} {tq : Option Addr} {m mc : Nat}  (hA : Fl 87 [(5, .slice tq m mc)] a) :
    q22_18.wp Try.prog (fun e a' w' => e = .normal ∧ (Fl 87 [(5, .slice tq m mc), (9, I (0 : Nat))] a' ∧ w' = v)) a v := by
  obtain ⟨hsz, hd, hp⟩ := hA
  obtain ⟨u, rfl, hg⟩ := litN hsz hd
  simp only [List.forall_mem_cons, hg] at hp
  obtain ⟨u5, -⟩ := hp
  clear hg hsz hd
  unfold q22_18 C22 Try.f22 seq1 seq2
  simp only [Option.getD_some, lits, Nat.reduceAdd, u5]
  clear u5
  go_wp2_with fail
  first
    | exact ⟨⟨rfl, rfl, by
      intro p hp
      simp only [List.mem_cons, List.not_mem_nil, or_false] at hp
      rcases hp with rfl | rfl <;> first | rfl | exact congrArg I (by omega) | exact congrArg Value.bool (by simp <;> omega) | exact congrArg Value.bool (by simp)⟩, rfl⟩
    | exact ⟨rfl, rfl, by
      intro p hp
      simp only [List.mem_cons, List.not_mem_nil, or_false] at hp
      rcases hp with rfl | rfl <;> first | rfl | exact congrArg I (by omega) | exact congrArg Value.bool (by simp <;> omega) | exact congrArg Value.bool (by simp)⟩
    | exact ⟨rfl, ⟨rfl, rfl, by
      intro p hp
      simp only [List.mem_cons, List.not_mem_nil, or_false] at hp
      rcases hp with rfl | rfl <;> first | rfl | exact congrArg I (by omega) | exact congrArg Value.bool (by simp <;> omega) | exact congrArg Value.bool (by simp)⟩, rfl⟩

set_option maxHeartbeats 1000000 in
set_option maxRecDepth 100000 in
theorem p22_19 {v : World} {a : Act} {tq : Option Addr} {m mc : Nat} {k : Nat} (hm : m ≤ 1000) (hA : Fl 87 [(5, .slice tq m mc), (9, I (k : Nat))] a) :
    q22_19.wp Try.prog (fun e a' w' => e = .normal ∧ (Fl 87 [(64, .bool (decide (k < m))), (5, .slice tq m mc), (9, I (k : Nat))] a' ∧ w' = v)) a v := by
  obtain ⟨hsz, hd, hp⟩ := hA
  obtain ⟨u, rfl, hg⟩ := litN hsz hd
  simp only [List.forall_mem_cons, hg] at hp
  obtain ⟨u5, u9, -⟩ := hp
  clear hg hsz hd
  unfold q22_19 C22 Try.f22 seq1 seq2 blockC loopC
  simp only [Option.getD_some, lits, Nat.reduceAdd, u5, u9]
  clear u5 u9
  go_wp2_with fail
  first
    | exact ⟨⟨rfl, rfl, by
      intro p hp
      simp only [List.mem_cons, List.not_mem_nil, or_false] at hp
      rcases hp with rfl | rfl | rfl <;> first | rfl | exact congrArg I (by omega) | exact congrArg Value.bool (by simp <;> omega) | exact congrArg Value.bool (by simp)⟩, rfl⟩
    | exact ⟨rfl, rfl, by
      intro p hp
      simp only [List.mem_cons, List.not_mem_nil, or_false] at hp
      rcases hp with rfl | rfl | rfl <;> first | rfl | exact congrArg I (by omega) | exact congrArg Value.bool (by simp <;> omega) | exact congrArg Value.bool (by simp)⟩
    | exact ⟨rfl, ⟨rfl, rfl, by
      intro p hp
      simp only [List.mem_cons, List.not_mem_nil, or_false] at hp
      rcases hp with rfl | rfl | rfl <;> first | rfl | exact congrArg I (by omega) | exact congrArg Value.bool (by simp <;> omega) | exact congrArg Value.bool (by simp)⟩, rfl⟩

set_option maxHeartbeats 1000000 in
set_option maxRecDepth 100000 in
theorem p22_20 {v : World} {a : Act} {tq : Option Addr} {m mc : Nat} {k : Nat} (hk : k < 1000) (hA : Fl 87 [(5, .slice tq m mc), (9, I (k : Nat))] a) :
    q22_20.wp Try.prog (fun e a' w' => e = .normal ∧ (Fl 87 [(5, .slice tq m mc), (9, I ((k + 1 : Nat) : Int))] a' ∧ w' = v)) a v := by
  obtain ⟨hsz, hd, hp⟩ := hA
  obtain ⟨u, rfl, hg⟩ := litN hsz hd
  simp only [List.forall_mem_cons, hg] at hp
  obtain ⟨u5, u9, -⟩ := hp
  clear hg hsz hd
  unfold q22_20 C22 Try.f22 seq1 seq2 blockC loopC
  simp only [Option.getD_some, lits, Nat.reduceAdd, u5, u9]
  clear u5 u9
  go_wp2_with fail
  first
    | exact ⟨⟨rfl, rfl, by
      intro p hp
      simp only [List.mem_cons, List.not_mem_nil, or_false] at hp
      rcases hp with rfl | rfl <;> first | rfl | exact congrArg I (by omega) | exact congrArg Value.bool (by simp <;> omega) | exact congrArg Value.bool (by simp)⟩, rfl⟩
    | exact ⟨rfl, rfl, by
      intro p hp
      simp only [List.mem_cons, List.not_mem_nil, or_false] at hp
      rcases hp with rfl | rfl <;> first | rfl | exact congrArg I (by omega) | exact congrArg Value.bool (by simp <;> omega) | exact congrArg Value.bool (by simp)⟩
    | exact ⟨rfl, ⟨rfl, rfl, by
      intro p hp
      simp only [List.mem_cons, List.not_mem_nil, or_false] at hp
      rcases hp with rfl | rfl <;> first | rfl | exact congrArg I (by omega) | exact congrArg Value.bool (by simp <;> omega) | exact congrArg Value.bool (by simp)⟩, rfl⟩

set_option maxHeartbeats 1000000 in
set_option maxRecDepth 100000 in
theorem p22_21 {v : World} {a : Act} {tq : Option Addr} {m mc : Nat} {k : Nat}  (hA : Fl 87 [(5, .slice tq m mc), (9, I (k : Nat))] a) :
    q22_21.wp Try.prog (fun e a' w' => e = .normal ∧ (Fl 87 [(5, .slice tq m mc), (9, I (k : Nat)), (10, I (0 : Nat))] a' ∧ w' = v)) a v := by
  obtain ⟨hsz, hd, hp⟩ := hA
  obtain ⟨u, rfl, hg⟩ := litN hsz hd
  simp only [List.forall_mem_cons, hg] at hp
  obtain ⟨u5, u9, -⟩ := hp
  clear hg hsz hd
  unfold q22_21 C22 Try.f22 seq1 seq2 blockC loopC
  simp only [Option.getD_some, lits, Nat.reduceAdd, u5, u9]
  clear u5 u9
  go_wp2_with fail
  first
    | exact ⟨⟨rfl, rfl, by
      intro p hp
      simp only [List.mem_cons, List.not_mem_nil, or_false] at hp
      rcases hp with rfl | rfl | rfl <;> first | rfl | exact congrArg I (by omega) | exact congrArg Value.bool (by simp <;> omega) | exact congrArg Value.bool (by simp)⟩, rfl⟩
    | exact ⟨rfl, rfl, by
      intro p hp
      simp only [List.mem_cons, List.not_mem_nil, or_false] at hp
      rcases hp with rfl | rfl | rfl <;> first | rfl | exact congrArg I (by omega) | exact congrArg Value.bool (by simp <;> omega) | exact congrArg Value.bool (by simp)⟩
    | exact ⟨rfl, ⟨rfl, rfl, by
      intro p hp
      simp only [List.mem_cons, List.not_mem_nil, or_false] at hp
      rcases hp with rfl | rfl | rfl <;> first | rfl | exact congrArg I (by omega) | exact congrArg Value.bool (by simp <;> omega) | exact congrArg Value.bool (by simp)⟩, rfl⟩

set_option maxHeartbeats 1000000 in
set_option maxRecDepth 100000 in
theorem p22_22 {v : World} {a : Act} {fb m mc k t : Nat} {q : Option Addr} {len cap : Nat} (hm : m ≤ 1000) (hl : len ≤ 4000) (hk : k < m) (c : v.cell? ⟨fb, k, none⟩ = some (.slice q len cap)) (hA : Fl 87 [(5, .slice (some ⟨fb, 0, none⟩) m mc), (9, I (k : Nat)), (10, I (t : Nat))] a) :
    q22_22.wp Try.prog (fun e a' w' => e = .normal ∧ (Fl 87 [(73, .bool (decide (t < len))), (5, .slice (some ⟨fb, 0, none⟩) m mc), (9, I (k : Nat)), (10, I (t : Nat))] a' ∧ w' = v)) a v := by
  obtain ⟨hsz, hd, hp⟩ := hA
  obtain ⟨u, rfl, hg⟩ := litN hsz hd
  simp only [List.forall_mem_cons, hg] at hp
  obtain ⟨u5, u9, u10, -⟩ := hp
  clear hg hsz hd
  unfold q22_22 C22 Try.f22 seq1 seq2 blockC loopC
  simp only [Option.getD_some, lits, Nat.reduceAdd, u5, u9, u10]
  clear u5 u9 u10
  go_wp2_with fail
  first
    | exact ⟨⟨rfl, rfl, by
      intro p hp
      simp only [List.mem_cons, List.not_mem_nil, or_false] at hp
      rcases hp with rfl | rfl | rfl | rfl <;> first | rfl | exact congrArg I (by omega) | exact congrArg Value.bool (by simp <;> omega) | exact congrArg Value.bool (by simp)⟩, rfl⟩
    | exact ⟨rfl, rfl, by
      intro p hp
      simp only [List.mem_cons, List.not_mem_nil, or_false] at hp
      rcases hp with rfl | rfl | rfl | rfl <;> first | rfl | exact congrArg I (by omega) | exact congrArg Value.bool (by simp <;> omega) | exact congrArg Value.bool (by simp)⟩
    | exact ⟨rfl, ⟨rfl, rfl, by
      intro p hp
      simp only [List.mem_cons, List.not_mem_nil, or_false] at hp
      rcases hp with rfl | rfl | rfl | rfl <;> first | rfl | exact congrArg I (by omega) | exact congrArg Value.bool (by simp <;> omega) | exact congrArg Value.bool (by simp)⟩, rfl⟩

set_option maxHeartbeats 1000000 in
set_option maxRecDepth 100000 in
theorem p22_23 {v : World} {a : Act} {fb m mc k t : Nat} (ht : t < 4000) (hA : Fl 87 [(5, .slice (some ⟨fb, 0, none⟩) m mc), (9, I (k : Nat)), (10, I (t : Nat))] a) :
    q22_23.wp Try.prog (fun e a' w' => e = .normal ∧ (Fl 87 [(5, .slice (some ⟨fb, 0, none⟩) m mc), (9, I (k : Nat)), (10, I ((t + 1 : Nat) : Int))] a' ∧ w' = v)) a v := by
  obtain ⟨hsz, hd, hp⟩ := hA
  obtain ⟨u, rfl, hg⟩ := litN hsz hd
  simp only [List.forall_mem_cons, hg] at hp
  obtain ⟨u5, u9, u10, -⟩ := hp
  clear hg hsz hd
  unfold q22_23 C22 Try.f22 seq1 seq2 blockC loopC
  simp only [Option.getD_some, lits, Nat.reduceAdd, u5, u9, u10]
  clear u5 u9 u10
  go_wp2_with fail
  first
    | exact ⟨⟨rfl, rfl, by
      intro p hp
      simp only [List.mem_cons, List.not_mem_nil, or_false] at hp
      rcases hp with rfl | rfl | rfl <;> first | rfl | exact congrArg I (by omega) | exact congrArg Value.bool (by simp <;> omega) | exact congrArg Value.bool (by simp)⟩, rfl⟩
    | exact ⟨rfl, rfl, by
      intro p hp
      simp only [List.mem_cons, List.not_mem_nil, or_false] at hp
      rcases hp with rfl | rfl | rfl <;> first | rfl | exact congrArg I (by omega) | exact congrArg Value.bool (by simp <;> omega) | exact congrArg Value.bool (by simp)⟩
    | exact ⟨rfl, ⟨rfl, rfl, by
      intro p hp
      simp only [List.mem_cons, List.not_mem_nil, or_false] at hp
      rcases hp with rfl | rfl | rfl <;> first | rfl | exact congrArg I (by omega) | exact congrArg Value.bool (by simp <;> omega) | exact congrArg Value.bool (by simp)⟩, rfl⟩

set_option maxHeartbeats 1000000 in
set_option maxRecDepth 100000 in
theorem p22_24 {v : World} {a : Act} {fb m mc k t : Nat} {g len cap : Nat} (hm : m ≤ 1000) (hl : len ≤ 4000) (hk : k < m) (c : v.cell? ⟨fb, k, none⟩ = some (.slice (some ⟨g, 0, none⟩) len cap)) (ht : t < len) (e : v.cell? ⟨g, t, none⟩ = some (I (-9 - ((k / 2 : Nat) : Int)))) (hA : Fl 87 [(5, .slice (some ⟨fb, 0, none⟩) m mc), (9, I (k : Nat)), (10, I (t : Nat))] a) :
    q22_24.wp Try.prog (fun e a' w' => e = .normal ∧ (Fl 87 [(86, .bool false), (5, .slice (some ⟨fb, 0, none⟩) m mc), (9, I (k : Nat)), (10, I (t : Nat))] a' ∧ w' = v)) a v := by
  have hd' : Int.tdiv (k : Int) 2 = ((k / 2 : Nat) : Int) := rfl
  obtain ⟨hsz, hd, hp⟩ := hA
  obtain ⟨u, rfl, hg⟩ := litN hsz hd
  simp only [List.forall_mem_cons, hg] at hp
  obtain ⟨u5, u9, u10, -⟩ := hp
  clear hg hsz hd
  unfold q22_24 C22 Try.f22 seq1 seq2 blockC loopC
  simp only [Option.getD_some, lits, Nat.reduceAdd, u5, u9, u10]
  clear u5 u9 u10
  go_wp2_with fail
  first
    | exact ⟨⟨rfl, rfl, by
      intro p hp
      simp only [List.mem_cons, List.not_mem_nil, or_false] at hp
      rcases hp with rfl | rfl | rfl | rfl <;> first | rfl | exact congrArg I (by omega) | exact congrArg Value.bool (by simp <;> omega) | exact congrArg Value.bool (by simp)⟩, rfl⟩
    | exact ⟨rfl, rfl, by
      intro p hp
      simp only [List.mem_cons, List.not_mem_nil, or_false] at hp
      rcases hp with rfl | rfl | rfl | rfl <;> first | rfl | exact congrArg I (by omega) | exact congrArg Value.bool (by simp <;> omega) | exact congrArg Value.bool (by simp)⟩
    | exact ⟨rfl, ⟨rfl, rfl, by
      intro p hp
      simp only [List.mem_cons, List.not_mem_nil, or_false] at hp
      rcases hp with rfl | rfl | rfl | rfl <;> first | rfl | exact congrArg I (by omega) | exact congrArg Value.bool (by simp <;> omega) | exact congrArg Value.bool (by simp)⟩, rfl⟩

set_option maxHeartbeats 1000000 in
set_option maxRecDepth 100000 in
theorem p22_26 {v : World} {a : Act}   (hA : Fl 87 [] a) :
    q22_26.wp Try.prog (fun e a' w' => e = .normal ∧ (Fl 87 [(2, .bool true)] a' ∧ w' = v)) a v := by
  obtain ⟨hsz, hd, hp⟩ := hA
  obtain ⟨u, rfl, hg⟩ := litN hsz hd
  clear hg hp hsz hd
  unfold q22_26 C22 Try.f22 seq1 seq2
  simp only [Option.getD_some, lits, Nat.reduceAdd]
  go_wp2_with fail
  first
    | exact ⟨⟨rfl, rfl, by
      intro p hp
      simp only [List.mem_cons, List.not_mem_nil, or_false] at hp
      rcases hp with rfl <;> first | rfl | exact congrArg I (by omega) | exact congrArg Value.bool (by simp <;> omega) | exact congrArg Value.bool (by simp)⟩, rfl⟩
    | exact ⟨rfl, rfl, by
      intro p hp
      simp only [List.mem_cons, List.not_mem_nil, or_false] at hp
      rcases hp with rfl <;> first | rfl | exact congrArg I (by omega) | exact congrArg Value.bool (by simp <;> omega) | exact congrArg Value.bool (by simp)⟩
    | exact ⟨rfl, ⟨rfl, rfl, by
      intro p hp
      simp only [List.mem_cons, List.not_mem_nil, or_false] at hp
      rcases hp with rfl <;> first | rfl | exact congrArg I (by omega) | exact congrArg Value.bool (by simp <;> omega) | exact congrArg Value.bool (by simp)⟩, rfl⟩

theorem in22 {w : World} {R : Value → World → Prop} {x0 : Value} (h : ∀ a, Fl 87 [(0, x0)] a → C22.wp Try.prog (bodyPost Try.prog Try.f22 (Ret R)) a w) : Calls Try.prog 22 #[x0] w (Ret R) :=
  calls_of_wp Try.func22 (show Try.f22.body = some C22 by kernel_rfl) (by
    rw [Try.ntmps22]
    exact h _ (fl_enter _ _ 87 (by simp) _ (by intro p hp; simp only [List.mem_cons, List.not_mem_nil, or_false] at hp; rcases hp with rfl <;> rfl)))

end Go.Proofs.Ytgohfdgkihoilaa.Rcp
