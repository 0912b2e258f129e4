/- What owned (22) does. -/
import Derived.Test.YtgohfdgkihoilaaOwdP
set_option linter.unusedSimpArgs false
set_option linter.unusedVariables false
namespace Go.Proofs.Ytgohfdgkihoilaa.Rcp
open Go Go.RowKit Go.Deep Go.Maps

theorem OwnI.set {Z : Nat → Prop} {w : World} {v : Value} {xs : List Int} {g t : Nat} {x : Int} (h : OwnI Z w v xs) (hg : v.ownBlock = some g) (ht : t < xs.length) : OwnI Z (w.setCell ⟨g, t, none⟩ (I x)) v (xs.set t x) := by
  obtain ⟨⟨h1, h2⟩, h3⟩ := h
  rcases h2 with ⟨rfl, _⟩ | ⟨g', cap, cur, rfl, r1, r2, r3, r4, r5, r6⟩
  · cases hg
  · have e : g' = g := by injection hg
    subst e
    have hh : (w.setCell ⟨g', t, none⟩ (I x)).heap[g']? = some (.cells (cur.setIfInBounds t (I x)) 3 (0, 0)) := by
      rw [setCell_eq_setRow w g' t cur 3 (0, 0) _ r2]
      exact setRow_heap w g' cur _ 3 _ r2
    refine ⟨⟨by simp, .inr ⟨g', cap, _, by simp, r1, hh, by simpa using r3, r4, by simpa using r5, ?_⟩⟩, h3⟩
    rw [Array.toList_setIfInBounds, List.length_set, List.take_set, r6, List.map_set]
theorem OwnI.shape {Z : Nat → Prop} {w : World} {v : Value} {xs : List Int} (h : OwnI Z w v xs) : ∃ p cap, v = .slice p xs.length cap ∧ ∀ t x, xs[t]? = some x → ∃ g, p = some ⟨g, 0, none⟩ ∧ w.cell? ⟨g, t, none⟩ = some (I x) ∧ w.frozen? ⟨g, t, none⟩ = false := by
  obtain ⟨⟨h1, h2⟩, h3⟩ := h
  rcases h2 with ⟨rfl, h0⟩ | ⟨g', cap, cur, rfl, r1, r2, r3, r4, r5, r6⟩
  · have hxs : xs = [] := List.eq_nil_of_length_eq_zero h0
    subst hxs
    exact ⟨none, 0, rfl, fun t x hx => by simp at hx⟩
  · refine ⟨_, cap, rfl, fun t x hx => ⟨g', rfl, ?_, by simp [World.frozen?, r2]⟩⟩
    have hil : t < xs.length := (List.getElem?_eq_some_iff.1 hx).1
    have e : (cur.toList.take (xs.length * 1))[t]? = (xs.map I)[t]? := by rw [r6]
    rw [List.getElem?_take_of_lt (by omega), List.getElem?_map, hx] at e
    simp only [World.cell?, r2]
    simpa using e

/-- A slice reads the same number everywhere. -/
def RDs (u : World) (s : Value) (x : Int) : Prop := ∃ p len cap, s = .slice p len cap ∧ len ≤ 4000 ∧ ∀ t, t < len → ∃ g, p = some ⟨g, 0, none⟩ ∧ u.cell? ⟨g, t, none⟩ = some (I x)
theorem RDs.stay {u u' : World} {s : Value} {x : Int} (h : RDs u s x) (hb : ∀ g, s.ownBlock = some g → u'.heap[g]? = u.heap[g]?) : RDs u' s x := by
  obtain ⟨p, len, cap, rfl, h1, h2⟩ := h
  refine ⟨p, len, cap, rfl, h1, fun t ht => ?_⟩
  obtain ⟨g, rfl, hc⟩ := h2 t ht
  exact ⟨g, rfl, (World.cell?_of_block (w := u) (a := ⟨g, t, none⟩) (hb g rfl)).trans hc⟩
theorem OwnI.rds {Z : Nat → Prop} {w : World} {v : Value} {xs : List Int} {x : Int} (h : OwnI Z w v xs) (hx : ∀ y ∈ xs, y = x) (hl : xs.length ≤ 4000) : RDs w v x := by
  obtain ⟨p, cap, rfl, h2⟩ := h.shape
  refine ⟨p, _, cap, rfl, hl, fun t ht => ?_⟩
  obtain ⟨g, e, hc, -⟩ := h2 t _ (List.getElem?_eq_getElem ht)
  rw [hx _ (List.getElem_mem ht)] at hc
  exact ⟨g, e, hc⟩

/-- Slices that were built here, in memory of their own, in a row. -/
structure FM (lb n : Nat) (vs : Nat → Value) (xs : Nat → List Int) (w : World) : Prop where
  row : ∀ i, i < n → w.cell? ⟨lb, i, none⟩ = some (vs i)
  own : ∀ i, i < n → OwnI (fun b => b = lb ∨ ∃ j, j < n ∧ j ≠ i ∧ (vs j).ownBlock = some b) w (vs i) (xs i)
  len : ∀ i, i < n → (xs i).length ≤ 2000
  lbl : lb < w.heap.size
theorem FM.set {lb n : Nat} {vs : Nat → Value} {xs : Nat → List Int} {w : World} (h : FM lb n vs xs w) {i t g : Nat} {x : Int} (hi : i < n) (hg : (vs i).ownBlock = some g) (ht : t < (xs i).length) : FM lb n vs (fun j => if j = i then (xs i).set t x else xs j) (w.setCell ⟨g, t, none⟩ (I x)) := by
  have hgl : g ≠ lb := fun e => (h.own i hi).2 g hg (.inl e)
  refine ⟨fun j hj => ?_, fun j hj => ?_, fun j hj => ?_, by simpa [World.setCell] using h.lbl⟩
  · rw [World.cell?_setCell_other _ _ _ _ (by intro e; injection e with e; exact hgl e)]
    exact h.row j hj
  · by_cases e : j = i
    · subst e
      simp only [if_true]
      exact (h.own j hj).set hg ht
    · simp only [if_neg e]
      exact (h.own j hj).stay fun g' hg' => Below.heap_setCell _ _ _ _ (fun e' => (h.own j hj).2 g' hg' (.inr ⟨i, hi, fun e2 => e e2.symm, e' ▸ hg⟩))
  · by_cases e : j = i
    · subst e; simpa using h.len j hj
    · simp only [if_neg e]; exact h.len j hj

structure S2 (Z0 : Nat → Prop) (lb n : Nat) (vs : Nat → Value) (i : Nat) (tv : Value) (ws : List Value) (u : World) : Prop where
  row : ∀ j, j < n → u.cell? ⟨lb, j, none⟩ = some (vs j)
  lbl : lb < u.heap.size
  z0 : ∀ b, Z0 b → b < u.heap.size ∧ ∀ j, j < n → (vs j).ownBlock ≠ some b
  own : ∀ j, i ≤ j → j < n → ∃ ys, ys.length ≤ 2000 ∧ (∀ y ∈ ys, y = -9 - (j : Int)) ∧ OwnI (fun b => b = lb ∨ ∃ j', j' < n ∧ j' ≠ j ∧ (vs j').ownBlock = some b) u (vs j) ys
  vlt : ∀ j, j < n → ∀ b, (vs j).ownBlock = some b → b < u.heap.size
  tow : OwnV (fun b => Z0 b ∨ b = lb ∨ (∃ j, j < n ∧ (vs j).ownBlock = some b) ∨ ∃ s ∈ ws, s.ownBlock = some b) u tv ws
  len : ws.length = 2 * i
  rds : ∀ k s, ws[k]? = some s → RDs u s (-9 - ((k / 2 : Nat) : Int))
  wlt : ∀ s ∈ ws, ∀ b, s.ownBlock = some b → b < u.heap.size
  sep : ∀ s ∈ ws, ∀ b, s.ownBlock = some b → ∀ j, i ≤ j → j < n → (vs j).ownBlock ≠ some b

set_option maxHeartbeats 2000000 in
theorem owned_any {lb n : Nat} {vs : Nat → Value} {xs : Nat → List Int} {w : World} (hn : n ≤ 100) (hF : FM lb n vs xs w) :
    Calls Try.prog 22 #[.slice (some ⟨lb, 0, none⟩) n n] w (Ret fun r w' => r = .bool true ∧ Kp (fun b => b < w.heap.size ∧ ∀ i, i < n → (vs i).ownBlock ≠ some b) w w') := by
  refine in22 fun a hA => ?_
  rw [e22]
  refine wp_then (p22_0 hA) fun a0 w0 h => ?_
  obtain ⟨h0, rfl⟩ := h
  generalize hZ0 : (fun b => b < w0.heap.size ∧ ∀ i, i < n → (vs i).ownBlock ≠ some b) = Z0
  have z0lt : ∀ b, Z0 b → b < w0.heap.size := fun b hb => by subst hZ0; exact hb.1
  have z0vs : ∀ b, Z0 b → ∀ j, j < n → (vs j).ownBlock ≠ some b := fun b hb => by subst hZ0; exact hb.2
  clear hZ0
  refine wp_seq (wp_then (p22_1 h0) fun a1 w1 h => ?_)
  obtain ⟨h1, rfl⟩ := h
  refine wp_while (t := 14) (fun c a u => ∃ i xs', i ≤ n ∧ c = n - i ∧ Fl 87 [(0, .slice (some ⟨lb, 0, none⟩) n n), (3, I (i : Nat))] a ∧ FM lb n vs xs' u ∧ (∀ j, j < i → ∀ y ∈ xs' j, y = -9 - (j : Int)) ∧ Kp Z0 w1 u) _
    ⟨0, xs, Nat.zero_le _, rfl, h1, hF, fun j hj => by omega, Kp.refl _ _⟩ ?_
  clear h1 h0 hA hF
  rintro c a2 u ⟨i, xs', hi, rfl, h2, hF, hd, ku⟩
  refine ⟨_, p22_2 hn h2, ?_⟩
  rintro a3 w3 ⟨h3, rfl⟩
  by_cases hlt : i < n
  · refine .inr ⟨h3.hd (by simp [hlt]), ?_⟩
    refine wp_seq (wp_block ?_)
    refine wp_then (p22_4 h3.tl) fun a4 w4 h => ?_
    obtain ⟨h4, rfl⟩ := h
    refine wp_while (t := 23) (fun c a u => ∃ t xs', t ≤ (xs' i).length ∧ c = (xs' i).length - t ∧ Fl 87 [(0, .slice (some ⟨lb, 0, none⟩) n n), (3, I (i : Nat)), (4, I (t : Nat))] a ∧ FM lb n vs xs' u ∧ (∀ j, j < i → ∀ y ∈ xs' j, y = -9 - (j : Int)) ∧ (∀ t', t' < t → (xs' i)[t']? = some (-9 - (i : Int))) ∧ Kp Z0 w1 u) _
      ⟨0, xs', Nat.zero_le _, rfl, h4, hF, hd, fun t' ht => by omega, ku⟩ ?_
    clear h4 h3 h2 hF hd ku
    rintro c a5 u ⟨t, xs', ht, rfl, h5, hF, hd, hdt, ku⟩
    obtain ⟨p, cap, hv, hsh⟩ := (hF.own i hlt).shape
    have hrow := hF.row i hlt
    rw [hv] at hrow
    have hl := hF.len i hlt
    refine ⟨_, p22_5 hn hl hlt hrow h5, ?_⟩
    rintro a6 w6 ⟨h6, rfl⟩
    by_cases htl : t < (xs' i).length
    · refine .inr ⟨h6.hd (by simp only [decide_eq_true_eq]; exact htl), ?_⟩
      obtain ⟨g, rfl, hc, hf⟩ := hsh t _ (List.getElem?_eq_getElem htl)
      refine wp_seq (wp_block ?_)
      refine wp_last (p22_7 hn hl hlt hrow htl hc hf h6.tl) fun a7 w7 h => ?_
      obtain ⟨h7, rfl⟩ := h
      have hob : (vs i).ownBlock = some g := by rw [hv]; rfl
      have hF7 := hF.set (x := -9 - (i : Int)) hlt hob htl
      have k7 : Kp Z0 w1 (w6.setCell ⟨g, t, none⟩ (I (-9 - (i : Int)))) := ku.trans (Kp.setCell (p := ⟨g, t, none⟩) (fun hz => z0vs g hz i hlt hob) _)
      generalize w6.setCell ⟨g, t, none⟩ (I (-9 - (i : Int))) = w7 at hF7 k7
      show Code.wp _ _ _ _ _
      refine wp_last (p22_6 (by omega) h7) fun a8 w8 h => ?_
      obtain ⟨h8, rfl⟩ := h
      refine ⟨(xs' i).length - (t + 1), by omega, t + 1, _, ?_, ?_, h8, hF7, fun j hj => ?_, fun t' ht' => ?_, k7⟩
      · simp; omega
      · simp
      · simp only [if_neg (show j ≠ i by omega)]; exact hd j hj
      · simp only [if_true]
        rw [List.getElem?_set]
        by_cases e : t = t'
        · subst e; simp [htl]
        · rw [if_neg e]; exact hdt t' (by omega)
    · refine .inl ⟨h6.hf (by simp only [decide_eq_false_iff_not]; exact htl), ?_⟩
      have hte : t = (xs' i).length := by omega
      show Code.wp _ _ _ _ _
      refine wp_last (p22_3 (lb := lb) (n := n) (i := i) (by omega) (h6.sub (by simp))) fun a7 w7 h => ?_
      obtain ⟨h7, rfl⟩ := h
      refine ⟨n - (i + 1), by omega, i + 1, xs', by omega, rfl, h7, hF, fun j hj y hy => ?_, ku⟩
      by_cases e : j = i
      · subst e
        obtain ⟨t', ht'⟩ := List.mem_iff_getElem?.1 hy
        have := hdt t' (by rw [hte]; exact (List.getElem?_eq_some_iff.1 ht').1)
        rw [ht'] at this
        injection this
      · exact hd j (by omega) y hy
  · refine .inl ⟨h3.hf (by simp [hlt]), ?_⟩
    have hie : i = n := by omega
    subst hie
    show Code.wp _ _ _ _ _
    refine wp_then (p22_8 (lb := lb) (n := i) (h3.sub (by simp))) fun a4 w4 h => ?_
    obtain ⟨h4, rfl⟩ := h
    refine wp_seq (wp_then (p22_9 h4) fun a5 w5 h => ?_)
    obtain ⟨h5, rfl⟩ := h
    have hS : S2 Z0 lb i vs 0 (.slice none 0 0) [] w5 := ⟨hF.row, hF.lbl, fun b hb => ⟨Nat.lt_of_lt_of_le (z0lt b hb) ku.size, z0vs b hb⟩, fun j _ hj => ⟨xs' j, hF.len j hj, hd j hj, hF.own j hj⟩, fun j hj b hb => (hF.own j hj).lt b hb, OwnV.nil _ _, rfl, fun k s hk => (by simp at hk), fun s hs => (by cases hs), fun s hs => (by cases hs)⟩
    clear hF hd h4 h3 h2
    generalize hnn : i = n at *
    clear hnn hlt hi
    refine wp_while (t := 37) (fun c a u => ∃ i tv ws, i ≤ n ∧ c = n - i ∧ Fl 87 [(0, .slice (some ⟨lb, 0, none⟩) n n), (5, tv), (6, I (i : Nat))] a ∧ S2 Z0 lb n vs i tv ws u ∧ Kp Z0 w1 u) _
      ⟨0, _, _, Nat.zero_le _, rfl, h5, hS, ku⟩ ?_
    clear h5 hS ku
    rintro c a6 u ⟨i, tv, ws, hi, rfl, h6, hS, ku⟩
    refine ⟨_, p22_10 hn h6, ?_⟩
    rintro a7 w7 ⟨h7, rfl⟩
    by_cases hlt : i < n
    · refine .inr ⟨h7.hd (by simp [hlt]), ?_⟩
      refine wp_seq (wp_block ?_)
      refine wp_then (p22_12 hn hlt (hS.row i hlt) h7.tl) fun a8 w8 h => ?_
      obtain ⟨h8, rfl⟩ := h
      refine wp_seq (wp_then (p22_13 h8) fun a9 w9 h => ?_)
      obtain ⟨h9, rfl⟩ := h
      obtain ⟨ys, hyl, hyx, hyo⟩ := hS.own i (Nat.le_refl _) hlt
      -- what an append to this one must not touch
      generalize hZi : (fun b => Z0 b ∨ b = lb ∨ (∃ j, j < n ∧ j ≠ i ∧ (vs j).ownBlock = some b) ∨ tv.ownBlock = some b ∨ ∃ s ∈ ws, s.ownBlock = some b) = Zi
      have zi : ∀ b, Zi b ↔ (Z0 b ∨ b = lb ∨ (∃ j, j < n ∧ j ≠ i ∧ (vs j).ownBlock = some b) ∨ tv.ownBlock = some b ∨ ∃ s ∈ ws, s.ownBlock = some b) := fun b => by subst hZi; rfl
      clear hZi
      have zilt : ∀ b, Zi b → b < w9.heap.size := fun b hb => by
        rcases (zi b).1 hb with h | rfl | ⟨j, hj, _, h⟩ | h | ⟨s, hs, h⟩
        · exact (hS.z0 b h).1
        · exact hS.lbl
        · exact hS.vlt j hj b h
        · exact hS.tow.lt b h
        · exact hS.wlt s hs b h
      have hyo' : OwnI Zi w9 (vs i) ys := ⟨hyo.1, fun g hg hz => by
        rcases (zi g).1 hz with h | h | ⟨j, hj, hji, h⟩ | h | ⟨s, hs, h⟩
        · exact (hS.z0 g h).2 i hlt hg
        · exact hyo.2 g hg (.inl h)
        · exact hyo.2 g hg (.inr ⟨j, hj, hji, h⟩)
        · exact hS.tow.2 g h (.inr (.inr (.inl ⟨i, hlt, hg⟩)))
        · exact hS.sep s hs g h i (Nat.le_refl _) hlt hg⟩
      refine wp_while (t := 45) (fun c a u => ∃ k t7 zs, k ≤ 20 ∧ c = 20 - k ∧ Fl 87 [(0, .slice (some ⟨lb, 0, none⟩) n n), (5, tv), (6, I (i : Nat)), (7, t7), (8, I (k : Nat))] a ∧ OwnI Zi u t7 zs ∧ zs.length = ys.length + k ∧ (∀ y ∈ zs, y = -9 - (i : Int)) ∧ RDs u (vs i) (-9 - (i : Int)) ∧ Kp Zi w9 u) _
        ⟨0, vs i, ys, Nat.zero_le _, rfl, h9, hyo', rfl, hyx, hyo'.rds hyx (by omega), Kp.refl _ _⟩ ?_
      clear h9 h8 h7 h6
      rintro c a10 u ⟨k, t7, zs, hk, rfl, h10, hO, hzl, hzx, hrd, kz⟩
      refine ⟨_, p22_14 hk h10, ?_⟩
      rintro a11 w11 ⟨h11, rfl⟩
      have zilt' : ∀ b, Zi b → b < w11.heap.size := fun b hb => Nat.lt_of_lt_of_le (zilt b hb) kz.size
      have hvlt : ∀ g, (vs i).ownBlock = some g → g < w11.heap.size := fun g hg => Nat.lt_of_lt_of_le (hS.vlt i hlt g hg) kz.size
      by_cases hk20 : k < 20
      · refine .inr ⟨h11.hd (by simp [hk20]), ?_⟩
        refine wp_seq (wp_block ?_)
        refine wp_last (p22_16 (by omega) hO zilt' (by omega) h11.tl) fun a12 w12 h => ?_
        obtain ⟨u', h12, hO12, k12, hb12, hc12, -⟩ := h
        have hrd12 : RDs w12 (vs i) (-9 - (i : Int)) := by
          obtain ⟨p, len, cap, hv, hle, hrd⟩ := hrd
          have hlen : len = ys.length := by
            obtain ⟨p', cap', e, -⟩ := hyo.shape
            rw [hv] at e
            injection e
          refine ⟨p, len, cap, hv, hle, fun t ht => ?_⟩
          obtain ⟨g, rfl, hc⟩ := hrd t ht
          refine ⟨g, rfl, ?_⟩
          have hob : (vs i).ownBlock = some g := by rw [hv]; rfl
          by_cases e : t7.ownBlock = some g
          · have hz : t < zs.length := by omega
            have := hc12 g t _ e (List.getElem?_eq_getElem hz)
            rw [hzx _ (List.getElem_mem hz)] at this
            exact this
          · exact (World.cell?_of_block (w := w11) (a := ⟨g, t, none⟩) (hb12 g (hvlt g hob) e)).trans hc
        show Code.wp _ _ _ _ _
        refine wp_last (p22_15 hk20 h12) fun a13 w13 h => ?_
        obtain ⟨h13, rfl⟩ := h
        refine ⟨20 - (k + 1), by omega, k + 1, u', _, by omega, rfl, h13, hO12, by simp; omega, fun y hy => ?_, hrd12, kz.trans k12⟩
        rcases List.mem_append.1 hy with hy | hy
        · exact hzx y hy
        · simpa using hy
      · refine .inl ⟨h11.hf (by simp [hk20]), ?_⟩
        show Code.wp _ _ _ _ _
        obtain ⟨q7, c7, e7, -⟩ := hO.shape
        subst e7
        obtain ⟨p, len, cap, hv, hle, hrd'⟩ := id hrd
        have kzb : ∀ b, Zi b → w11.heap[b]? = w9.heap[b]? := fun b hb => kz.block b hb
        have hrow11 : ∀ j, j < n → w11.cell? ⟨lb, j, none⟩ = some (vs j) := fun j hj => (World.cell?_of_block (w := w9) (a := ⟨lb, j, none⟩) (kzb lb ((zi lb).2 (.inr (.inl rfl))))).trans (hS.row j hj)
        have hci := hrow11 i hlt
        rw [hv] at hci
        have htow : OwnV (fun b => Z0 b ∨ b = lb ∨ (∃ j, j < n ∧ (vs j).ownBlock = some b) ∨ ∃ s ∈ ws ++ [.slice q7 zs.length c7, vs i], s.ownBlock = some b) w11 tv ws := by
          refine ⟨(hS.tow.stay fun g hg => kzb g ((zi g).2 (.inr (.inr (.inr (.inl hg)))))).1, fun g hg hz => ?_⟩
          rcases hz with h | h | h | ⟨s, hs, h⟩
          · exact hS.tow.2 g hg (.inl h)
          · exact hS.tow.2 g hg (.inr (.inl h))
          · exact hS.tow.2 g hg (.inr (.inr (.inl h)))
          · rcases List.mem_append.1 hs with hs | hs
            · exact hS.tow.2 g hg (.inr (.inr (.inr ⟨s, hs, h⟩)))
            · simp only [List.mem_cons, List.not_mem_nil, or_false] at hs
              rcases hs with rfl | rfl
              · exact hO.2 g h ((zi g).2 (.inr (.inr (.inr (.inl hg)))))
              · exact hS.tow.2 g hg (.inr (.inr (.inl ⟨i, hlt, h⟩)))
        have hZlt : ∀ b, (Z0 b ∨ b = lb ∨ (∃ j, j < n ∧ (vs j).ownBlock = some b) ∨ ∃ s ∈ ws ++ [.slice q7 zs.length c7, vs i], s.ownBlock = some b) → b < w11.heap.size := fun b hb => by
          have hsz := kz.size
          rcases hb with h | rfl | ⟨j, hj, h⟩ | ⟨s, hs, h⟩
          · exact Nat.lt_of_lt_of_le (hS.z0 b h).1 hsz
          · exact Nat.lt_of_lt_of_le hS.lbl hsz
          · exact Nat.lt_of_lt_of_le (hS.vlt j hj b h) hsz
          · rcases List.mem_append.1 hs with hs | hs
            · exact Nat.lt_of_lt_of_le (hS.wlt s hs b h) hsz
            · simp only [List.mem_cons, List.not_mem_nil, or_false] at hs
              rcases hs with rfl | rfl
              · exact hO.lt b h
              · exact hvlt b h
        refine wp_last (p22_17 (vq := q7) (vl := zs.length) (vc := c7) hn hlt hci htow hZlt (by rw [hS.len]; omega) (h11.sub (by simp))) fun a12 w12 h => ?_
        obtain ⟨tv', h12, hO12, k12, -⟩ := h
        rw [← hv] at hO12
        show Code.wp _ _ _ _ _
        refine wp_last (p22_11 (by omega) h12) fun a13 w13 h => ?_
        obtain ⟨h13, rfl⟩ := h
        have kb : ∀ b, (Z0 b ∨ b = lb ∨ (∃ j, j < n ∧ (vs j).ownBlock = some b) ∨ ∃ s ∈ ws ++ [.slice q7 zs.length c7, vs i], s.ownBlock = some b) → w13.heap[b]? = w11.heap[b]? := fun b hb => k12.block b hb
        have hsz : w9.heap.size ≤ w13.heap.size := Nat.le_trans kz.size k12.size
        have hS' : S2 Z0 lb n vs (i + 1) tv' (ws ++ [.slice q7 zs.length c7, vs i]) w13 := by
          refine ⟨fun j hj => (World.cell?_of_block (w := w11) (a := ⟨lb, j, none⟩) (kb lb (.inr (.inl rfl)))).trans (hrow11 j hj), Nat.lt_of_lt_of_le hS.lbl hsz, fun b hb => ⟨Nat.lt_of_lt_of_le (hS.z0 b hb).1 hsz, (hS.z0 b hb).2⟩, fun j hij hj => ?_, fun j hj b hb => Nat.lt_of_lt_of_le (hS.vlt j hj b hb) hsz, hO12, by simp [hS.len]; omega, fun k' s hs => ?_, fun s hs b hb => Nat.lt_of_lt_of_le (hZlt b (.inr (.inr (.inr ⟨s, hs, hb⟩)))) k12.size, fun s hs b hb j hij hj => ?_⟩
          · obtain ⟨ys', e1, e2, e3⟩ := hS.own j (by omega) hj
            exact ⟨ys', e1, e2, e3.stay fun g hg => (kb g (.inr (.inr (.inl ⟨j, hj, hg⟩)))).trans (kzb g ((zi g).2 (.inr (.inr (.inl ⟨j, hj, by omega, hg⟩)))))⟩
          · by_cases hk2 : k' < ws.length
            · rw [List.getElem?_append_left hk2] at hs
              have hm := List.mem_of_getElem? hs
              exact (hS.rds k' s hs).stay fun g hg => (kb g (.inr (.inr (.inr ⟨s, List.mem_append_left _ hm, hg⟩)))).trans (kzb g ((zi g).2 (.inr (.inr (.inr (.inr ⟨s, hm, hg⟩))))))
            · rw [List.getElem?_append_right (by omega)] at hs
              have hkl : k' - ws.length = 0 ∨ k' - ws.length = 1 := by have := (List.getElem?_eq_some_iff.1 hs).1; simp at this; omega
              have hl2 := hS.len
              have hk2 : k' / 2 = i := by omega
              rw [hk2]
              rcases hkl with e | e
              · rw [e] at hs
                simp at hs
                subst hs
                exact (hO.rds hzx (by omega)).stay fun g hg => kb g (.inr (.inr (.inr ⟨_, List.mem_append_right _ (.head _), hg⟩)))
              · rw [e] at hs
                simp at hs
                subst hs
                exact hrd.stay fun g hg => kb g (.inr (.inr (.inl ⟨i, hlt, hg⟩)))
          · rcases List.mem_append.1 hs with hs | hs
            · exact hS.sep s hs b hb j (by omega) hj
            · simp only [List.mem_cons, List.not_mem_nil, or_false] at hs
              rcases hs with rfl | rfl
              · exact fun e => hO.2 b hb ((zi b).2 (.inr (.inr (.inl ⟨j, hj, by omega, e⟩))))
              · exact fun e => hyo.2 b hb (.inr ⟨j, hj, by omega, e⟩)
        exact ⟨n - (i + 1), by omega, i + 1, tv', _, by omega, rfl, h13, hS', ku.trans ((kz.mono fun b hb => (zi b).2 (.inl hb)).trans (k12.mono fun b hb => .inl hb))⟩
    · refine .inl ⟨h7.hf (by simp [hlt]), ?_⟩
      show Code.wp _ _ _ _ _
      obtain ⟨tq, mc, rfl, hws⟩ := hS.tow.shape
      have hwl : ws.length ≤ 1000 := by rw [hS.len]; omega
      refine wp_seq (wp_then (p22_18 (tq := tq) (m := ws.length) (mc := mc) (h7.sub (by simp))) fun a8 w8 h => ?_)
      obtain ⟨h8, rfl⟩ := h
      refine wp_while (t := 64) (fun c a u => ∃ k, k ≤ ws.length ∧ c = ws.length - k ∧ Fl 87 [(5, .slice tq ws.length mc), (9, I (k : Nat))] a ∧ u = w8) _
        ⟨0, Nat.zero_le _, rfl, h8, rfl⟩ ?_
      clear h8 h7 h6
      rintro c a9 u ⟨k, hk, rfl, h9, rfl⟩
      refine ⟨_, p22_19 hwl h9, ?_⟩
      rintro a10 w10 ⟨h10, rfl⟩
      by_cases hkl : k < ws.length
      · refine .inr ⟨h10.hd (by simp [hkl]), ?_⟩
        refine wp_seq (wp_block ?_)
        refine wp_then (p22_21 h10.tl) fun a11 w11 h => ?_
        obtain ⟨h11, rfl⟩ := h
        have hsk := List.getElem?_eq_getElem hkl
        obtain ⟨fb, rfl, hcf⟩ := hws k _ hsk
        obtain ⟨p, len, cap, hv, hle, hrd⟩ := hS.rds k _ hsk
        rw [hv] at hcf
        refine wp_while (t := 73) (fun c a u => ∃ t, t ≤ len ∧ c = len - t ∧ Fl 87 [(5, .slice (some ⟨fb, 0, none⟩) ws.length mc), (9, I (k : Nat)), (10, I (t : Nat))] a ∧ u = w11) _
          ⟨0, Nat.zero_le _, rfl, h11, rfl⟩ ?_
        clear h11 h10 h9
        rintro c a12 u ⟨t, ht, rfl, h12, rfl⟩
        refine ⟨_, p22_22 hwl hle hkl hcf h12, ?_⟩
        rintro a13 w13 ⟨h13, rfl⟩
        by_cases htl : t < len
        · refine .inr ⟨h13.hd (by simp [htl]), ?_⟩
          obtain ⟨g, rfl, hc⟩ := hrd t htl
          refine wp_seq (wp_block ?_)
          refine wp_then (p22_24 hwl hle hkl hcf htl hc h13.tl) fun a14 w14 h => ?_
          obtain ⟨h14, rfl⟩ := h
          refine wp_cond_false (h14.hf rfl) (wp_skip ?_)
          show Code.wp _ _ _ _ _
          refine wp_last (p22_23 (by omega) h14.tl) fun a15 w15 h => ?_
          obtain ⟨h15, rfl⟩ := h
          exact ⟨len - (t + 1), by omega, t + 1, by omega, rfl, h15, rfl⟩
        · refine .inl ⟨h13.hf (by simp [htl]), ?_⟩
          show Code.wp _ _ _ _ _
          refine wp_last (p22_20 (tq := some ⟨fb, 0, none⟩) (m := ws.length) (mc := mc) (k := k) (by omega) (h13.sub (by simp))) fun a14 w14 h => ?_
          obtain ⟨h14, rfl⟩ := h
          exact ⟨ws.length - (k + 1), by omega, k + 1, by omega, rfl, h14, rfl⟩
      · refine .inl ⟨h10.hf (by simp [hkl]), ?_⟩
        show Code.wp _ _ _ _ _
        refine wp_then (p22_26 (h10.sub (l' := []) (by simp))) fun a11 w11 h => ?_
        obtain ⟨h11, rfl⟩ := h
        exact wp_ret (fin1 rfl h11 _ (.head _) ⟨rfl, ku⟩)
end Go.Proofs.Ytgohfdgkihoilaa.Rcp
