/- What Lent (10) does. -/
import Derived.Test.YtgohfdgkihoilaaLenP
set_option linter.unusedSimpArgs false
set_option linter.unusedVariables false
namespace Go.Proofs.Ytgohfdgkihoilaa.Rcp
open Go Go.RowKit Go.Deep Go.Maps

/-- A block of cells of a known number. -/
def Bk (w : World) (g t n : Nat) : Prop := ∃ A : Array Value, w.heap[g]? = some (.cells A t (0, 0)) ∧ A.size = n
theorem Bk.lt {w : World} {g t n : Nat} (h : Bk w g t n) : g < w.heap.size := by
  obtain ⟨A, hA, -⟩ := h
  exact (Array.getElem?_eq_some_iff.1 hA).1
theorem Bk.block {w w' : World} {g t n : Nat} (h : Bk w g t n) (e : w'.heap[g]? = w.heap[g]?) : Bk w' g t n := by
  obtain ⟨A, hA, hs⟩ := h
  exact ⟨A, e.trans hA, hs⟩
theorem Bk.set {w : World} {g t n : Nat} (h : Bk w g t n) (g' o : Nat) (v : Value) : Bk (w.setCell ⟨g', o, none⟩ v) g t n := by
  by_cases e : g = g'
  · subst e
    obtain ⟨A, hA, hs⟩ := h
    rw [setCell_eq_setRow w g o A t (0, 0) v hA]
    exact ⟨A.setIfInBounds o v, setRow_heap w g A _ t _ hA, by simp [hs]⟩
  · exact h.block (Below.heap_setCell _ _ _ _ e)
theorem Bk.sets {g' : Nat} : ∀ (cs : List Value) (w : World) (g t n o : Nat), Bk w g t n → Bk (w.setCells g' o cs) g t n
  | [], _, _, _, _, _, h => h
  | v :: r, w, g, t, n, o, h => Bk.sets r _ g t n (o + 1) (h.set g' o v)
theorem Bk.some {w : World} {g t n j : Nat} (h : Bk w g t n) (hj : j < n) : ∃ u, w.cell? ⟨g, j, none⟩ = some u := by
  obtain ⟨A, hA, hs⟩ := h
  exact ⟨A[j]'(by omega), by simp [World.cell?, hA]⟩
theorem Bk.frozen {w : World} {g t n : Nat} (h : Bk w g t n) (j : Nat) : w.frozen? ⟨g, j, none⟩ = false := by
  obtain ⟨A, hA, hs⟩ := h
  simp [World.frozen?, hA]
theorem Bk.there {w : World} {g t n o k : Nat} (h : Bk w g t n) (hn : o + k ≤ n) : w.there g o k := fun j hj => by
  obtain ⟨u, hu⟩ := h.some (j := o + j) (by omega)
  exact ⟨by rw [hu]; rfl, h.frozen _⟩
theorem range_sets {g t n : Nat} : ∀ (cs : List Value) (w : World) (o : Nat), Bk w g t n → o + cs.length ≤ n → (w.setCells g o cs).rangeAt g o cs
  | [], w, o, _, _ => fun j v hj => by simp at hj
  | v :: r, w, o, h, hn => fun j u hj => by
    cases j with
    | zero =>
      simp at hj
      subst hj
      show ((w.setCell ⟨g, o, none⟩ v).setCells g (o + 1) r).cell? ⟨g, o, none⟩ = some v
      rw [World.cell?_setCells_out g r (o + 1) _ ⟨g, o, none⟩ (fun _ _ => .inl (by show o < o + 1; omega))]
      obtain ⟨u, hu⟩ := h.some (j := o) (by simp at hn; omega)
      exact World.cell?_setCell_same _ _ _ hu
    | succ j =>
      have := range_sets r (w.setCell ⟨g, o, none⟩ v) (o + 1) (h.set g o v) (by simp at hn; omega) j u (by simpa using hj)
      rw [show o + 1 + j = o + (j + 1) by omega] at this
      exact this
theorem Kp.sets {Z : Nat → Prop} {g : Nat} (hg : ¬ Z g) : ∀ (cs : List Value) (w : World) (o : Nat), Kp Z w (w.setCells g o cs)
  | [], w, _ => Kp.refl _ _
  | v :: r, w, o => (Kp.setCell (p := ⟨g, o, none⟩) hg v).trans (Kp.sets hg r _ (o + 1))
theorem size_sets {g : Nat} : ∀ (cs : List Value) (w : World) (o : Nat), (w.setCells g o cs).heap.size = w.heap.size
  | [], w, _ => rfl
  | v :: r, w, o => (size_sets r _ (o + 1)).trans (by simp [World.setCell])

theorem two_set {xs ys : List Value} {n : Nat} {a b : Value} (h : ys.length = 2) (hn : xs.length = n) : (((xs ++ ys).toArray.setIfInBounds n a).setIfInBounds (n + 1) b) = (xs ++ [a, b]).toArray := by
  subst hn
  match ys, h with
  | [x, y], _ =>
    apply Array.toList_inj.1
    simp [List.set_append]

/-- The first k recipes lie in memory of their own, with marks behind their needs. -/
structure LM (gr : Nat) (l : List Rc) (k : Nat) (w : World) : Prop where
  bk : Bk w gr 43 ((l.length + 1) * 5)
  rc : ∀ i, i < k → ∃ c, gr < c ∧ w.rangeAt gr (i * 5) (rcL (.slice (some ⟨c, 0, none⟩) (l.getD i r0).needs.length ((l.getD i r0).needs.length + 2)) (l.getD i r0)) ∧ w.heap[c]? = some (.cells ((l.getD i r0).needs.map I ++ [I (-71), I (-72)]).toArray 3 (0, 0))
theorem LM.stay {gr k : Nat} {l : List Rc} {w w' : World} (h : LM gr l k w) (hk : Kp (fun i => gr ≤ i ∧ i < w.heap.size) w w') : LM gr l k w' := by
  refine ⟨h.bk.block (hk.block gr ⟨Nat.le_refl _, h.bk.lt⟩), fun i hi => ?_⟩
  obtain ⟨c, h1, h2, h3⟩ := h.rc i hi
  exact ⟨c, h1, hk.range ⟨Nat.le_refl _, h.bk.lt⟩ h2, (hk.block c ⟨Nat.le_of_lt h1, (Array.getElem?_eq_some_iff.1 h3).1⟩).trans h3⟩
theorem LM.rl {gr : Nat} {l : List Rc} {w : World} (h : LM gr l l.length w) (hn : l.length ≤ 2600000000000) (hm : ∀ r ∈ l, r.needs.length ≤ 17592186044416) : RL (fun i => gr ≤ i ∧ i < w.heap.size) w (.slice (some ⟨gr, 0, none⟩) l.length (l.length + 1)) l := by
  refine ⟨_, _, rfl, by omega, fun i r hi => ?_⟩
  have hil : i < l.length := (List.getElem?_eq_some_iff.1 hi).1
  have e : l.getD i r0 = r := by simp [List.getD, hi]
  obtain ⟨c, h1, h2, h3⟩ := h.rc i hil
  rw [e] at h2 h3
  have hc := (Array.getElem?_eq_some_iff.1 h3).1
  refine ⟨gr, 0, _, rfl, ⟨Nat.le_refl _, h.bk.lt⟩, by rw [Nat.zero_add]; exact h2, ⟨_, _, rfl, by have := hm r (List.mem_of_getElem? hi); omega, fun j x hj => ⟨c, 0, rfl, ⟨Nat.le_of_lt h1, hc⟩, ?_⟩⟩⟩
  have hjl : j < r.needs.length := (List.getElem?_eq_some_iff.1 hj).1
  simp only [World.cell?, h3]
  rw [Nat.zero_add]
  rw [List.getElem?_toArray, List.getElem?_append_left (by simpa using hjl), List.getElem?_map, hj]
  rfl

set_option maxHeartbeats 17592186044416 in
theorem lent_any {Z : Nat → Prop} {w : World} {x0 : Value} {l : List Rc} (hl : RL Z w x0 l) (hZ : ∀ i, Z i → i < w.heap.size) (hn : l.length ≤ 2600000000000) (hm : ∀ r ∈ l, r.needs.length ≤ 17592186044416) :
    Calls Try.prog 10 #[x0] w (Ret fun r w' => r = .slice (some ⟨w.heap.size, 0, none⟩) l.length (l.length + 1) ∧ LM w.heap.size l l.length w' ∧ w'.cell? ⟨w.heap.size, l.length * 5 + 2, none⟩ = some (I (-73)) ∧ Kp (fun i => i < w.heap.size) w w') := by
  obtain ⟨p, cap, rfl, -, -⟩ := id hl
  refine in10 fun a hA => ?_
  rw [e10]
  refine wp_then (p10_0 hA) fun a0 w0 h => ?_
  obtain ⟨h0, rfl⟩ := h
  refine wp_then (p10_1 hn h0) fun a1 w1 h => ?_
  obtain ⟨h1, rfl⟩ := h
  have hb : Bk (w0.alloc (.cells (madeCells #[.slice none 0 0, I 0, I 0, I 0, I 0] ((l.length + 1) * 5)) 43)) w0.heap.size 43 ((l.length + 1) * 5) := ⟨_, heap_alloc_new _ _, size_madeCells _ _⟩
  have kA : Kp (fun i => i < w0.heap.size) w0 (w0.alloc (.cells (madeCells #[.slice none 0 0, I 0, I 0, I 0, I 0] ((l.length + 1) * 5)) 43)) := Kp.alloc (fun _ h => h) _
  generalize w0.alloc (.cells (madeCells #[.slice none 0 0, I 0, I 0, I 0, I 0] ((l.length + 1) * 5)) 43) = W at hb kA
  generalize hgr : w0.heap.size = gr at h1 hb kA
  refine wp_seq (wp_then (p10_2 h1) fun a2 w2 h => ?_)
  obtain ⟨h2, rfl⟩ := h
  refine wp_while (t := 13) (fun c a u => ∃ i, i ≤ l.length ∧ c = l.length - i ∧ Fl 76 [(0, .slice p l.length cap), (3, .slice (some ⟨gr, 0, none⟩) (l.length + 1) (l.length + 1)), (4, I (i : Nat))] a ∧ LM gr l i u ∧ Kp (fun i => i < gr) w0 u) _
    ⟨0, Nat.zero_le _, rfl, h2, ⟨hb, fun i hi => by omega⟩, kA⟩ ?_
  clear h2 h1 h0 hA hb kA
  rintro c a3 u ⟨i, hi, rfl, h3, hL, ku⟩
  refine ⟨_, p10_3 hn h3, ?_⟩
  rintro a4 w4 ⟨h4, rfl⟩
  have hZg : ∀ i, Z i → i < gr := fun i hz => hgr ▸ hZ i hz
  by_cases hlt : i < l.length
  · refine .inr ⟨h4.hd (by simp [hlt]), ?_⟩
    have hmi : (l.getD i r0).needs.length ≤ 17592186044416 := hm _ (List.mem_of_getElem? (getD_some hlt r0))
    -- a recipe's cells, in every world that keeps what was there
    have rcs : ∃ b o nv, p = some ⟨b, o, none⟩ ∧ Z b ∧ IL Z w4 nv (l.getD i r0).needs ∧ w4.cell? ⟨b, o + i * 5, none⟩ = some nv ∧ w4.cell? ⟨b, o + i * 5 + 1, none⟩ = some (I (l.getD i r0).level) ∧ w4.cell? ⟨b, o + i * 5 + 2, none⟩ = some (I (l.getD i r0).act) ∧ w4.cell? ⟨b, o + i * 5 + 3, none⟩ = some (I (l.getD i r0).value) ∧ w4.cell? ⟨b, o + i * 5 + 4, none⟩ = some (I (l.getD i r0).fin) := by
      obtain ⟨b, o, nv, e, hz, -, hn, c0, c1, c2, c3, c4⟩ := (hl.kp (ku.mono hZg)).at hlt
      exact ⟨b, o, nv, e, hz, hn, c0, c1, c2, c3, c4⟩
    obtain ⟨b, o, nv, rfl, hz, hn4, c0, c1, c2, c3, c4⟩ := rcs
    obtain ⟨q, nc, rfl, -, -⟩ := id hn4
    have hzb : b < gr := hZg b hz
    refine wp_seq (wp_block ?_)
    refine wp_then (p10_5 hn hlt c0 c1 c2 c3 c4 (hL.bk.there (by omega)) h4.tl) fun a5 w5 h => ?_
    obtain ⟨h5, rfl⟩ := h
    generalize hr : l.getD i r0 = r at *
    have k5 : Kp (fun j => j ≠ gr) w4 (w4.setCells gr (i * 5) (rcL (.slice q r.needs.length nc) r)) := Kp.sets (fun h => h rfl) _ _ _
    have s5 := size_sets (g := gr) (rcL (.slice q r.needs.length nc) r) w4 (i * 5)
    have b5 := Bk.sets (g' := gr) (rcL (.slice q r.needs.length nc) r) w4 gr 43 _ (i * 5) hL.bk
    have r5 := range_sets (rcL (.slice q r.needs.length nc) r) w4 (i * 5) hL.bk (by simp; omega)
    have o5 : ∀ x, x < i * 5 → (w4.setCells gr (i * 5) (rcL (.slice q r.needs.length nc) r)).cell? ⟨gr, x, none⟩ = w4.cell? ⟨gr, x, none⟩ := fun x hx => World.cell?_setCells_out gr _ _ _ ⟨gr, x, none⟩ (fun _ _ => .inl hx)
    generalize w4.setCells gr (i * 5) (rcL (.slice q r.needs.length nc) r) = w5 at k5 s5 b5 r5 o5
    have hg5 := b5.lt
    have f5 : w5.cell? ⟨b, o + i * 5, none⟩ = some (.slice q r.needs.length nc) := k5.cell (p := ⟨b, o + i * 5, none⟩) (by show b ≠ gr; omega) c0
    refine wp_then (p10_6 hn hmi hlt f5 h5) fun a6 w6 h => ?_
    obtain ⟨h6, rfl⟩ := h
    have m6 := heap_alloc_new w5 (.cells (madeCells #[I 0] (r.needs.length + 2)) 3)
    have k6 : Kp (fun j => j < w5.heap.size) w5 (w5.alloc (.cells (madeCells #[I 0] (r.needs.length + 2)) 3)) := Kp.alloc (fun _ h => h) _
    generalize w5.alloc (.cells (madeCells #[I 0] (r.needs.length + 2)) 3) = w6 at m6 k6
    generalize hc : w5.heap.size = c at m6 k6 h6
    have hgc : gr < c := by omega
    have hn6 : IL Z w6 (.slice q r.needs.length nc) r.needs := (hn4.kp (k5.mono fun j hj => by have := hZg j hj; omega)).kp (k6.mono fun j hj => by have := hZg j hj; omega)
    have f6 : w6.cell? ⟨b, o + i * 5, none⟩ = some (.slice q r.needs.length nc) := k6.cell (p := ⟨b, o + i * 5, none⟩) (by show b < c; omega) f5
    obtain ⟨w7, e7, m7, k7, s7⟩ := run_copyN (P := Try.prog) w6 26 26 3 3 1 c (r.needs.length + 2) (r.needs.length + 2) q r.needs.length nc _ 3 (r.needs.map I) Try.underlying26 size3' m6 (by rw [List.length_map, Nat.mul_one]; exact (Nat.min_eq_left (by omega)).symm) (by decide)
      (fun hpos => by
        have h0 : 0 < r.needs.length := by simpa using hpos
        obtain ⟨_, _, e, -, hcx⟩ := id hn6
        cases e
        obtain ⟨nb, no, e, -, -⟩ := hcx 0 _ (getD_some h0 0)
        refine ⟨_, e, fun j v hj => ?_⟩
        rw [List.getElem?_map] at hj
        obtain ⟨x, hx, rfl⟩ := Option.map_eq_some_iff.1 hj
        obtain ⟨nb', no', e', -, hc'⟩ := hcx j x hx
        rw [e] at e'
        cases e'
        rw [Addr.add_mid]
        exact hc')
      (by rw [size_madeCells, List.length_map]; omega)
      (fun v hv => by obtain ⟨x, _, rfl⟩ := List.mem_map.1 hv; rfl)
    rw [show Nat.min r.needs.length (r.needs.length + 2) = r.needs.length from Nat.min_eq_left (by omega)] at e7
    have k7' : Kp (fun j => j < c) w6 w7 := Kp.ofBelow k7
    refine wp_then (p10_7 hn hmi hlt f6 e7 h6) fun a7 w7' h => ?_
    obtain ⟨h7, rfl⟩ := h
    have f7 : w7'.cell? ⟨b, o + i * 5, none⟩ = some (.slice q r.needs.length nc) := k7'.cell (p := ⟨b, o + i * 5, none⟩) (by show b < c; omega) f6
    have b7 : Bk w7' c 3 (r.needs.length + 2) := ⟨_, m7, by simp [size_madeCells]⟩
    obtain ⟨u8, g8⟩ := b7.some (j := r.needs.length) (by omega)
    refine wp_then (p10_8 hn hmi hlt f7 g8 (b7.frozen _) h7) fun a8 w8 h => ?_
    obtain ⟨h8, rfl⟩ := h
    have b8 := b7.set c r.needs.length (I (-71))
    have f8 : (w7'.setCell ⟨c, r.needs.length, none⟩ (I (-71))).cell? ⟨b, o + i * 5, none⟩ = some (.slice q r.needs.length nc) := (Kp.setCell (Z := fun j => j < c) (p := ⟨c, r.needs.length, none⟩) (by show ¬ c < c; omega) (I (-71))).cell (p := ⟨b, o + i * 5, none⟩) (by show b < c; omega) f7
    obtain ⟨u9, g9⟩ := b8.some (j := r.needs.length + 1) (by omega)
    refine wp_then (p10_9 hn hmi hlt f8 g9 (b8.frozen _) h8) fun a9 w9 h => ?_
    obtain ⟨h9, rfl⟩ := h
    have m9 : ((w7'.setCell ⟨c, r.needs.length, none⟩ (I (-71))).setCell ⟨c, r.needs.length + 1, none⟩ (I (-72))).heap[c]? = some (.cells (r.needs.map I ++ [I (-71), I (-72)]).toArray 3 (0, 0)) := by
      rw [setCell_eq_setRow w7' c r.needs.length _ 3 (0, 0) _ m7]
      have m8 := setRow_heap w7' c _ (((r.needs.map I ++ (madeCells #[I 0] (r.needs.length + 2)).toList.drop (r.needs.map I).length).toArray).setIfInBounds r.needs.length (I (-71))) 3 _ m7
      rw [setCell_eq_setRow _ c (r.needs.length + 1) _ 3 (0, 0) _ m8, setRow_heap _ c _ _ 3 _ m8]
      have hlen : ((madeCells #[I 0] (r.needs.length + 2)).toList.drop (r.needs.map I).length).length = 2 := by rw [List.length_drop, Array.length_toList, size_madeCells, List.length_map]; omega
      rw [two_set (xs := r.needs.map I) hlen (by simp)]
    have k9 : Kp (fun j => j < c) w7' ((w7'.setCell ⟨c, r.needs.length, none⟩ (I (-71))).setCell ⟨c, r.needs.length + 1, none⟩ (I (-72))) := (Kp.setCell (Z := fun j => j < c) (p := ⟨c, r.needs.length, none⟩) (by show ¬ c < c; omega) _).trans (Kp.setCell (Z := fun j => j < c) (p := ⟨c, r.needs.length + 1, none⟩) (by show ¬ c < c; omega) _)
    generalize (w7'.setCell ⟨c, r.needs.length, none⟩ (I (-71))).setCell ⟨c, r.needs.length + 1, none⟩ (I (-72)) = w9 at m9 k9
    have k59 : Kp (fun j => j < c) w5 w9 := k6.trans (k7'.trans k9)
    have b9 : Bk w9 gr 43 ((l.length + 1) * 5) := b5.block (k59.block gr hgc)
    have f9 : w9.cell? ⟨b, o + i * 5, none⟩ = some (.slice q r.needs.length nc) := k59.cell (p := ⟨b, o + i * 5, none⟩) (by show b < c; omega) f5
    obtain ⟨u10, g10⟩ := b9.some (j := i * 5) (by omega)
    refine wp_last (p10_10 hn hmi hlt f9 g10 (b9.frozen _) h9) fun a10 w10 h => ?_
    obtain ⟨h10, rfl⟩ := h
    have r9 : w9.rangeAt gr (i * 5) (rcL (.slice q r.needs.length nc) r) := k59.range hgc r5
    have hL10 : LM gr l (i + 1) (w9.setCell ⟨gr, i * 5, none⟩ (.slice (some ⟨c, 0, none⟩) r.needs.length (r.needs.length + 2))) := by
      refine ⟨b9.set _ _ _, fun j hj => ?_⟩
      by_cases hji : j = i
      · subst hji
        rw [hr]
        refine ⟨c, hgc, fun t v ht => ?_, (Below.heap_setCell _ _ _ _ (by show c ≠ gr; omega)).trans m9⟩
        cases t with
        | zero =>
          simp at ht
          subst ht
          exact World.cell?_setCell_same _ _ _ g10
        | succ t =>
          rw [World.cell?_setCell_other _ _ _ _ (by intro e; injection e with _ e; omega)]
          exact r9 (t + 1) v (by simpa using ht)
      · obtain ⟨c', e1, e2, e3⟩ := hL.rc j (by omega)
        have hc' := (Array.getElem?_eq_some_iff.1 e3).1
        refine ⟨c', e1, fun t v ht => ?_, ?_⟩
        · have ht5 : t < 5 := (List.getElem?_eq_some_iff.1 ht).1
          rw [World.cell?_setCell_other _ _ _ _ (by intro e; injection e with _ e; omega)]
          exact k59.cell (p := ⟨gr, j * 5 + t, none⟩) hgc ((o5 _ (by omega)).trans (e2 t v ht))
        · exact (Below.heap_setCell _ _ _ _ (by show c' ≠ gr; omega)).trans ((k59.block c' (by omega)).trans ((k5.block c' (by omega)).trans e3))
    have ku10 : Kp (fun j => j < gr) w0 (w9.setCell ⟨gr, i * 5, none⟩ (.slice (some ⟨c, 0, none⟩) r.needs.length (r.needs.length + 2))) := ku.trans ((k5.mono fun j hj => by omega).trans ((k59.mono fun j hj => by omega).trans (Kp.setCell (Z := fun j => j < gr) (p := ⟨gr, i * 5, none⟩) (by show ¬ gr < gr; omega) _)))
    generalize w9.setCell ⟨gr, i * 5, none⟩ (.slice (some ⟨c, 0, none⟩) r.needs.length (r.needs.length + 2)) = w10 at hL10 ku10
    show Code.wp _ _ _ _ _
    refine wp_last (p10_4 (by omega) h10) fun a11 w11 h => ?_
    obtain ⟨h11, rfl⟩ := h
    exact ⟨l.length - (i + 1), by omega, i + 1, by omega, rfl, h11, hL10, ku10⟩
  · refine .inl ⟨h4.hf (by simp [hlt]), ?_⟩
    have hie : i = l.length := by omega
    subst hie
    show Code.wp _ _ _ _ _
    refine wp_then (p10_11 (p := p) (n := l.length) (cap := cap) (gr := gr) hn (hL.bk.there (by omega)) (h4.sub (by simp))) fun a5 w5 h => ?_
    obtain ⟨h5, rfl⟩ := h
    refine wp_then (p10_12 hn h5) fun a6 w6 h => ?_
    obtain ⟨h6, rfl⟩ := h
    have r5 := range_sets [.slice none 0 0, I 0, I (-73), I 0, I 0] w4 (l.length * 5) hL.bk (by simp; omega)
    have k5 : Kp (fun j => j ≠ gr) w4 (w4.setCells gr (l.length * 5) [.slice none 0 0, I 0, I (-73), I 0, I 0]) := Kp.sets (fun h => h rfl) _ _ _
    refine wp_ret (fin1 rfl h6 _ (.head _) ⟨rfl, ?_, ?_, ?_⟩)
    · refine ⟨Bk.sets _ _ _ _ _ _ hL.bk, fun j hj => ?_⟩
      obtain ⟨c', e1, e2, e3⟩ := hL.rc j hj
      refine ⟨c', e1, fun t v ht => ?_, (k5.block c' (by omega)).trans e3⟩
      have ht5 : t < 5 := (List.getElem?_eq_some_iff.1 ht).1
      rw [World.cell?_setCells_out gr _ _ _ _ (fun _ _ => .inl (by show j * 5 + t < l.length * 5; omega))]
      exact e2 t v ht
    · exact r5 2 _ rfl
    · exact ku.trans (k5.mono fun j hj => by omega)
end Go.Proofs.Ytgohfdgkihoilaa.Rcp
