/- What the document's Right (18) does. (Made by wip/tools/mk18.py.) -/
import Derived.Test.YtgohfdgkihoilaaRefR
set_option linter.unusedSimpArgs false
set_option linter.unusedVariables false
namespace Go.Proofs.Ytgohfdgkihoilaa.Rcp
open Go Go.RowKit Go.Deep Go.Maps

theorem rightS_long {l : List Rc} (h : Long l) : rightS l = 2 := if_pos h
theorem rightS_bad {l : List Rc} (h1 : ¬ Long l) (h2 : ¬ Good l) : rightS l = 110 := by unfold rightS; rw [if_neg h1, if_neg h2]
theorem rightS_ok {l : List Rc} (h : RIGHT l) : rightS l = 0 := (rightS_iff l).2 h

theorem refRight_any {Z : Nat → Prop} {w : World} {v : Value} {l : List Rc} (hl : RL Z w v l) (hZ : ∀ i, Z i → i < w.heap.size) :
    Calls Try.prog 18 #[v] w (Ret fun x w' => x = I (rightS l) ∧ Kp (fun i => i < w.heap.size) w w') := by
  have hl0 := hl
  obtain ⟨p, cap, rfl, hn, -⟩ := hl0
  refine in18 fun a hA => ?_
  rw [e18]
  refine wp_then (p18_0 hA) fun a0 w0 h => ?_
  obtain ⟨h0, rfl⟩ := h
  refine wp_seq (wp_then (p18_1 hn h0) fun a1 w1 h => ?_)
  obtain ⟨h1, rfl⟩ := h
  by_cases hlong : 100 < l.length
  · refine wp_cond_true (h1.hd (by simp [hlong])) ?_
    refine wp_then (p18_2 (h1.sub (by simp))) fun a2 w2 h => ?_
    obtain ⟨h2, rfl⟩ := h
    exact wp_ret (fin1 rfl h2 (I 2) (by simp) ⟨by rw [rightS_long (.inl hlong)], Kp.refl _ _⟩)
  refine wp_cond_false (h1.hf (by simp; omega)) (wp_skip ?_)
  refine wp_seq (wp_then (p18_3 h1.tl) fun a2 w2 h => ?_)
  obtain ⟨h2, rfl⟩ := h
  refine wp_while (t := 14) (fun m a u => ∃ i : Nat, i ≤ l.length ∧ m = l.length - i ∧ Fl 105 [(0, .slice p l.length cap), (3, I (i : Nat))] a ∧ u = w2 ∧ ∀ j, j < i → (l.getD j r0).needs.length ≤ 20) _ ⟨0, Nat.zero_le _, rfl, h2, rfl, fun j hj => absurd hj (Nat.not_lt_zero _)⟩ ?_
  rintro m a3 u ⟨i, hi, rfl, h3, rfl, hall⟩
  refine ⟨_, p18_4 hn h3, ?_⟩
  rintro a4 w4 ⟨h4, rfl⟩
  by_cases hlt : i < l.length
  · refine .inr ⟨h4.hd (by simp [hlt]), ?_⟩
    obtain ⟨blk, off, nv, rfl, hz, hr, hnn, c0, -⟩ := hl.at hlt
    obtain ⟨q, nc, rfl, hq, -⟩ := hnn
    refine wp_seq (wp_block ?_)
    refine wp_then (p18_6 hlt hq hn c0 h4.tl) fun a5 w5 h => ?_
    obtain ⟨h5, rfl⟩ := h
    by_cases h20 : 20 < (l.getD i r0).needs.length
    · refine wp_cond_true (h5.hd (by simp only [decide_eq_true_eq]; exact h20)) ?_
      refine wp_then (p18_7 (h5.sub (by simp))) fun a6 w6 h => ?_
      obtain ⟨h6, rfl⟩ := h
      exact wp_ret (fin1 rfl h6 (I 2) (by simp) ⟨by rw [rightS_long (.inr ⟨_, List.mem_of_getElem? (getD_some hlt r0), h20⟩)], Kp.refl _ _⟩)
    · refine wp_cond_false (h5.hf (by simp only [decide_eq_false_iff_not]; exact h20)) (wp_skip ?_)
      refine wp_last (p18_5 hlt hn h5.tl) fun a6 w6 h => ?_
      obtain ⟨h6, rfl⟩ := h
      refine ⟨l.length - (i + 1), by omega, i + 1, by omega, rfl, h6, rfl, fun j hj => ?_⟩
      rcases Nat.lt_or_eq_of_le (Nat.le_of_lt_succ hj) with hj | rfl
      · exact hall j hj
      · omega
  refine .inl ⟨h4.hf (by simp [hlt]), ?_⟩
  have hshort : ¬ Long l := by
    rintro (h | ⟨r, hr, h⟩)
    · exact hlong h
    · obtain ⟨j, hj, rfl⟩ := List.mem_iff_getElem.1 hr
      have := hall j (by omega)
      rw [List.getD_eq_getElem?_getD, List.getElem?_eq_getElem hj] at this
      simp at this
      omega
  clear hall hlt hi h3
  refine wp_seq (wp_then (p18_8 (p := p) (n := l.length) (cap := cap) (h4.sub (by simp))) fun a5 w5 h => ?_)
  obtain ⟨h5, rfl⟩ := h
  refine wp_while (t := 27) (fun m a u => ∃ i : Nat, i ≤ l.length ∧ m = l.length - i ∧ Fl 105 [(0, .slice p l.length cap), (4, I (i : Nat))] a ∧ Kp (fun i => i < w5.heap.size) w5 u ∧ ∀ j, j < i → okR (l.getD j r0) ∧ okN l (l.getD j r0)) _ ⟨0, Nat.zero_le _, rfl, h5, Kp.refl _ _, fun j hj => absurd hj (Nat.not_lt_zero _)⟩ ?_
  clear h5 h4 h2 h1 h0 hA
  rintro m a3 u ⟨i, hi, rfl, h3, hk, hall⟩
  refine ⟨_, p18_9 hn h3, ?_⟩
  rintro a4 w4 ⟨h4, rfl⟩
  by_cases hlt : i < l.length
  · refine .inr ⟨h4.hd (by simp [hlt]), ?_⟩
    obtain ⟨blk, off, nv, rfl, hz, hr, hnn, c0, c1, c2, c3, c4⟩ := (hl.kp (hk.mono hZ)).at hlt
    have hnn' := hnn
    obtain ⟨q, nc, rfl, hq, -⟩ := hnn
    have hmem : l.getD i r0 ∈ l := List.mem_of_getElem? (getD_some hlt r0)
    refine wp_seq (wp_block ?_)
    refine wp_then (p18_11 hlt hn c0 c1 c2 c3 c4 h4.tl) fun a5 w6 h => ?_
    obtain ⟨h5, rfl⟩ := h
    have bx := box5 (Kp.refl _ (w4.alloc (.cells (rcC (.slice q (l.getD i r0).needs.length nc) (l.getD i r0)) 43)))
    generalize hW : w4.alloc (.cells (rcC (.slice q (l.getD i r0).needs.length nc) (l.getD i r0)) 43) = W at bx
    obtain ⟨d0, d1, d2, d3, d4, hs, kW⟩ := bx
    refine wp_seq (wp_then (p18_12 d1 d2 d3 d4 h5) fun a6 w6 h => ?_)
    obtain ⟨c, h6, hc, rfl⟩ := h
    have kw6 : Kp (fun i => i < w5.heap.size) w5 w6 := hk.after kW
    rcases Classical.em (¬ okR (l.getD i r0)) with hok | hok
    · obtain rfl := hc.2 hok
      refine wp_cond_true (h6.hd rfl) ?_
      refine wp_then (p18_13 (h6.sub (by simp))) fun a7 w7 h => ?_
      obtain ⟨h7, rfl⟩ := h
      exact wp_ret (fin1 rfl h7 (I 110) (by simp) ⟨by rw [rightS_bad hshort (fun h => hok (h.2 _ hmem).1)], kw6⟩)
    have hok := Classical.not_not.1 hok
    have hcf : c = false := by cases c with | false => rfl | true => exact absurd hok (hc.1 rfl)
    refine wp_cond_false (h6.hf hcf) (wp_skip ?_)
    refine wp_then (p18_14 h6.tl) fun a7 w7 h => ?_
    obtain ⟨h7, rfl⟩ := h
    refine wp_while (t := 76) (fun m a u => ∃ k : Nat, k ≤ (l.getD i r0).needs.length ∧ m = (l.getD i r0).needs.length - k ∧ Fl 105 [(0, .slice (some ⟨blk, off, none⟩) l.length cap), (4, I (i : Nat)), (5, P1 w4.heap.size), (6, I (k : Nat))] a ∧ Kp (fun i => i < w7.heap.size) w7 u ∧
      ∀ j, j < k → 0 ≤ (l.getD i r0).needs.getD j 0 ∧ (l.getD i r0).needs.getD j 0 < l.length ∧ (l.getD ((l.getD i r0).needs.getD j 0).toNat r0).level ≤ (l.getD i r0).level) _ ⟨0, Nat.zero_le _, rfl, h7, Kp.refl _ _, fun j hj => absurd hj (Nat.not_lt_zero _)⟩ ?_
    clear h7 h6 h5 hc
    rintro m a8 u ⟨k, hkk, rfl, h8, hk8, hall8⟩
    have e0 := hk8.cell (p := ⟨w4.heap.size, 0, none⟩) hs d0
    have e1 := hk8.cell (p := ⟨w4.heap.size, 1, none⟩) hs d1
    refine ⟨_, p18_15 e0 hq h8, ?_⟩
    rintro a9 w9 ⟨h9, rfl⟩
    by_cases hlk : k < (l.getD i r0).needs.length
    · refine .inr ⟨h9.hd (by simp only [decide_eq_true_eq]; exact hlk), ?_⟩
      have kz : Kp Z w4 w9 := (kW.mono fun i hi => Nat.lt_of_lt_of_le (hZ i hi) hk.size).trans (hk8.mono fun i hi => Nat.lt_of_lt_of_le (Nat.lt_of_lt_of_le (hZ i hi) hk.size) kW.size)
      obtain ⟨nb, no, rfl, -, hx⟩ := (hnn'.kp kz).at hlk
      have kw9 : Kp (fun i => i < w5.heap.size) w5 w9 := kw6.after hk8
      refine wp_seq (wp_block ?_)
      refine wp_then (p18_17 e0 hlk hq hx h9.tl) fun a10 w10 h => ?_
      obtain ⟨h10, rfl⟩ := h
      have bad : ¬ (0 ≤ (l.getD i r0).needs.getD k 0 ∧ (l.getD i r0).needs.getD k 0 < l.length ∧ (l.getD ((l.getD i r0).needs.getD k 0).toNat r0).level ≤ (l.getD i r0).level) → rightS l = 110 := fun hb =>
        rightS_bad hshort fun hg => hb ((hg.2 _ hmem).2 _ (List.mem_of_getElem? (getD_some hlk 0)))
      generalize hxx : (l.getD i r0).needs.getD k 0 = x at h10 bad
      by_cases hx0 : x < 0
      · refine wp_then (p18_18_a hn hx0 h10) fun a11 w11 h => ?_
        obtain ⟨h11, m, rfl⟩ := h
        refine wp_cond_true (h11.hd rfl) ?_
        refine wp_then (p18_19 (h11.sub (by simp))) fun a12 w12 h => ?_
        obtain ⟨h12, rfl⟩ := h
        exact wp_ret (fin1 rfl h12 (I 110) (by simp) ⟨by rw [bad (fun h => by omega)], kw9.trans (Kp.drewN _ _)⟩)
      by_cases hxn : (l.length : Int) ≤ x
      · refine wp_then (p18_18_b hn (decide_eq_false hx0) hxn h10) fun a11 w11 h => ?_
        obtain ⟨h11, m, rfl⟩ := h
        refine wp_cond_true (h11.hd rfl) ?_
        refine wp_then (p18_19 (h11.sub (by simp))) fun a12 w12 h => ?_
        obtain ⟨h12, rfl⟩ := h
        exact wp_ret (fin1 rfl h12 (I 110) (by simp) ⟨by rw [bad (fun h => by omega)], kw9.trans (Kp.drewN _ _)⟩)
      obtain ⟨xn, rfl⟩ := Int.eq_ofNat_of_zero_le (by omega : 0 ≤ x)
      have hxl : xn < l.length := by omega
      obtain ⟨b2, o2, nv2, e2, -, -, -, -, l1, -⟩ := ((hl.kp (hk.mono hZ)).kp kz).at hxl
      cases e2
      refine wp_then (p18_18_c hn hxl l1 e1 h10) fun a11 w11 h => ?_
      obtain ⟨h11, m, rfl⟩ := h
      by_cases hlv : (l.getD xn r0).level > (l.getD i r0).level
      · refine wp_cond_true (h11.hd (by simp only [decide_eq_true_eq]; exact hlv)) ?_
        refine wp_then (p18_19 (h11.sub (by simp))) fun a12 w12 h => ?_
        obtain ⟨h12, rfl⟩ := h
        exact wp_ret (fin1 rfl h12 (I 110) (by simp) ⟨by rw [bad (fun h => by have := h.2.2; rw [show ((xn : Int)).toNat = xn by omega] at this; omega)], kw9.trans (Kp.drewN _ _)⟩)
      · refine wp_cond_false (h11.hf (by simp only [decide_eq_false_iff_not]; exact hlv)) (wp_skip ?_)
        refine wp_last (p18_16 (by omega) h11.tl) fun a12 w12 h => ?_
        obtain ⟨h12, rfl⟩ := h
        refine ⟨(l.getD i r0).needs.length - (k + 1), by omega, k + 1, by omega, rfl, h12, hk8.trans (Kp.drewN _ _), fun j hj => ?_⟩
        rcases Nat.lt_or_eq_of_le (Nat.le_of_lt_succ hj) with hj | rfl
        · exact hall8 j hj
        · rw [hxx, show ((xn : Int)).toNat = xn by omega]; omega
    · refine .inl ⟨h9.hf (by simp only [decide_eq_false_iff_not]; exact hlk), ?_⟩
      refine wp_last (p18_10 (b := blk) (o := off) (n := l.length) (cap := cap) (i := i) hlt hn (h9.sub (by simp))) fun a10 w10 h => ?_
      obtain ⟨h10, rfl⟩ := h
      refine ⟨l.length - (i + 1), by omega, i + 1, by omega, rfl, h10, kw6.after hk8, fun j hj => ?_⟩
      rcases Nat.lt_or_eq_of_le (Nat.le_of_lt_succ hj) with hj | rfl
      · exact hall j hj
      · refine ⟨hok, fun x hx => ?_⟩
        obtain ⟨t, ht, rfl⟩ := List.mem_iff_getElem.1 hx
        have := hall8 t (by omega)
        rw [List.getD_eq_getElem?_getD, List.getElem?_eq_getElem ht] at this
        exact this
  · refine .inl ⟨h4.hf (by simp [hlt]), ?_⟩
    refine wp_seq (wp_then (p18_20 (p := p) (n := l.length) (cap := cap) hn (h4.sub (by simp))) fun a5 w6 h => ?_)
    obtain ⟨h5, rfl⟩ := h
    by_cases h0 : l.length = 0
    · refine wp_cond_true (h5.hd (by rw [beq_iff_eq]; omega)) ?_
      refine wp_then (p18_21 (h5.sub (by simp))) fun a6 w7 h => ?_
      obtain ⟨h6, rfl⟩ := h
      exact wp_ret (fin1 rfl h6 (I 110) (by simp) ⟨by rw [rightS_bad hshort (fun h => by have := h.1; omega)], hk⟩)
    · refine wp_cond_false (h5.hf (by rw [beq_eq_false_iff_ne]; omega)) (wp_skip ?_)
      refine wp_then (p18_22 (h5.sub (by simp))) fun a6 w7 h => ?_
      obtain ⟨h6, rfl⟩ := h
      refine wp_ret (fin1 rfl h6 (I 0) (by simp) ⟨?_, hk⟩)
      rw [rightS_ok ⟨hshort, by omega, fun r hr => by
        obtain ⟨t, ht, rfl⟩ := List.mem_iff_getElem.1 hr
        have := hall t (by omega)
        rw [List.getD_eq_getElem?_getD, List.getElem?_eq_getElem ht] at this
        exact this⟩]
end Go.Proofs.Ytgohfdgkihoilaa.Rcp
