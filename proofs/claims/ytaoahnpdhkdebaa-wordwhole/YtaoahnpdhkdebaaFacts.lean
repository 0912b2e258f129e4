/-
  Plain facts on fields, without any program: what is put is there, and nothing else has changed; fields apart have nothing to do with one another.
-/
import Derived.Test.YtaoahnpdhkdebaaRight
namespace Go.Proofs.Ytaoahnpdhkdebaa
open Go.RowKit Pl

theorem tb_neg1 (i : Nat) (h : i < 64) : tb (-1) i = true := by
  unfold tb
  rw [show BitVec.ofInt 64 (-1) = BitVec.allOnes 64 from by decide, BitVec.getLsbD_allOnes]
  exact decide_eq_true h

theorem pow_mono {b i : Nat} (h : b ≤ i) : (2 : Int) ^ b ≤ 2 ^ i := by
  have : (2 : Nat) ^ b ≤ 2 ^ i := Nat.pow_le_pow_right (by decide) h
  have e1 : ((2 : Int) ^ b) = ((2 ^ b : Nat) : Int) := by simp
  have e2 : ((2 : Int) ^ i) = ((2 ^ i : Nat) : Int) := by simp
  rw [e1, e2]; omega

theorem tb_small {v : Int} {b i : Nat} (h0 : 0 ≤ v) (h1 : v < 2 ^ b) (hb : b ≤ i) (hi : i < 64) : tb v i = false := by
  rw [tb_eq v i hi, Int.ediv_eq_zero_of_lt h0 (Int.lt_of_lt_of_le h1 (pow_mono hb))]; decide

theorem small_fits {v : Int} {b : Nat} (h0 : 0 ≤ v) (h1 : v < 2 ^ b) (hb : b ≤ 62) : Fits v := by
  have := pow_le62 hb; unfold Fits; omega

/-- Behind Put, Get tells it. -/
theorem get_put (x v : Int) (a b : Nat) (hb : b ≤ 62) (hab : a + b ≤ 64) (h0 : 0 ≤ v) (h1 : v < 2 ^ b) : getI (putI x a b v) a b = v := by
  refine tb_ext (getI_fits _ _ _ hb) (small_fits h0 h1 hb) fun i hi => ?_
  rw [tb_getI _ _ _ _ hab hi]
  by_cases h : i < b
  · rw [tb_putI _ _ _ _ _ (by omega) (by omega), if_pos (by omega), show a + i - a = i by omega]; simp [h]
  · rw [tb_small h0 h1 (by omega) hi]; simp [h]

/-- What is there, put again, changes nothing. -/
theorem put_get {x : Int} (hx : Fits x) (a b : Nat) (hab : a + b ≤ 64) : putI x a b (getI x a b) = x := by
  refine tb_ext (putI_fits _ _ _ _) hx fun i hi => ?_
  rw [tb_putI _ _ _ _ _ (by omega) hi]
  by_cases h : a ≤ i ∧ i < a + b
  · rw [if_pos h, tb_getI _ _ _ _ hab (by omega), show a + (i - a) = i by omega]
    have : i - a < b := by omega
    simp [this]
  · rw [if_neg h]

/-- The last Put counts. -/
theorem put_put (x v w : Int) (a b : Nat) (hb : b ≤ 62) : putI (putI x a b v) a b w = putI x a b w := by
  refine tb_ext (putI_fits _ _ _ _) (putI_fits _ _ _ _) fun i hi => ?_
  rw [tb_putI _ _ _ _ _ (by omega) hi, tb_putI _ _ _ _ _ (by omega) hi, tb_putI _ _ _ _ _ (by omega) hi]
  by_cases h : a ≤ i ∧ i < a + b
  · rw [if_pos h, if_pos h]
  · rw [if_neg h, if_neg h, if_neg h]

theorem ones (b : Nat) : (2 : Int) ^ b - 1 = getI (-1) 0 b := by
  unfold getI
  have hp : (0 : Int) < 2 ^ b := Int.pow_pos (by decide)
  rw [Int.pow_zero, Int.ediv_one, ← Int.add_emod_right]
  rw [Int.emod_eq_of_lt (by omega) (by omega)]
  omega

theorem tb_ones (b j : Nat) (hb : b ≤ 62) (hj : j < 64) : tb ((2 : Int) ^ b - 1) j = decide (j < b) := by
  rw [ones, tb_getI _ _ _ _ (by omega) hj, Nat.zero_add, tb_neg1 j hj, Bool.and_true]

/-- The bits outside the field stay. -/
theorem put_mask (x v : Int) (a b : Nat) (hb : b ≤ 62) (hab : a + b ≤ 64) :
    bits .andNot .i64 (putI x a b v) (wrap64 ((2 ^ b - 1) * 2 ^ a)) = bits .andNot .i64 x (wrap64 ((2 ^ b - 1) * 2 ^ a)) := by
  refine tb_ext (andNot_fits _ _) (andNot_fits _ _) fun i hi => ?_
  rw [tb_andNot _ _ _ hi, tb_andNot _ _ _ hi, tb_shl _ _ _ hi, tb_putI _ _ _ _ _ (by omega) hi]
  by_cases h1 : a ≤ i
  · rw [tb_ones b (i - a) hb (by omega)]
    by_cases h2 : i < a + b
    · have : i - a < b := by omega
      simp [h1, this]
    · rw [if_neg (by omega)]
  · rw [if_neg (by omega)]

/-- No bit is in both fields. -/
def Apart (a b c d : Nat) : Prop := ∀ i, ¬ ((a ≤ i ∧ i < a + b) ∧ (c ≤ i ∧ i < c + d))

theorem get_apart (x v : Int) (a b c d : Nat) (hb : b ≤ 62) (hd : d ≤ 62) (hcd : c + d ≤ 64) (h : Apart a b c d) : getI (putI x a b v) c d = getI x c d := by
  refine tb_ext (getI_fits _ _ _ hd) (getI_fits _ _ _ hd) fun i hi => ?_
  rw [tb_getI _ _ _ _ hcd hi, tb_getI _ _ _ _ hcd hi]
  by_cases h1 : i < d
  · have := h (c + i)
    rw [tb_putI _ _ _ _ _ (by omega) (by omega), if_neg (by omega)]
  · simp [h1]

theorem put_apart (x v w : Int) (a b c d : Nat) (hb : b ≤ 62) (hd : d ≤ 62) (h : Apart a b c d) : putI (putI x a b v) c d w = putI (putI x c d w) a b v := by
  refine tb_ext (putI_fits _ _ _ _) (putI_fits _ _ _ _) fun i hi => ?_
  rw [tb_putI _ _ _ _ _ (by omega) hi, tb_putI _ _ _ _ _ (by omega) hi, tb_putI _ _ _ _ _ (by omega) hi, tb_putI _ _ _ _ _ (by omega) hi]
  have := h i
  by_cases h1 : a ≤ i ∧ i < a + b
  · rw [if_neg (show ¬ (c ≤ i ∧ i < c + d) by omega), if_pos h1, if_pos h1]
  · by_cases h2 : c ≤ i ∧ i < c + d
    · rw [if_pos h2, if_neg h1, if_pos h2]
    · rw [if_neg h2, if_neg h1, if_neg h1, if_neg h2]

/-- What Right says of two fields. -/
theorem right_two {a b c d : Int} (h : rightFrom 0 [(a, b), (c, d)] = true) : mayB a b = true ∧ mayB c d = true ∧ Apart a.toNat b.toNat c.toNat d.toNat := by
  unfold rightFrom at h
  simp only [Bool.and_eq_true] at h
  obtain ⟨⟨h1, _⟩, h2⟩ := h
  unfold rightFrom at h2
  simp only [Bool.and_eq_true] at h2
  obtain ⟨⟨h3, h4⟩, _⟩ := h2
  refine ⟨h1, h3, fun i hi => ?_⟩
  obtain ⟨m1, m2, m3, m4⟩ := mayB_true h1
  obtain ⟨n1, n2, n3, n4⟩ := mayB_true h3
  unfold freeB at h4
  rw [List.all_eq_true] at h4
  have h5 := h4 (i - c.toNat) (List.mem_range.2 (by omega))
  rw [show c.toNat + (i - c.toNat) = i by omega, tb_putI _ _ _ _ _ (by omega) (by omega), if_pos (by omega), tb_neg1 _ (by omega)] at h5
  cases h5

end Go.Proofs.Ytaoahnpdhkdebaa
