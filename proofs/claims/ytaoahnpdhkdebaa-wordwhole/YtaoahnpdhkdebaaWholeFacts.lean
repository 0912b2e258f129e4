/-
  Plain facts, without any program: fields side by side from the lowest bit on are right together, and hold an int as a whole.
-/
import Derived.Test.YtaoahnpdhkdebaaFacts
namespace Go.Proofs.Ytaoahnpdhkdebaa
open Go.RowKit Pl

/-- Fields side by side from bit 0 on: o tells where each begins; they end at n. -/
structure Chain (l : List (Int × Int)) (o : Nat → Nat) (n : Nat) : Prop where
  first : o 0 = 0
  last : o l.length = n
  each : ∀ j, j < l.length → l.getD j (0, 0) = ((o j : Int), ((o (j + 1) - o j : Nat) : Int))
  up : ∀ j, j < l.length → o j < o (j + 1) ∧ o (j + 1) ≤ o j + 16

theorem Chain.nil : Chain [] (fun _ => 0) 0 :=
  ⟨rfl, rfl, fun _ h => absurd h (Nat.not_lt_zero _), fun _ h => absurd h (Nat.not_lt_zero _)⟩

theorem Chain.snoc {l : List (Int × Int)} {o : Nat → Nat} {n m : Nat} (h : Chain l o n) (h1 : 1 ≤ m) (h2 : m ≤ 16) :
    Chain (l ++ [((n : Int), (m : Int))]) (fun j => if j ≤ l.length then o j else n + m) (n + m) := by
  refine ⟨?_, ?_, fun j hj => ?_, fun j hj => ?_⟩
  · rw [if_pos (Nat.zero_le _)]; exact h.first
  · rw [List.length_append, if_neg (by simp)]
  · rw [List.length_append] at hj
    simp only [List.length_cons, List.length_nil] at hj
    by_cases e : j < l.length
    · rw [if_pos (by omega), if_pos (by omega), ← h.each j e]
      simp [List.getD_eq_getElem?_getD, List.getElem?_append_left e]
    · obtain rfl : j = l.length := by omega
      rw [if_pos (Nat.le_refl _), if_neg (by omega), h.last, Nat.add_sub_cancel_left]
      simp [List.getD_eq_getElem?_getD]
  · rw [List.length_append] at hj
    simp only [List.length_cons, List.length_nil] at hj
    by_cases e : j < l.length
    · simp only [if_pos (show j ≤ l.length by omega), if_pos (show j + 1 ≤ l.length by omega)]
      exact h.up j e
    · obtain rfl : j = l.length := by omega
      simp only [if_pos (Nat.le_refl _), if_neg (show ¬ (l.length + 1 ≤ l.length) by omega), h.last]
      omega

theorem Chain.le {l : List (Int × Int)} {o : Nat → Nat} {n : Nat} (h : Chain l o n) : ∀ d j, j + d = l.length → o j + d ≤ n
  | 0, j, e => by rw [← h.last, ← e]; exact Nat.le_refl _
  | d + 1, j, e => by
    have h1 := h.up j (by omega)
    have h2 := Chain.le h d (j + 1) (by omega)
    omega

theorem Chain.below {l : List (Int × Int)} {o : Nat → Nat} {n : Nat} (h : Chain l o n) {j : Nat} (hj : j ≤ l.length) : o j ≤ n := by
  have := h.le (l.length - j) j (by omega); omega

theorem Chain.length {l : List (Int × Int)} {o : Nat → Nat} {n : Nat} (h : Chain l o n) : l.length ≤ n := by
  have := h.le l.length 0 (by omega); omega

/-- The lowest m bits of x. -/
def lowI (x : Int) (m : Nat) : Int := putI 0 0 m x

theorem tb_lowI (x : Int) (m i : Nat) (hm : m ≤ 64) (hi : i < 64) : tb (lowI x m) i = (decide (i < m) && tb x i) := by
  unfold lowI
  rw [tb_putI _ _ _ _ _ hm hi]
  by_cases h : i < m
  · rw [if_pos (by omega)]; simp [h]
  · rw [if_neg (by omega)]; simp [h, tb]

theorem lowI_fits (x : Int) (m : Nat) : Fits (lowI x m) := putI_fits _ _ _ _

theorem lowI_zero (x : Int) : lowI x 0 = 0 := putI_zero (by unfold Fits; omega) _ _

theorem low_take (m d : Nat) (h : m + d ≤ 63) : putI (lowI (-1) m) m d (-1) = lowI (-1) (m + d) := by
  refine tb_ext (putI_fits _ _ _ _) (lowI_fits _ _) fun i hi => ?_
  rw [tb_putI _ _ _ _ _ (by omega) hi, tb_lowI _ _ _ (by omega) hi, tb_lowI _ _ _ (by omega) hi, tb_neg1 i hi]
  by_cases h1 : m ≤ i ∧ i < m + d
  · rw [if_pos h1, tb_neg1 _ (by omega)]; simp [h1.2]
  · rw [if_neg h1]
    by_cases h2 : i < m
    · have : i < m + d := by omega
      simp [h2, this]
    · have : ¬ i < m + d := by omega
      simp [h2, this]

theorem right_chain {l : List (Int × Int)} {o : Nat → Nat} {n : Nat} (h : Chain l o n) (hn : n ≤ 63) : ∀ d j, j + d = l.length → rightFrom (lowI (-1) (o j)) (l.drop j) = true
  | 0, j, e => by rw [List.drop_of_length_le (by omega)]; rfl
  | d + 1, j, e => by
    have hj : j < l.length := by omega
    have h1 := h.up j hj
    have h2 := h.below (j := j + 1) (by omega)
    rw [drop_getD hj (h.each j hj)]
    rw [rf_free]
    · rw [low_take _ _ (by omega), show o j + (o (j + 1) - o j) = o (j + 1) by omega]
      exact right_chain h hn d (j + 1) (by omega)
    · exact decide_eq_true ⟨by omega, by omega, by omega, by omega⟩
    · intro i hi
      rw [tb_lowI _ _ _ (by omega) (by omega)]
      have : ¬ (o j + i < o j) := by omega
      simp [this]

theorem right_whole {l : List (Int × Int)} {o : Nat → Nat} {n : Nat} (h : Chain l o n) (hn : n ≤ 63) : rightFrom 0 l = true := by
  have := right_chain h hn l.length 0 (by omega)
  rw [h.first, lowI_zero, List.drop_zero] at this
  exact this

/-- One field more. -/
theorem low_put (x : Int) (m d : Nat) (hd : d ≤ 62) (h : m + d ≤ 63) : putI (lowI x m) m d (getI x m d) = lowI x (m + d) := by
  refine tb_ext (putI_fits _ _ _ _) (lowI_fits _ _) fun i hi => ?_
  rw [tb_putI _ _ _ _ _ (by omega) hi, tb_lowI _ _ _ (by omega) hi, tb_lowI _ _ _ (by omega) hi]
  by_cases h1 : m ≤ i ∧ i < m + d
  · rw [if_pos h1, tb_getI _ _ _ _ (by omega) (by omega), show m + (i - m) = i by omega]
    have : i - m < d := by omega
    simp [h1.2, this]
  · rw [if_neg h1]
    by_cases h2 : i < m
    · have : i < m + d := by omega
      simp [h2, this]
    · have : ¬ i < m + d := by omega
      simp [h2, this]

theorem mask_eq (n : Nat) (h : n ≤ 63) : wrap64 (wrap64 (2 ^ n) - 1) = 2 ^ n - 1 := by
  have h1 : (2 : Nat) ^ n ≤ 2 ^ 63 := Nat.pow_le_pow_right (by decide) h
  have h2 : 0 < (2 : Nat) ^ n := Nat.pow_pos (by decide)
  have e : ((2 : Int) ^ n) = ((2 ^ n : Nat) : Int) := by simp
  rw [e]
  unfold wrap64
  omega

theorem tb_mask (n i : Nat) (h : n ≤ 63) (hi : i < 64) : tb ((2 : Int) ^ n - 1) i = decide (i < n) := by
  rw [ones, tb_getI _ _ _ _ (by omega) hi, Nat.zero_add, tb_neg1 i hi, Bool.and_true]

theorem masked (x : Int) (n : Nat) (h : n ≤ 63) : bits .and .i64 x (wrap64 (wrap64 (2 ^ n) - 1)) = lowI x n := by
  refine tb_ext (and_fits _ _) (lowI_fits _ _) fun i hi => ?_
  rw [tb_and, mask_eq n h, tb_mask n i h hi, tb_lowI _ _ _ (by omega) hi, Bool.and_comm]

theorem low_low (x : Int) (n : Nat) (h : n ≤ 63) : lowI (lowI x n) n = lowI x n := by
  refine tb_ext (lowI_fits _ _) (lowI_fits _ _) fun i hi => ?_
  rw [tb_lowI _ _ _ (by omega) hi, tb_lowI _ _ _ (by omega) hi, ← Bool.and_assoc, Bool.and_self]

theorem and_15 (y : Int) : bits .and .i64 y 15 = y % 16 := by
  have e : y % 16 = getI y 0 4 := by unfold getI; rw [Int.pow_zero, Int.ediv_one]; rfl
  rw [e]
  refine tb_ext (and_fits _ _) (getI_fits _ _ _ (by decide)) fun i hi => ?_
  rw [tb_and, tb_getI _ _ _ _ (by omega) hi, Nat.zero_add, show (15 : Int) = 2 ^ 4 - 1 from rfl, tb_mask 4 i (by decide) hi, Bool.and_comm]

end Go.Proofs.Ytaoahnpdhkdebaa
