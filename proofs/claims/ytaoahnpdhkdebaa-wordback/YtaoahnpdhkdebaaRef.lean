/-
  What each call of the document's answer for layer 1 does: may, bit, Get, Put, for whatever ints: the same answers as package word's.
-/
import Derived.Test.YtaoahnpdhkdebaaRight
namespace Go.Proofs.Ytaoahnpdhkdebaa
open Go.RowKit Pl

theorem mod64_bit (x : Int) (n : Nat) (h : n < 64) : x % 18446744073709551616 / 2 ^ n % 2 = x / 2 ^ n % 2 := by
  have hp : (0 : Int) < 2 ^ n := Int.pow_pos (by decide)
  have h64 : (18446744073709551616 : Int) = 2 ^ n * (2 * 2 ^ (63 - n)) := by
    have : (64 : Nat) = n + (1 + (63 - n)) := by omega
    rw [show (18446744073709551616 : Int) = (2 : Int) ^ 64 from rfl]
    rw [this, Int.pow_add, Int.pow_add]
    simp
  rw [h64]
  exact mod_div_mod x (2 ^ n) (2 ^ (63 - n)) hp

theorem rbit_eq (x : Int) (n : Nat) (h : n < 64) : wrap64 (bits .and .u64 (IntKind.u64.wrap x / 2 ^ n) 1) = bI x n := by
  have hp : (0 : Int) < 2 ^ n := Int.pow_pos (by decide)
  rw [IntKind.wrap_u64]
  have h0 : 0 ≤ x % 18446744073709551616 := Int.emod_nonneg _ (by decide)
  have h1 : x % 18446744073709551616 < 18446744073709551616 := Int.emod_lt_of_pos _ (by decide)
  have d0 : 0 ≤ x % 18446744073709551616 / 2 ^ n := Int.ediv_nonneg h0 (Int.le_of_lt hp)
  have d1 : x % 18446744073709551616 / 2 ^ n ≤ x % 18446744073709551616 := Int.ediv_le_self _ h0
  rw [u64_and _ _ d0 (by omega) (by decide) (by decide)]
  rw [show (1 : Int).toNat = 1 from rfl, nat_mask1]
  have e : ((((x % 18446744073709551616 / 2 ^ n).toNat % 2 : Nat)) : Int) = bI x n := by
    rw [Int.natCast_emod, Int.toNat_of_nonneg d0]
    exact mod64_bit x n h
  rw [e]
  have := bI_01 x n
  exact wrap_id (by unfold Fits; omega)

set_option maxHeartbeats 400000 in
theorem may_any (a b : Int) (w : World) :
    Calls Try.prog 18 #[F a b] w fun e w' => e = .returned (.bool (mayB a b)) ∧ w' = w.alloc (.cells #[I a, I b] 26) := by
  by_cases h3 : 0 ≤ a
  · by_cases h1 : 1 ≤ b
    · by_cases h2 : b ≤ 62
      · by_cases h4 : a ≤ 64 - b
        · have e : mayB a b = true := decide_eq_true ⟨h1, h2, h3, h4⟩
          rw [e]; clear e
          go_enter Try.func18, Try.ntmps18
          go_wp2
          go_ret
          exact ⟨rfl, rfl⟩
        · have e : mayB a b = false := decide_eq_false (by omega)
          rw [e]; clear e
          go_enter Try.func18, Try.ntmps18
          go_wp2
          go_ret
          exact ⟨rfl, rfl⟩
      · have e : mayB a b = false := decide_eq_false (by omega)
        rw [e]; clear e
        go_enter Try.func18, Try.ntmps18
        go_wp2
        go_ret
        exact ⟨rfl, rfl⟩
    · have e : mayB a b = false := decide_eq_false (by omega)
      rw [e]; clear e
      go_enter Try.func18, Try.ntmps18
      go_wp2
      go_ret
      exact ⟨rfl, rfl⟩
  · have e : mayB a b = false := decide_eq_false (by omega)
    rw [e]; clear e
    go_enter Try.func18, Try.ntmps18
    go_wp2
    go_ret
    exact ⟨rfl, rfl⟩

set_option maxHeartbeats 400000 in
theorem rbit_any (x n : Int) (w : World) (h0 : 0 ≤ n) (h1 : n < 64) :
    Calls Try.prog 19 #[I x, I n] w fun e w' => e = .returned (I (bI x n.toNat)) ∧ w' = w := by
  go_enter Try.func19, Try.ntmps19
  go_wp2
  go_ret
  exact ⟨ret_int (rbit_eq x n.toNat (by omega)), rfl⟩

set_option maxHeartbeats 400000 in
theorem rget_no (x a b : Int) (w : World) (h : mayB a b = false) :
    Calls Try.prog 14 #[I x, F a b] w fun e w' => e = .returned (I 0) ∧ Below w.heap.size w w' := by
  have H : Hid (mayB a b = false) := h
  clear h
  go_enter Try.func14, Try.ntmps14
  go_wp2_with (go_at_call 18; refine (may_any _ _ _).mono ?_; rintro e w' ⟨rfl, rfl⟩; rw [H.out])
  go_ret
  exact ⟨rfl, ((Below.refl _ _).alloc (Nat.le_refl _) _).alloc (by simp) _⟩

theorem rget_step (x : Int) (a b k : Nat) (h : k < b) : 2 * getI x (a + (k + 1)) (b - (k + 1)) + bI x (a + k) = getI x (a + k) (b - k) := by
  have hp : (0 : Int) < 2 ^ (b - (k + 1)) := Int.pow_pos (by decide)
  unfold getI bI
  rw [← Nat.add_assoc, ← div_div_pow x (a + k) 1, show b - k = 1 + (b - (k + 1)) by omega, Int.pow_add 2 1 (b - (k + 1))]
  generalize x / 2 ^ (a + k) = y
  generalize (2 : Int) ^ (b - (k + 1)) = P at hp
  rw [show (2 : Int) ^ 1 = 2 from rfl]
  rw [Int.emod_def (y / 2) P, Int.emod_def y 2, Int.emod_def y (2 * P), Int.ediv_ediv_of_nonneg (by decide), Int.mul_sub, Int.mul_assoc]
  omega

set_option maxHeartbeats 400000 in
theorem rget_yes (x : Int) (a b : Nat) (w : World) (h1 : 1 ≤ b) (h2 : b ≤ 62) (h3 : a + b ≤ 64) :
    Calls Try.prog 14 #[I x, F a b] w fun e w' => e = .returned (I (getI x a b)) ∧ Below w.heap.size w w' := by
  have H : Hid (mayB a b = true) := decide_eq_true ⟨by omega, by omega, by omega, by omega⟩
  have h64 : (a : Int) + b ≤ 64 := by omega
  go_enter Try.func14, Try.ntmps14
  go_wp2_with (go_at_call 18; refine (may_any _ _ _).mono ?_; rintro e w' ⟨rfl, rfl⟩; rw [H.out])
  go_loop [6, 7] (fun v i => ∃ k : Nat, k ≤ b ∧ i = .int .i64 ((k : Int) - 1) ∧ v = .int .i64 (getI x (a + k) (b - k))) (fun _ i => (intOf i + 1).toNat)
  case atStart => exact ⟨b, Nat.le_refl _, rfl, by rw [Nat.sub_self, getI_zero]⟩
  case round =>
    obtain ⟨k, hk, rfl, rfl⟩ := hrel
    by_cases hlt : 0 < k
    · obtain ⟨j, rfl⟩ : ∃ j, k = j + 1 := ⟨k - 1, by omega⟩
      have hst : Hid (2 * getI x (a + (j + 1)) (b - (j + 1)) + bI x (a + j) = getI x (a + j) (b - j)) := rget_step x a b j (by omega)
      have g0 := getI_nonneg x (a + (j + 1)) (b - (j + 1))
      have g1 : getI x (a + (j + 1)) (b - (j + 1)) < 2305843009213693952 := by
        have := getI_lt x (a + (j + 1)) (b - (j + 1))
        have e : (2 : Int) ^ (b - (j + 1)) ≤ 2305843009213693952 := by
          have h : (2 : Nat) ^ (b - (j + 1)) ≤ 2 ^ 61 := Nat.pow_le_pow_right (by decide) (by omega)
          have e : ((2 : Int) ^ (b - (j + 1))) = ((2 ^ (b - (j + 1)) : Nat) : Int) := by simp
          rw [e]; omega
        omega
      have g2 : 0 ≤ bI x (a + j) ∧ bI x (a + j) ≤ 1 := by have := bI_01 x (a + j); omega
      obtain ⟨g3, g4⟩ := g2
      go_wp2_with (go_at_call 19; refine (rbit_any _ _ _ (by omega) (by omega)).mono ?_; rintro e w' ⟨rfl, rfl⟩)
      go_round
      case rel =>
        exact ⟨j, by omega, rfl, by rw [hst.out]⟩
      case measure => simp [intOf]
    · have : k = 0 := by omega
      subst this
      go_wp2
      go_ret
      exact ⟨rfl, ((Below.refl _ _).alloc (Nat.le_refl _) _).alloc (by simp) _⟩

theorem rget_any (x a b : Int) (w : World) :
    Calls Try.prog 14 #[I x, F a b] w fun e w' => e = .returned (I (getW x a b)) ∧ Below w.heap.size w w' := by
  unfold getW
  by_cases h : mayB a b = true
  · rw [if_pos h]
    obtain ⟨h1, h2, h3, h4⟩ := mayB_true h
    have := rget_yes x a.toNat b.toNat w (by omega) (by omega) (by omega)
    rw [Int.toNat_of_nonneg h3, Int.toNat_of_nonneg (show 0 ≤ b by omega)] at this
    exact this
  · rw [if_neg h]
    exact rget_no x a b w (Bool.eq_false_iff.2 h)

set_option maxHeartbeats 400000 in
theorem rput_no1 (x a b v : Int) (w : World) (h : mayB a b = false) :
    Calls Try.prog 15 #[I x, F a b, I v] w fun e w' => e = .returned (.tuple #[I 0, I 10]) ∧ Below w.heap.size w w' := by
  have H : Hid (mayB a b = false) := h
  clear h
  go_enter Try.func15, Try.ntmps15
  go_wp2_with (go_at_call 18; refine (may_any _ _ _).mono ?_; rintro e w' ⟨rfl, rfl⟩; rw [H.out])
  go_ret2
  exact ⟨rfl, ((Below.refl _ _).alloc (Nat.le_refl _) _).alloc (by simp) _⟩

set_option maxHeartbeats 400000 in
theorem rput_no2 (x a b v : Int) (w : World) (h : mayB a b = true) (hv : v < 0) :
    Calls Try.prog 15 #[I x, F a b, I v] w fun e w' => e = .returned (.tuple #[I 0, I 10]) ∧ Below w.heap.size w w' := by
  have H : Hid (mayB a b = true) := h
  clear h
  go_enter Try.func15, Try.ntmps15
  go_wp2_with (go_at_call 18; refine (may_any _ _ _).mono ?_; rintro e w' ⟨rfl, rfl⟩; rw [H.out])
  go_ret2
  exact ⟨rfl, ((Below.refl _ _).alloc (Nat.le_refl _) _).alloc (by simp) _⟩

set_option maxHeartbeats 400000 in
theorem rput_no3 (x a : Int) (b : Nat) (v : Int) (w : World) (h : mayB a b = true) (hv0 : 0 ≤ v) (hv : 2 ^ b ≤ v) :
    Calls Try.prog 15 #[I x, F a b, I v] w fun e w' => e = .returned (.tuple #[I 0, I 10]) ∧ Below w.heap.size w w' := by
  have H : Hid (mayB a b = true) := h
  have h2 := (mayB_true h).2.1
  rw [← wrap_pow (show b ≤ 62 by omega)] at hv
  clear h
  go_enter Try.func15, Try.ntmps15
  go_wp2_with (go_at_call 18; refine (may_any _ _ _).mono ?_; rintro e w' ⟨rfl, rfl⟩; rw [H.out])
  go_ret2
  exact ⟨rfl, ((Below.refl _ _).alloc (Nat.le_refl _) _).alloc (by simp) _⟩

/-- A word without its sign, from bit m on. -/
def hi (y : Int) (m : Nat) : Int := y % 18446744073709551616 / 2 ^ m

theorem hi_bounds (y : Int) (m : Nat) (hm : 1 ≤ m) : 0 ≤ hi y m ∧ hi y m ≤ 9223372036854775807 := by
  have h0 : 0 ≤ y % 18446744073709551616 := Int.emod_nonneg _ (by decide)
  have h1 : y % 18446744073709551616 < 18446744073709551616 := Int.emod_lt_of_pos _ (by decide)
  unfold hi
  obtain ⟨m, rfl⟩ : ∃ k, m = k + 1 := ⟨m - 1, by omega⟩
  have hp : (0 : Int) < 2 ^ m := Int.pow_pos (by decide)
  rw [Int.pow_succ, Int.mul_comm, ← Int.ediv_ediv_of_nonneg (by decide)]
  generalize y % 18446744073709551616 = z at *
  have d0 : 0 ≤ z / 2 / 2 ^ m := Int.ediv_nonneg (by omega) (Int.le_of_lt hp)
  have d1 : z / 2 / 2 ^ m ≤ z / 2 := Int.ediv_le_self _ (by omega)
  omega

theorem hi_step (y : Int) (j : Nat) (h : j < 64) : 2 * hi y (j + 1) + bI y j = hi y j := by
  have hm := mod64_bit y j h
  unfold bI
  rw [← hm]
  unfold hi
  rw [Int.pow_succ, ← Int.ediv_ediv_of_nonneg (Int.le_of_lt (Int.pow_pos (by decide)))]
  omega

theorem hi_64 (y : Int) : hi y 64 = 0 := by
  unfold hi
  exact Int.ediv_eq_zero_of_lt (Int.emod_nonneg _ (by decide)) (Int.emod_lt_of_pos _ (by decide))

theorem hi_0 {y : Int} (h : Fits y) : wrap64 (hi y 0) = y := by
  unfold hi Fits at *; unfold wrap64
  simp only [Int.pow_zero, Int.ediv_one]
  omega

theorem bI_put_in (x v : Int) (a b j : Nat) (hj : j < 64) (hb : b ≤ 64) (h : a ≤ j ∧ j < a + b) : bI (putI x a b v) j = bI v (j - a) := by
  rw [bI_tb _ _ hj, bI_tb _ _ (by omega), tb_putI _ _ _ _ _ hb hj, if_pos h]
theorem bI_put_out (x v : Int) (a b j : Nat) (hj : j < 64) (hb : b ≤ 64) (h : ¬ (a ≤ j ∧ j < a + b)) : bI (putI x a b v) j = bI x j := by
  rw [bI_tb _ _ hj, bI_tb _ _ hj, tb_putI _ _ _ _ _ hb hj, if_neg h]

theorem out_step {y c : Int} {j : Nat} (h : j < 64) (hc : bI y j = c) : IntKind.u64.wrap (2 * hi y (j + 1) + IntKind.u64.wrap c) = hi y j := by
  have h1 := hi_step y j h
  have h2 := hi_bounds y (j + 1) (by omega)
  have h3 := bI_01 y j
  rw [hc] at h1 h3
  rw [IntKind.wrap_u64, IntKind.wrap_u64]
  omega

theorem ret_two {a b c : Int} (h : a = b) : Ending.returned (.tuple #[.int .i64 a, .int .i64 c]) = .returned (.tuple #[I b, I c]) := by rw [h]

set_option maxHeartbeats 1000000 in
theorem rput_yes (x : Int) (a b : Nat) (v : Int) (w : World) (h1 : 1 ≤ b) (h2 : b ≤ 62) (h3 : a + b ≤ 64) (v0 : 0 ≤ v) (v1 : v < 2 ^ b) :
    Calls Try.prog 15 #[I x, F a b, I v] w fun e w' => e = .returned (.tuple #[I (putI x a b v), I 0]) ∧ Below w.heap.size w w' := by
  have H : Hid (mayB a b = true) := decide_eq_true ⟨by omega, by omega, by omega, by omega⟩
  have h64 : (a : Int) + b ≤ 64 := by omega
  rw [← wrap_pow h2] at v1
  have v2 : 0 ≤ v ∧ v < wrap64 (2 ^ b) := ⟨v0, v1⟩
  go_enter Try.func15, Try.ntmps15
  go_wp2_with (go_at_call 18; refine (may_any _ _ _).mono ?_; rintro e w' ⟨rfl, rfl⟩; rw [H.out])
  go_loop [9, 10] (fun o i => ∃ k : Nat, k ≤ 64 ∧ i = .int .i64 ((k : Int) - 1) ∧ o = .int .u64 (hi (putI x a b v) k)) (fun _ i => (intOf i + 1).toNat)
  case atStart => exact ⟨64, Nat.le_refl _, rfl, by rw [hi_64]⟩
  case round =>
    obtain ⟨k, hk, rfl, rfl⟩ := hrel
    by_cases hlt : 0 < k
    · obtain ⟨j, rfl⟩ : ∃ j, k = j + 1 := ⟨k - 1, by omega⟩
      obtain ⟨g0, g1⟩ := hi_bounds (putI x a b v) (j + 1) (by omega)
      by_cases ha : a ≤ j
      · by_cases hb : j < a + b
        · have hbit : Hid (bI (putI x a b v) j = bI v (j - a)) := bI_put_in x v a b j (by omega) (by omega) ⟨ha, hb⟩
          have hai : (a : Int) ≤ j := by omega
          have hbi : (j : Int) < a + b := by omega
          go_wp2_with (go_at_call 19; refine (rbit_any _ _ _ (by omega) (by omega)).mono ?_; rintro e w' ⟨rfl, rfl⟩)
          go_round
          case rel =>
            exact ⟨j, by omega, rfl, by rw [out_step (by omega) hbit.out]⟩
          case measure => simp [intOf]
        · have hbit : Hid (bI (putI x a b v) j = bI x j) := bI_put_out x v a b j (by omega) (by omega) (by omega)
          have hai : (a : Int) ≤ j := by omega
          have hbi : ¬ (j : Int) < a + b := by omega
          go_wp2_with (go_at_call 19; refine (rbit_any _ _ _ (by omega) (by omega)).mono ?_; rintro e w' ⟨rfl, rfl⟩)
          go_round
          case rel =>
            exact ⟨j, by omega, rfl, by rw [out_step (by omega) hbit.out]⟩
          case measure => simp [intOf]
      · have hbit : Hid (bI (putI x a b v) j = bI x j) := bI_put_out x v a b j (by omega) (by omega) (by omega)
        have hai : ¬ (a : Int) ≤ j := by omega
        go_wp2_with (go_at_call 19; refine (rbit_any _ _ _ (by omega) (by omega)).mono ?_; rintro e w' ⟨rfl, rfl⟩)
        go_round
        case rel =>
          exact ⟨j, by omega, rfl, by rw [out_step (by omega) hbit.out]⟩
        case measure => simp [intOf]
    · have : k = 0 := by omega
      subst this
      go_wp2
      go_ret2
      exact ⟨ret_two (hi_0 (putI_fits x a b v)), ((Below.refl _ _).alloc (Nat.le_refl _) _).alloc (by simp) _⟩

theorem rput_any (x a b v : Int) (w : World) :
    Calls Try.prog 15 #[I x, F a b, I v] w fun e w' => e = .returned (.tuple #[I (putW x a b v), I (putE a b v)]) ∧ Below w.heap.size w w' := by
  unfold putW putE
  by_cases h : putB a b v = true
  · rw [if_pos h, if_pos h]
    obtain ⟨⟨h1, h2, h3, h4⟩, h5, h6⟩ := putB_true h
    have := rput_yes x a.toNat b.toNat v w (by omega) (by omega) (by omega) h5 h6
    rw [Int.toNat_of_nonneg h3, Int.toNat_of_nonneg (show 0 ≤ b by omega)] at this
    exact this
  · rw [if_neg h, if_neg h]
    by_cases hm : mayB a b = true
    · by_cases hv : v < 0
      · exact rput_no2 x a b v w hm hv
      · obtain ⟨h1, h2, h3, h4⟩ := mayB_true hm
        have hb : ((b.toNat : Nat) : Int) = b := Int.toNat_of_nonneg (by omega)
        have hv2 : 2 ^ b.toNat ≤ v := by
          have : ¬ (0 ≤ v ∧ v < 2 ^ b.toNat) := by
            intro hh
            exact h (by unfold putB; rw [hm, decide_eq_true hh]; rfl)
          omega
        have := rput_no3 x a b.toNat v w (by rw [hb]; exact hm) (by omega) hv2
        rw [hb] at this
        exact this
    · exact rput_no1 x a b v w (Bool.eq_false_iff.2 hm)

end Go.Proofs.Ytaoahnpdhkdebaa
