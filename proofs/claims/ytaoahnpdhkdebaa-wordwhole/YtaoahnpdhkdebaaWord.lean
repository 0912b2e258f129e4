/-
  What each call of package word does: mayBe, bit, Get, Put, for whatever ints: its answer by its bits; of memory that was there nothing changes.
-/
import Derived.Test.YtaoahnpdhkdebaaRows
import Derived.Test.YtaoahnpdhkdebaaPlain
import Derived.WalkKit
import Derived.WalkSpells
import Derived.WalkLawsBesides
import Derived.Deep.QuietTactic
import Derived.BigQuiet
namespace Go.Proofs.Ytaoahnpdhkdebaa
open Go.RowKit Pl

abbrev I (n : Int) : Value := .int .i64 n
abbrev F (a b : Int) : Value := .agg #[.int .i64 a, .int .i64 b]

theorem ret_int {k : IntKind} {a b : Int} (h : a = b) : Ending.returned (.int k a) = .returned (.int k b) := by rw [h]

/-- May a field be? -/
def mayB (a b : Int) : Bool := decide (1 ≤ b ∧ b ≤ 62 ∧ 0 ≤ a ∧ a ≤ 64 - b)

theorem mayB_true {a b : Int} (h : mayB a b = true) : 1 ≤ b ∧ b ≤ 62 ∧ 0 ≤ a ∧ a ≤ 64 - b := of_decide_eq_true h

set_option maxHeartbeats 400000 in
theorem mayBe_any (a b : Int) (w : World) :
    Calls Try.prog 16 #[F a b] w fun e w' => e = .returned (.bool (mayB a b)) ∧ w' = w.alloc (.cells #[I a, I b] 26) := by
  by_cases h1 : 1 ≤ b
  · by_cases h2 : b ≤ 62
    · by_cases h3 : 0 ≤ a
      · by_cases h4 : a ≤ 64 - b
        · have e : mayB a b = true := decide_eq_true ⟨h1, h2, h3, h4⟩
          rw [e]; have E : Hid (mayB a b = true) := e
          clear e
          go_enter Try.func16, Try.ntmps16
          go_wp2
          go_ret
          exact ⟨rfl, rfl⟩
        · have e : mayB a b = false := decide_eq_false (by omega)
          rw [e]; clear e
          go_enter Try.func16, Try.ntmps16
          go_wp2
          go_ret
          exact ⟨rfl, rfl⟩
      · have e : mayB a b = false := decide_eq_false (by omega)
        rw [e]; clear e
        go_enter Try.func16, Try.ntmps16
        go_wp2
        go_ret
        exact ⟨rfl, rfl⟩
    · have e : mayB a b = false := decide_eq_false (by omega)
      rw [e]; clear e
      go_enter Try.func16, Try.ntmps16
      go_wp2
      go_ret
      exact ⟨rfl, rfl⟩
  · have e : mayB a b = false := decide_eq_false (by omega)
    rw [e]; clear e
    go_enter Try.func16, Try.ntmps16
    go_wp2
    go_ret
    exact ⟨rfl, rfl⟩

set_option maxHeartbeats 400000 in
theorem bit_any (x n : Int) (w : World) (h0 : 0 ≤ n) (h1 : n < 64) :
    Calls Try.prog 17 #[I x, I n] w fun e w' => e = .returned (I (bI x n.toNat)) ∧ w' = w := by
  go_enter Try.func17, Try.ntmps17
  go_wp2
  go_ret
  exact ⟨ret_int (by rw [and_one]; rfl), rfl⟩

/-- What Get answers. -/
def getW (x a b : Int) : Int := if mayB a b = true then getI x a.toNat b.toNat else 0

set_option maxHeartbeats 400000 in
theorem get_no (x a b : Int) (w : World) (h : mayB a b = false) :
    Calls Try.prog 11 #[I x, F a b] w fun e w' => e = .returned (I 0) ∧ Below w.heap.size w w' := by
  have H : Hid (mayB a b = false) := h
  clear h
  go_enter Try.func11, Try.ntmps11
  go_wp2_with (go_at_call 16; refine (mayBe_any _ _ _).mono ?_; rintro e w' ⟨rfl, rfl⟩; rw [H.out])
  go_ret
  exact ⟨rfl, ((Below.refl _ _).alloc (Nat.le_refl _) _).alloc (by simp) _⟩

set_option maxHeartbeats 400000 in
theorem get_yes (x : Int) (a b : Nat) (w : World) (h1 : 1 ≤ b) (h2 : b ≤ 62) (h3 : a + b ≤ 64) :
    Calls Try.prog 11 #[I x, F a b] w fun e w' => e = .returned (I (getI x a b)) ∧ Below w.heap.size w w' := by
  have H : Hid (mayB a b = true) := decide_eq_true ⟨by omega, by omega, by omega, by omega⟩
  have h64 : (a : Int) + b ≤ 64 := by omega
  go_enter Try.func11, Try.ntmps11
  go_wp2_with (go_at_call 16; refine (mayBe_any _ _ _).mono ?_; rintro e w' ⟨rfl, rfl⟩; rw [H.out])
  go_loop [5, 12] (fun v i => ∃ k : Nat, k ≤ b ∧ i = .int .i64 k ∧ v = .int .i64 (getI x a k)) (fun _ i => b - (intOf i).toNat)
  case atStart => exact ⟨0, Nat.zero_le _, rfl, by rw [getI_zero]⟩
  case round =>
    obtain ⟨k, hk, rfl, rfl⟩ := hrel
    by_cases hlt : k < b
    · have hst : Hid (bits .or .i64 (getI x a k) (wrap64 (bI x (a + k) * 2 ^ k)) = getI x a (k + 1)) := getI_step x a k (by omega) (by omega)
      go_wp2_with (go_at_call 17; refine (bit_any _ _ _ (by omega) (by omega)).mono ?_; rintro e w' ⟨rfl, rfl⟩)
      go_round
      case rel =>
        exact ⟨k + 1, by omega, by go_num, by rw [hst.out]⟩
      case measure => simp [intOf]; omega
    · go_wp2
      go_ret
      have : k = b := by omega
      subst this
      exact ⟨rfl, ((Below.refl _ _).alloc (Nat.le_refl _) _).alloc (by simp) _⟩

theorem get_any (x a b : Int) (w : World) :
    Calls Try.prog 11 #[I x, F a b] w fun e w' => e = .returned (I (getW x a b)) ∧ Below w.heap.size w w' := by
  unfold getW
  by_cases h : mayB a b = true
  · rw [if_pos h]
    obtain ⟨h1, h2, h3, h4⟩ := mayB_true h
    have := get_yes x a.toNat b.toNat w (by omega) (by omega) (by omega)
    rw [Int.toNat_of_nonneg h3, Int.toNat_of_nonneg (show 0 ≤ b by omega)] at this
    exact this
  · rw [if_neg h]
    exact get_no x a b w (by simpa using h)

/-- May that be put? -/
def putB (a b v : Int) : Bool := mayB a b && decide (0 ≤ v ∧ v < 2 ^ b.toNat)

theorem putB_true {a b v : Int} (h : putB a b v = true) : (1 ≤ b ∧ b ≤ 62 ∧ 0 ≤ a ∧ a ≤ 64 - b) ∧ 0 ≤ v ∧ v < 2 ^ b.toNat := by
  unfold putB at h
  rw [Bool.and_eq_true] at h
  exact ⟨mayB_true h.1, of_decide_eq_true h.2⟩

theorem wrap_pow {b : Nat} (h : b ≤ 62) : wrap64 (2 ^ b) = 2 ^ b := by
  have h2 := pow_le62 h
  have h0 : (0 : Int) < 2 ^ b := Int.pow_pos (by decide)
  exact wrap_id (by unfold Fits; omega)

set_option maxHeartbeats 400000 in
theorem put_yes (x : Int) (a b : Nat) (v : Int) (w : World) (hx : Fits x) (h1 : 1 ≤ b) (h2 : b ≤ 62) (h3 : a + b ≤ 64) (v0 : 0 ≤ v) (v1 : v < 2 ^ b) :
    Calls Try.prog 12 #[I x, F a b, I v] w fun e w' => e = .returned (.tuple #[I (putI x a b v), I 0]) ∧ Below w.heap.size w w' := by
  have H : Hid (mayB a b = true) := decide_eq_true ⟨by omega, by omega, by omega, by omega⟩
  have h64 : (a : Int) + b ≤ 64 := by omega
  rw [← wrap_pow h2] at v1
  have HX : Hid (Fits x) := hx
  clear hx
  go_enter Try.func12, Try.ntmps12
  go_wp2_with (go_at_call 16; refine (mayBe_any _ _ _).mono ?_; rintro e w' ⟨rfl, rfl⟩; rw [H.out])
  go_loopw [0, 26] (fun y i u => ∃ k : Nat, k ≤ b ∧ i = .int .i64 k ∧ y = .int .i64 (putI x a k v) ∧ u.cell? ⟨w.heap.size, 0, none⟩ = some (I a) ∧ Below w.heap.size w u) (fun _ i _ => b - (intOf i).toNat)
  case atStart => exact ⟨0, Nat.zero_le _, rfl, by rw [putI_zero HX.out], by simp, ((Below.refl _ _).alloc (Nat.le_refl _) _).alloc (by simp) _⟩
  case round =>
    obtain ⟨k, hk, rfl, rfl, hc, hb⟩ := hrel
    have HB : Hid (Below w.heap.size w _) := hb
    clear hb
    by_cases hlt : k < b
    · have hst : Hid (bits .or .i64 (bits .andNot .i64 (putI x a k v) (wrap64 (2 ^ (a + k)))) (wrap64 (bI v k * 2 ^ (a + k))) = putI x a (k + 1) v) := by
        have := putI_step x v a k (by omega)
        rw [Int.one_mul] at this
        exact this
      go_wp2
      go_quiet ((go_at_call 17; exact Calls.quiet_of_same (bit_any _ _ _ (by omega) (by omega))))
      go_wp2
      go_roundw
      case rel =>
        exact ⟨k + 1, by omega, by go_num, by rw [hst.out], by simpa using hc, below_drewN HB.out _⟩
      case measure => simp [intOf]; omega
    · go_wp2
      go_ret2
      have : k = b := by omega
      subst this
      exact ⟨rfl, HB.out⟩

set_option maxHeartbeats 400000 in
theorem put_no1 (x a b v : Int) (w : World) (h : mayB a b = false) :
    Calls Try.prog 12 #[I x, F a b, I v] w fun e w' => e = .returned (.tuple #[I 0, I 10]) ∧ Below w.heap.size w w' := by
  have H : Hid (mayB a b = false) := h
  clear h
  go_enter Try.func12, Try.ntmps12
  go_wp2_with (go_at_call 16; refine (mayBe_any _ _ _).mono ?_; rintro e w' ⟨rfl, rfl⟩; rw [H.out])
  go_ret2
  exact ⟨rfl, ((Below.refl _ _).alloc (Nat.le_refl _) _).alloc (by simp) _⟩

set_option maxHeartbeats 400000 in
theorem put_no2 (x a b v : Int) (w : World) (h : mayB a b = true) (hv : v < 0) :
    Calls Try.prog 12 #[I x, F a b, I v] w fun e w' => e = .returned (.tuple #[I 0, I 10]) ∧ Below w.heap.size w w' := by
  have H : Hid (mayB a b = true) := h
  clear h
  go_enter Try.func12, Try.ntmps12
  go_wp2_with (go_at_call 16; refine (mayBe_any _ _ _).mono ?_; rintro e w' ⟨rfl, rfl⟩; rw [H.out])
  go_ret2
  exact ⟨rfl, ((Below.refl _ _).alloc (Nat.le_refl _) _).alloc (by simp) _⟩

set_option maxHeartbeats 400000 in
theorem put_no3 (x a : Int) (b : Nat) (v : Int) (w : World) (h : mayB a b = true) (hv0 : 0 ≤ v) (hv : 2 ^ b ≤ v) :
    Calls Try.prog 12 #[I x, F a b, I v] w fun e w' => e = .returned (.tuple #[I 0, I 10]) ∧ Below w.heap.size w w' := by
  have H : Hid (mayB a b = true) := h
  have h2 := (mayB_true h).2.1
  rw [← wrap_pow (show b ≤ 62 by omega)] at hv
  clear h
  go_enter Try.func12, Try.ntmps12
  go_wp2_with (go_at_call 16; refine (mayBe_any _ _ _).mono ?_; rintro e w' ⟨rfl, rfl⟩; rw [H.out])
  go_ret2
  exact ⟨rfl, ((Below.refl _ _).alloc (Nat.le_refl _) _).alloc (by simp) _⟩

/-- What Put answers: the word, and the error's number. -/
def putW (x a b v : Int) : Int := if putB a b v = true then putI x a.toNat b.toNat v else 0
def putE (a b v : Int) : Int := if putB a b v = true then 0 else 10

theorem put_any (x a b v : Int) (w : World) (hx : Fits x) :
    Calls Try.prog 12 #[I x, F a b, I v] w fun e w' => e = .returned (.tuple #[I (putW x a b v), I (putE a b v)]) ∧ Below w.heap.size w w' := by
  unfold putW putE
  by_cases h : putB a b v = true
  · rw [if_pos h, if_pos h]
    obtain ⟨⟨h1, h2, h3, h4⟩, h5, h6⟩ := putB_true h
    have := put_yes x a.toNat b.toNat v w hx (by omega) (by omega) (by omega) h5 h6
    rw [Int.toNat_of_nonneg h3, Int.toNat_of_nonneg (show 0 ≤ b by omega)] at this
    exact this
  · rw [if_neg h, if_neg h]
    by_cases hm : mayB a b = true
    · by_cases hv : v < 0
      · exact put_no2 x a b v w hm hv
      · obtain ⟨h1, h2, h3, h4⟩ := mayB_true hm
        have hb : ((b.toNat : Nat) : Int) = b := Int.toNat_of_nonneg (by omega)
        have hv2 : 2 ^ b.toNat ≤ v := by
          have : ¬ (0 ≤ v ∧ v < 2 ^ b.toNat) := by
            intro hh
            exact h (by unfold putB; rw [hm, decide_eq_true hh]; rfl)
          omega
        have := put_no3 x a b.toNat v w (by rw [hb]; exact hm) (by omega) hv2
        rw [hb] at this
        exact this
    · exact put_no1 x a b v w (by simpa using hm)

end Go.Proofs.Ytaoahnpdhkdebaa
