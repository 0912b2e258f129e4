/-
  What the head of every statement of layer 1 does (the document's examples): it answers true; of memory that was there nothing changes.
-/
import Derived.Test.YtaoahnpdhkdebaaRight
namespace Go.Proofs.Ytaoahnpdhkdebaa
open Go.RowKit Pl

theorem ex1 : putW 0 2 8 255 = 1020 := by decide +kernel
theorem ex2 : putE 2 8 255 = 0 := by decide +kernel
theorem ex3 : getW 14 1 2 = 3 := by decide +kernel
theorem ex4 : putE 2 8 256 = 10 := by decide +kernel
theorem ex5 : rightFrom 0 [(0, 2), (2, 8)] = true := by decide +kernel
theorem fits0 : Fits 0 := by unfold Fits; omega

theorem two_fields (w : World) (a b c d : Int) :
    Holds (w.alloc (.cells #[.int .i64 a, .int .i64 b, .int .i64 c, .int .i64 d] 26)) (.slice (some ⟨w.heap.size, 0, none⟩) 2 2) [(a, b), (c, d)] := by
  refine .inr ⟨w.heap.size, 0, 2, rfl, by simp [maxLen], fun i hi => ?_⟩
  have : i = 0 ∨ i = 1 := by simp at hi; omega
  rcases this with rfl | rfl <;> simp

set_option maxHeartbeats 400000 in
theorem awake_any (w : World) :
    Calls Try.prog 8 #[] w fun e w' => e = .returned (.bool true) ∧ Below w.heap.size w w' := by
  go_enter Try.func8, Try.ntmps8
  go_wp2_with fail
  refine (put_any 0 2 8 255 _ fits0).mono ?_
  rintro e w1 ⟨rfl, hb1⟩
  rw [ex1, ex2]
  have HB1 : Hid (Below w.heap.size w w1) := hb1
  clear hb1
  go_wp2_with fail
  refine (get_any 14 1 2 _).mono ?_
  rintro e w2 ⟨rfl, hb2⟩
  rw [ex3]
  have HB2 : Hid (Below w.heap.size w w2) := HB1.out.trans (hb2.mono HB1.out.size)
  clear hb2
  go_wp2_with fail
  refine (put_any 0 2 8 256 _ fits0).mono ?_
  rintro e w3 ⟨rfl, hb3⟩
  rw [ex4]
  have HB3 : Hid (Below w.heap.size w w3) := HB2.out.trans (hb3.mono HB2.out.size)
  clear hb3
  go_wp2_with fail
  refine (right_any _ [(0, 2), (2, 8)] _ (two_fields w3 0 2 2 8)).mono ?_
  rintro e w4 ⟨rfl, hb4⟩
  rw [ex5]
  have HB4 : Hid (Below w.heap.size w w4) := (HB3.out.alloc HB3.out.size _).trans (hb4.mono (by simp; have := HB3.out.size; omega))
  clear hb4
  go_wp2
  go_ret
  exact ⟨rfl, HB4.out⟩

set_option maxHeartbeats 400000 in
theorem num_any (n : Int) (w : World) :
    Calls Try.prog 9 #[I n] w fun e w' => e = .returned (I n) ∧ w' = w := by
  go_enter Try.func9, Try.ntmps9
  go_wp2
  go_ret
  exact ⟨rfl, rfl⟩

set_option maxHeartbeats 400000 in
theorem names_any (w : World) :
    Calls Try.prog 3 #[] w fun e w' => e = .returned (.bool true) ∧ Below w.heap.size w w' := by
  go_enter Try.func3, Try.ntmps3
  go_wp2_with fail
  refine (awake_any _).mono ?_
  rintro e w1 ⟨rfl, hb1⟩
  have HB1 : Hid (Below w.heap.size w w1) := hb1
  clear hb1
  go_wp2_with (go_at_call 9; refine (num_any _ _).mono ?_; rintro e w' ⟨rfl, rfl⟩)
  go_ret
  exact ⟨rfl, HB1.out⟩

end Go.Proofs.Ytaoahnpdhkdebaa
