/-
  What the statement WordBack does, for every word, field and values: it answers true; of memory that was there nothing changes.
-/
import Derived.Test.YtaoahnpdhkdebaaAwake
import Derived.Test.YtaoahnpdhkdebaaRef
import Derived.Test.YtaoahnpdhkdebaaFacts
import Derived.Deep.RegionHeld3
namespace Go.Proofs.Ytaoahnpdhkdebaa
open Go.RowKit Pl

/-- What holds behind each call: of what was there nothing has changed, and the field lies where it was laid. -/
structure InvF (w u : World) (g : Nat) (a b : Int) : Prop where
  below : Below w.heap.size w u
  fa : u.cell? ⟨g, 0, none⟩ = some (I a)
  fb : u.cell? ⟨g, 1, none⟩ = some (I b)

theorem InvF.later {w u u' : World} {g : Nat} {a b : Int} (h : InvF w u g a b) (hb : Below u.heap.size u u') : InvF w u' g a b :=
  ⟨h.below.trans (hb.mono h.below.size), cell_later hb h.fa, cell_later hb h.fb⟩

theorem InvF.start {w w1 : World} {a b : Int} (hb : Below (w.alloc (.cells #[I a, I b] 26)).heap.size (w.alloc (.cells #[I a, I b] 26)) w1) : InvF w w1 w.heap.size a b :=
  InvF.later ⟨(Below.refl _ _).alloc (Nat.le_refl _) _, by simp, by simp⟩ hb

theorem ret_bool {p : Bool} (h : p = true) : Ending.returned (.bool p) = .returned (.bool true) := by rw [h]

theorem keep3 {w u u' : World} {g : Nat} {a b : Int} (hb : Below u.heap.size u u') (h0 : u.cell? ⟨g, 0, none⟩ = some (I a)) (h1 : u.cell? ⟨g, 1, none⟩ = some (I b)) (h2 : Below w.heap.size w u) :
    u'.cell? ⟨g, 0, none⟩ = some (I a) ∧ u'.cell? ⟨g, 1, none⟩ = some (I b) ∧ Below w.heap.size w u' :=
  ⟨cell_later hb h0, cell_later hb h1, h2.trans (hb.mono h2.size)⟩

set_option maxHeartbeats 1000000 in
theorem back_no (x a b v w' : Int) (w : World) (hx : Fits x) (hp : putB a b v = false) :
    Calls Try.prog 5 #[I x, F a b, I v, I w'] w fun e u => e = .returned (.bool true) ∧ Below w.heap.size w u := by
  have hW : putW x a b v = 0 := by unfold putW; rw [hp]; rfl
  have hE : putE a b v = 10 := by unfold putE; rw [hp]; rfl
  have HW : Hid (putW x a b v = 0) := hW
  have HE : Hid (putE a b v = 10) := hE
  have HX : Hid (Fits x) := hx
  clear hx hW hE hp
  go_enter Try.func5, Try.ntmps5
  go_wp2_with fail
  refine (awake_any _).mono ?_
  rintro e w1 ⟨rfl, hb1⟩
  have HI1 : Hid (InvF w w1 w.heap.size a b) := InvF.start hb1
  clear hb1
  have fa1 := HI1.out.fa
  have fb1 := HI1.out.fb
  go_wp2_with fail
  refine (put_any x a b v _ HX.out).mono ?_
  rintro e w2 ⟨rfl, hb2⟩
  rw [HW.out, HE.out]
  have HI2 : Hid (InvF w w2 w.heap.size a b) := HI1.out.later hb2
  clear hb2 fa1 fb1 HI1
  have fa2 := HI2.out.fa
  have fb2 := HI2.out.fb
  go_wp2_with fail
  refine (rput_any x a b v _).mono ?_
  rintro e w3 ⟨rfl, hb3⟩
  rw [HW.out, HE.out]
  have HI3 : Hid (InvF w w3 w.heap.size a b) := HI2.out.later hb3
  clear hb3 fa2 fb2 HI2
  go_wp2
  go_ret
  exact ⟨rfl, HI3.out.below⟩

set_option maxHeartbeats 2000000 in
theorem back_yes (x : Int) (a b : Nat) (v w' : Int) (w : World) (hx : Fits x) (h1 : 1 ≤ b) (h2 : b ≤ 62) (h3 : a + b ≤ 64) (v0 : 0 ≤ v) (v1 : v < 2 ^ b) :
    Calls Try.prog 5 #[I x, F a b, I v, I w'] w fun e u => e = .returned (.bool true) ∧ Below w.heap.size w u := by
  have hm : mayB (a : Int) (b : Int) = true := decide_eq_true ⟨by omega, by omega, by omega, by omega⟩
  have hp : putB (a : Int) (b : Int) v = true := by unfold putB; rw [hm, Int.toNat_natCast, decide_eq_true ⟨v0, v1⟩]; rfl
  have hp2 : putB (a : Int) (b : Int) (getI x a b) = true := by
    unfold putB; rw [hm, Int.toNat_natCast, decide_eq_true ⟨getI_nonneg _ _ _, getI_lt _ _ _⟩]; rfl
  have HW : Hid (putW x a b v = putI x a b v) := by unfold putW; rw [hp, if_pos rfl, Int.toNat_natCast, Int.toNat_natCast]; rfl
  have HE : Hid (putE a b v = 0) := by unfold putE; rw [hp]; rfl
  have HG : Hid (getW (putI x a b v) a b = v) := by unfold getW; rw [hm, if_pos rfl, Int.toNat_natCast, Int.toNat_natCast, get_put _ _ _ _ h2 h3 v0 v1]; rfl
  have HG2 : Hid (getW x a b = getI x a b) := by unfold getW; rw [hm, if_pos rfl, Int.toNat_natCast, Int.toNat_natCast]; rfl
  have HW2 : Hid (putW x a b (getI x a b) = x) := by unfold putW; rw [hp2, if_pos rfl, Int.toNat_natCast, Int.toNat_natCast, put_get hx _ _ h3]; rfl
  have HE2 : Hid (putE a b (getI x a b) = 0) := by unfold putE; rw [hp2]; rfl
  have HZ : Hid (putW (putI x a b v) a b w' = putW x a b w') := by
    unfold putW
    rw [Int.toNat_natCast, Int.toNat_natCast, put_put _ _ _ _ _ h2]; rfl
  have HK : Hid ((bits .andNot .i64 (putI x a b v) (wrap64 (wrap64 (wrap64 (2 ^ b) - 1) * 2 ^ a)) == bits .andNot .i64 x (wrap64 (wrap64 (wrap64 (2 ^ b) - 1) * 2 ^ a))) = true) := by
    have hp := pow_le62 h2
    have hq : (0 : Int) < 2 ^ b := Int.pow_pos (by decide)
    rw [wrap_pow h2, wrap_id (show Fits ((2 : Int) ^ b - 1) by unfold Fits; omega), put_mask x v a b h2 h3]
    exact beq_self_eq_true _
  have HY : Hid (Fits (putI x a b v)) := putI_fits _ _ _ _
  have HX : Hid (Fits x) := hx
  clear hx hm hp hp2
  go_enter Try.func5, Try.ntmps5
  go_wp2_with fail
  refine (awake_any _).mono ?_
  rintro e w1 ⟨rfl, hb1⟩
  have HI1 : Hid (InvF w w1 w.heap.size a b) := InvF.start hb1
  clear hb1
  have fa1 := HI1.out.fa
  have fb1 := HI1.out.fb
  go_wp2_with fail
  refine (put_any x a b v _ HX.out).mono ?_
  rintro e w2 ⟨rfl, hb2⟩
  rw [HW.out, HE.out]
  have HI2 : Hid (InvF w w2 w.heap.size a b) := HI1.out.later hb2
  clear hb2 fa1 fb1 HI1
  have fa2 := HI2.out.fa
  have fb2 := HI2.out.fb
  go_wp2_with fail
  refine (rput_any x a b v _).mono ?_
  rintro e w3 ⟨rfl, hb3⟩
  rw [HW.out, HE.out]
  have HI3 : Hid (InvF w w3 w.heap.size a b) := HI2.out.later hb3
  clear hb3 fa2 fb2 HI2
  have fa3 := HI3.out.fa
  have fb3 := HI3.out.fb
  go_wp2_with fail
  refine (get_any _ a b _).mono ?_
  rintro e w4 ⟨rfl, hb4⟩
  rw [HG.out]
  have HI4 : Hid (InvF w w4 w.heap.size a b) := HI3.out.later hb4
  clear hb4 fa3 fb3 HI3
  have fa4 := HI4.out.fa
  have fb4 := HI4.out.fb
  go_wp2_with fail
  have bl4 := HI4.out.below.drew
  go_region_held3 (fun u => u.cell? ⟨w.heap.size, 0, none⟩ = some (I a) ∧ u.cell? ⟨w.heap.size, 1, none⟩ = some (I b) ∧ Below w.heap.size w u)
    (first | (exact keep3 ‹_› ‹_› ‹_› ‹_›) | (go_split_ands; exact keep3 ‹_› ‹_› ‹_› ‹_›) | (simp [go_sem, *]; done))
    (first
      | (go_at_call 11; refine (get_any x a b _).mono ?_; rintro e w5 ⟨rfl, hb5⟩; rw [HG2.out])
      | (go_at_call 12; clear hb5; refine (put_any x a b (getI x a b) _ HX.out).mono ?_; rintro e w6 ⟨rfl, hb6⟩; rw [HW2.out, HE2.out]))
  rename_i hH
  have HI6 : Hid (InvF w w6 w.heap.size a b) := ⟨hH.2.2, hH.1, hH.2.1⟩
  clear hH hb6 bl4 fa4 fb4 HI4
  have fa6 := HI6.out.fa
  have fb6 := HI6.out.fb
  go_wp2_with fail
  refine (put_any (putI x a b v) a b w' _ HY.out).mono ?_
  rintro e w7 ⟨rfl, hb7⟩
  rw [HZ.out]
  have HI7 : Hid (InvF w w7 w.heap.size a b) := HI6.out.later hb7
  clear hb7 fa6 fb6 HI6
  have fa7 := HI7.out.fa
  have fb7 := HI7.out.fb
  go_wp2_with fail
  refine (put_any x a b w' _ HX.out).mono ?_
  rintro e w8 ⟨rfl, hb8⟩
  have HI8 : Hid (InvF w w8 w.heap.size a b) := HI7.out.later hb8
  clear hb8 fa7 fb7 HI7
  have fa8 := HI8.out.fa
  have fb8 := HI8.out.fb
  go_wp2_with fail
  go_quiet (fail)
  go_wp2
  go_ret
  exact ⟨ret_bool HK.out, below_drewN HI8.out.below _⟩

theorem back_any (x a b v w' : Int) (w : World) (hx : Fits x) :
    Calls Try.prog 5 #[I x, F a b, I v, I w'] w fun e u => e = .returned (.bool true) ∧ Below w.heap.size w u := by
  by_cases h : putB a b v = true
  · obtain ⟨⟨h1, h2, h3, h4⟩, h5, h6⟩ := putB_true h
    have := back_yes x a.toNat b.toNat v w' w hx (by omega) (by omega) (by omega) h5 h6
    rw [Int.toNat_of_nonneg h3, Int.toNat_of_nonneg (show 0 ≤ b by omega)] at this
    exact this
  · exact back_no x a b v w' w hx (Bool.eq_false_iff.2 h)

end Go.Proofs.Ytaoahnpdhkdebaa
