/-
  What a pile does when it is asked.
-/
import Derived.Test.YteniopbmkooomaaPush
import Derived.Test.YteniopbmkooomaaOf
namespace Go.Proofs.Yteniopbmkooomaa
open Go.RowKit Hi Go.Deep Go.Maps

theorem keep10 {u u' : World} {a1 a2 a3 a4 a5 a6 a7 a8 a9 a10 : Addr} {v1 v2 v3 v4 v5 v6 v7 v8 v9 v10 : Value} (h : u.cell? a1 = some v1 ∧ u.cell? a2 = some v2 ∧ u.cell? a3 = some v3 ∧ u.cell? a4 = some v4 ∧ u.cell? a5 = some v5 ∧ u.cell? a6 = some v6 ∧ u.cell? a7 = some v7 ∧ u.cell? a8 = some v8 ∧ u.cell? a9 = some v9 ∧ u.cell? a10 = some v10) (hb : Below u.heap.size u u') : u'.cell? a1 = some v1 ∧ u'.cell? a2 = some v2 ∧ u'.cell? a3 = some v3 ∧ u'.cell? a4 = some v4 ∧ u'.cell? a5 = some v5 ∧ u'.cell? a6 = some v6 ∧ u'.cell? a7 = some v7 ∧ u'.cell? a8 = some v8 ∧ u'.cell? a9 = some v9 ∧ u'.cell? a10 = some v10 := by
  obtain ⟨h1, h2, h3, h4, h5, h6, h7, h8, h9, h10⟩ := h
  exact ⟨kcell hb h1, kcell hb h2, kcell hb h3, kcell hb h4, kcell hb h5, kcell hb h6, kcell hb h7, kcell hb h8, kcell hb h9, kcell hb h10⟩
theorem keep8 {u u' : World} {a1 a2 a3 a4 a5 a6 a7 a8 : Addr} {v1 v2 v3 v4 v5 v6 v7 v8 : Value} (h : u.cell? a1 = some v1 ∧ u.cell? a2 = some v2 ∧ u.cell? a3 = some v3 ∧ u.cell? a4 = some v4 ∧ u.cell? a5 = some v5 ∧ u.cell? a6 = some v6 ∧ u.cell? a7 = some v7 ∧ u.cell? a8 = some v8) (hb : Below u.heap.size u u') : u'.cell? a1 = some v1 ∧ u'.cell? a2 = some v2 ∧ u'.cell? a3 = some v3 ∧ u'.cell? a4 = some v4 ∧ u'.cell? a5 = some v5 ∧ u'.cell? a6 = some v6 ∧ u'.cell? a7 = some v7 ∧ u'.cell? a8 = some v8 := by
  obtain ⟨h1, h2, h3, h4, h5, h6, h7, h8⟩ := h
  exact ⟨kcell hb h1, kcell hb h2, kcell hb h3, kcell hb h4, kcell hb h5, kcell hb h6, kcell hb h7, kcell hb h8⟩

set_option maxHeartbeats 4000000 in
theorem ask_push (g0 g1 g2 g3 g4 g5 n : Int) (d : Bool) (q0 q1 q2 q3 q4 q5 m : Int) (d' : Bool) (x : Ev) (h1 : x.op = 1) (r : Int) (br : Nat)
    (hpush : ∀ w, Calls Try.prog 51 #[.agg (rawP g0 g1 g2 g3 g4 g5 n d), I x.a, I r] w fun e w' => e = .returned (.agg (rawP q0 q1 q2 q3 q4 q5 m d')) ∧ Below w.heap.size w w') (w : World) (hr : w.cell? ⟨br, 0, none⟩ = some (I r)) :
    Calls Try.prog 50 #[.agg (rawP g0 g1 g2 g3 g4 g5 n d), evV x, P1 br] w fun e w' => ∃ blk, e = .returned (.slice (some ⟨blk, 0, none⟩) 2 2) ∧ w'.rangeAt blk 0 (I 0 :: I 0 :: (rawP q0 q1 q2 q3 q4 q5 m d').toList) ∧ w'.rangeAt blk 10 (I 80 :: I 0 :: (rawP g0 g1 g2 g3 g4 g5 n d).toList) ∧ Below w.heap.size w w' := by
  have h1' : (x.op == 1) = true := by simpa using h1
  have HP : Hid (∀ w, Calls Try.prog 51 #[.agg (rawP g0 g1 g2 g3 g4 g5 n d), I x.a, I r] w fun e w' => e = .returned (.agg (rawP q0 q1 q2 q3 q4 q5 m d')) ∧ Below w.heap.size w w') := hpush
  have lr := World.block_lt_of_cell? _ _ hr
  simp only [] at lr
  clear h1 hpush
  go_enter Try.func50, Try.ntmps50
  go_wp2_with fail
  go_region_held3 (fun u => u.cell? ⟨w.heap.size, 0, none⟩ = some (I g0) ∧ u.cell? ⟨w.heap.size, 1, none⟩ = some (I g1) ∧ u.cell? ⟨w.heap.size, 2, none⟩ = some (I g2) ∧ u.cell? ⟨w.heap.size, 3, none⟩ = some (I g3) ∧ u.cell? ⟨w.heap.size, 4, none⟩ = some (I g4) ∧ u.cell? ⟨w.heap.size, 5, none⟩ = some (I g5) ∧ u.cell? ⟨w.heap.size, 6, none⟩ = some (I n) ∧ u.cell? ⟨w.heap.size, 7, none⟩ = some (.bool d) ∧ u.cell? ⟨w.heap.size + 1, 2, none⟩ = some (I x.a) ∧ u.cell? ⟨br, 0, none⟩ = some (I r))
    (first | (exact keep10 ‹_› ‹Below _ _ _›) | (exact keep10 ‹_› (below_alloc (Below.refl _ _) _)) | (simp [go_sem, *]; done))
    (first
      | (go_at_call 51; refine (HP.out _).mono ?_; rintro e w5 ⟨rfl, hb5⟩))
  rename_i hH
  clear hH
  go_wp2_with fail
  go_ret
  refine ⟨_, rfl, range_new _ _ _ _ _ rfl rfl, range_new _ _ _ _ _ rfl rfl, ?_⟩
  exact below_alloc (below_step (below_drew (below_alloc (below_alloc (Below.refl _ _) _) _)) hb5) _

set_option maxHeartbeats 4000000 in
theorem ask_pop (g0 g1 g2 g3 g4 g5 n : Int) (hn : 0 < n) (d : Bool) (q0 q1 q2 q3 q4 q5 m : Int) (d' : Bool) (x : Ev) (h1 : x.op = 2) (br : Nat)
    (hpush : ∀ w, Calls Try.prog 52 #[.agg (rawP g0 g1 g2 g3 g4 g5 n d)] w fun e w' => e = .returned (.agg (rawP q0 q1 q2 q3 q4 q5 m d')) ∧ Below w.heap.size w w') (w : World) :
    Calls Try.prog 50 #[.agg (rawP g0 g1 g2 g3 g4 g5 n d), evV x, P1 br] w fun e w' => ∃ blk, e = .returned (.slice (some ⟨blk, 0, none⟩) 1 1) ∧ w'.rangeAt blk 0 (I 0 :: I g0 :: (rawP q0 q1 q2 q3 q4 q5 m d').toList) ∧ Below w.heap.size w w' := by
  have h1' : (x.op == 1) = false := by rw [h1]; rfl
  have h2' : (x.op == 2) = true := by rw [h1]; rfl
  have HP : Hid (∀ w, Calls Try.prog 52 #[.agg (rawP g0 g1 g2 g3 g4 g5 n d)] w fun e w' => e = .returned (.agg (rawP q0 q1 q2 q3 q4 q5 m d')) ∧ Below w.heap.size w w') := hpush
  have hn' : decide (n > 0) = true := by simpa using hn
  clear h1 hpush
  go_enter Try.func50, Try.ntmps50
  go_wp2_with fail
  go_region_held3 (fun u => u.cell? ⟨w.heap.size, 0, none⟩ = some (I g0) ∧ u.cell? ⟨w.heap.size, 1, none⟩ = some (I g1) ∧ u.cell? ⟨w.heap.size, 2, none⟩ = some (I g2) ∧ u.cell? ⟨w.heap.size, 3, none⟩ = some (I g3) ∧ u.cell? ⟨w.heap.size, 4, none⟩ = some (I g4) ∧ u.cell? ⟨w.heap.size, 5, none⟩ = some (I g5) ∧ u.cell? ⟨w.heap.size, 6, none⟩ = some (I n) ∧ u.cell? ⟨w.heap.size, 7, none⟩ = some (.bool d))
    (first | (exact keep8 ‹_› ‹Below _ _ _›) | (exact keep8 ‹_› (below_alloc (Below.refl _ _) _)) | (simp [go_sem, *]; done))
    (first
      | (go_at_call 52; refine (HP.out _).mono ?_; rintro e w5 ⟨rfl, hb5⟩))
  rename_i hH
  clear hH
  go_wp2_with fail
  go_ret
  refine ⟨_, rfl, range_new _ _ _ _ _ rfl rfl, ?_⟩
  exact below_alloc (below_step (below_drew (below_alloc (below_alloc (Below.refl _ _) _) _)) hb5) _

set_option maxHeartbeats 4000000 in
theorem ask_empty (g0 g1 g2 g3 g4 g5 : Int) (x : Ev) (h1 : x.op = 2) (br : Nat) (w : World) :
    Calls Try.prog 50 #[.agg (rawP g0 g1 g2 g3 g4 g5 0 false), evV x, P1 br] w fun e w' => ∃ blk, e = .returned (.slice (some ⟨blk, 0, none⟩) 1 1) ∧ w'.rangeAt blk 0 (I 90 :: I 0 :: (rawP g0 g1 g2 g3 g4 g5 0 false).toList) ∧ Below w.heap.size w w' := by
  have h1' : (x.op == 1) = false := by rw [h1]; rfl
  have h2' : (x.op == 2) = true := by rw [h1]; rfl
  clear h1
  go_enter Try.func50, Try.ntmps50
  go_wp2_with fail
  go_ret
  refine ⟨_, rfl, range_new _ _ _ _ _ rfl (by simp), ?_⟩
  exact below_alloc (below_alloc (below_alloc (Below.refl _ _) _) _) _

set_option maxHeartbeats 4000000 in
theorem ask_deep (g0 g1 g2 g3 g4 g5 : Int) (x : Ev) (h1 : x.op = 2) (br : Nat) (w : World) :
    Calls Try.prog 50 #[.agg (rawP g0 g1 g2 g3 g4 g5 0 true), evV x, P1 br] w fun e w' => e = .returned (.slice none 0 0) ∧ Below w.heap.size w w' := by
  have h1' : (x.op == 1) = false := by rw [h1]; rfl
  have h2' : (x.op == 2) = true := by rw [h1]; rfl
  clear h1
  go_enter Try.func50, Try.ntmps50
  go_wp2_with fail
  go_ret
  exact ⟨rfl, below_alloc (below_alloc (Below.refl _ _) _) _⟩

set_option maxHeartbeats 4000000 in
theorem ask_other (g0 g1 g2 g3 g4 g5 n : Int) (d : Bool) (x : Ev) (h1 : ¬ x.op = 1) (h2 : ¬ x.op = 2) (br : Nat) (w : World) :
    Calls Try.prog 50 #[.agg (rawP g0 g1 g2 g3 g4 g5 n d), evV x, P1 br] w fun e w' => e = .returned (.slice none 0 0) ∧ Below w.heap.size w w' := by
  have h1' : (x.op == 1) = false := by simpa using h1
  have h2' : (x.op == 2) = false := by simpa using h2
  clear h1 h2
  go_enter Try.func50, Try.ntmps50
  go_wp2_with fail
  go_ret
  exact ⟨rfl, below_alloc (below_alloc (Below.refl _ _) _) _⟩

end Go.Proofs.Yteniopbmkooomaa
