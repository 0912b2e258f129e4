/-
  What the document's objects can do, as the reference tells it: counter, latch.
-/
import Derived.Test.YteniopbmkooomaaWays3
namespace Go.Proofs.Yteniopbmkooomaa
open Go.RowKit Hi Go.Deep Go.Maps

theorem wrap_left (n : Int) : IntKind.i64.wrap n = wrap64 n := IntWalk.i64_left n

set_option maxHeartbeats 4000000 in
set_option maxRecDepth 100000 in
theorem ways3_one (n z : Int) (sv : Value) (x : Ev) (h1 : x.op = 1) (w : World) (h : SI w sv [z]) :
    Calls Try.prog 20 #[I 3, I n, sv, evV x] w fun e w' => ∃ v, e = .returned v ∧ WOuts w' v (refWays 3 n [z] x) ∧ Below w.heap.size w w' := by
  have e1 : refWays 3 n [z] x = [((0, 0), [wrap64 (z + x.a.tmod 1000)])] := by simp [refWays, h1]
  rw [e1]
  have HS : Hid (SI w sv [z]) := h
  obtain ⟨p, cap, rfl, hc, hm, h3⟩ := h
  obtain ⟨blk, off, rfl, hlb, hr⟩ := h3 0 z rfl
  have hz : w.cell? ⟨blk, off, none⟩ = some (I z) := by simpa using hr 0 (I z) rfl
  unfold maxLen at hm
  have hz1 : (w.alloc (.cells (evC x) 33)).cell? ⟨blk, off, none⟩ = some (I z) := one_old hz _
  have hxa : (w.alloc (.cells (evC x) 33)).cell? ⟨w.heap.size, 2, none⟩ = some (I x.a) := World.cell?_alloc_at _ _ _ _ rfl
  clear h3 hr e1
  have h1' : (x.op == 1) = true := by simpa using h1
  clear h1
  go_enter Try.func20, Try.ntmps20
  go_wp2_with fail
  go_region_held3 (fun u => u.cell? ⟨blk, off, none⟩ = some (I z) ∧ u.cell? ⟨w.heap.size, 2, none⟩ = some (I x.a))
    (first | (exact keep2 ‹_› (below_alloc (Below.refl _ _) _)) | (simp [go_sem, *]; done))
    (fail)
  rename_i hH
  clear hH
  go_wp2_with fail
  go_ret
  exact ⟨_, rfl, wouts_one (o := ((0, 0), [wrap64 (z + x.a.tmod 1000)])) (range_drew1 (range_new _ _ _ _ _ rfl (by simp))) (si_drew (si_one (by rw [← wrap_left]; simp [go_sem]))), below_drew (below_alloc (below_alloc (below_alloc (Below.refl _ _) _) _) _)⟩

set_option maxHeartbeats 4000000 in
set_option maxRecDepth 100000 in
theorem ways3_two (n z : Int) (sv : Value) (x : Ev) (h1 : x.op = 2) (w : World) (h : SI w sv [z]) :
    Calls Try.prog 20 #[I 3, I n, sv, evV x] w fun e w' => ∃ v, e = .returned v ∧ WOuts w' v (refWays 3 n [z] x) ∧ Below w.heap.size w w' := by
  have e1 : refWays 3 n [z] x = [((0, z), [z])] := by simp [refWays, h1]
  rw [e1]
  have HS : Hid (SI w sv [z]) := h
  obtain ⟨p, cap, rfl, hc, hm, h3⟩ := h
  obtain ⟨blk, off, rfl, hlb, hr⟩ := h3 0 z rfl
  have hz : w.cell? ⟨blk, off, none⟩ = some (I z) := by simpa using hr 0 (I z) rfl
  unfold maxLen at hm
  have hz1 : (w.alloc (.cells (evC x) 33)).cell? ⟨blk, off, none⟩ = some (I z) := one_old hz _
  have hxa : (w.alloc (.cells (evC x) 33)).cell? ⟨w.heap.size, 2, none⟩ = some (I x.a) := World.cell?_alloc_at _ _ _ _ rfl
  clear h3 hr e1
  have h1' : (x.op == 1) = false := by rw [h1]; rfl
  have h2' : (x.op == 2) = true := by rw [h1]; rfl
  clear h1
  go_enter Try.func20, Try.ntmps20
  go_wp2_with (go_at_call 40; refine (ok_exact z _).mono ?_; rintro e w5 ⟨rfl, rfl⟩)
  go_ret
  exact ⟨_, rfl, wouts_one (o := ((0, z), [z])) (sv := .slice (some ⟨blk, off, none⟩) 1 cap) (range_new _ _ _ _ _ rfl (by simp)) (HS.out.later (below_alloc (below_alloc (below_alloc (Below.refl _ _) _) _) _)), below_alloc (below_alloc (below_alloc (Below.refl _ _) _) _) _⟩

set_option maxHeartbeats 4000000 in
set_option maxRecDepth 100000 in
theorem ways3_none (n z : Int) (sv : Value) (x : Ev) (h1 : ¬ x.op = 1) (h2 : ¬ x.op = 2) (w : World) (h : SI w sv [z]) :
    Calls Try.prog 20 #[I 3, I n, sv, evV x] w fun e w' => ∃ v, e = .returned v ∧ WOuts w' v (refWays 3 n [z] x) ∧ Below w.heap.size w w' := by
  have e1 : refWays 3 n [z] x = [] := by simp [refWays, h1, h2]
  rw [e1]
  have HS : Hid (SI w sv [z]) := h
  obtain ⟨p, cap, rfl, hc, hm, h3⟩ := h
  obtain ⟨blk, off, rfl, hlb, hr⟩ := h3 0 z rfl
  have hz : w.cell? ⟨blk, off, none⟩ = some (I z) := by simpa using hr 0 (I z) rfl
  unfold maxLen at hm
  have hz1 : (w.alloc (.cells (evC x) 33)).cell? ⟨blk, off, none⟩ = some (I z) := one_old hz _
  have hxa : (w.alloc (.cells (evC x) 33)).cell? ⟨w.heap.size, 2, none⟩ = some (I x.a) := World.cell?_alloc_at _ _ _ _ rfl
  clear h3 hr e1
  have h1' : (x.op == 1) = false := by simpa using h1
  have h2' : (x.op == 2) = false := by simpa using h2
  clear h1 h2
  go_enter Try.func20, Try.ntmps20
  go_wp2_with fail
  go_ret
  exact ⟨_, rfl, wouts_nil _, below_alloc (Below.refl _ _) _⟩

set_option maxHeartbeats 4000000 in
set_option maxRecDepth 100000 in
theorem ways4_down (n z : Int) (sv : Value) (x : Ev) (h1 : x.op = 1) (hp : 0 < z) (w : World) (h : SI w sv [z]) :
    Calls Try.prog 20 #[I 4, I n, sv, evV x] w fun e w' => ∃ v, e = .returned v ∧ WOuts w' v (refWays 4 n [z] x) ∧ Below w.heap.size w w' := by
  have e1 : refWays 4 n [z] x = [((0, 0), [wrap64 (z - 1)])] := by simp [refWays, h1, hp]
  rw [e1]
  have HS : Hid (SI w sv [z]) := h
  obtain ⟨p, cap, rfl, hc, hm, h3⟩ := h
  obtain ⟨blk, off, rfl, hlb, hr⟩ := h3 0 z rfl
  have hz : w.cell? ⟨blk, off, none⟩ = some (I z) := by simpa using hr 0 (I z) rfl
  unfold maxLen at hm
  have hz1 : (w.alloc (.cells (evC x) 33)).cell? ⟨blk, off, none⟩ = some (I z) := one_old hz _
  have hxa : (w.alloc (.cells (evC x) 33)).cell? ⟨w.heap.size, 2, none⟩ = some (I x.a) := World.cell?_alloc_at _ _ _ _ rfl
  clear h3 hr e1
  have h1' : (x.op == 1) = true := by simpa using h1
  have hp' : decide (z > 0) = true := by simpa using hp
  clear h1 hp
  go_enter Try.func20, Try.ntmps20
  go_wp2_with fail
  go_ret
  exact ⟨_, rfl, wouts_one (o := ((0, 0), [wrap64 (z - 1)])) (range_new _ _ _ _ _ rfl (by simp)) (si_one (by simp [go_sem])), below_alloc (below_alloc (below_alloc (Below.refl _ _) _) _) _⟩

set_option maxHeartbeats 4000000 in
set_option maxRecDepth 100000 in
theorem ways4_low (n z : Int) (sv : Value) (x : Ev) (h1 : x.op = 1) (hp : ¬ 0 < z) (w : World) (h : SI w sv [z]) :
    Calls Try.prog 20 #[I 4, I n, sv, evV x] w fun e w' => ∃ v, e = .returned v ∧ WOuts w' v (refWays 4 n [z] x) ∧ Below w.heap.size w w' := by
  have e1 : refWays 4 n [z] x = [((50, 0), [z])] := by simp [refWays, h1, hp]
  rw [e1]
  have HS : Hid (SI w sv [z]) := h
  obtain ⟨p, cap, rfl, hc, hm, h3⟩ := h
  obtain ⟨blk, off, rfl, hlb, hr⟩ := h3 0 z rfl
  have hz : w.cell? ⟨blk, off, none⟩ = some (I z) := by simpa using hr 0 (I z) rfl
  unfold maxLen at hm
  have hz1 : (w.alloc (.cells (evC x) 33)).cell? ⟨blk, off, none⟩ = some (I z) := one_old hz _
  have hxa : (w.alloc (.cells (evC x) 33)).cell? ⟨w.heap.size, 2, none⟩ = some (I x.a) := World.cell?_alloc_at _ _ _ _ rfl
  clear h3 hr e1
  have h1' : (x.op == 1) = true := by simpa using h1
  have hp' : decide (z > 0) = false := by simpa using hp
  clear h1 hp
  go_enter Try.func20, Try.ntmps20
  go_wp2_with fail
  go_ret
  exact ⟨_, rfl, wouts_one (o := ((50, 0), [z])) (sv := .slice (some ⟨blk, off, none⟩) 1 cap) (range_new _ _ _ _ _ rfl (by simp)) (HS.out.later (below_alloc (below_alloc (Below.refl _ _) _) _)), below_alloc (below_alloc (Below.refl _ _) _) _⟩

set_option maxHeartbeats 4000000 in
set_option maxRecDepth 100000 in
theorem ways4_wait (n z : Int) (sv : Value) (x : Ev) (h1 : x.op = 2) (hp : z = 0) (w : World) (h : SI w sv [z]) :
    Calls Try.prog 20 #[I 4, I n, sv, evV x] w fun e w' => ∃ v, e = .returned v ∧ WOuts w' v (refWays 4 n [z] x) ∧ Below w.heap.size w w' := by
  have e1 : refWays 4 n [z] x = [((0, 0), [z])] := by simp [refWays, h1, hp]
  rw [e1]
  have HS : Hid (SI w sv [z]) := h
  obtain ⟨p, cap, rfl, hc, hm, h3⟩ := h
  obtain ⟨blk, off, rfl, hlb, hr⟩ := h3 0 z rfl
  have hz : w.cell? ⟨blk, off, none⟩ = some (I z) := by simpa using hr 0 (I z) rfl
  unfold maxLen at hm
  have hz1 : (w.alloc (.cells (evC x) 33)).cell? ⟨blk, off, none⟩ = some (I z) := one_old hz _
  have hxa : (w.alloc (.cells (evC x) 33)).cell? ⟨w.heap.size, 2, none⟩ = some (I x.a) := World.cell?_alloc_at _ _ _ _ rfl
  clear h3 hr e1
  have h1' : (x.op == 1) = false := by rw [h1]; rfl
  have h2' : (x.op == 2) = true := by rw [h1]; rfl
  have hp' : (z == 0) = true := by simpa using hp
  clear h1 hp
  go_enter Try.func20, Try.ntmps20
  go_wp2_with fail
  go_ret
  exact ⟨_, rfl, wouts_one (o := ((0, 0), [z])) (sv := .slice (some ⟨blk, off, none⟩) 1 cap) (range_new _ _ _ _ _ rfl (by simp)) (HS.out.later (below_alloc (below_alloc (Below.refl _ _) _) _)), below_alloc (below_alloc (Below.refl _ _) _) _⟩

set_option maxHeartbeats 4000000 in
set_option maxRecDepth 100000 in
theorem ways4_not (n z : Int) (sv : Value) (x : Ev) (h1 : x.op = 2) (hp : ¬ z = 0) (w : World) (h : SI w sv [z]) :
    Calls Try.prog 20 #[I 4, I n, sv, evV x] w fun e w' => ∃ v, e = .returned v ∧ WOuts w' v (refWays 4 n [z] x) ∧ Below w.heap.size w w' := by
  have e1 : refWays 4 n [z] x = [] := by simp [refWays, h1, hp]
  rw [e1]
  have HS : Hid (SI w sv [z]) := h
  obtain ⟨p, cap, rfl, hc, hm, h3⟩ := h
  obtain ⟨blk, off, rfl, hlb, hr⟩ := h3 0 z rfl
  have hz : w.cell? ⟨blk, off, none⟩ = some (I z) := by simpa using hr 0 (I z) rfl
  unfold maxLen at hm
  have hz1 : (w.alloc (.cells (evC x) 33)).cell? ⟨blk, off, none⟩ = some (I z) := one_old hz _
  have hxa : (w.alloc (.cells (evC x) 33)).cell? ⟨w.heap.size, 2, none⟩ = some (I x.a) := World.cell?_alloc_at _ _ _ _ rfl
  clear h3 hr e1
  have h1' : (x.op == 1) = false := by rw [h1]; rfl
  have h2' : (x.op == 2) = true := by rw [h1]; rfl
  have hp' : (z == 0) = false := by simpa using hp
  clear h1 hp
  go_enter Try.func20, Try.ntmps20
  go_wp2_with fail
  go_ret
  exact ⟨_, rfl, wouts_nil _, below_alloc (Below.refl _ _) _⟩

set_option maxHeartbeats 4000000 in
set_option maxRecDepth 100000 in
theorem ways4_none (n z : Int) (sv : Value) (x : Ev) (h1 : ¬ x.op = 1) (h2 : ¬ x.op = 2) (w : World) (h : SI w sv [z]) :
    Calls Try.prog 20 #[I 4, I n, sv, evV x] w fun e w' => ∃ v, e = .returned v ∧ WOuts w' v (refWays 4 n [z] x) ∧ Below w.heap.size w w' := by
  have e1 : refWays 4 n [z] x = [] := by simp [refWays, h1, h2]
  rw [e1]
  have HS : Hid (SI w sv [z]) := h
  obtain ⟨p, cap, rfl, hc, hm, h3⟩ := h
  obtain ⟨blk, off, rfl, hlb, hr⟩ := h3 0 z rfl
  have hz : w.cell? ⟨blk, off, none⟩ = some (I z) := by simpa using hr 0 (I z) rfl
  unfold maxLen at hm
  have hz1 : (w.alloc (.cells (evC x) 33)).cell? ⟨blk, off, none⟩ = some (I z) := one_old hz _
  have hxa : (w.alloc (.cells (evC x) 33)).cell? ⟨w.heap.size, 2, none⟩ = some (I x.a) := World.cell?_alloc_at _ _ _ _ rfl
  clear h3 hr e1
  have h1' : (x.op == 1) = false := by simpa using h1
  have h2' : (x.op == 2) = false := by simpa using h2
  clear h1 h2
  go_enter Try.func20, Try.ntmps20
  go_wp2_with fail
  go_ret
  exact ⟨_, rfl, wouts_nil _, below_alloc (Below.refl _ _) _⟩

end Go.Proofs.Yteniopbmkooomaa
