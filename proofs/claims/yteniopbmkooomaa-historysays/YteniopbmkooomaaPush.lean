/-
  What push and pop of a pile do.
-/
import Derived.Test.YteniopbmkooomaaPileA
import Derived.Lib.SliceRun
namespace Go.Proofs.Yteniopbmkooomaa
open Go.RowKit Hi Go.Deep Go.Maps

/-- Copying single cells, in whatever way they overlap. -/
theorem run_copy1 {P : Program} (w : World) (dT sT ty elem : TypeId) (b o n c b' o' n' c' : Nat) (cs : List Value) (hu : P.underlying dT = some (.slice elem)) (hs : (P.info? elem).map (·.size) = some 1) (hl : cs.length = Nat.min n' n)
    (hc : w.rangeAt b' o' cs) (ht : w.there b o cs.length) (h1 : ∀ v ∈ cs, v.oneCell' = true) :
    (Builtin.copy_ #[dT, sT] ty #[.slice (some ⟨b, o, none⟩) n c, .slice (some ⟨b', o', none⟩) n' c']).run P w = .ok (goInt cs.length) (w.setCells b o cs) := by
  have hld : (loadCells ⟨b', o', none⟩ cs.length).run P w = .ok cs.toArray w := run_loadCells_list (P := P) w ⟨b', o', none⟩ cs (fun j v hv => by rw [Addr.add_mid]; exact hc j v hv)
  have hst := run_storeCells_cells (P := P) b o cs 0 w (fun j hj => by simpa using (ht j hj).1) (fun j hj => by simpa using (ht j hj).2) h1
  simp only [Nat.add_zero] at hst
  cases hq : P.info? elem with
  | none => simp [hq] at hs
  | some i =>
    have hi : i.size = 1 := by simpa [hq] using hs
    simp [Builtin.copy_, run_underlying hu, Builtin.lenOf, Builtin.firstCells, sizeOf, typeInfo, hq, hi, ← hl, hld, hst]

abbrev rawP (g0 g1 g2 g3 g4 g5 n : Int) (d : Bool) : Array Value := #[I g0, I g1, I g2, I g3, I g4, I g5, I n, .bool d]

theorem cell_raw {w : World} {cs : Array Value} {Z : Obj} (i : Nat) : ((w.alloc (.cells cs 68)).alloc Z).drew.cell? ⟨w.heap.size, i, none⟩ = cs[i]? := by
  show ((w.alloc (.cells cs 68)).alloc Z).cell? ⟨w.heap.size, i, none⟩ = cs[i]?
  rw [World.cell?_alloc_past _ _ _ (by simp), World.cell?_alloc_at _ _ _ _ rfl]
theorem frozen_raw {w : World} {cs : Array Value} {Z : Obj} (i : Nat) : ((w.alloc (.cells cs 68)).alloc Z).drew.frozen? ⟨w.heap.size, i, none⟩ = false := by
  show ((w.alloc (.cells cs 68)).alloc Z).frozen? ⟨w.heap.size, i, none⟩ = false
  rw [World.frozen?_alloc_past _ _ _ (by simp), World.frozen?_alloc_at _ _ _ _ rfl]
theorem set_raw {w : World} {Z : Obj} : ∀ (l : List Value) (o : Nat) (cs : Array Value), ((w.alloc (.cells cs 68)).alloc Z).drew.setCells w.heap.size o l = ((w.alloc (.cells (setA cs o l) 68)).alloc Z).drew
  | [], _, _ => rfl
  | v :: r, o, cs => by
    rw [World.setCells, World.setCell_drew, World.setCell_alloc_past _ _ _ _ (by simp), World.setCell_alloc_at _ _ _ _ _ rfl, set_raw r]; rfl

theorem size3 : (Try.prog.info? 3).map (·.size) = some 1 := by kernel_rfl

theorem copy_up (w : World) (g0 g1 g2 g3 g4 g5 n : Int) (d : Bool) (Z : Obj) (ty : TypeId) :
    (Builtin.copy_ #[47, 47] ty #[.slice (some ⟨w.heap.size, 1, none⟩) 5 5, .slice (some ⟨w.heap.size, 0, none⟩) 6 6]).run Try.prog (((w.alloc (.cells (rawP g0 g1 g2 g3 g4 g5 n d) 68)).alloc Z).drew) =
      .ok (goInt 5) (((w.alloc (.cells (rawP g0 g0 g1 g2 g3 g4 n d) 68)).alloc Z).drew) := by
  rw [run_copy1 _ 47 47 ty 3 w.heap.size 1 5 5 w.heap.size 0 6 6 [I g0, I g1, I g2, I g3, I g4] Try.underlying47 size3 rfl ?_ ?_ ?_, set_raw]
  · rfl
  · intro j v hj
    rw [cell_raw]
    match j, hj with
    | 0, hj => exact hj
    | 1, hj => exact hj
    | 2, hj => exact hj
    | 3, hj => exact hj
    | 4, hj => exact hj
    | j + 5, hj => simp at hj
  · intro j hj
    rw [cell_raw, frozen_raw]
    simp at hj ⊢
    omega
  · intro v hv
    simp at hv
    rcases hv with rfl | rfl | rfl | rfl | rfl <;> rfl

theorem copy_down (w : World) (g0 g1 g2 g3 g4 g5 n : Int) (d : Bool) (Z : Obj) (ty : TypeId) :
    (Builtin.copy_ #[47, 47] ty #[.slice (some ⟨w.heap.size, 0, none⟩) 6 6, .slice (some ⟨w.heap.size, 1, none⟩) 5 5]).run Try.prog (((w.alloc (.cells (rawP g0 g1 g2 g3 g4 g5 n d) 68)).alloc Z).drew) =
      .ok (goInt 5) (((w.alloc (.cells (rawP g1 g2 g3 g4 g5 g5 n d) 68)).alloc Z).drew) := by
  rw [run_copy1 _ 47 47 ty 3 w.heap.size 0 6 6 w.heap.size 1 5 5 [I g1, I g2, I g3, I g4, I g5] Try.underlying47 size3 rfl ?_ ?_ ?_, set_raw]
  · rfl
  · intro j v hj
    rw [cell_raw]
    match j, hj with
    | 0, hj => exact hj
    | 1, hj => exact hj
    | 2, hj => exact hj
    | 3, hj => exact hj
    | 4, hj => exact hj
    | j + 5, hj => simp at hj
  · intro j hj
    rw [cell_raw, frozen_raw]
    simp at hj ⊢
    omega
  · intro v hv
    simp at hv
    rcases hv with rfl | rfl | rfl | rfl | rfl <;> rfl

theorem clear_from (w : World) (cs : Array Value) (hcs : cs.size = 8) (Z : Obj) (r m : Nat) (hm : r + (m + 1) = 6) (ty : TypeId) :
    (Builtin.clear_ #[47] ty #[.slice (some ⟨w.heap.size, r, none⟩) (m + 1) (m + 1)]).run Try.prog (((w.alloc (.cells cs 68)).alloc Z).drew) = .ok (.tuple #[]) (((w.alloc (.cells (setA cs r (List.replicate (m + 1) (I 0))) 68)).alloc Z).drew) := by
  rw [Lib.run_clear_slice _ 47 3 ty (I 0) Try.underlying47 (fun _ => by kernel_rfl) rfl rfl w.heap.size r (m + 1) (m + 1) (by omega), set_raw]
  · intro j hj
    rw [cell_raw]
    simp
    omega
  · intro j hj
    exact frozen_raw _

theorem below_drew {B : Nat} {a w : World} (h : Below B a w) : Below B a w.drew := ⟨h.os, h.tape, h.output, h.size, h.block⟩

set_option maxHeartbeats 1000000 in
theorem push_less (g0 g1 g2 g3 g4 g5 v : Int) (n r : Nat) (d : Bool) (hn : n < r) (h6 : n ≤ 5) (w : World) :
    Calls Try.prog 51 #[.agg (rawP g0 g1 g2 g3 g4 g5 n d), I v, I r] w fun e w' => e = .returned (.agg (rawP v g0 g1 g2 g3 g4 (n + 1) d)) ∧ Below w.heap.size w w' := by
  have hcp := fun Z ty => copy_up w g0 g1 g2 g3 g4 g5 n d Z ty
  have hne : ((n : Int) == (r : Int)) = false := by simp; omega
  go_enter Try.func51, Try.ntmps51
  go_wp2_with fail
  go_region
  go_wp2_with fail
  refine bodyPost_ret (v := .agg (rawP v g0 g1 g2 g3 g4 (n + 1) d)) (by simp [results, Try.results51, go_sem]) rfl ⟨rfl, ?_⟩
  exact below_drew (below_alloc (below_alloc (Below.refl _ _) _) _)

set_option maxHeartbeats 1000000 in
theorem push_full0 (g0 g1 g2 g3 g4 g5 v : Int) (d : Bool) (w : World) :
    Calls Try.prog 51 #[.agg (rawP g0 g1 g2 g3 g4 g5 0 d), I v, I 0] w fun e w' => e = .returned (.agg (rawP 0 0 0 0 0 0 0 true)) ∧ Below w.heap.size w w' := by
  have hcp := fun Z ty => copy_up w g0 g1 g2 g3 g4 g5 0 d Z ty
  have hcl : ∀ Z ty, (Builtin.clear_ #[47] ty #[.slice (some ⟨w.heap.size, 0, none⟩) 6 6]).run Try.prog (((w.alloc (.cells (rawP v g0 g1 g2 g3 g4 0 d) 68)).alloc Z).drew) = .ok (.tuple #[]) (((w.alloc (.cells (rawP 0 0 0 0 0 0 0 d) 68)).alloc Z).drew) := fun Z ty => clear_from w _ rfl Z 0 5 rfl ty
  go_enter Try.func51, Try.ntmps51
  go_wp2_with fail
  go_region
  go_wp2_with fail
  refine bodyPost_ret (v := .agg (rawP 0 0 0 0 0 0 0 true)) (by simp [results, Try.results51, go_sem]) rfl ⟨rfl, ?_⟩
  exact below_drew (below_alloc (below_alloc (Below.refl _ _) _) _)

set_option maxHeartbeats 1000000 in
theorem push_full1 (g0 g1 g2 g3 g4 g5 v : Int) (d : Bool) (w : World) :
    Calls Try.prog 51 #[.agg (rawP g0 g1 g2 g3 g4 g5 1 d), I v, I 1] w fun e w' => e = .returned (.agg (rawP v 0 0 0 0 0 1 true)) ∧ Below w.heap.size w w' := by
  have hcp := fun Z ty => copy_up w g0 g1 g2 g3 g4 g5 1 d Z ty
  have hcl : ∀ Z ty, (Builtin.clear_ #[47] ty #[.slice (some ⟨w.heap.size, 1, none⟩) 5 5]).run Try.prog (((w.alloc (.cells (rawP v g0 g1 g2 g3 g4 1 d) 68)).alloc Z).drew) = .ok (.tuple #[]) (((w.alloc (.cells (rawP v 0 0 0 0 0 1 d) 68)).alloc Z).drew) := fun Z ty => clear_from w _ rfl Z 1 4 rfl ty
  go_enter Try.func51, Try.ntmps51
  go_wp2_with fail
  go_region
  go_wp2_with fail
  refine bodyPost_ret (v := .agg (rawP v 0 0 0 0 0 1 true)) (by simp [results, Try.results51, go_sem]) rfl ⟨rfl, ?_⟩
  exact below_drew (below_alloc (below_alloc (Below.refl _ _) _) _)

set_option maxHeartbeats 1000000 in
theorem push_full2 (g0 g1 g2 g3 g4 g5 v : Int) (d : Bool) (w : World) :
    Calls Try.prog 51 #[.agg (rawP g0 g1 g2 g3 g4 g5 2 d), I v, I 2] w fun e w' => e = .returned (.agg (rawP v g0 0 0 0 0 2 true)) ∧ Below w.heap.size w w' := by
  have hcp := fun Z ty => copy_up w g0 g1 g2 g3 g4 g5 2 d Z ty
  have hcl : ∀ Z ty, (Builtin.clear_ #[47] ty #[.slice (some ⟨w.heap.size, 2, none⟩) 4 4]).run Try.prog (((w.alloc (.cells (rawP v g0 g1 g2 g3 g4 2 d) 68)).alloc Z).drew) = .ok (.tuple #[]) (((w.alloc (.cells (rawP v g0 0 0 0 0 2 d) 68)).alloc Z).drew) := fun Z ty => clear_from w _ rfl Z 2 3 rfl ty
  go_enter Try.func51, Try.ntmps51
  go_wp2_with fail
  go_region
  go_wp2_with fail
  refine bodyPost_ret (v := .agg (rawP v g0 0 0 0 0 2 true)) (by simp [results, Try.results51, go_sem]) rfl ⟨rfl, ?_⟩
  exact below_drew (below_alloc (below_alloc (Below.refl _ _) _) _)

set_option maxHeartbeats 1000000 in
theorem push_full3 (g0 g1 g2 g3 g4 g5 v : Int) (d : Bool) (w : World) :
    Calls Try.prog 51 #[.agg (rawP g0 g1 g2 g3 g4 g5 3 d), I v, I 3] w fun e w' => e = .returned (.agg (rawP v g0 g1 0 0 0 3 true)) ∧ Below w.heap.size w w' := by
  have hcp := fun Z ty => copy_up w g0 g1 g2 g3 g4 g5 3 d Z ty
  have hcl : ∀ Z ty, (Builtin.clear_ #[47] ty #[.slice (some ⟨w.heap.size, 3, none⟩) 3 3]).run Try.prog (((w.alloc (.cells (rawP v g0 g1 g2 g3 g4 3 d) 68)).alloc Z).drew) = .ok (.tuple #[]) (((w.alloc (.cells (rawP v g0 g1 0 0 0 3 d) 68)).alloc Z).drew) := fun Z ty => clear_from w _ rfl Z 3 2 rfl ty
  go_enter Try.func51, Try.ntmps51
  go_wp2_with fail
  go_region
  go_wp2_with fail
  refine bodyPost_ret (v := .agg (rawP v g0 g1 0 0 0 3 true)) (by simp [results, Try.results51, go_sem]) rfl ⟨rfl, ?_⟩
  exact below_drew (below_alloc (below_alloc (Below.refl _ _) _) _)

set_option maxHeartbeats 1000000 in
theorem push_full4 (g0 g1 g2 g3 g4 g5 v : Int) (d : Bool) (w : World) :
    Calls Try.prog 51 #[.agg (rawP g0 g1 g2 g3 g4 g5 4 d), I v, I 4] w fun e w' => e = .returned (.agg (rawP v g0 g1 g2 0 0 4 true)) ∧ Below w.heap.size w w' := by
  have hcp := fun Z ty => copy_up w g0 g1 g2 g3 g4 g5 4 d Z ty
  have hcl : ∀ Z ty, (Builtin.clear_ #[47] ty #[.slice (some ⟨w.heap.size, 4, none⟩) 2 2]).run Try.prog (((w.alloc (.cells (rawP v g0 g1 g2 g3 g4 4 d) 68)).alloc Z).drew) = .ok (.tuple #[]) (((w.alloc (.cells (rawP v g0 g1 g2 0 0 4 d) 68)).alloc Z).drew) := fun Z ty => clear_from w _ rfl Z 4 1 rfl ty
  go_enter Try.func51, Try.ntmps51
  go_wp2_with fail
  go_region
  go_wp2_with fail
  refine bodyPost_ret (v := .agg (rawP v g0 g1 g2 0 0 4 true)) (by simp [results, Try.results51, go_sem]) rfl ⟨rfl, ?_⟩
  exact below_drew (below_alloc (below_alloc (Below.refl _ _) _) _)

set_option maxHeartbeats 1000000 in
theorem push_full5 (g0 g1 g2 g3 g4 g5 v : Int) (d : Bool) (w : World) :
    Calls Try.prog 51 #[.agg (rawP g0 g1 g2 g3 g4 g5 5 d), I v, I 5] w fun e w' => e = .returned (.agg (rawP v g0 g1 g2 g3 0 5 true)) ∧ Below w.heap.size w w' := by
  have hcp := fun Z ty => copy_up w g0 g1 g2 g3 g4 g5 5 d Z ty
  have hcl : ∀ Z ty, (Builtin.clear_ #[47] ty #[.slice (some ⟨w.heap.size, 5, none⟩) 1 1]).run Try.prog (((w.alloc (.cells (rawP v g0 g1 g2 g3 g4 5 d) 68)).alloc Z).drew) = .ok (.tuple #[]) (((w.alloc (.cells (rawP v g0 g1 g2 g3 0 5 d) 68)).alloc Z).drew) := fun Z ty => clear_from w _ rfl Z 5 0 rfl ty
  go_enter Try.func51, Try.ntmps51
  go_wp2_with fail
  go_region
  go_wp2_with fail
  refine bodyPost_ret (v := .agg (rawP v g0 g1 g2 g3 0 5 true)) (by simp [results, Try.results51, go_sem]) rfl ⟨rfl, ?_⟩
  exact below_drew (below_alloc (below_alloc (Below.refl _ _) _) _)

set_option maxHeartbeats 1000000 in
theorem pop_raw0 (g0 g1 g2 g3 g4 g5 : Int) (d : Bool) (w : World) :
    Calls Try.prog 52 #[.agg (rawP g0 g1 g2 g3 g4 g5 1 d)] w fun e w' => e = .returned (.agg (rawP 0 g2 g3 g4 g5 g5 0 d)) ∧ Below w.heap.size w w' := by
  have hcp := fun Z ty => copy_down w g0 g1 g2 g3 g4 g5 0 d Z ty
  go_enter Try.func52, Try.ntmps52
  go_wp2_with fail
  go_region
  go_wp2_with fail
  refine bodyPost_ret (v := .agg (rawP 0 g2 g3 g4 g5 g5 0 d)) (by simp [results, Try.results52, go_sem]) rfl ⟨rfl, ?_⟩
  exact below_drew (below_alloc (below_alloc (Below.refl _ _) _) _)

set_option maxHeartbeats 1000000 in
theorem pop_raw1 (g0 g1 g2 g3 g4 g5 : Int) (d : Bool) (w : World) :
    Calls Try.prog 52 #[.agg (rawP g0 g1 g2 g3 g4 g5 2 d)] w fun e w' => e = .returned (.agg (rawP g1 0 g3 g4 g5 g5 1 d)) ∧ Below w.heap.size w w' := by
  have hcp := fun Z ty => copy_down w g0 g1 g2 g3 g4 g5 1 d Z ty
  go_enter Try.func52, Try.ntmps52
  go_wp2_with fail
  go_region
  go_wp2_with fail
  refine bodyPost_ret (v := .agg (rawP g1 0 g3 g4 g5 g5 1 d)) (by simp [results, Try.results52, go_sem]) rfl ⟨rfl, ?_⟩
  exact below_drew (below_alloc (below_alloc (Below.refl _ _) _) _)

set_option maxHeartbeats 1000000 in
theorem pop_raw2 (g0 g1 g2 g3 g4 g5 : Int) (d : Bool) (w : World) :
    Calls Try.prog 52 #[.agg (rawP g0 g1 g2 g3 g4 g5 3 d)] w fun e w' => e = .returned (.agg (rawP g1 g2 0 g4 g5 g5 2 d)) ∧ Below w.heap.size w w' := by
  have hcp := fun Z ty => copy_down w g0 g1 g2 g3 g4 g5 2 d Z ty
  go_enter Try.func52, Try.ntmps52
  go_wp2_with fail
  go_region
  go_wp2_with fail
  refine bodyPost_ret (v := .agg (rawP g1 g2 0 g4 g5 g5 2 d)) (by simp [results, Try.results52, go_sem]) rfl ⟨rfl, ?_⟩
  exact below_drew (below_alloc (below_alloc (Below.refl _ _) _) _)

set_option maxHeartbeats 1000000 in
theorem pop_raw3 (g0 g1 g2 g3 g4 g5 : Int) (d : Bool) (w : World) :
    Calls Try.prog 52 #[.agg (rawP g0 g1 g2 g3 g4 g5 4 d)] w fun e w' => e = .returned (.agg (rawP g1 g2 g3 0 g5 g5 3 d)) ∧ Below w.heap.size w w' := by
  have hcp := fun Z ty => copy_down w g0 g1 g2 g3 g4 g5 3 d Z ty
  go_enter Try.func52, Try.ntmps52
  go_wp2_with fail
  go_region
  go_wp2_with fail
  refine bodyPost_ret (v := .agg (rawP g1 g2 g3 0 g5 g5 3 d)) (by simp [results, Try.results52, go_sem]) rfl ⟨rfl, ?_⟩
  exact below_drew (below_alloc (below_alloc (Below.refl _ _) _) _)

set_option maxHeartbeats 1000000 in
theorem pop_raw4 (g0 g1 g2 g3 g4 g5 : Int) (d : Bool) (w : World) :
    Calls Try.prog 52 #[.agg (rawP g0 g1 g2 g3 g4 g5 5 d)] w fun e w' => e = .returned (.agg (rawP g1 g2 g3 g4 0 g5 4 d)) ∧ Below w.heap.size w w' := by
  have hcp := fun Z ty => copy_down w g0 g1 g2 g3 g4 g5 4 d Z ty
  go_enter Try.func52, Try.ntmps52
  go_wp2_with fail
  go_region
  go_wp2_with fail
  refine bodyPost_ret (v := .agg (rawP g1 g2 g3 g4 0 g5 4 d)) (by simp [results, Try.results52, go_sem]) rfl ⟨rfl, ?_⟩
  exact below_drew (below_alloc (below_alloc (Below.refl _ _) _) _)

set_option maxHeartbeats 1000000 in
theorem pop_raw5 (g0 g1 g2 g3 g4 g5 : Int) (d : Bool) (w : World) :
    Calls Try.prog 52 #[.agg (rawP g0 g1 g2 g3 g4 g5 6 d)] w fun e w' => e = .returned (.agg (rawP g1 g2 g3 g4 g5 0 5 d)) ∧ Below w.heap.size w w' := by
  have hcp := fun Z ty => copy_down w g0 g1 g2 g3 g4 g5 5 d Z ty
  go_enter Try.func52, Try.ntmps52
  go_wp2_with fail
  go_region
  go_wp2_with fail
  refine bodyPost_ret (v := .agg (rawP g1 g2 g3 g4 g5 0 5 d)) (by simp [results, Try.results52, go_sem]) rfl ⟨rfl, ?_⟩
  exact below_drew (below_alloc (below_alloc (Below.refl _ _) _) _)

end Go.Proofs.Yteniopbmkooomaa
