/-
  What the document's objects can do, as the reference tells it: adder, counter, latch; first states.
-/
import Derived.Test.YteniopbmkooomaaWays2
import Derived.Deep.RegionWith
namespace Go.Proofs.Yteniopbmkooomaa
open Go.RowKit Hi Go.Deep Go.Maps

theorem si_one {w : World} {blk : Nat} {z : Int} (h : w.cell? ⟨blk, 0, none⟩ = some (I z)) : SI w (.slice (some ⟨blk, 0, none⟩) 1 1) [z] :=
  ⟨_, _, rfl, Nat.le_refl _, by unfold maxLen; omega, fun i a hi => by
    cases i with
    | zero =>
      simp at hi; subst hi
      refine ⟨blk, 0, rfl, World.block_lt_of_cell? _ _ h, fun j u hj => ?_⟩
      cases j with
      | zero => simp [encI] at hj; subst hj; simpa using h
      | succ j => simp [encI] at hj
    | succ i => simp at hi⟩

theorem make_nums (n : Nat) (hn : n ≤ 1048576) (w : World) :
    (Instr.makeSlice 47 (.int .i64 (n : Int)) (.int .i64 (n : Int))).run Try.prog w = .ok (.slice (some ⟨w.heap.size, 0, none⟩) n n) (w.alloc (.cells (madeCells #[I 0] n) 3)) := by
  cases hq : Try.prog.info? 3 with
  | none => have := info3; rw [hq] at this; cases this
  | some i =>
    have hi := info3
    rw [hq] at hi
    simp only [Option.map_some, Option.some.injEq, Prod.mk.injEq] at hi
    obtain ⟨hz, hs, hb⟩ := hi
    have := run_make (P := Try.prog) w 47 3 i _ Try.underlying47 hq hz .i64 .i64 (n : Int) (n : Int) (by omega) (by omega) (by rw [hb]; omega) (by omega)
    rw [hs] at this
    rw [this]
    simp [Value.cells]

theorem si_zeros (w : World) (n : Nat) (hn : n ≤ 1048576) : SI (w.alloc (.cells (madeCells #[I 0] n) 3)) (.slice (some ⟨w.heap.size, 0, none⟩) n n) (List.replicate n 0) := by
  refine ⟨some ⟨w.heap.size, 0, none⟩, n, by simp, by simp, by unfold maxLen; omega, fun i a hi => ?_⟩
  have hil : i < n := by simpa using (List.getElem?_eq_some_iff.1 hi).1
  have ha : a = 0 := by simpa [hil] using hi.symm
  subst ha
  refine ⟨w.heap.size, 0, rfl, by simp, fun j u hj => ?_⟩
  cases j with
  | zero =>
    simp [encI] at hj; subst hj
    rw [World.cell?_alloc_at _ _ _ _ rfl]
    simp [madeCells, hil, Nat.mod_one]
  | succ j => simp [encI] at hj

set_option maxHeartbeats 400000 in
theorem ok_exact (v : Int) (w : World) : Calls Try.prog 40 #[I v] w fun e w' => e = .returned (.agg #[I 0, I v]) ∧ w' = w.alloc (.cells #[I 0, I v] 31) := by
  go_enter Try.func40, Try.ntmps40
  go_wp2
  exact bodyPost_ret (v := .agg #[I 0, I v]) (by simp [results, Try.results40, go_sem]) rfl ⟨rfl, rfl⟩

set_option maxHeartbeats 1000000 in
theorem first_any (ob st : Int) (h : Starts ob st) (w : World) :
    Calls Try.prog 19 #[I ob, I st] w fun e w' => ∃ v, e = .returned v ∧ SI w' v (firstOf ob st) ∧ Below w.heap.size w w' := by
  by_cases h2 : ob = 2
  · subst h2
    go_enter Try.func19, Try.ntmps19
    go_wp2
    go_ret
    exact ⟨_, rfl, ⟨none, 0, rfl, Nat.le_refl _, Nat.zero_le _, fun i a hi => by simp [firstOf] at hi⟩, Below.refl _ _⟩
  · have b2 : (ob == 2) = false := by simpa using h2
    by_cases h5 : ob = 5
    · have hst : 1 ≤ st ∧ st ≤ 1000 := by
        rcases h with h | h | h | h | h <;> omega
      have hf : firstOf ob st = List.replicate (3 * st.toNat) 0 := by unfold firstOf; rw [if_neg h2, if_pos h5]
      rw [hf]
      subst h5
      obtain ⟨m, hm⟩ : ∃ m : Nat, (m : Int) = st := ⟨st.toNat, by omega⟩
      have hmk := make_nums (3 * m) (by omega)
      have h3 : (3 : Int) * st = ((3 * m : Nat) : Int) := by omega
      have h4 : 3 * st.toNat = 3 * m := by omega
      rw [h4]
      have hn : 3 * m ≤ 3000 := by omega
      generalize 3 * m = n at hmk h3 hn ⊢
      clear h hf h2 h4 hm
      go_enter Try.func19, Try.ntmps19
      go_wp2_with fail
      go_ret
      exact ⟨_, rfl, si_zeros w n (by omega), below_alloc (Below.refl _ _) _⟩
    · have b5 : (ob == 5) = false := by simpa using h5
      have hf : firstOf ob st = [st] := by unfold firstOf; rw [if_neg h2, if_neg h5]
      rw [hf]
      clear h hf h2 h5
      go_enter Try.func19, Try.ntmps19
      go_wp2
      go_ret
      exact ⟨_, rfl, si_one (World.cell?_alloc_at _ _ _ _ rfl), below_alloc (Below.refl _ _) _⟩

theorem range_drew1 {w : World} {b o : Nat} {cs : List Value} (h : w.rangeAt b o cs) : w.drew.rangeAt b o cs := h
theorem si_drew {w : World} {v : Value} {s : List Int} (h : SI w v s) : SI w.drew v s := h.later (below_drew (Below.refl _ _))

set_option maxHeartbeats 4000000 in
set_option maxRecDepth 100000 in
theorem ways1_one (n z : Int) (sv : Value) (x : Ev) (h1 : x.op = 1) (w : World) (h : SI w sv [z]) :
    Calls Try.prog 20 #[I 1, I n, sv, evV x] w fun e w' => ∃ v, e = .returned v ∧ WOuts w' v (refWays 1 n [z] x) ∧ Below w.heap.size w w' := by
  have e1 : refWays 1 n [z] x = [((0, z), [wrap64 (z + x.a)])] := by simp [refWays, h1]
  rw [e1]
  have HS : Hid (SI w sv [z]) := h
  obtain ⟨p, cap, rfl, hc, hm, h3⟩ := h
  obtain ⟨blk, off, rfl, hlb, hr⟩ := h3 0 z rfl
  have hz : w.cell? ⟨blk, off, none⟩ = some (I z) := by simpa using hr 0 (I z) rfl
  unfold maxLen at hm
  have hz1 : (w.alloc (.cells (evC x) 33)).cell? ⟨blk, off, none⟩ = some (I z) := one_old hz _
  have hxa : (w.alloc (.cells (evC x) 33)).cell? ⟨w.heap.size, 2, none⟩ = some (I x.a) := World.cell?_alloc_at _ _ _ _ rfl
  clear h3 hr e1
  have h1' : (x.op == 1) = true := by simpa using h1
  clear h1
  go_enter Try.func20, Try.ntmps20
  go_wp2_with fail
  go_region_held (fun u => u.cell? ⟨blk, off, none⟩ = some (I z) ∧ u.cell? ⟨w.heap.size, 2, none⟩ = some (I x.a))
    (first | (exact keep2 ‹_› (below_alloc (Below.refl _ _) _)) | (exact ⟨kcell (below_drew (below_alloc (below_alloc (below_alloc (Below.refl _ _) _) _) _)) hz1, kcell (below_drew (below_alloc (below_alloc (below_alloc (Below.refl _ _) _) _) _)) hxa⟩) | (simp [go_sem, *]; done))
    (first
      | (go_at_call 40; refine (ok_exact z _).mono ?_; rintro e w5 ⟨rfl, rfl⟩))
  all_goals
    rename_i hH
    clear hH
    go_wp2_with fail
    go_ret
    exact ⟨_, rfl, wouts_one (o := ((0, z), [wrap64 (z + x.a)])) (range_drew1 (range_new _ _ _ _ _ rfl (by simp))) (si_drew (si_one (by simp [go_sem]))), below_drew (below_alloc (below_alloc (below_alloc (below_alloc (below_alloc (Below.refl _ _) _) _) _) _) _)⟩

set_option maxHeartbeats 4000000 in
set_option maxRecDepth 100000 in
theorem ways1_none (n z : Int) (sv : Value) (x : Ev) (h1 : ¬ x.op = 1) (h2 : ¬ x.op = 2) (w : World) (h : SI w sv [z]) :
    Calls Try.prog 20 #[I 1, I n, sv, evV x] w fun e w' => ∃ v, e = .returned v ∧ WOuts w' v (refWays 1 n [z] x) ∧ Below w.heap.size w w' := by
  have e1 : refWays 1 n [z] x = [] := by simp [refWays, h1, h2]
  rw [e1]
  have HS : Hid (SI w sv [z]) := h
  obtain ⟨p, cap, rfl, hc, hm, h3⟩ := h
  obtain ⟨blk, off, rfl, hlb, hr⟩ := h3 0 z rfl
  have hz : w.cell? ⟨blk, off, none⟩ = some (I z) := by simpa using hr 0 (I z) rfl
  unfold maxLen at hm
  have hz1 : (w.alloc (.cells (evC x) 33)).cell? ⟨blk, off, none⟩ = some (I z) := one_old hz _
  have hxa : (w.alloc (.cells (evC x) 33)).cell? ⟨w.heap.size, 2, none⟩ = some (I x.a) := World.cell?_alloc_at _ _ _ _ rfl
  clear h3 hr e1
  have h1' : (x.op == 1) = false := by simpa using h1
  have h2' : (x.op == 2) = false := by simpa using h2
  clear h1 h2
  go_enter Try.func20, Try.ntmps20
  go_wp2_with fail
  go_region_held (fun u => u.cell? ⟨blk, off, none⟩ = some (I z) ∧ u.cell? ⟨w.heap.size, 2, none⟩ = some (I x.a))
    (first | (exact keep2 ‹_› (below_alloc (Below.refl _ _) _)) | (exact ⟨kcell (below_drew (below_alloc (below_alloc (below_alloc (Below.refl _ _) _) _) _)) hz1, kcell (below_drew (below_alloc (below_alloc (below_alloc (Below.refl _ _) _) _) _)) hxa⟩) | (simp [go_sem, *]; done))
    (first
      | (go_at_call 40; refine (ok_exact z _).mono ?_; rintro e w5 ⟨rfl, rfl⟩))
  all_goals
    rename_i hH
    clear hH
    go_wp2_with fail
    go_ret
    exact ⟨_, rfl, wouts_nil _, below_drew (below_alloc (below_alloc (below_alloc (below_alloc (Below.refl _ _) _) _) _) _)⟩

set_option maxHeartbeats 4000000 in
set_option maxRecDepth 100000 in
theorem ways1_two (n z : Int) (sv : Value) (x : Ev) (h1 : x.op = 2) (w : World) (h : SI w sv [z]) :
    Calls Try.prog 20 #[I 1, I n, sv, evV x] w fun e w' => ∃ v, e = .returned v ∧ WOuts w' v (refWays 1 n [z] x) ∧ Below w.heap.size w w' := by
  have e1 : refWays 1 n [z] x = [((0, z), [wrap64 (z + x.a)]), ((0, -1), [z])] := by simp [refWays, h1]
  rw [e1]
  have HS : Hid (SI w sv [z]) := h
  obtain ⟨p, cap, rfl, hc, hm, h3⟩ := h
  obtain ⟨blk, off, rfl, hlb, hr⟩ := h3 0 z rfl
  have hz : w.cell? ⟨blk, off, none⟩ = some (I z) := by simpa using hr 0 (I z) rfl
  unfold maxLen at hm
  have hz1 : (w.alloc (.cells (evC x) 33)).cell? ⟨blk, off, none⟩ = some (I z) := one_old hz _
  have hxa : (w.alloc (.cells (evC x) 33)).cell? ⟨w.heap.size, 2, none⟩ = some (I x.a) := World.cell?_alloc_at _ _ _ _ rfl
  clear h3 hr e1
  have h1' : (x.op == 1) = false := by rw [h1]; rfl
  have h2' : (x.op == 2) = true := by rw [h1]; rfl
  clear h1
  go_enter Try.func20, Try.ntmps20
  go_wp2_with fail
  go_region_held (fun u => u.cell? ⟨blk, off, none⟩ = some (I z) ∧ u.cell? ⟨w.heap.size, 2, none⟩ = some (I x.a))
    (first | (exact keep2 ‹_› (below_alloc (Below.refl _ _) _)) | (exact ⟨kcell (below_drew (below_alloc (below_alloc (below_alloc (Below.refl _ _) _) _) _)) hz1, kcell (below_drew (below_alloc (below_alloc (below_alloc (Below.refl _ _) _) _) _)) hxa⟩) | (simp [go_sem, *]; done))
    (first
      | (go_at_call 40; refine (ok_exact z _).mono ?_; rintro e w5 ⟨rfl, rfl⟩))
  all_goals
    rename_i hH
    clear hH
    go_wp2_with fail
    go_region_with (first | (go_at_call 40; refine (ok_exact (-1) _).mono ?_; rintro e w5 ⟨rfl, rfl⟩))
    all_goals
      go_wp2_with fail
      go_ret
      refine ⟨_, rfl, wouts_two (o := ((0, z), [wrap64 (z + x.a)])) (o2 := ((0, -1), [z])) (sv2 := .slice (some ⟨blk, off, none⟩) 1 cap) (range_new _ _ _ _ _ rfl (by simp)) (si_one (by simp [go_sem])) (range_new _ _ _ _ _ rfl (by simp)) ?_, ?_⟩
      · exact HS.out.later (below_drew (below_drew (below_alloc (below_alloc (below_alloc (below_alloc (below_alloc (below_alloc (Below.refl _ _) _) _) _) _) _) _)))
      · exact below_drew (below_drew (below_alloc (below_alloc (below_alloc (below_alloc (below_alloc (below_alloc (Below.refl _ _) _) _) _) _) _) _))

end Go.Proofs.Yteniopbmkooomaa
