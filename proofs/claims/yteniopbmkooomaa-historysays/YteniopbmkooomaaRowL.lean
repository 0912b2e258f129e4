/-
  Events one behind the other: what row makes.
-/
import Derived.Test.YteniopbmkooomaaWideF
namespace Go.Proofs.Yteniopbmkooomaa
open Go.RowKit Hi Go.Deep Go.Maps

/-- An event at its place in a row. -/
def atRow (x : Ev) (k : Nat) : Ev := { x with beg := 2 * k, fin := 2 * k + 1 }
def rowUp (l : List Ev) : Nat → List Ev
  | 0 => []
  | k + 1 => rowUp l k ++ [atRow (l.getD k ev0) k]
def rowOf (l : List Ev) : List Ev := rowUp l (Nat.min l.length 12)

theorem rowUp_len (l : List Ev) : ∀ k, (rowUp l k).length = k
  | 0 => rfl
  | k + 1 => by unfold rowUp; rw [List.length_append, rowUp_len l k]; rfl
theorem rowUp_get (l : List Ev) : ∀ k i, i < k → (rowUp l k).getD i ev0 = atRow (l.getD i ev0) i
  | 0, i, h => by omega
  | k + 1, i, h => by
    unfold rowUp
    rw [List.getD_eq_getElem?_getD]
    by_cases e : i = k
    · subst e
      rw [List.getElem?_append_right (by rw [rowUp_len]; omega), rowUp_len]
      simp
    · rw [List.getElem?_append_left (by rw [rowUp_len]; omega), ← List.getD_eq_getElem?_getD]
      exact rowUp_get l k i (by omega)
theorem rowOf_len (l : List Ev) : (rowOf l).length = Nat.min l.length 12 := rowUp_len _ _
theorem rowOf_len12 (l : List Ev) : (rowOf l).length ≤ 12 := by rw [rowOf_len]; exact Nat.min_le_right _ _
theorem rowOf_get {l : List Ev} {i : Nat} (h : i < (rowOf l).length) : (rowOf l).getD i ev0 = atRow (l.getD i ev0) i := rowUp_get _ _ _ (by rwa [rowOf_len] at h)
theorem rowOf_times {l : List Ev} : ∀ i, i < (rowOf l).length → ((rowOf l).getD i ev0).beg = 2 * i ∧ ((rowOf l).getD i ev0).fin = 2 * i + 1 := fun i hi => by rw [rowOf_get hi]; exact ⟨rfl, rfl⟩
theorem row_hist {r : List Ev} (h : ∀ i, i < r.length → (r.getD i ev0).beg = 2 * i ∧ (r.getD i ev0).fin = 2 * i + 1) : Hist r := fun i hi => by
  refine ⟨?_, fun k hk => fun _ => .inr ?_⟩
  · unfold Timed; rw [(h i hi).1, (h i hi).2]; omega
  · unfold evAhead
    have hk' : k < r.length := by omega
    rw [over_iff.2 (by rw [(h k hk').2]; omega), (h k hk').2, (h i hi).1]
    simp; omega
theorem rowOf_fits {l : List Ev} (hf : ∀ x ∈ l, Fits x.a ∧ Fits x.b) : ∀ i, i < (rowOf l).length → Fits ((rowOf l).getD i ev0).a ∧ Fits ((rowOf l).getD i ev0).b := fun i hi => by
  rw [rowOf_get hi]
  have hil : i < l.length := by rw [rowOf_len] at hi; exact Nat.lt_of_lt_of_le hi (Nat.min_le_left _ _)
  have hm : l.getD i ev0 ∈ l := by rw [List.getD_eq_getElem?_getD, List.getElem?_eq_getElem hil]; exact List.getElem_mem hil
  exact hf (l.getD i ev0) hm

theorem news8n (w : World) (e : Ev) (t : TypeId) {n : Nat} (hn : n = w.heap.size) : ∀ j u, (evL e)[j]? = some u → (w.alloc (.cells (evC e) t)).cell? ((⟨n, 0, none⟩ : Addr).add j) = some u := by
  subst hn; exact news8 w e t

set_option maxHeartbeats 2000000 in
set_option maxRecDepth 100000 in
theorem row_any (v : Value) (l : List Ev) (w : World) (h : SL 8 evL w v l) :
    Calls Try.prog 18 #[v] w fun e w' => ∃ v', e = .returned v' ∧ w'.ownsRow w.heap.size 33 8 v' (rowOf l).length ((rowOf l).flatMap evL) ∧ Below w.heap.size w w' := by
  obtain ⟨p, cap, rfl, hc, hm, h3⟩ := h
  have HSL : Hid (∀ i, i < l.length → ∃ blk off, p = some ⟨blk, off, none⟩ ∧ blk < w.heap.size ∧ w.rangeAt blk (off + i * 8) (evC (l.getD i ev0)).toList) := fun i hi => h3 i _ (getD_some hi ev0)
  unfold maxLen at hm
  clear h3
  go_enter Try.func18, Try.ntmps18
  go_wp2_with fail
  go_loopw [3, 4] (fun t i u => ∃ (k : Nat) (pl : Option Addr) (cpl : Nat), k ≤ Nat.min l.length 12 ∧ i = .int .i64 k ∧ t = .slice pl k cpl ∧ u.ownsRow w.heap.size 33 8 (.slice pl k cpl) k ((rowUp l k).flatMap evL) ∧ Below w.heap.size w u) (fun _ i _ => Nat.min l.length 12 - (intOf i).toNat)
  case atStart => exact ⟨0, none, 0, Nat.zero_le _, rfl, rfl, ⟨rfl, .inl ⟨rfl, rfl⟩⟩, Below.refl _ _⟩
  case round =>
    obtain ⟨k, pl, cpl, hk, rfl, rfl, hown, hb⟩ := hrel
    have HOWN : Hid (wr.ownsRow w.heap.size 33 8 (.slice pl k cpl) k ((rowUp l k).flatMap evL)) := hown
    have HB : Hid (Below w.heap.size w wr) := hb
    have hlr : w.heap.size ≤ wr.heap.size := hb.size
    have hk1 : k ≤ l.length := Nat.le_trans hk (Nat.min_le_left _ _)
    have hk2 : k ≤ 12 := Nat.le_trans hk (Nat.min_le_right _ _)
    clear hown hb
    by_cases hlt : k < l.length
    · by_cases h12 : k < 12
      · obtain ⟨blk, off, rfl, hlb, hr⟩ := HSL.out k hlt
        have hld := range_later HB.out hr hlb
        have hkm : k + 1 ≤ Nat.min l.length 12 := Nat.le_min.2 ⟨hlt, h12⟩
        have he : rowUp l (k + 1) = rowUp l k ++ [atRow (l.getD k ev0) k] := rfl
        have HE : Hid _ := he
        generalize l.getD k ev0 = x at hld HE
        have HL : Hid (wr.rangeAt blk (off + k * 8) (evC x).toList) := hld
        have hgb := own_block HOWN.out
        obtain ⟨j0, hj', hj0, hj1, hj2⟩ := info_parts info33
        clear hr hlb hld he
        go_wp2_with (first
          | ((with_reducible refine wp_load33 (.tmp 18) ?_ ?_ blk (off + k * 8) ?_ x ?_ ?_); rfl; rfl; rfl; exact HL.out)
          | (at_builtin; refine wpList_append_lies _ rfl (.tmp 27) (.tmp 29) 22 rfl w.heap.size 33 j0 _ 8 64 Try.underlying22 hj' hj0 hj1 hj2 rfl (by decide) (.slice pl k cpl) k ((rowUp l k).flatMap evL) rfl
                (own_later (below_alloc (below_alloc (Below.refl _ _) _) _) HOWN.out) ⟨wr.heap.size + 1, 0, none⟩ 1 1 (evL (atRow x k)) rfl rfl (news8n _ (atRow x k) _ (by simp)) (one8 _) (by decide) (by unfold maxLen; omega) (by omega) (by simp; omega) _ rfl ?_; intro g cpg w8 hown8 hgrow8 hat8 hlt8))
        have HO8 : Hid (w8.ownsRow w.heap.size 33 8 (.slice (some ⟨g, 0, none⟩) (k + 1) cpg) (k + 1) ((rowUp l k).flatMap evL ++ evL (atRow x k))) := hown8
        have HB8 : Hid (Below w.heap.size w w8) := (below_alloc (below_alloc HB.out _) _).grown hgrow8 (by simp; omega) (fun g hg => by have := hgb g hg; omega)
        clear hown8 hgrow8 hat8 hlt8 hgb
        go_wp2_with fail
        go_roundw
        case rel =>
          refine ⟨k + 1, some ⟨g, 0, none⟩, cpg, hkm, by go_num, rfl, ?_, HB8.out⟩
          rw [HE.out, List.flatMap_append]
          simpa using HO8.out
        case measure => simp [intOf]; omega
      · have : k = 12 := by omega
        subst this
        have hm12 : Nat.min l.length 12 = 12 := Nat.min_eq_right hk1
        go_wp2_with fail
        go_ret
        refine ⟨_, rfl, ?_, HB.out⟩
        rw [rowOf_len]
        unfold rowOf
        rw [hm12]
        exact HOWN.out
    · have : k = l.length := by omega
      subst this
      have hml : Nat.min l.length 12 = l.length := Nat.min_eq_left hk2
      go_wp2_with fail
      go_ret
      refine ⟨_, rfl, ?_, HB.out⟩
      rw [rowOf_len]
      unfold rowOf
      rw [hml]
      exact HOWN.out

end Go.Proofs.Yteniopbmkooomaa
