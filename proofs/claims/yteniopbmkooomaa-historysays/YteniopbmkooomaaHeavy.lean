/-
  What the small calls of the statements on Linear do: heavy answers; Modulo.
-/
import Derived.Test.YteniopbmkooomaaLinear
namespace Go.Proofs.Yteniopbmkooomaa
open Go.RowKit Hi Go.Deep Go.Maps

set_option maxHeartbeats 400000 in
theorem rmodulo_any (a n : Int) (h1 : 1 ≤ n) (h2 : n ≤ 1000) (w : World) :
    Calls Try.prog 22 #[I a, I n] w fun e w' => e = .returned (I (a % n)) ∧ w' = w := by
  have hb1 := Int.emod_nonneg a (show n ≠ 0 by omega)
  have hb2 := Int.emod_lt_of_pos a (show 0 < n by omega)
  have hn0 : ¬ n = 0 := by omega
  by_cases h : a.tmod n < 0
  · have e := emod_neg (show 0 < n by omega) h
    have hd : decide (a.tmod n < 0) = true := by simpa using h
    go_enter Try.func22, Try.ntmps22
    go_wp2
    go_ret
    exact ⟨by first | rfl | simp [e], rfl⟩
  · have e := emod_pos (show 0 < n by omega) h
    have hd : decide (a.tmod n < 0) = false := by simpa using h
    go_enter Try.func22, Try.ntmps22
    go_wp2
    go_ret
    exact ⟨rfl, rfl⟩

theorem mul_low {q r : Int} (h1 : 1 ≤ q) (h2 : 1 ≤ r) : 1 ≤ q * r := by
  have := Int.mul_le_mul h1 h2 (by omega) (by omega)
  simpa using this
theorem mul_high {q r a b : Int} (h1 : 1 ≤ q) (h2 : 1 ≤ r) (h3 : q ≤ a) (h4 : r ≤ b) : q * r ≤ a * b := Int.mul_le_mul h3 h4 (by omega) (by omega)
theorem wrap_mul {n : Int} (h1 : 1 ≤ n) (h2 : n ≤ 1048576 * 39) : IntKind.i64.wrap n = n := by
  rw [IntKind.wrap_i64]; omega

theorem beg_fin {w : World} {b o : Nat} {x : Ev} (h : w.rangeAt b o (evC x).toList) : w.cell? ⟨b, o + 4, none⟩ = some (I x.beg) ∧ w.cell? ⟨b, o + 5, none⟩ = some (I x.fin) := ⟨h 4 _ rfl, h 5 _ rfl⟩

set_option maxHeartbeats 8000000 in
set_option maxRecDepth 100000 in
theorem heavy_any (v : Value) (l : List Ev) (w : World) (h : Evs w v l) :
    Calls Try.prog 8 #[v] w fun e w' => (∃ b, e = .returned (.bool b)) ∧ Below w.heap.size w w' := by
  obtain ⟨p, cap, rfl, hc, hm, hE⟩ := h
  unfold maxLen at hm
  by_cases h12 : l.length ≤ 12
  · go_enter Try.func8, Try.ntmps8
    go_wp2_with fail
    go_loopw [3, 4] (fun t i u => ∃ (k : Nat) (q : Int), k ≤ l.length ∧ i = .int .i64 k ∧ t = I q ∧ 1 ≤ q ∧ q ≤ 1048576 ∧ Below w.heap.size w u) (fun _ i _ => l.length - (intOf i).toNat)
    case atStart => exact ⟨0, 1, Nat.zero_le _, rfl, rfl, by omega, by omega, Below.refl _ _⟩
    case round =>
      obtain ⟨k, q, hk, rfl, rfl, hq1, hq2, hb⟩ := hrel
      obtain ⟨wo, hwo⟩ : ∃ wo, wo = wr := ⟨wr, rfl⟩
      subst hwo
      have HB : Hid (Below w.heap.size w wo) := hb
      by_cases hlt : k < l.length
      · obtain ⟨blk, off, rfl, hr⟩ := hE k hlt
        have HBL : Hid (blk < w.heap.size) := range_lt hr
        obtain ⟨i4, i5⟩ := beg_fin (range_later hb hr (range_lt hr))
        generalize l.getD k ev0 = x at i4 i5 hr
        have hE' : ∀ i, i < l.length → w.rangeAt blk (off + i * 8) (evC (l.getD i ev0)).toList := fun i hi => by
          obtain ⟨b', o', e, h⟩ := hE i hi
          cases e
          exact h
        have HE : Hid (∀ i, i < l.length → w.rangeAt blk (off + i * 8) (evC (l.getD i ev0)).toList) := hE'
        have HI4 : Hid (wo.cell? ⟨blk, off + k * 8 + 4, none⟩ = some (I x.beg)) := i4
        have HI5 : Hid (wo.cell? ⟨blk, off + k * 8 + 5, none⟩ = some (I x.fin)) := i5
        clear hb hr hE hE'
        go_wp2_with fail
        go_loopw [5, 6] (fun t i u => ∃ (j : Nat) (r : Int), j ≤ l.length ∧ i = .int .i64 j ∧ t = I r ∧ 1 ≤ r ∧ r ≤ j + 1 ∧ Below wo.heap.size wo u) (fun _ i _ => l.length - (intOf i).toNat)
        case atStart => exact ⟨0, 1, Nat.zero_le _, rfl, rfl, by omega, by omega, Below.refl _ _⟩
        case round =>
          obtain ⟨j, r, hj, rfl, rfl, hr1, hr2, hb2⟩ := hrel
          have HB2 : Hid (Below wo.heap.size wo wr) := hb2
          have hbw : Below w.heap.size w wr := HB.out.trans (hb2.mono HB.out.size)
          have hlo : blk < wo.heap.size := Nat.lt_of_lt_of_le HBL.out HB.out.size
          have i4 := kcell' hb2 hlo HI4.out
          have i5 := kcell' hb2 hlo HI5.out
          by_cases hjl : j < l.length
          · obtain ⟨j4, j5⟩ := beg_fin (range_later hbw (HE.out j hjl) HBL.out)
            generalize l.getD j ev0 = y at j4 j5
            clear hb2 hbw
            have hfirst : (decide (y.beg < x.beg) = true) ∨ (decide (y.beg < x.beg) = false ∧ (y.beg == x.beg) = false) ∨ (decide (y.beg < x.beg) = false ∧ (y.beg == x.beg) = true ∧ decide ((j : Int) < (k : Int)) = true) ∨ (decide (y.beg < x.beg) = false ∧ (y.beg == x.beg) = true ∧ decide ((j : Int) < (k : Int)) = false) := by
              cases decide (y.beg < x.beg) <;> cases (y.beg == x.beg) <;> cases decide ((j : Int) < (k : Int)) <;> simp
            have hover : ((y.fin != -1) = true ∧ decide (y.fin < x.beg) = true) ∨ ((y.fin != -1) = true ∧ decide (y.fin < x.beg) = false) ∨ (y.fin != -1) = false := by
              cases (y.fin != -1) <;> cases decide (y.fin < x.beg) <;> simp
            rcases hfirst with f1 | ⟨f1, f2⟩ | ⟨f1, f2, f3⟩ | ⟨f1, f2, f3⟩
            all_goals
              rcases hover with ⟨o1, o2⟩ | ⟨o1, o2⟩ | o1
              all_goals
                go_wp2_with fail
                go_quiet (fail)
                go_wp2_with fail
                go_quiet (fail)
                go_wp2_with fail
                all_goals
                  go_roundw
                  case rel =>
                    first
                      | exact ⟨j + 1, r, by omega, by go_num, rfl, by omega, by omega, below_drewN HB2.out _⟩
                      | exact ⟨j + 1, r + 1, by omega, by go_num, by go_num, by omega, by omega, below_drewN HB2.out _⟩
                  case measure => simp [intOf]; omega
          · have : j = l.length := by omega
            subst this
            clear hb2 hbw
            cases hfn : (x.fin == -1)
            · have hm1 : 1 ≤ q * r := mul_low hq1 hr1
              have hm2 : q * r ≤ 1048576 * 39 := mul_high hq1 hr1 hq2 (by omega)
              have hw : IntKind.i64.wrap (q * r) = q * r := wrap_mul hm1 hm2
              go_wp2_with fail
              · go_ret
                exact ⟨⟨_, rfl⟩, HB.out.trans (HB2.out.mono HB.out.size)⟩
              · go_roundw
                case rel => exact ⟨k + 1, q * r, by omega, by go_num, rfl, by omega, by omega, HB.out.trans (HB2.out.mono HB.out.size)⟩
                case measure => simp [intOf]; omega
            · have hm1 : 1 ≤ q * (r * 3) := mul_low hq1 (by omega)
              have hm2 : q * (r * 3) ≤ 1048576 * 39 := mul_high hq1 (by omega) hq2 (by omega)
              have hw : IntKind.i64.wrap (q * (r * 3)) = q * (r * 3) := wrap_mul hm1 hm2
              go_wp2_with fail
              · go_ret
                exact ⟨⟨_, rfl⟩, HB.out.trans (HB2.out.mono HB.out.size)⟩
              · go_roundw
                case rel => exact ⟨k + 1, q * (r * 3), by omega, by go_num, rfl, by omega, by omega, HB.out.trans (HB2.out.mono HB.out.size)⟩
                case measure => simp [intOf]; omega
      · have : k = l.length := by omega
        subst this
        clear hb hE
        go_wp2_with fail
        go_ret
        exact ⟨⟨_, rfl⟩, HB.out⟩
  · have h12' : 12 < l.length := by omega
    clear hE
    go_enter Try.func8, Try.ntmps8
    go_wp2_with fail
    go_ret
    exact ⟨⟨_, rfl⟩, Below.refl _ _⟩

end Go.Proofs.Yteniopbmkooomaa
