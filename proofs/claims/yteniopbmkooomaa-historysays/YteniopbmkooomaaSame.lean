/-
  What sameEvents of the statements does, of two slices that hold the same events.
-/
import Derived.Test.YteniopbmkooomaaRof
namespace Go.Proofs.Yteniopbmkooomaa
open Go.RowKit Hi Go.Deep Go.Maps

theorem cells8 {w : World} {b o : Nat} {x : Ev} (h : w.rangeAt b o (evL x)) : w.cell? ⟨b, o, none⟩ = some (I x.thr) ∧ w.cell? ⟨b, o + 1, none⟩ = some (I x.op) ∧ w.cell? ⟨b, o + 2, none⟩ = some (I x.a) ∧ w.cell? ⟨b, o + 3, none⟩ = some (I x.b) ∧
    w.cell? ⟨b, o + 4, none⟩ = some (I x.beg) ∧ w.cell? ⟨b, o + 5, none⟩ = some (I x.fin) ∧ w.cell? ⟨b, o + 6, none⟩ = some (I x.code) ∧ w.cell? ⟨b, o + 7, none⟩ = some (I x.val) :=
  ⟨h 0 _ rfl, h 1 _ rfl, h 2 _ rfl, h 3 _ rfl, h 4 _ rfl, h 5 _ rfl, h 6 _ rfl, h 7 _ rfl⟩

/-- What is owned is held. -/
theorem own_sl {w : World} {base : Nat} {v : Value} {evs : List Ev} (h : w.ownsRow base 33 8 v evs.length (evs.flatMap evL)) : SL 8 evL w v evs := by
  rcases h.2 with ⟨rfl, h0⟩ | ⟨g, cap, cur, rfl, hb, hh, h1, h2, h3, h4⟩
  · have : evs = [] := List.length_eq_zero_iff.1 h0
    subst this
    exact ⟨none, 0, rfl, Nat.le_refl _, Nat.zero_le _, fun i a hi => by simp at hi⟩
  · refine ⟨_, cap, rfl, h1, h2, fun i a hi => ⟨g, 0, rfl, (Array.getElem?_eq_some_iff.1 hh).1, fun j u hj => ?_⟩⟩
    have hi' := (List.getElem?_eq_some_iff.1 hi).1
    have hj8 : j < 8 := by have := (List.getElem?_eq_some_iff.1 hj).1; simpa [evL] using this
    have hlt : i * 8 + j < evs.length * 8 := by omega
    have hf : (evs.flatMap evL)[i * 8 + j]? = some u := by
      rw [flat_get]
      have e1 : (i * 8 + j) / 8 = i := by omega
      have e2 : (i * 8 + j) % 8 = j := by omega
      rw [e1, e2, hi]
      exact hj
    rw [← h4, List.getElem?_take_of_lt hlt] at hf
    simp only [World.cell?, hh, Nat.zero_add]
    simpa using hf

set_option maxHeartbeats 2000000 in
set_option maxRecDepth 100000 in
theorem same_any (va vb : Value) (l : List Ev) (w : World) (ha : SL 8 evL w va l) (hb : SL 8 evL w vb l) :
    Calls Try.prog 16 #[va, vb] w fun e w' => e = .returned (.bool true) ∧ Below w.heap.size w w' := by
  obtain ⟨p, cap, rfl, p1, p2, p3⟩ := ha
  obtain ⟨q, caq, rfl, q1, q2, q3⟩ := hb
  unfold maxLen at p2 q2
  go_enter Try.func16, Try.ntmps16
  go_wp2_with fail
  go_loopw [5] (fun i u => ∃ k : Nat, k ≤ l.length ∧ i = .int .i64 k ∧ Below w.heap.size w u) (fun i _ => l.length - (intOf i).toNat)
  case atStart => exact ⟨0, Nat.zero_le _, rfl, Below.refl _ _⟩
  case round =>
    obtain ⟨k, hk, rfl, hbel⟩ := hrel
    by_cases hlt : k < l.length
    · obtain ⟨blk, off, rfl, hb1, hr⟩ := p3 k _ (getD_some hlt ev0)
      obtain ⟨blk', off', rfl, hb2, hr'⟩ := q3 k _ (getD_some hlt ev0)
      obtain ⟨x0, x1, x2, x3, x4, x5, x6, x7⟩ := cells8 (range_later hbel hr hb1)
      obtain ⟨y0, y1, y2, y3, y4, y5, y6, y7⟩ := cells8 (range_later hbel hr' hb2)
      generalize l.getD k ev0 = x at *
      have HB : Hid (Below w.heap.size w wr) := hbel
      clear p3 q3 hr hr' hbel
      go_wp2_with fail
      go_quiet (fail)
      go_wp2_with fail
      go_roundw
      case rel => exact ⟨k + 1, by omega, by go_num, below_drewN HB.out _⟩
      case measure => simp [intOf]; omega
    · go_wp2_with fail
      go_ret
      exact ⟨rfl, hbel⟩

end Go.Proofs.Yteniopbmkooomaa
