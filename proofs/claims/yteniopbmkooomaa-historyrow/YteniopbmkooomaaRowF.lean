/-
  The statement HistoryRow: facts that its walk needs.
-/
import Derived.Test.YteniopbmkooomaaWaysAll
import Derived.Test.YteniopbmkooomaaAdds
namespace Go.Proofs.Yteniopbmkooomaa
open Go.RowKit Hi Go.Deep Go.Maps

theorem two_symm {x y : Ev} (h : Two x y) : Two y x := fun e => (h e.symm).symm
theorem hist_iff {l : List Ev} : Hist l ↔ (∀ i, i < l.length → Timed (l.getD i ev0)) ∧ ∀ i k, i < l.length → k < l.length → i ≠ k → Two (l.getD i ev0) (l.getD k ev0) := by
  constructor
  · intro h
    refine ⟨fun i hi => (h i hi).1, fun i k hi hk hne => ?_⟩
    rcases Nat.lt_or_gt_of_ne hne with hlt | hgt
    · exact two_symm ((h k hk).2 i hlt)
    · exact (h i hi).2 k hgt
  · rintro ⟨h1, h2⟩ i hi
    exact ⟨h1 i hi, fun k hk => h2 i k hi (by omega) (by omega)⟩

/-- The first one and the one at q are swapped. -/
def swapR (R : List Ev) (q : Nat) : List Ev := (R.set 0 (R.getD q ev0)).set q (R.getD 0 ev0)

theorem swapR_len (R : List Ev) (q : Nat) : (swapR R q).length = R.length := by unfold swapR; simp
theorem swapR_get {R : List Ev} {q : Nat} (hq : q < R.length) (k : Nat) : (swapR R q).getD k ev0 = R.getD (swapN 0 q k) ev0 := by
  unfold swapR swapN
  rw [getD_set _ _ _ _ _ (by simpa using hq), getD_set _ _ _ _ _ (by omega)]
  by_cases h1 : k = q
  · rw [if_pos h1]
    by_cases h0 : k = 0
    · rw [if_pos h0, ← h1, h0]
    · rw [if_neg h0, if_pos h1]
  · rw [if_neg h1]
    by_cases h0 : k = 0
    · rw [if_pos h0, if_pos h0]
    · rw [if_neg h0, if_neg h0, if_neg h1]
theorem swapN_lt {n q k : Nat} (hq : q < n) (hk : k < n) : swapN 0 q k < n := by unfold swapN; split <;> (try split) <;> omega
theorem swapN_inj {q i k : Nat} (h : swapN 0 q i = swapN 0 q k) : i = k := by rw [← swapN_twice 0 q i, h, swapN_twice]

theorem swapR_hist {R : List Ev} {q : Nat} (hq : q < R.length) (h : Hist R) : Hist (swapR R q) := by
  rw [hist_iff] at h ⊢
  rw [swapR_len]
  refine ⟨fun i hi => ?_, fun i k hi hk hne => ?_⟩
  · rw [swapR_get hq]; exact h.1 _ (swapN_lt hq hi)
  · rw [swapR_get hq, swapR_get hq]; exact h.2 _ _ (swapN_lt hq hi) (swapN_lt hq hk) (fun e => hne (swapN_inj e))
theorem swapR_lin {σ : Type} {ways : Ways σ} (ht : Timeless ways) {R : List Ev} {q : Nat} (hq : q < R.length) (s : σ) : Lin ways s (swapR R q) ↔ Lin ways s R := by
  constructor
  · intro h
    refine lin_swap ht s 0 q (by rw [swapR_len]; omega) (by rw [swapR_len]; exact hq) (swapR_len R q).symm (fun k hk => ?_) h
    rw [swapR_get hq]
  · intro h
    refine lin_swap ht s 0 q (by omega) hq (swapR_len R q) (fun k hk => ?_) h
    rw [swapR_get hq, swapN_twice]
theorem swapR_fits {R : List Ev} {q : Nat} (hq : q < R.length) (h : ∀ i, i < R.length → Fits (R.getD i ev0).a ∧ Fits (R.getD i ev0).b) : ∀ i, i < (swapR R q).length → Fits ((swapR R q).getD i ev0).a ∧ Fits ((swapR R q).getD i ev0).b := fun i hi => by
  rw [swapR_len] at hi
  rw [swapR_get hq]; exact h _ (swapN_lt hq hi)

/-! ### An event of a row that is owned is written -/

theorem own_setCells {base g n cap : Nat} : ∀ (cs : List Value) (w : World) (o : Nat) (xs : List Value), w.ownsRow base 33 8 (.slice (some ⟨g, 0, none⟩) n cap) n xs → o + cs.length ≤ n * 8 → (w.setCells g o cs).ownsRow base 33 8 (.slice (some ⟨g, 0, none⟩) n cap) n (xs.take o ++ cs ++ xs.drop (o + cs.length))
  | [], w, o, xs, h, _ => by
    simp only [List.append_nil, List.length_nil, Nat.add_zero, List.take_append_drop]
    exact h
  | c :: r, w, o, xs, h, hl => by
    simp only [List.length_cons] at hl
    have h1 := own_set h o (by omega) c
    have h2 := own_setCells r (w.setCell ⟨g, o, none⟩ c) (o + 1) _ h1 (by omega)
    have hx : xs.length = n * 8 := h.1
    have e : (xs.set o c).take (o + 1) ++ r ++ (xs.set o c).drop (o + 1 + r.length) = xs.take o ++ (c :: r) ++ xs.drop (o + (r.length + 1)) := by
      have e1 : (xs.set o c).take (o + 1) = xs.take o ++ [c] := by
        rw [List.set_eq_take_append_cons_drop, if_pos (by omega)]
        have hl2 : (xs.take o).length = o := by rw [List.length_take]; omega
        rw [List.take_append, hl2, List.take_of_length_le (by omega)]
        have : o + 1 - o = 1 := by omega
        rw [this]; rfl
      have e2 : (xs.set o c).drop (o + 1 + r.length) = xs.drop (o + (r.length + 1)) := by
        rw [List.drop_set_of_lt (by omega)]
        congr 1; omega
      rw [e1, e2]; simp
    rw [e] at h2
    exact h2

theorem flat_take_set (l : List Ev) (k : Nat) (y : Ev) (hk : k < l.length) : (l.flatMap evL).take (k * 8) ++ evL y ++ (l.flatMap evL).drop (k * 8 + (evL y).length) = (l.set k y).flatMap evL := by
  have h1 : l.flatMap evL = (l.take k).flatMap evL ++ evL l[k] ++ (l.drop (k + 1)).flatMap evL := by
    conv => lhs; rw [← List.take_append_drop k l, List.drop_eq_getElem_cons hk, List.flatMap_append, List.flatMap_cons, ← List.append_assoc]
  have hl : ((l.take k).flatMap evL).length = k * 8 := by rw [flat_len len_ev, List.length_take]; congr 1; omega
  have h2 : (l.set k y).flatMap evL = (l.take k).flatMap evL ++ evL y ++ (l.drop (k + 1)).flatMap evL := by
    rw [List.set_eq_take_append_cons_drop, if_pos hk, List.flatMap_append, List.flatMap_cons, List.append_assoc]
  have h3 : ((l.take k).flatMap evL ++ evL l[k] ++ (l.drop (k + 1)).flatMap evL).take (k * 8) = (l.take k).flatMap evL := by rw [List.append_assoc]; exact List.take_left' hl
  have h4 : ((l.take k).flatMap evL ++ evL l[k] ++ (l.drop (k + 1)).flatMap evL).drop (k * 8 + (evL y).length) = (l.drop (k + 1)).flatMap evL := List.drop_left' (by rw [List.length_append, hl, len_ev, len_ev])
  rw [h2, h1, h3, h4]

theorem own_put {w : World} {base g n cap : Nat} {R : List Ev} (h : w.ownsRow base 33 8 (.slice (some ⟨g, 0, none⟩) n cap) n (R.flatMap evL)) (hn : R.length = n) {k : Nat} (hk : k < n) (y : Ev) :
    (w.setCells g (k * 8) (evL y)).ownsRow base 33 8 (.slice (some ⟨g, 0, none⟩) n cap) n ((R.set k y).flatMap evL) := by
  have := own_setCells (evL y) w (k * 8) _ h (by rw [len_ev]; omega)
  rw [flat_take_set R k y (by omega)] at this
  exact this

theorem own_there {w : World} {base g n cap : Nat} {xs : List Value} (h : w.ownsRow base 33 8 (.slice (some ⟨g, 0, none⟩) n cap) n xs) {k : Nat} (hk : k < n) : w.there g (k * 8) 8 := by
  rcases h.2 with ⟨h0, _⟩ | ⟨g', cap', cur, hv, hb, hh, h1, h2, h3, h4⟩
  · cases h0
  · cases hv
    exact there_of hh (by have : (k + 1) * 8 ≤ n * 8 := Nat.mul_le_mul_right _ hk; omega)

theorem own_ev {w : World} {base g n cap : Nat} {R : List Ev} (h : w.ownsRow base 33 8 (.slice (some ⟨g, 0, none⟩) n cap) n (R.flatMap evL)) (hn : R.length = n) {k : Nat} (hk : k < n) : w.rangeAt g (k * 8) (evC (R.getD k ev0)).toList := by
  subst hn
  obtain ⟨p, cap', e, _, _, h3⟩ := own_sl h
  cases e
  obtain ⟨blk, off, e2, _, hr⟩ := h3 k _ (getD_some hk ev0)
  cases e2
  rw [Nat.zero_add] at hr
  exact hr

end Go.Proofs.Yteniopbmkooomaa
