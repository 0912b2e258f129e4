/-
  The statement HistorySays: what kept answers; numbers changed in place; its walk.
-/
import Derived.Test.YteniopbmkooomaaRefLin
import Derived.Test.YteniopbmkooomaaLentE
namespace Go.Proofs.Yteniopbmkooomaa
open Go.RowKit Hi Go.Deep Go.Maps

theorem own_setCells2 {base g n cap : Nat} : ∀ (cs : List Value) (w : World) (o : Nat) (xs : List Value), w.ownsRow base 33 8 (.slice (some ⟨g, 0, none⟩) n cap) n xs → o + cs.length ≤ n * 8 → (w.setCells g o cs).ownsRow base 33 8 (.slice (some ⟨g, 0, none⟩) n cap) n (xs.take o ++ cs ++ xs.drop (o + cs.length))
  | [], w, o, xs, h, _ => by
    simp only [List.append_nil, List.length_nil, Nat.add_zero, List.take_append_drop]
    exact h
  | c :: r, w, o, xs, h, hl => by
    simp only [List.length_cons] at hl
    have h1 := own_set h o (by omega) c
    have h2 := own_setCells2 r (w.setCell ⟨g, o, none⟩ c) (o + 1) _ h1 (by omega)
    have hx : xs.length = n * 8 := h.1
    have e : (xs.set o c).take (o + 1) ++ r ++ (xs.set o c).drop (o + 1 + r.length) = xs.take o ++ (c :: r) ++ xs.drop (o + (r.length + 1)) := by
      have e1 : (xs.set o c).take (o + 1) = xs.take o ++ [c] := by
        rw [List.set_eq_take_append_cons_drop, if_pos (by omega)]
        have hl2 : (xs.take o).length = o := by rw [List.length_take]; omega
        rw [List.take_append, hl2, List.take_of_length_le (by omega)]
        have : o + 1 - o = 1 := by omega
        rw [this]; rfl
      have e2 : (xs.set o c).drop (o + 1 + r.length) = xs.drop (o + (r.length + 1)) := by
        rw [List.drop_set_of_lt (by omega)]
        congr 1; omega
      rw [e1, e2]; simp
    rw [e] at h2
    exact h2

theorem own_ev2 {w : World} {base g n cap : Nat} {R : List Ev} (h : w.ownsRow base 33 8 (.slice (some ⟨g, 0, none⟩) n cap) n (R.flatMap evL)) (hn : R.length = n) {k : Nat} (hk : k < n) : w.rangeAt g (k * 8) (evC (R.getD k ev0)).toList := by
  subst hn
  obtain ⟨p, cap', e, _, _, h3⟩ := own_sl h
  cases e
  obtain ⟨blk, off, e2, _, hr⟩ := h3 k _ (getD_some hk ev0)
  cases e2
  rw [Nat.zero_add] at hr
  exact hr

theorem marked_cell {w : World} {g : Nat} {l : List Ev} (h : Marked evL markE 33 w g l) : w.cell? ⟨g, l.length * 8 + 1, none⟩ = some (I (-71)) ∧ w.cell? ⟨g, (l.length + 1) * 8 + 1, none⟩ = some (I (-72)) := by
  unfold Marked at h
  have hl := flat_len len_ev l
  constructor
  · simp only [World.cell?, h]
    have : ((l.flatMap evL ++ markE).toArray)[l.length * 8 + 1]? = some (I (-71)) := by
      rw [List.getElem?_toArray, List.getElem?_append_right (by omega), hl]
      rw [show l.length * 8 + 1 - l.length * 8 = 1 by omega]
      rfl
    simpa using this
  · simp only [World.cell?, h]
    have : ((l.flatMap evL ++ markE).toArray)[(l.length + 1) * 8 + 1]? = some (I (-72)) := by
      rw [List.getElem?_toArray, List.getElem?_append_right (by omega), hl]
      rw [show (l.length + 1) * 8 + 1 - l.length * 8 = 9 by omega]
      rfl
    simpa using this

theorem marked_own {w : World} {g base : Nat} {l : List Ev} (h : Marked evL markE 33 w g l) (hb : base ≤ g) (hn : l.length ≤ 2199023255488) : w.ownsRow base 33 8 (.slice (some ⟨g, 0, none⟩) l.length (l.length + 2)) l.length (l.flatMap evL) := by
  have hl := flat_len len_ev l
  refine ⟨hl, .inr ⟨g, l.length + 2, _, rfl, hb, h, by omega, by unfold maxLen; omega, ?_, ?_⟩⟩
  · simp only [List.size_toArray, List.length_append, hl]
    have : markE.length = 16 := rfl
    omega
  · rw [← hl]
    exact List.take_left

theorem flat_set7 : ∀ (R : List Ev) (k : Nat) (z : Int), k < R.length → (R.flatMap evL).set (k * 8 + 7) (I z) = (R.set k { R.getD k ev0 with val := z }).flatMap evL
  | [], k, z, h => by simp at h
  | x :: r, 0, z, h => by
    rw [List.set_cons_zero, List.flatMap_cons, List.flatMap_cons]
    rfl
  | x :: r, k + 1, z, h => by
    rw [List.set_cons_succ, List.flatMap_cons, List.flatMap_cons]
    have hl : (evL x).length = 8 := len_ev x
    rw [List.set_append_right _ _ (by omega), hl, show (k + 1) * 8 + 7 - 8 = k * 8 + 7 by omega, flat_set7 r k z (by simpa using h)]
    rfl

theorem own_set7 {w : World} {base g n cap : Nat} {R : List Ev} (h : w.ownsRow base 33 8 (.slice (some ⟨g, 0, none⟩) n cap) n (R.flatMap evL)) (hn : R.length = n) {k : Nat} (hk : k < n) (z : Int) :
    (w.setCell ⟨g, k * 8 + 7, none⟩ (I z)).ownsRow base 33 8 (.slice (some ⟨g, 0, none⟩) n cap) n ((R.set k { R.getD k ev0 with val := z }).flatMap evL) := by
  have hl := flat_len len_ev R
  have := own_setCells2 [I z] w (k * 8 + 7) _ h (by simp; omega)
  rw [← flat_set7 R k z (by omega), List.set_eq_take_append_cons_drop, if_pos (by omega)]
  have e : w.setCells g (k * 8 + 7) [I z] = w.setCell ⟨g, k * 8 + 7, none⟩ (I z) := rfl
  rw [e] at this
  simpa using this

theorem own_free {w : World} {base g n cap : Nat} {xs : List Value} (h : w.ownsRow base 33 8 (.slice (some ⟨g, 0, none⟩) n cap) n xs) (j : Nat) : w.frozen? ⟨g, j, none⟩ = false := by
  rcases h.2 with ⟨h0, _⟩ | ⟨g', cap', cur, hv, hb, hh, _⟩
  · cases h0
  · cases hv
    simp [World.frozen?, hh]

set_option maxHeartbeats 2000000 in
set_option maxRecDepth 100000 in
theorem kept_any (v : Value) (g : Nat) (l : List Ev) (w : World) (h : SL 8 evL w v l) (hn : l.length ≤ 2199023255488) (hm : Marked evL markE 33 w g l) :
    Calls Try.prog 12 #[.slice (some ⟨g, 0, none⟩) l.length (l.length + 2), v] w fun e w' => e = .returned (.bool true) ∧ Below w.heap.size w w' := by
  have HSL : Hid (SL 8 evL w v l) := h
  have HM : Hid (Marked evL markE 33 w g l) := hm
  obtain ⟨p, cap, rfl, hc, hmx, _⟩ := h
  unfold maxLen at hmx
  clear hm
  go_enter Try.func12, Try.ntmps12
  go_wp2_with fail
  refine (same_any _ _ l _ (marked_sl2 (by unfold maxLen; omega) HM.out) HSL.out).mono ?_
  rintro e w1 ⟨rfl, hb1⟩
  have HB1 : Hid (Below w.heap.size w w1) := hb1
  have m1 := kcell hb1 (marked_cell HM.out).1
  have m2 := kcell hb1 (marked_cell HM.out).2
  clear hb1
  go_wp2_with fail
  go_ret
  exact ⟨by simp, HB1.out⟩

end Go.Proofs.Yteniopbmkooomaa

namespace Go.Proofs.Yteniopbmkooomaa
open Go.RowKit Hi Go.Deep Go.Maps

theorem fits_getD {l : List Ev} (h : ∀ x ∈ l, Fits x.a ∧ Fits x.b) : ∀ i, i < l.length → Fits (l.getD i ev0).a ∧ Fits (l.getD i ev0).b := fun i hi => h _ (by
  rw [List.getD_eq_getElem?_getD, List.getElem?_eq_getElem hi]
  exact List.getElem_mem _)

theorem fits_set7 {R : List Ev} (h : ∀ i, i < R.length → Fits (R.getD i ev0).a ∧ Fits (R.getD i ev0).b) (k : Nat) (z : Int) : ∀ i, i < (R.set k { R.getD k ev0 with val := z }).length → Fits ((R.set k { R.getD k ev0 with val := z }).getD i ev0).a ∧ Fits ((R.set k { R.getD k ev0 with val := z }).getD i ev0).b := fun i hi => by
  rw [List.length_set] at hi
  by_cases hk : k < R.length
  · rw [getD_set _ _ _ _ _ hk]
    split
    · rename_i e
      subst e
      exact h i hi
    · exact h i hi
  · rw [List.set_eq_of_length_le (by omega)]
    exact h i hi

set_option maxHeartbeats 16000000 in
set_option maxRecDepth 100000 in
theorem says_any (ob st : Int) (hst : Fits st) (v v2 : Value) (l r : List Ev) (w : World) (h : SL 8 evL w v l) (h2 : SL 8 evL w v2 r) (hf : ∀ x ∈ l, Fits x.a ∧ Fits x.b) (hf2 : ∀ x ∈ r, Fits x.a ∧ Fits x.b) (hn : l.length ≤ 2199023255488) :
    Calls Try.prog 3 #[I ob, I st, v, v2] w fun e w' => e = .returned (.bool true) ∧ Below w.heap.size w w' := by
  have HSL : Hid (SL 8 evL w v l) := h
  have HSR : Hid (SL 8 evL w v2 r) := h2
  have HST : Hid (Fits st) := hst
  have HFL : Hid (∀ i, i < l.length → Fits (l.getD i ev0).a ∧ Fits (l.getD i ev0).b) := fits_getD hf
  have HFR : Hid (∀ i, i < r.length → Fits (r.getD i ev0).a ∧ Fits (r.getD i ev0).b) := fits_getD hf2
  obtain ⟨p, cap, rfl, hc, hm, _⟩ := h
  obtain ⟨p2, cap2, rfl, hc2, hm2, _⟩ := h2
  unfold maxLen at hm hm2
  clear hst hf hf2
  go_enter Try.func3, Try.ntmps3
  go_wp2_with fail
  refine (awake_any _).mono ?_
  rintro e w1 ⟨rfl, hb1⟩
  have HB1 : Hid (Below w.heap.size w w1) := hb1
  clear hb1
  go_wp2_with fail
  refine (heavy_any _ l _ (sl_evs (HSL.out.later HB1.out))).mono ?_
  rintro e w2 ⟨⟨b1, rfl⟩, hb2⟩
  have HB2 : Hid (Below w.heap.size w w2) := below_step HB1.out hb2
  clear hb2
  go_wp2_with fail
  refine (heavy_any _ r _ (sl_evs (HSR.out.later HB2.out))).mono ?_
  rintro e w3 ⟨⟨b2, rfl⟩, hb3⟩
  have HB3 : Hid (Below w.heap.size w w3) := below_step HB2.out hb3
  clear hb3
  cases b1
  · cases b2
    · go_wp2_with fail
      refine (lent_any _ l _ (HSL.out.later HB3.out) hn).mono ?_
      rintro e w4 ⟨rfl, hmk, hb4⟩
      have hg3 : w.heap.size ≤ w3.heap.size := HB3.out.size
      generalize hgg : w3.heap.size = g at hmk hg3
      have HB4 : Hid (Below w.heap.size w w4) := below_step HB3.out hb4
      have HMK : Hid (Marked evL markE 33 w4 g l) := hmk
      clear hmk hb4 hgg
      go_wp2_with fail
      refine (linear_any ob st HST.out _ l _ (sl_evs (marked_sl2 (by unfold maxLen; omega) HMK.out)) HFL.out).mono ?_
      rintro e w5 ⟨⟨ba, ca, rfl, hLa⟩, hb5⟩
      have HLA : Hid (LinOut ob st l ba ca) := hLa
      have HMK5 : Hid (Marked evL markE 33 w5 g l) := HMK.out.later hb5
      have HB5 : Hid (Below w.heap.size w w5) := below_step HB4.out hb5
      clear hLa hb5
      go_wp2_with fail
      refine (linear_any ob st HST.out _ r _ (sl_evs (HSR.out.later HB5.out)) HFR.out).mono ?_
      rintro e w6 ⟨⟨bb, cb, rfl, hLb⟩, hb6⟩
      have HLB : Hid (LinOut ob st r bb cb) := hLb
      have HMK6 : Hid (Marked evL markE 33 w6 g l) := HMK5.out.later hb6
      have HB6 : Hid (Below w.heap.size w w6) := below_step HB5.out hb6
      clear hLb hb6
      go_wp2_with fail
      refine (linear_any ob st HST.out _ l _ (sl_evs (marked_sl2 (by unfold maxLen; omega) HMK6.out)) HFL.out).mono ?_
      rintro e w7 ⟨⟨bc, cc, rfl, hLc⟩, hb7⟩
      have hcc := linOut_one hLc HLA.out
      obtain ⟨rfl, rfl⟩ := hcc
      have HMK7 : Hid (Marked evL markE 33 w7 g l) := HMK6.out.later hb7
      have HB7 : Hid (Below w.heap.size w w7) := below_step HB6.out hb7
      clear hLc hb7
      go_wp2_with fail
      refine (rlinear_any ob st _ l _ (sl_evs (HSL.out.later HB7.out))).mono ?_
      rintro e w8 ⟨⟨bd, cd, rfl, hLd⟩, hb8⟩
      obtain ⟨rfl, rfl⟩ := linOut_one hLd HLA.out
      have HMK8 : Hid (Marked evL markE 33 w8 g l) := HMK7.out.later hb8
      have HB8 : Hid (Below w.heap.size w w8) := below_step HB7.out hb8
      clear hLd hb8
      go_wp2_with fail
      refine (rlinear_any ob st _ r _ (sl_evs (HSR.out.later HB8.out))).mono ?_
      rintro e w9 ⟨⟨be, ce, rfl, hLe⟩, hb9⟩
      obtain ⟨rfl, rfl⟩ := linOut_one hLe HLB.out
      have HMK9 : Hid (Marked evL markE 33 w9 g l) := HMK8.out.later hb9
      have HB9 : Hid (Below w.heap.size w w9) := below_step HB8.out hb9
      clear hLe hb9
      go_wp2_with fail
      refine (kept_any _ g l _ (HSL.out.later HB9.out) hn HMK9.out).mono ?_
      rintro e wk ⟨rfl, hbk⟩
      have HMKK : Hid (Marked evL markE 33 wk g l) := HMK9.out.later hbk
      have HBK : Hid (Below w.heap.size w wk) := below_step HB9.out hbk
      clear hbk
      go_wp2_with fail
      go_loopw [24] (fun i u => ∃ (k : Nat) (R : List Ev), k ≤ l.length ∧ i = .int .i64 k ∧ R.length = l.length ∧ u.ownsRow w.heap.size 33 8 (.slice (some ⟨g, 0, none⟩) l.length (l.length + 2)) l.length (R.flatMap evL) ∧
        (∀ i, i < R.length → Fits (R.getD i ev0).a ∧ Fits (R.getD i ev0).b) ∧ Below w.heap.size w u) (fun i _ => l.length - (intOf i).toNat)
      case atStart => exact ⟨0, l, Nat.zero_le _, rfl, rfl, marked_own HMKK.out hg3 hn, HFL.out, HBK.out⟩
      case round =>
        obtain ⟨k, R, hk, rfl, hRl, hown, hfr, hbr⟩ := hrel
        have HRL : Hid (R.length = l.length) := hRl
        have HOWN : Hid (wr.ownsRow w.heap.size 33 8 (.slice (some ⟨g, 0, none⟩) l.length (l.length + 2)) l.length (R.flatMap evL)) := hown
        have HFIT : Hid (∀ i, i < R.length → Fits (R.getD i ev0).a ∧ Fits (R.getD i ev0).b) := hfr
        have HBR : Hid (Below w.heap.size w wr) := hbr
        clear hRl hown hfr hbr
        by_cases hlt : k < l.length
        · have c7 : wr.cell? ⟨g, k * 8 + 6 + 1, none⟩ = some (I (R.getD k ev0).val) := (own_ev2 HOWN.out HRL.out hlt) 7 _ rfl
          have f7 : wr.frozen? ⟨g, k * 8 + 6 + 1, none⟩ = false := own_free HOWN.out _
          generalize (R.getD k ev0).val = z at c7
          go_wp2_with fail
          go_roundw
          case rel =>
            refine ⟨k + 1, _, by omega, by go_num, by rw [List.length_set]; exact HRL.out, own_set7 HOWN.out HRL.out hlt _, fits_set7 HFIT.out _ _, HBR.out.setCell hg3 _⟩
          case measure => simp [intOf]; omega
        · have hkl : k = l.length := by omega
          subst hkl
          have hsl := own_sl (evs := R) (by rw [HRL.out]; exact HOWN.out)
          have HSLR : Hid (SL 8 evL wr (.slice (some ⟨g, 0, none⟩) l.length (l.length + 2)) R) := hsl
          clear hsl
          go_wp2_with fail
          refine (linear_any ob st HST.out _ R _ (sl_evs HSLR.out) HFIT.out).mono ?_
          rintro e wx ⟨⟨bx, cx, rfl, hLx⟩, hbx⟩
          have HLX : Hid (LinOut ob st R bx cx) := hLx
          have HBX : Hid (Below w.heap.size w wx) := below_step HBR.out hbx
          have HSLX : Hid (SL 8 evL wx (.slice (some ⟨g, 0, none⟩) l.length (l.length + 2)) R) := HSLR.out.later hbx
          clear hLx hbx
          go_wp2_with fail
          refine (rlinear_any ob st _ R _ (sl_evs HSLX.out)).mono ?_
          rintro e wy ⟨⟨by', cy, rfl, hLy⟩, hby⟩
          obtain ⟨rfl, rfl⟩ := linOut_one hLy HLX.out
          have HBY : Hid (Below w.heap.size w wy) := below_step HBX.out hby
          clear hLy hby
          go_wp2_with fail
          go_ret
          exact ⟨by simp, HBY.out⟩
    · go_wp2_with fail
      go_ret
      exact ⟨rfl, HB3.out⟩
  · go_wp2_with fail
    go_ret
    exact ⟨rfl, HB3.out⟩

end Go.Proofs.Yteniopbmkooomaa
