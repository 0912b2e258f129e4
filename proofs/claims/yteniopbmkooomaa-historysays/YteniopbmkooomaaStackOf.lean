/-
  What a pile does when it is asked, as a whole; how far the pops of a history reach.
-/
import Derived.Test.YteniopbmkooomaaAskP
import Derived.Test.YteniopbmkooomaaSearchP
import Derived.Test.YteniopbmkooomaaRefW
namespace Go.Proofs.Yteniopbmkooomaa
open Go.RowKit Hi Go.Deep Go.Maps

theorem push_any (s : Pile) (v : Int) (reach : Nat) (hr : s.xs.length ≤ reach) (hfull : s.xs.length = reach → reach ≤ 5) (hless : s.xs.length < reach → s.xs.length ≤ 5) (w : World) :
    Calls Try.prog 51 #[.agg (stP s), I v, I reach] w fun e w' => e = .returned (.agg (stP (s.push v reach))) ∧ Below w.heap.size w w' := by
  obtain ⟨xs, d⟩ := s
  simp only [] at hr hfull hless
  by_cases hlt : xs.length < reach
  · have e : (Pile.push ⟨xs, d⟩ v reach) = ⟨v :: xs, d⟩ := by unfold Pile.push; rw [if_neg (by simp only []; omega)]
    rw [e]
    have := push_less (xs.getD 0 0) (xs.getD 1 0) (xs.getD 2 0) (xs.getD 3 0) (xs.getD 4 0) (xs.getD 5 0) v xs.length reach d hlt (hless hlt) w
    refine Calls.mono this ?_
    rintro e w' ⟨rfl, hb⟩
    refine ⟨?_, hb⟩
    simp [stP, encP, rawP]
  · have he : xs.length = reach := by omega
    subst he
    have e : (Pile.push ⟨xs, d⟩ v xs.length) = ⟨(v :: xs).take xs.length, true⟩ := by unfold Pile.push; rw [if_pos rfl]
    rw [e]
    match xs, hfull rfl with
    | [], _ => exact push_full0 0 0 0 0 0 0 v d w
    | [a], _ => exact push_full1 a 0 0 0 0 0 v d w
    | [a, b], _ => exact push_full2 a b 0 0 0 0 v d w
    | [a, b, c], _ => exact push_full3 a b c 0 0 0 v d w
    | [a, b, c, f], _ => exact push_full4 a b c f 0 0 v d w
    | [a, b, c, f, g], _ => exact push_full5 a b c f g 0 v d w
    | _ :: _ :: _ :: _ :: _ :: _ :: r, h => simp at h

theorem pop_any (v : Int) (r : List Int) (d : Bool) (h6 : r.length ≤ 5) (w : World) :
    Calls Try.prog 52 #[.agg (stP ⟨v :: r, d⟩)] w fun e w' => e = .returned (.agg (stP ⟨r, d⟩)) ∧ Below w.heap.size w w' := by
  match r, h6 with
  | [], _ => exact pop_raw0 v 0 0 0 0 0 d w
  | [a], _ => exact pop_raw1 v a 0 0 0 0 d w
  | [a, b], _ => exact pop_raw2 v a b 0 0 0 d w
  | [a, b, c], _ => exact pop_raw3 v a b c 0 0 d w
  | [a, b, c, f], _ => exact pop_raw4 v a b c f 0 d w
  | [a, b, c, f, g], _ => exact pop_raw5 v a b c f g d w
  | _ :: _ :: _ :: _ :: _ :: _ :: r, h => simp at h

theorem askP_any (reach : Nat) (s : Pile) (x : Ev) (br : Nat) (h6 : s.xs.length ≤ 6) (hr : s.xs.length ≤ reach) (hfull : x.op = 1 → s.xs.length = reach → reach ≤ 5) (hless : x.op = 1 → s.xs.length < reach → s.xs.length ≤ 5) (w : World)
    (hc : w.cell? ⟨br, 0, none⟩ = some (I reach)) :
    Calls Try.prog 50 #[.agg (stP s), evV x, P1 br] w fun e w' => ∃ v, e = .returned v ∧ Outs 10 encP w' v (wayPile reach s x) ∧ Below w.heap.size w w' := by
  by_cases h1 : x.op = 1
  · have e1 : wayPile reach s x = [((0, 0), s.push x.a reach), ((80, 0), s)] := by unfold wayPile; rw [if_pos h1]
    rw [e1]
    have := ask_push _ _ _ _ _ _ _ s.deep _ _ _ _ _ _ _ _ x h1 reach br (fun w => push_any s x.a reach hr (hfull h1) (hless h1) w) w hc
    refine Calls.mono this ?_
    rintro e w' ⟨blk, rfl, h2, h3, hb⟩
    exact ⟨_, rfl, outs_two h2 h3, hb⟩
  · by_cases h2 : x.op = 2
    · obtain ⟨xs, d⟩ := s
      cases xs with
      | cons v r =>
        have e1 : wayPile reach ⟨v :: r, d⟩ x = [((0, v), ⟨r, d⟩)] := by unfold wayPile; rw [if_neg h1, if_pos h2]
        rw [e1]
        have := ask_pop v (r.getD 0 0) (r.getD 1 0) (r.getD 2 0) (r.getD 3 0) (r.getD 4 0) (r.length + 1 : Nat) (by omega) d _ _ _ _ _ _ _ _ x h2 br (fun w => pop_any v r d (by simp at h6; omega) w) w
        refine Calls.mono this ?_
        rintro e w' ⟨blk, rfl, h3, hb⟩
        exact ⟨_, rfl, outs_one h3, hb⟩
      | nil =>
        cases d
        · have e1 : wayPile reach ⟨[], false⟩ x = [((90, 0), ⟨[], false⟩)] := by unfold wayPile; rw [if_neg h1, if_pos h2]; rfl
          rw [e1]
          have := ask_empty 0 0 0 0 0 0 x h2 br w
          refine Calls.mono this ?_
          rintro e w' ⟨blk, rfl, h3, hb⟩
          exact ⟨_, rfl, outs_one h3, hb⟩
        · have e1 : wayPile reach ⟨[], true⟩ x = [] := by unfold wayPile; rw [if_neg h1, if_pos h2]; rfl
          rw [e1]
          have := ask_deep 0 0 0 0 0 0 x h2 br w
          refine Calls.mono this ?_
          rintro e w' ⟨rfl, hb⟩
          exact ⟨_, rfl, outs_nil _ _ _, hb⟩
    · have e1 : wayPile reach s x = [] := by unfold wayPile; rw [if_neg h1, if_neg h2]
      rw [e1]
      have := ask_other (s.xs.getD 0 0) (s.xs.getD 1 0) (s.xs.getD 2 0) (s.xs.getD 3 0) (s.xs.getD 4 0) (s.xs.getD 5 0) s.xs.length s.deep x h1 h2 br w
      refine Calls.mono this ?_
      rintro e w' ⟨rfl, hb⟩
      exact ⟨_, rfl, outs_nil _ _ _, hb⟩

/-- A block of one cell. -/
def One (u : World) (b : Nat) (t : TypeId) (v : Value) : Prop := u.heap[b]? = some (.cells #[v] t (0, 0))
theorem One.cell {u : World} {b : Nat} {t : TypeId} {v : Value} (h : One u b t v) : u.cell? ⟨b, 0, none⟩ = some v := by
  simp only [World.cell?]
  rw [show u.heap[b]? = some (.cells #[v] t (0, 0)) from h]
  rfl
theorem One.frozen {u : World} {b : Nat} {t : TypeId} {v : Value} (h : One u b t v) : u.frozen? ⟨b, 0, none⟩ = false := by
  simp only [World.frozen?]
  rw [show u.heap[b]? = some (.cells #[v] t (0, 0)) from h]
  simp
theorem One.lt {u : World} {b : Nat} {t : TypeId} {v : Value} (h : One u b t v) : b < u.heap.size := (Array.getElem?_eq_some_iff.1 h).1
theorem One.new (u : World) (t : TypeId) (v : Value) : One (u.alloc (.cells #[v] t)) u.heap.size t v := by
  simp only [One, heap_alloc_new]
theorem One.later {u u' : World} {b n : Nat} {t : TypeId} {v : Value} (h : One u b t v) (hb : Below n u u') (hn : b < n) : One u' b t v := (hb.block b hn).trans h
theorem One.set {u : World} {b : Nat} {t : TypeId} {v : Value} (h : One u b t v) (c : Value) : One (u.setCell ⟨b, 0, none⟩ c) b t c := by
  have h' : u.heap[b]? = some (.cells #[v] t (0, 0)) := h
  unfold One World.setCell
  simp [Array.getElem?_modify, h']

theorem popB_yes {x : Ev} (h : x.op = 2) (h2 : x.over = false ∨ x.code = 0) : popB x = true := by
  unfold popB; rcases h2 with h2 | h2 <;> simp [h, h2]
theorem popB_op {x : Ev} (h : ¬ x.op = 2) : popB x = false := by unfold popB; simp [h]
theorem popB_code {x : Ev} (h : x.over = true) (h2 : ¬ x.code = 0) : popB x = false := by unfold popB; simp [h, h2]
theorem many_yes {p : Nat → Bool} {k : Nat} (h : p k = true) : ((many p (k + 1) : Nat) : Int) = (many p k : Int) + 1 := by
  rw [show many p (k + 1) = many p k + 1 from by show many p k + _ = _; rw [if_pos h]]; omega
theorem many_no {p : Nat → Bool} {k : Nat} (h : p k = false) : ((many p (k + 1) : Nat) : Int) = (many p k : Int) := by
  rw [show many p (k + 1) = many p k from by show many p k + _ = _; rw [if_neg (by rw [h]; decide)]; rfl]
theorem many_le (p : Nat → Bool) : ∀ n, many p n ≤ n
  | 0 => Nat.le_refl _
  | n + 1 => by have := many_le p n; unfold many; split <;> omega

set_option maxHeartbeats 2000000 in
theorem stackOf_any (v : Value) (l : List Ev) (w : World) (h : Evs w v l) :
    Calls Try.prog 29 #[v] w fun e w' => e = .returned (.func (.func 50) #[] #[P1 w.heap.size]) ∧ One w' w.heap.size 3 (I (reachOf l)) ∧ Below w.heap.size w w' := by
  obtain ⟨p, cap, rfl, hc, hm, hE⟩ := h
  unfold maxLen at hm
  go_enter Try.func29, Try.ntmps29
  go_wp2_with fail
  go_loopw [8] (fun i u => ∃ k : Nat, k ≤ l.length ∧ i = .int .i64 k ∧ One u w.heap.size 3 (I (many (fun i => popB (l.getD i ev0)) k)) ∧ Below w.heap.size w u) (fun i _ => l.length - (intOf i).toNat)
  case atStart =>
    exact ⟨0, Nat.zero_le _, rfl, One.new _ _ _, below_alloc (Below.refl _ _) _⟩
  case round =>
    obtain ⟨k, hk, rfl, hone, hb⟩ := hrel
    have ho := hone.cell
    have hfz := hone.frozen
    have lo := hone.lt
    have HB : Hid (Below w.heap.size w wr) := hb
    have HONE : Hid (One wr w.heap.size 3 (I (many (fun i => popB (l.getD i ev0)) k))) := hone
    by_cases hlt : k < l.length
    · obtain ⟨blk, off, rfl, hr⟩ := hE k hlt
      have hld := range_later hb hr (range_lt hr)
      generalize hx : l.getD k ev0 = x at hld hr
      have HX : Hid (l.getD k ev0 = x) := hx
      have HL : Hid (wr.rangeAt blk (off + k * 8) (evC x).toList) := hld
      have hmb := many_le (fun i => popB (l.getD i ev0)) k
      generalize hmk : many (fun i => popB (l.getD i ev0)) k = mk at ho hmb HONE
      have HMK : Hid (many (fun i => popB (l.getD i ev0)) k = mk) := hmk
      clear hb hone hE hr hld hx hmk
      have hNo : popB x = false → ∀ u, One u w.heap.size 3 (I mk) → One u w.heap.size 3 (I (many (fun i => popB (l.getD i ev0)) (k + 1))) := fun hp u hu => by
        rw [many_no (by rw [HX.out]; exact hp), HMK.out]; exact hu
      have hYes : popB x = true → ∀ u, One u w.heap.size 3 (I (mk + 1)) → One u w.heap.size 3 (I (many (fun i => popB (l.getD i ev0)) (k + 1))) := fun hp u hu => by
        rw [many_yes (by rw [HX.out]; exact hp), HMK.out]; exact hu
      have HNO : Hid _ := hNo
      have HYES : Hid _ := hYes
      clear hNo hYes
      by_cases h2 : x.op = 2
      · have h2' : (x.op == 2) = true := by simpa using h2
        have H2 : Hid (x.op = 2) := h2
        clear h2
        cases hov : x.over
        · have HO : Hid (x.over = false) := hov
          clear hov
          go_wp2_with first
            | ((with_reducible refine wp_load33 (.tmp 10) ?_ ?_ blk (off + k * 8) ?_ x ?_ ?_); rfl; rfl; rfl; exact HL.out)
            | (go_at_call 49; refine (over_any _ _).mono ?_; rintro e w' ⟨rfl, rfl⟩; rw [HO.out])
          go_roundw
          case rel =>
            refine ⟨k + 1, by omega, by go_num, HYES.out (popB_yes H2.out (.inl HO.out)) _ ?_, ?_⟩
            · exact (HONE.out.set _).later (below_alloc (below_alloc (Below.refl _ _) _) _) (HONE.out.set _).lt
            · exact below_alloc (below_alloc (HB.out.setCell (Nat.le_refl _) _) _) _
          case measure => simp [intOf]; omega
        · have HO : Hid (x.over = true) := hov
          clear hov
          by_cases hcd : x.code = 0
          · have hcd' : (x.code == 0) = true := by simpa using hcd
            have HC : Hid (x.code = 0) := hcd
            clear hcd
            go_wp2_with first
              | ((with_reducible refine wp_load33 (.tmp 10) ?_ ?_ blk (off + k * 8) ?_ x ?_ ?_); rfl; rfl; rfl; exact HL.out)
              | (go_at_call 49; refine (over_any _ _).mono ?_; rintro e w' ⟨rfl, rfl⟩; rw [HO.out])
            go_roundw
            case rel =>
              refine ⟨k + 1, by omega, by go_num, HYES.out (popB_yes H2.out (.inr HC.out)) _ ?_, ?_⟩
              · exact (HONE.out.set _).later (below_alloc (below_alloc (Below.refl _ _) _) _) (HONE.out.set _).lt
              · exact below_alloc (below_alloc (HB.out.setCell (Nat.le_refl _) _) _) _
            case measure => simp [intOf]; omega
          · have hcd' : (x.code == 0) = false := by simpa using hcd
            have HC : Hid (¬ x.code = 0) := hcd
            clear hcd
            go_wp2_with first
              | ((with_reducible refine wp_load33 (.tmp 10) ?_ ?_ blk (off + k * 8) ?_ x ?_ ?_); rfl; rfl; rfl; exact HL.out)
              | (go_at_call 49; refine (over_any _ _).mono ?_; rintro e w' ⟨rfl, rfl⟩; rw [HO.out])
            go_roundw
            case rel =>
              refine ⟨k + 1, by omega, by go_num, HNO.out (popB_code HO.out HC.out) _ ?_, ?_⟩
              · exact HONE.out.later (below_alloc (below_alloc (Below.refl _ _) _) _) lo
              · exact below_alloc (below_alloc HB.out _) _
            case measure => simp [intOf]; omega
      · have h2' : (x.op == 2) = false := by simpa using h2
        have H2 : Hid (¬ x.op = 2) := h2
        clear h2
        go_wp2_with ((with_reducible refine wp_load33 (.tmp 10) ?_ ?_ blk (off + k * 8) ?_ x ?_ ?_); rfl; rfl; rfl; exact HL.out)
        go_roundw
        case rel =>
          refine ⟨k + 1, by omega, by go_num, HNO.out (popB_op H2.out) _ ?_, ?_⟩
          · exact HONE.out.later (below_alloc (Below.refl _ _) _) lo
          · exact below_alloc HB.out _
        case measure => simp [intOf]; omega
    · have : k = l.length := by omega
      subst this
      clear hb hone hE
      go_wp2_with fail
      go_ret
      exact ⟨rfl, HONE.out, HB.out⟩

end Go.Proofs.Yteniopbmkooomaa
