/-
  Onces that have a place each: the map of places; modulo; act.
-/
import Derived.Test.YteniopbmkooomaaShelfA
import Derived.Test.YteniopbmkooomaaStackOf
namespace Go.Proofs.Yteniopbmkooomaa
open Go.RowKit Hi Go.Deep Go.Maps

theorem law3 : Keyed Try.prog 3 := int_keyed Try.underlying3
theorem zero3 (w : World) : (zeroValue 3).run Try.prog w = .ok (I 0) w := by kernel_rfl
theorem key3 {k : Int} (h : Fits k) : keyOf Try.prog 3 (I k) = some (.int .i64 k) := keyOf_int_mk Try.underlying3 (wf_i k h)

/-- The map in block bp holds keys, each with its place. -/
def Plc (w : World) (bp : Nat) (ks : List Int) : Prop :=
  ∃ D : DataW Unit, w.ownsMap Try.prog 3 (plainElem Try.prog 3) bp ks.length D ∧ Maps.size D = ks.length ∧
    ∀ k : Int, (Maps.has D (.int .i64 k) = true ↔ k ∈ ks) ∧ ∀ i : Nat, ks[i]? = some k → D.atKey (.int .i64 k) (.lit (.int .i64 0)) = .lit (.int .i64 i)

theorem Plc.lt {w : World} {bp : Nat} {ks : List Int} (h : Plc w bp ks) : bp < w.heap.size := by
  obtain ⟨D, hD, _⟩ := h
  exact hD.lt
theorem Plc.of_block {w w' : World} {bp : Nat} {ks : List Int} (h : Plc w bp ks) (hb : w'.heap[bp]? = w.heap[bp]?) : Plc w' bp ks := by
  obtain ⟨D, ⟨es, c, h1, r⟩, h2⟩ := h
  exact ⟨D, ⟨es, c, hb.trans h1, r⟩, h2⟩
theorem Plc.later {w w' : World} {bp n : Nat} {ks : List Int} (h : Plc w bp ks) (hb : Below n w w') (hn : bp < n) : Plc w' bp ks := h.of_block (hb.block bp hn)
theorem Plc.made (w : World) : Plc (w.alloc (.map #[] 0)) w.heap.size [] :=
  ⟨.map [], World.ownsMap_made w _ _ _, rfl, fun k => ⟨by simp [Maps.has], fun i h => by simp at h⟩⟩

theorem Plc.look {w : World} {bp : Nat} {ks : List Int} (h : Plc w bp ks) {k : Int} (hk : Fits k) : ∃ c : Int, (Instr.lookup 127 (.map (some bp)) (I k) true).run Try.prog w = .ok (.tuple #[I c, .bool (decide (k ∈ ks))]) w := by
  obtain ⟨D, hD, _, hkD⟩ := h
  obtain ⟨v, ps, hrun, hv⟩ := hD.look_ok law3 Try.underlying127 (zero3 w) (plainElem_int Try.underlying3 (by decide)) (key3 hk)
  obtain ⟨c, rfl, _, _⟩ := plainElem_int_inv Try.underlying3 hv
  refine ⟨c, ?_⟩
  have e : Maps.has D (.int .i64 k) = decide (k ∈ ks) := by
    rw [Bool.eq_iff_iff, (hkD k).1]; simp
  rw [hrun, e]

theorem Plc.find {w : World} {bp : Nat} {ks : List Int} (h : Plc w bp ks) {k : Int} (hk : Fits k) {i : Nat} (hi : ks[i]? = some k) : (Instr.lookup 127 (.map (some bp)) (I k) false).run Try.prog w = .ok (I i) w := by
  obtain ⟨D, hD, _, hkD⟩ := h
  obtain ⟨c, hrun, hat, _⟩ := hD.lookup_int law3 Try.underlying127 Try.underlying3 (zero3 w) (key3 hk)
  rw [(hkD k).2 i hi] at hat
  rw [hrun]
  simp only [DataW.lit.injEq, Lit.int.injEq, true_and] at hat
  rw [hat]

theorem Plc.len {w : World} {bp : Nat} {ks : List Int} (h : Plc w bp ks) (ty : TypeId) : (Builtin.len_ #[127] ty #[.map (some bp)]).run Try.prog w = .ok (I ks.length) w := by
  obtain ⟨D, hD, hs, _⟩ := h
  rw [hD.len Try.underlying127 ty, hs]

theorem Plc.put {w : World} {bp : Nat} {ks : List Int} (h : Plc w bp ks) {k : Int} (hk : Fits k) (hno : k ∉ ks) (hl : ks.length < 1000) :
    ∃ w', (Instr.mapUpdate 127 (.map (some bp)) (I k) (I ks.length)).run Try.prog w = .ok () w' ∧ Plc w' bp (ks ++ [k]) ∧ w.grownBy w' (some bp) := by
  obtain ⟨D, hD, hs, hkD⟩ := h
  have hwf : (Lit.int .i64 (ks.length : Int)).wf = true := wf_i _ (by unfold Fits; omega)
  have hh : Maps.has D (.int .i64 k) = false := by
    rw [Bool.eq_false_iff]; exact fun e => hno ((hkD k).1.1 e)
  obtain ⟨w', hrun, h1, h2⟩ := hD.update law3 Try.underlying127 (by unfold maxLen; omega) (key3 hk) (plainElem_int Try.underlying3 hwf)
  refine ⟨w', hrun, ⟨D.put (.int .i64 k) (.lit (.int .i64 ks.length)), by simpa using h1, ?_, fun k' => ⟨?_, fun i hi => ?_⟩⟩, h2⟩
  · rw [Maps.size_put (hD.tidy law3), hh, hs]; simp
  · by_cases e : k' = k
    · subst e
      rw [Maps.has_put_same hD.isMap (law3.key (key3 hk))]; simp
    · rw [Maps.has_put_other (by simpa using e), (hkD k').1]; simp [e]
  · by_cases e : k' = k
    · subst e
      rw [Maps.atKey_put_same hD.isMap (law3.key (key3 hk))]
      have : i = ks.length := by
        rcases Nat.lt_or_ge i ks.length with hlt | hge
        · rw [List.getElem?_append_left hlt] at hi
          exact absurd (List.mem_of_getElem? hi) hno
        · rw [List.getElem?_append_right hge] at hi
          have := (List.getElem?_eq_some_iff.1 hi).1
          simp at this
          omega
      rw [this]
    · rw [Maps.atKey_put_other (by simpa using e)]
      refine (hkD k').2 i ?_
      rcases Nat.lt_or_ge i ks.length with hlt | hge
      · rw [List.getElem?_append_left hlt] at hi; exact hi
      · rw [List.getElem?_append_right hge] at hi
        have := List.mem_of_getElem? hi
        simp at this
        exact absurd this e

/-! ### modulo, act -/

theorem emod_neg {a n : Int} (hn : 0 < n) (h : a.tmod n < 0) : a.tmod n + n = a % n := by
  rw [Int.emod_eq_tmod]
  split
  · rename_i hc
    rcases hc with hc | hc
    · have := Int.tmod_nonneg n hc; omega
    · have : a.tmod n = 0 := Int.tmod_eq_zero_of_dvd hc
      omega
  · rw [Int.natAbs_of_nonneg (by omega)]
theorem emod_pos {a n : Int} (hn : 0 < n) (h : ¬ a.tmod n < 0) : a.tmod n = a % n := by
  rw [Int.emod_eq_tmod]
  split
  · simp
  · rename_i hc
    have hc := not_or.1 hc
    have h1 : a.tmod n ≤ 0 := by
      have := Int.tmod_nonneg (a := -a) n (by omega)
      rw [Int.neg_tmod] at this
      omega
    have h2 : a.tmod n ≠ 0 := fun e => hc.2 (Int.dvd_of_tmod_eq_zero e)
    omega

set_option maxHeartbeats 400000 in
theorem modulo_any (a n : Int) (h1 : 1 ≤ n) (h2 : n ≤ 1000) (w : World) :
    Calls Try.prog 55 #[I a, I n] w fun e w' => e = .returned (I (a % n)) ∧ w' = w := by
  have hb1 := Int.emod_nonneg a (show n ≠ 0 by omega)
  have hb2 := Int.emod_lt_of_pos a (show 0 < n by omega)
  have hn0 : ¬ n = 0 := by omega
  by_cases h : a.tmod n < 0
  · have e := emod_neg (show 0 < n by omega) h
    have hd : decide (a.tmod n < 0) = true := by simpa using h
    go_enter Try.func55, Try.ntmps55
    go_wp2
    go_ret
    exact ⟨by first | rfl | simp [e], rfl⟩
  · have e := emod_pos (show 0 < n by omega) h
    have hd : decide (a.tmod n < 0) = false := by simpa using h
    go_enter Try.func55, Try.ntmps55
    go_wp2
    go_ret
    exact ⟨rfl, rfl⟩

/-- What a once answers, if it may. -/
def gives (e : Ev) : Int × Int := (actOf e).getD (0, 0)

set_option maxHeartbeats 1000000 in
theorem act_any (x : Ev) (w : World) :
    Calls Try.prog 57 #[evV x] w fun e w' => e = .returned (.tuple #[.agg #[I (gives x).1, I (gives x).2], .bool (actOf x).isSome]) ∧ Below w.heap.size w w' := by
  by_cases h1 : x.op = 1
  · have e1 : actOf x = some (0, x.b) := by unfold actOf; rw [if_pos h1]
    have h1' : (x.op == 1) = true := by simpa using h1
    rw [gives, e1]
    clear h1 e1
    go_enter Try.func57, Try.ntmps57
    go_wp2
    refine bodyPost_ret (v := .tuple #[.agg #[I 0, I x.b], .bool true]) (by simp [results, Try.results57, go_sem]) rfl ⟨rfl, ?_⟩
    exact below_alloc (below_alloc (Below.refl _ _) _) _
  · have h1' : (x.op == 1) = false := by simpa using h1
    by_cases h2 : x.op = 2
    · have e1 : actOf x = some (70, x.b) := by unfold actOf; rw [if_neg h1, if_pos h2]
      have h2' : (x.op == 2) = true := by simpa using h2
      rw [gives, e1]
      clear h1 h2 e1
      go_enter Try.func57, Try.ntmps57
      go_wp2
      refine bodyPost_ret (v := .tuple #[.agg #[I 70, I x.b], .bool true]) (by simp [results, Try.results57, go_sem]) rfl ⟨rfl, ?_⟩
      exact below_alloc (below_alloc (Below.refl _ _) _) _
    · have h2' : (x.op == 2) = false := by simpa using h2
      by_cases h3 : x.op = 3
      · have e1 : actOf x = some (71, x.b) := by unfold actOf; rw [if_neg h1, if_neg h2, if_pos h3]
        have h3' : (x.op == 3) = true := by simpa using h3
        rw [gives, e1]
        clear h1 h2 h3 e1
        go_enter Try.func57, Try.ntmps57
        go_wp2
        refine bodyPost_ret (v := .tuple #[.agg #[I 71, I x.b], .bool true]) (by simp [results, Try.results57, go_sem]) rfl ⟨rfl, ?_⟩
        exact below_alloc (below_alloc (Below.refl _ _) _) _
      · have h3' : (x.op == 3) = false := by simpa using h3
        by_cases h4 : x.op = 4
        · have e1 : actOf x = some (70, 72) := by unfold actOf; rw [if_neg h1, if_neg h2, if_neg h3, if_pos h4]
          have h4' : (x.op == 4) = true := by simpa using h4
          rw [gives, e1]
          clear h1 h2 h3 h4 e1
          go_enter Try.func57, Try.ntmps57
          go_wp2
          refine bodyPost_ret (v := .tuple #[.agg #[I 70, I 72], .bool true]) (by simp [results, Try.results57, go_sem]) rfl ⟨rfl, ?_⟩
          exact below_alloc (below_alloc (Below.refl _ _) _) _
        · have e1 : actOf x = none := by unfold actOf; rw [if_neg h1, if_neg h2, if_neg h3, if_neg h4]
          have h4' : (x.op == 4) = false := by simpa using h4
          rw [gives, e1]
          clear h1 h2 h3 h4 e1
          go_enter Try.func57, Try.ntmps57
          go_wp2
          refine bodyPost_ret (v := .tuple #[.agg #[I 0, I 0], .bool false]) (by simp [results, Try.results57, go_sem]) rfl ⟨rfl, ?_⟩
          exact below_alloc (below_alloc (Below.refl _ _) _) _

end Go.Proofs.Yteniopbmkooomaa
