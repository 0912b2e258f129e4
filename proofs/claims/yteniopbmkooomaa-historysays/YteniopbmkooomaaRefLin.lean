/-
  The document's Linear.
-/
import Derived.Test.YteniopbmkooomaaGoesC
namespace Go.Proofs.Yteniopbmkooomaa
open Go.RowKit Hi Go.Deep Go.Maps

theorem left_none (n : Nat) : left 0 n = n := by
  induction n with
  | zero => rfl
  | succ n ih => rw [left_no (by simp), ih]

theorem met_first {w : World} {base : Nat} {lv : Value} {ob st : Int} {N : Nat} (hb : base ≤ w.heap.size) (W : World) (hW : W = (w.alloc (.cells (madeCells #[Value.slice none 0 0] N) 132)).alloc (.cells #[I ob, I st, lv, .slice (some ⟨w.heap.size, 0, none⟩) N N] 80)) :
    Met W base (w.heap.size + 1) w.heap.size lv ob st N (fun _ => []) := by
  subst hW
  have hs : (w.alloc (.cells (madeCells #[Value.slice none 0 0] N) 132)).heap.size = w.heap.size + 1 := by simp
  have hn : ∀ j v, #[I ob, I st, lv, Value.slice (some ⟨w.heap.size, 0, none⟩) N N][j]? = some v → ((w.alloc (.cells (madeCells #[Value.slice none 0 0] N) 132)).alloc (.cells #[I ob, I st, lv, .slice (some ⟨w.heap.size, 0, none⟩) N N] 80)).cell? ⟨w.heap.size + 1, j, none⟩ = some v := fun j v hj => by
    rw [← hs]
    have := heap_alloc_new (w.alloc (.cells (madeCells #[Value.slice none 0 0] N) 132)) (.cells #[I ob, I st, lv, .slice (some ⟨w.heap.size, 0, none⟩) N N] 80)
    simp only [World.cell?, this]
    simpa using hj
  refine ⟨hn 0 _ rfl, hn 1 _ rfl, hn 2 _ rfl, hn 3 _ rfl, hb, fun _ => .slice none 0 0, ?_, fun m _ => ⟨⟨[], .inl ⟨rfl, rfl⟩, rfl, fun i t h => by simp at h⟩, fun m' _ _ g hg => nomatch hg⟩⟩
  refine ⟨madeCells #[Value.slice none 0 0] N, ?_, by simp [madeCells], fun i hi => ?_⟩
  · rw [Below.heap_alloc _ _ _ (by simp)]
    exact heap_alloc_new w _
  · simp [madeCells, hi, Nat.mod_one]

theorem info132 : (Try.prog.info? 132).map (fun i => (i.zero, i.size, i.bytes)) = some (some (.slice none 0 0), 1, 24) := by kernel_rfl
theorem make_met (n : Nat) (hn : n ≤ 4096) (w : World) :
    (Instr.makeSlice 78 (.int .i64 (n : Int)) (.int .i64 (n : Int))).run Try.prog w = .ok (.slice (some ⟨w.heap.size, 0, none⟩) n n) (w.alloc (.cells (madeCells #[.slice none 0 0] n) 132)) := by
  cases hq : Try.prog.info? 132 with
  | none => have := info132; rw [hq] at this; cases this
  | some i =>
    have hi := info132
    rw [hq] at hi
    simp only [Option.map_some, Option.some.injEq, Prod.mk.injEq] at hi
    obtain ⟨hz, hs, hb⟩ := hi
    have := run_make (P := Try.prog) w 78 132 i _ Try.underlying78 hq hz .i64 .i64 (n : Int) (n : Int) (by omega) (by omega) (by rw [hb]; omega) (by omega)
    rw [hs] at this
    rw [this]
    simp [Value.cells]

/-- Which start is right, by the tests that are made. -/
theorem starts_tests {ob st : Int} (h : Starts ob st) : decide (ob < 1) = false ∧ decide (ob > 5) = false ∧
    (((ob == 2) = false ∧ (ob == 4) = false ∧ (ob == 5) = false) ∨ ((ob == 2) = true ∧ (st != 0) = false ∧ (ob == 4) = false ∧ (ob == 5) = false) ∨ ((ob == 2) = false ∧ (ob == 4) = true ∧ decide (st < 0) = false ∧ (ob == 5) = false) ∨
      ((ob == 2) = false ∧ (ob == 4) = false ∧ (ob == 5) = true ∧ decide (st < 1) = false ∧ decide (st > 1000) = false)) := by
  rcases h with rfl | rfl | ⟨rfl, rfl⟩ | ⟨rfl, h⟩ | ⟨rfl, h1, h2⟩
  · simp
  · simp
  · simp
  · refine ⟨by simp, by simp, .inr (.inr (.inl ⟨by simp, by simp, by simp; omega, by simp⟩))⟩
  · refine ⟨by simp, by simp, .inr (.inr (.inr ⟨by simp, by simp, by simp, by simp; omega, by simp; omega⟩))⟩
theorem not_starts_tests {ob st : Int} (h : ¬ Starts ob st) : decide (ob < 1) = true ∨ (decide (ob < 1) = false ∧ decide (ob > 5) = true) ∨ (decide (ob < 1) = false ∧ decide (ob > 5) = false ∧
    (((ob == 2) = true ∧ (st != 0) = true) ∨ ((ob == 2) = false ∧ (ob == 4) = true ∧ decide (st < 0) = true) ∨
      ((ob == 2) = false ∧ (ob == 4) = false ∧ (ob == 5) = true ∧ decide (st < 1) = true) ∨ ((ob == 2) = false ∧ (ob == 4) = false ∧ (ob == 5) = true ∧ decide (st < 1) = false ∧ decide (st > 1000) = true))) := by
  unfold Starts at h
  by_cases h1 : ob < 1
  · exact .inl (by simpa using h1)
  · by_cases h2 : ob > 5
    · exact .inr (.inl ⟨by simpa using h1, by simpa using h2⟩)
    · refine .inr (.inr ⟨by simpa using h1, by simpa using h2, ?_⟩)
      have : ob = 2 ∨ ob = 4 ∨ ob = 5 := by omega
      rcases this with rfl | rfl | rfl
      · exact .inl ⟨by simp, by simp; omega⟩
      · exact .inr (.inl ⟨by simp, by simp, by simp; omega⟩)
      · by_cases h3 : st < 1
        · exact .inr (.inr (.inl ⟨by simp, by simp, by simp, by simpa using h3⟩))
        · exact .inr (.inr (.inr ⟨by simp, by simp, by simp, by simpa using h3, by simp; omega⟩))

set_option maxHeartbeats 8000000 in
set_option maxRecDepth 100000 in
theorem rlinear_any (ob st : Int) (v : Value) (l : List Ev) (w : World) (hE : Evs w v l) :
    Calls Try.prog 11 #[I ob, I st, v] w fun e w' => (∃ b c, e = .returned (.tuple #[.bool b, I c]) ∧ LinOut ob st l b c) ∧ Below w.heap.size w w' := by
  have HE : Hid (Evs w v l) := hE
  obtain ⟨p, cap, rfl, hcap, hmax, _⟩ := hE
  unfold maxLen at hmax
  by_cases hS : Starts ob st
  · have HS : Hid (Starts ob st) := hS
    obtain ⟨t1, t2, ht⟩ := starts_tests hS
    clear hS
    by_cases h12 : l.length ≤ 12
    · by_cases hh : Hist l
      · have HH : Hid (Hist l) := hh
        have hw : IntKind.i64.wrap ((2 : Int) ^ l.length) = ((2 ^ l.length : Nat) : Int) := by
          have e2 : ((2 : Int) ^ l.length) = ((2 ^ l.length : Nat) : Int) := by push_cast; rfl
          have e3 : 2 ^ l.length ≤ 2 ^ 12 := Nat.pow_le_pow_right (by omega) h12
          rw [e2, IntKind.wrap_i64]
          generalize 2 ^ l.length = z at e3
          omega
        have hN4 : 2 ^ l.length ≤ 4096 := Nat.pow_le_pow_right (by omega) h12
        obtain ⟨N, hN⟩ : ∃ N, N = 2 ^ l.length := ⟨_, rfl⟩
        have HN : Hid (N = 2 ^ l.length) := hN
        rw [← hN] at hw hN4
        have hmk := make_met N hN4
        clear hh hN
        rcases ht with ⟨t3, t4, t5⟩ | ⟨t3, t4, t5, t6⟩ | ⟨t3, t4, t5, t6⟩ | ⟨t3, t4, t5, t6, t7⟩
        all_goals
          go_enter Try.func11, Try.ntmps11
          go_wp2_with fail
          refine (rhistory_any _ l _ HE.out).mono ?_
          rintro e w1 ⟨⟨b, rfl, hb⟩, hb1⟩
          have hbt : b = true := hb.2 HH.out
          subst hbt
          have HB1 : Hid (Below w.heap.size w w1) := hb1
          clear hb hb1
          go_wp2_with fail
          refine (first_any ob st HS.out _).mono ?_
          rintro e w2 ⟨sv, rfl, hsi, hb2⟩
          have HSI : Hid (SI w2 sv (firstOf ob st)) := hsi
          have HMET : Hid (Met w2 w.heap.size (w1.heap.size + 1) w1.heap.size (.slice p l.length cap) ob st N (fun _ => [])) := (met_first HB1.out.size _ rfl).later hb2
          have HB2 : Hid (Below w.heap.size w w2) := below_step (below_alloc (below_alloc HB1.out _) _) hb2
          clear hsi hb2
          go_wp2_with fail
          refine (goes_any ob st HS.out l h12 w _ HE.out (w1.heap.size + 1) w1.heap.size N HN.out l.length 0 (fun _ => []) sv (firstOf ob st) w2 (left_none _) (by rw [HN.out]; exact Nat.two_pow_pos _) HB2.out HMET.out (fun m _ t ht => by simp at ht) (fun m => by simp) HSI.out (by rw [Nat.sub_self]; exact stOk_first ob st)).mono ?_
          rintro e w3 ⟨hb3, _, hor⟩
          obtain ⟨b, rfl, hyes, hno⟩ := goesOut_bool hor
          have HB3 : Hid (Below w.heap.size w w3) := hb3
          have hbl : b = true ↔ Lin (refWays ob st) (firstOf ob st) l := by
            rw [lin_iff HH.out]
            cases b with
            | true => exact ⟨fun _ => hyes rfl, fun _ => rfl⟩
            | false => exact ⟨fun h => (nomatch h), fun h => absurd h (hno rfl).1⟩
          have HBL : Hid (b = true ↔ Lin (refWays ob st) (firstOf ob st) l) := hbl
          clear hb3 hor hyes hno hbl
          go_wp2_with fail
          go_ret2
          exact ⟨⟨b, 0, rfl, .inr (.inr (.inr ⟨HS.out, h12, HH.out, rfl, HBL.out⟩))⟩, HB3.out⟩
      · have HH : Hid (¬ Hist l) := hh
        clear hh
        rcases ht with ⟨t3, t4, t5⟩ | ⟨t3, t4, t5, t6⟩ | ⟨t3, t4, t5, t6⟩ | ⟨t3, t4, t5, t6, t7⟩
        all_goals
          go_enter Try.func11, Try.ntmps11
          go_wp2_with fail
          refine (rhistory_any _ l _ HE.out).mono ?_
          rintro e w1 ⟨⟨b, rfl, hb⟩, hb1⟩
          have hbt : b = false := by
            cases b with
            | false => rfl
            | true => exact absurd (hb.1 rfl) HH.out
          subst hbt
          have HB1 : Hid (Below w.heap.size w w1) := hb1
          clear hb hb1
          go_wp2_with fail
          go_ret2
          exact ⟨⟨false, 30, rfl, .inr (.inr (.inl ⟨HS.out, h12, HH.out, rfl, rfl⟩))⟩, HB1.out⟩
    · have h12' : 12 < l.length := by omega
      rcases ht with ⟨t3, t4, t5⟩ | ⟨t3, t4, t5, t6⟩ | ⟨t3, t4, t5, t6⟩ | ⟨t3, t4, t5, t6, t7⟩
      all_goals
        go_enter Try.func11, Try.ntmps11
        go_wp2_with fail
        go_ret2
        first | exact ⟨⟨false, 3, rfl, .inr (.inl ⟨HS.out, h12', rfl, rfl⟩)⟩, Below.refl _ _⟩ | exact ⟨.inl ⟨3, rfl, .inr (.inl ⟨HS.out, h12', rfl, rfl⟩)⟩, Below.refl _ _⟩
  · have HS : Hid (¬ Starts ob st) := hS
    have ht := not_starts_tests hS
    clear hS
    rcases ht with t1 | ⟨t1, t2⟩ | ⟨t1, t2, ⟨t3, t4⟩ | ⟨t3, t4, t5⟩ | ⟨t3, t4, t5, t6⟩ | ⟨t3, t4, t5, t6, t7⟩⟩
    all_goals
      go_enter Try.func11, Try.ntmps11
      go_wp2_with fail
      go_ret2
      first | exact ⟨⟨false, 1, rfl, .inl ⟨HS.out, rfl, rfl⟩⟩, Below.refl _ _⟩ | exact ⟨.inl ⟨1, rfl, .inl ⟨HS.out, rfl, rfl⟩⟩, Below.refl _ _⟩

/-- Two that answer as Linear does answer alike. -/
theorem linOut_one {ob st : Int} {l : List Ev} {b b' : Bool} {c c' : Int} (h : LinOut ob st l b c) (h' : LinOut ob st l b' c') : b = b' ∧ c = c' := by
  rcases h with ⟨a1, a2, a3⟩ | ⟨a1, a2, a3, a4⟩ | ⟨a1, a2, a3, a4, a5⟩ | ⟨a1, a2, a3, a4, a5⟩ <;> rcases h' with ⟨b1, b2, b3⟩ | ⟨b1, b2, b3, b4⟩ | ⟨b1, b2, b3, b4, b5⟩ | ⟨b1, b2, b3, b4, b5⟩
  all_goals first
    | exact ⟨a2.trans b2.symm, a3.trans b3.symm⟩
    | exact absurd b1 a1
    | exact absurd a1 b1
    | exact ⟨a3.trans b3.symm, a4.trans b4.symm⟩
    | exact ⟨a4.trans b4.symm, a5.trans b5.symm⟩
    | exact ⟨Bool.eq_iff_iff.2 (a5.trans b5.symm), a4.trans b4.symm⟩
    | exact absurd a3 b3
    | exact absurd b3 a3
    | omega

end Go.Proofs.Yteniopbmkooomaa
