/- LatchLinear: whatever the schedule, the number and the scripts, what a latch's calls are told could have been one call behind the other, as chapter 3's own functions say; no conditions. Part 38 of 39. (Joined, by program, of: R3RefLin, R3Expl, La11b, GOpens.) -/
import Derived.Test.YtehingmdmijedaaLatchLinear29
import Derived.Test.YtehingmdmijedaaLatchLinear31
import Derived.Test.YtehingmdmijedaaLatchLinear32
import Derived.Test.YtehingmdmijedaaLatchLinear33
import Derived.Test.YtehingmdmijedaaLatchLinear34
import Derived.Test.YtehingmdmijedaaLatchLinear37
import Derived.Conc.LeavingOf
import Derived.ProofKit
import Derived.OpenShut
import Derived.ChangeOld
import Derived.SizedLaws
import Derived.Lib.SmallJoins
import Derived.Deep.SlicePairs
set_option linter.unusedSimpArgs false
set_option linter.unusedVariables false
namespace Go.Proofs.Ytehingmdmijedaa.R3
open Go.RowKit Go.Proofs.Ytehingmdmijedaa.His Go.Deep Go.Maps
theorem left_none (n : Nat) : left 0 n = n := by
  induction n with
  | zero => rfl
  | succ n ih => rw [left_no (by simp), ih]
theorem met_first {w : World} {base : Nat} {lv : Value} {ob st : Int} {N : Nat} (hb : base ≤ w.heap.size) (W : World) (hW : W = (w.alloc (.cells (madeCells #[Value.slice none 0 0] N) 36)).alloc (.cells #[I ob, I st, lv, .slice (some ⟨w.heap.size, 0, none⟩) N N] 134)) :
    Met W base (w.heap.size + 1) w.heap.size lv ob st N (fun _ => []) := by
  subst hW
  have hs : (w.alloc (.cells (madeCells #[Value.slice none 0 0] N) 36)).heap.size = w.heap.size + 1 := by simp
  have hn : ∀ j v, #[I ob, I st, lv, Value.slice (some ⟨w.heap.size, 0, none⟩) N N][j]? = some v → ((w.alloc (.cells (madeCells #[Value.slice none 0 0] N) 36)).alloc (.cells #[I ob, I st, lv, .slice (some ⟨w.heap.size, 0, none⟩) N N] 134)).cell? ⟨w.heap.size + 1, j, none⟩ = some v := fun j v hj => by
    rw [← hs]
    have := heap_alloc_new (w.alloc (.cells (madeCells #[Value.slice none 0 0] N) 36)) (.cells #[I ob, I st, lv, .slice (some ⟨w.heap.size, 0, none⟩) N N] 134)
    simp only [World.cell?, this]
    simpa using hj
  refine ⟨hn 0 _ rfl, hn 1 _ rfl, hn 2 _ rfl, hn 3 _ rfl, hb, fun _ => .slice none 0 0, ?_, fun m _ => ⟨⟨[], .inl ⟨rfl, rfl⟩, rfl, fun i t h => by simp at h⟩, fun m' _ _ g hg => nomatch hg⟩⟩
  refine ⟨madeCells #[Value.slice none 0 0] N, ?_, by simp [madeCells], fun i hi => ?_⟩
  · rw [Below.heap_alloc _ _ _ (by simp)]
    exact heap_alloc_new w _
  · simp [madeCells, hi, Nat.mod_one]
theorem info132 : (Try.prog.info? 36).map (fun i => (i.zero, i.size, i.bytes)) = some (some (.slice none 0 0), 1, 24) := by kernel_rfl
theorem make_met (n : Nat) (hn : n ≤ 4096) (w : World) :
    (Instr.makeSlice 132 (.int .i64 (n : Int)) (.int .i64 (n : Int))).run Try.prog w = .ok (.slice (some ⟨w.heap.size, 0, none⟩) n n) (w.alloc (.cells (madeCells #[.slice none 0 0] n) 36)) := by
  cases hq : Try.prog.info? 36 with
  | none => have := info132; rw [hq] at this; cases this
  | some i =>
    have hi := info132
    rw [hq] at hi
    simp only [Option.map_some, Option.some.injEq, Prod.mk.injEq] at hi
    obtain ⟨hz, hs, hb⟩ := hi
    have := run_make (P := Try.prog) w 132 36 i _ Try.underlying132 hq hz .i64 .i64 (n : Int) (n : Int) (by omega) (by omega) (by rw [hb]; omega) (by omega)
    rw [hs] at this
    rw [this]
    simp [Value.cells]
theorem starts_tests {ob st : Int} (h : Starts ob st) : decide (ob < 1) = false ∧ decide (ob > 5) = false ∧
    (((ob == 2) = false ∧ (ob == 4) = false ∧ (ob == 5) = false) ∨ ((ob == 2) = true ∧ (st != 0) = false ∧ (ob == 4) = false ∧ (ob == 5) = false) ∨ ((ob == 2) = false ∧ (ob == 4) = true ∧ decide (st < 0) = false ∧ (ob == 5) = false) ∨
      ((ob == 2) = false ∧ (ob == 4) = false ∧ (ob == 5) = true ∧ decide (st < 1) = false ∧ decide (st > 1000) = false)) := by
  rcases h with rfl | rfl | ⟨rfl, rfl⟩ | ⟨rfl, h⟩ | ⟨rfl, h1, h2⟩
  · simp
  · simp
  · simp
  · refine ⟨by simp, by simp, .inr (.inr (.inl ⟨by simp, by simp, by simp; omega, by simp⟩))⟩
  · refine ⟨by simp, by simp, .inr (.inr (.inr ⟨by simp, by simp, by simp, by simp; omega, by simp; omega⟩))⟩
theorem not_starts_tests {ob st : Int} (h : ¬ Starts ob st) : decide (ob < 1) = true ∨ (decide (ob < 1) = false ∧ decide (ob > 5) = true) ∨ (decide (ob < 1) = false ∧ decide (ob > 5) = false ∧
    (((ob == 2) = true ∧ (st != 0) = true) ∨ ((ob == 2) = false ∧ (ob == 4) = true ∧ decide (st < 0) = true) ∨
      ((ob == 2) = false ∧ (ob == 4) = false ∧ (ob == 5) = true ∧ decide (st < 1) = true) ∨ ((ob == 2) = false ∧ (ob == 4) = false ∧ (ob == 5) = true ∧ decide (st < 1) = false ∧ decide (st > 1000) = true))) := by
  unfold Starts at h
  by_cases h1 : ob < 1
  · exact .inl (by simpa using h1)
  · by_cases h2 : ob > 5
    · exact .inr (.inl ⟨by simpa using h1, by simpa using h2⟩)
    · refine .inr (.inr ⟨by simpa using h1, by simpa using h2, ?_⟩)
      have : ob = 2 ∨ ob = 4 ∨ ob = 5 := by omega
      rcases this with rfl | rfl | rfl
      · exact .inl ⟨by simp, by simp; omega⟩
      · exact .inr (.inl ⟨by simp, by simp, by simp; omega⟩)
      · by_cases h3 : st < 1
        · exact .inr (.inr (.inl ⟨by simp, by simp, by simp, by simpa using h3⟩))
        · exact .inr (.inr (.inr ⟨by simp, by simp, by simp, by simpa using h3, by simp; omega⟩))
set_option maxHeartbeats 8000000 in
set_option maxRecDepth 100000 in
theorem rlinear_any (ob st : Int) (hWC : WaysC ob st) (v : Value) (l : List Ev) (w : World) (hE : Evs w v l) :
    Calls Try.prog 67 #[I ob, I st, v] w fun e w' => (∃ b c, e = .returned (.tuple #[.bool b, I c]) ∧ LinOut ob st l b c) ∧ Below w.heap.size w w' := by
  have HWC : Hid (WaysC ob st) := hWC
  clear hWC
  have HE : Hid (Evs w v l) := hE
  obtain ⟨p, cap, rfl, hcap, hmax, _⟩ := hE
  unfold maxLen at hmax
  by_cases hS : Starts ob st
  · have HS : Hid (Starts ob st) := hS
    obtain ⟨t1, t2, ht⟩ := starts_tests hS
    clear hS
    by_cases h12 : l.length ≤ 12
    · by_cases hh : Hist l
      · have HH : Hid (Hist l) := hh
        have hw : IntKind.i64.wrap ((2 : Int) ^ l.length) = ((2 ^ l.length : Nat) : Int) := by
          have e2 : ((2 : Int) ^ l.length) = ((2 ^ l.length : Nat) : Int) := by push_cast; rfl
          have e3 : 2 ^ l.length ≤ 2 ^ 12 := Nat.pow_le_pow_right (by omega) h12
          rw [e2, IntKind.wrap_i64]
          generalize 2 ^ l.length = z at e3
          omega
        have hN4 : 2 ^ l.length ≤ 4096 := Nat.pow_le_pow_right (by omega) h12
        obtain ⟨N, hN⟩ : ∃ N, N = 2 ^ l.length := ⟨_, rfl⟩
        have HN : Hid (N = 2 ^ l.length) := hN
        rw [← hN] at hw hN4
        have hmk := make_met N hN4
        clear hh hN
        rcases ht with ⟨t3, t4, t5⟩ | ⟨t3, t4, t5, t6⟩ | ⟨t3, t4, t5, t6⟩ | ⟨t3, t4, t5, t6, t7⟩
        all_goals
          go_enter Try.func67, Try.ntmps67
          go_wp2_with fail
          refine (rhistory_any _ l _ HE.out).mono ?_
          rintro e w1 ⟨⟨b, rfl, hb⟩, hb1⟩
          have hbt : b = true := hb.2 HH.out
          subst hbt
          have HB1 : Hid (Below w.heap.size w w1) := hb1
          clear hb hb1
          go_wp2_with fail
          refine (first_any ob st HS.out _).mono ?_
          rintro e w2 ⟨sv, rfl, hsi, hb2⟩
          have HSI : Hid (SI w2 sv (firstOf ob st)) := hsi
          have HMET : Hid (Met w2 w.heap.size (w1.heap.size + 1) w1.heap.size (.slice p l.length cap) ob st N (fun _ => [])) := (met_first HB1.out.size _ rfl).later hb2
          have HB2 : Hid (Below w.heap.size w w2) := below_step (below_alloc (below_alloc HB1.out _) _) hb2
          clear hsi hb2
          go_wp2_with fail
          refine (goes_any ob st HWC.out l h12 w _ HE.out (w1.heap.size + 1) w1.heap.size N HN.out l.length 0 (fun _ => []) sv (firstOf ob st) w2 (left_none _) (by rw [HN.out]; exact Nat.two_pow_pos _) HB2.out HMET.out (fun m _ t ht => by simp at ht) (fun m => by simp) HSI.out (by rw [Nat.sub_self]; exact stOk_first ob st)).mono ?_
          rintro e w3 ⟨hb3, _, hor⟩
          obtain ⟨b, rfl, hyes, hno⟩ := goesOut_bool hor
          have HB3 : Hid (Below w.heap.size w w3) := hb3
          have hbl : b = true ↔ Lin (refWays ob st) (firstOf ob st) l := by
            rw [lin_iff HH.out]
            cases b with
            | true => exact ⟨fun _ => hyes rfl, fun _ => rfl⟩
            | false => exact ⟨fun h => (nomatch h), fun h => absurd h (hno rfl).1⟩
          have HBL : Hid (b = true ↔ Lin (refWays ob st) (firstOf ob st) l) := hbl
          clear hb3 hor hyes hno hbl
          go_wp2_with fail
          go_ret2
          exact ⟨⟨b, 0, rfl, .inr (.inr (.inr ⟨HS.out, h12, HH.out, rfl, HBL.out⟩))⟩, HB3.out⟩
      · have HH : Hid (¬ Hist l) := hh
        clear hh
        rcases ht with ⟨t3, t4, t5⟩ | ⟨t3, t4, t5, t6⟩ | ⟨t3, t4, t5, t6⟩ | ⟨t3, t4, t5, t6, t7⟩
        all_goals
          go_enter Try.func67, Try.ntmps67
          go_wp2_with fail
          refine (rhistory_any _ l _ HE.out).mono ?_
          rintro e w1 ⟨⟨b, rfl, hb⟩, hb1⟩
          have hbt : b = false := by
            cases b with
            | false => rfl
            | true => exact absurd (hb.1 rfl) HH.out
          subst hbt
          have HB1 : Hid (Below w.heap.size w w1) := hb1
          clear hb hb1
          go_wp2_with fail
          go_ret2
          exact ⟨⟨false, 30, rfl, .inr (.inr (.inl ⟨HS.out, h12, HH.out, rfl, rfl⟩))⟩, HB1.out⟩
    · have h12' : 12 < l.length := by omega
      rcases ht with ⟨t3, t4, t5⟩ | ⟨t3, t4, t5, t6⟩ | ⟨t3, t4, t5, t6⟩ | ⟨t3, t4, t5, t6, t7⟩
      all_goals
        go_enter Try.func67, Try.ntmps67
        go_wp2_with fail
        go_ret2
        first | exact ⟨⟨false, 3, rfl, .inr (.inl ⟨HS.out, h12', rfl, rfl⟩)⟩, Below.refl _ _⟩ | exact ⟨.inl ⟨3, rfl, .inr (.inl ⟨HS.out, h12', rfl, rfl⟩)⟩, Below.refl _ _⟩
  · have HS : Hid (¬ Starts ob st) := hS
    have ht := not_starts_tests hS
    clear hS
    rcases ht with t1 | ⟨t1, t2⟩ | ⟨t1, t2, ⟨t3, t4⟩ | ⟨t3, t4, t5⟩ | ⟨t3, t4, t5, t6⟩ | ⟨t3, t4, t5, t6, t7⟩⟩
    all_goals
      go_enter Try.func67, Try.ntmps67
      go_wp2_with fail
      go_ret2
      first | exact ⟨⟨false, 1, rfl, .inl ⟨HS.out, rfl, rfl⟩⟩, Below.refl _ _⟩ | exact ⟨.inl ⟨1, rfl, .inl ⟨HS.out, rfl, rfl⟩⟩, Below.refl _ _⟩
end Go.Proofs.Ytehingmdmijedaa.R3

namespace Go.Proofs.Ytehingmdmijedaa.R3
open Go.RowKit Go.Proofs.Ytehingmdmijedaa.His Go.Deep Go.Maps
theorem evs_get : ∀ (l : List Ev) (i : Nat), (l.flatMap evL)[i]? = (l[i / 8]?).bind fun e => (evL e)[i % 8]?
  | [], i => by simp
  | e :: r, i => by
    have hl : (evL e).length = 8 := rfl
    rw [List.flatMap_cons]
    by_cases hi : i < 8
    · rw [List.getElem?_append_left (by omega)]
      have h1 : i / 8 = 0 := by omega
      have h2 : i % 8 = i := by omega
      simp [h1, h2]
    · rw [List.getElem?_append_right (by omega), evs_get r, hl]
      have h1 : i / 8 = (i - 8) / 8 + 1 := by omega
      have h2 : (i - 8) % 8 = i % 8 := by omega
      rw [h1, h2]
      simp
theorem own_sl {w : World} {base : Nat} {v : Value} {evs : List Ev} (h : w.ownsRow base 129 8 v evs.length (evs.flatMap evL)) : SL 8 evL w v evs := by
  rcases h.2 with ⟨rfl, h0⟩ | ⟨g, cap, cur, rfl, hb, hh, h1, h2, h3, h4⟩
  · have : evs = [] := List.length_eq_zero_iff.1 h0
    subst this
    exact ⟨none, 0, rfl, Nat.le_refl _, Nat.zero_le _, fun i a hi => by simp at hi⟩
  · refine ⟨_, cap, rfl, h1, h2, fun i a hi => ⟨g, 0, rfl, (Array.getElem?_eq_some_iff.1 hh).1, fun j u hj => ?_⟩⟩
    have hi' := (List.getElem?_eq_some_iff.1 hi).1
    have hj8 : j < 8 := by have := (List.getElem?_eq_some_iff.1 hj).1; simpa [evL] using this
    have hlt : i * 8 + j < evs.length * 8 := by omega
    have hf : (evs.flatMap evL)[i * 8 + j]? = some u := by
      rw [evs_get]
      have e1 : (i * 8 + j) / 8 = i := by omega
      have e2 : (i * 8 + j) % 8 = j := by omega
      rw [e1, e2, hi]
      exact hj
    rw [← h4, List.getElem?_take_of_lt hlt] at hf
    simp only [World.cell?, hh, Nat.zero_add]
    simpa using hf
theorem sl_evs {w : World} {v : Value} {l : List Ev} (h : SL 8 evL w v l) : Evs w v l := by
  obtain ⟨p, cap, rfl, h1, h2, h3⟩ := h
  refine ⟨p, cap, rfl, h1, h2, fun i hi => ?_⟩
  obtain ⟨blk, off, e, _, hr⟩ := h3 i _ (getD_some hi ev0)
  exact ⟨blk, off, e, hr⟩
set_option maxHeartbeats 8000000 in
set_option maxRecDepth 100000 in
theorem explained_any (ob st ops : Int) (hWC : WaysC ob st) (sv av tv : Value) (sc : List (List Call)) (an : List (List (Int × Int))) (tr : List Step) (w : World) (hs : SSw 4 callL w sv sc) (ha : SSw 2 ansL w av an) (ht : SLw 5 stepL w tv tr)
    (bn : sc.length ≤ 8) (bl : ∀ i, (sc.getD i []).length ≤ 64) (ba : ∀ i, (an.getD i []).length ≤ 1048576) (bt : tr.length ≤ 1048576)
    (hyes : (∀ i, i < sc.length → ∀ k, k < (sc.getD i []).length → OpIn ops ((sc.getD i []).getD k call0)) → sumL sc sc.length ≤ 12 →
      Alike sc an ∧ ∀ r, Ofs sc an 0 tr st0 r → ∃ s, r = some s ∧ Starts ob st ∧ s.evs.length ≤ 12 ∧ Hist s.evs ∧ Lin (refWays ob st) (firstOf ob st) s.evs) :
    Calls Try.prog 41 #[I ob, I st, I ops, sv, av, tv] w fun e w' => e = .returned (.bool true) ∧ Below w.heap.size w w' := by
  have HWC : Hid (WaysC ob st) := hWC
  clear hWC
  have HSS : Hid (SSw 4 callL w sv sc) := hs
  have HSA : Hid (SSw 2 ansL w av an) := ha
  have HTT : Hid (SLw 5 stepL w tv tr) := ht
  obtain ⟨p, cap, rfl, p1, p2, p3⟩ := hs
  obtain ⟨q, caq, rfl, q1, q2, q3⟩ := ha
  obtain ⟨o, cao, rfl, o1, o2, o3⟩ := ht
  unfold maxLen at p2 q2 o2
  have P3 : Hid (∀ i l, sc[i]? = some l → ∃ blk off vi, p = some ⟨blk, off, none⟩ ∧ w.cell? ⟨blk, off + i, none⟩ = some vi ∧ SLw 4 callL w vi l) := p3
  have BA : Hid (∀ i, (an.getD i []).length ≤ 1048576) := ba
  have BL : Hid (∀ i, (sc.getD i []).length ≤ 64) := bl
  have HY : Hid (_ → _ → _) := hyes
  clear p3 q3 o3 ba bl hyes
  go_enter Try.func41, Try.ntmps41
  go_wp2_with fail
  go_loopw [13, 14] (fun m i u => ∃ k : Nat, k ≤ sc.length ∧ i = .int .i64 k ∧ m = .int .i64 (sumL sc k : Nat) ∧ (∀ i, i < k → ∀ j, j < (sc.getD i []).length → OpIn ops ((sc.getD i []).getD j call0)) ∧ u = w) (fun _ i _ => sc.length - (intOf i).toNat)
  case atStart => exact ⟨0, Nat.zero_le _, rfl, rfl, fun i hi => absurd hi (Nat.not_lt_zero _), rfl⟩
  case round =>
    obtain ⟨k, hk, rfl, rfl, hso, rfl⟩ := hrel
    by_cases hlt : k < sc.length
    · obtain ⟨blk, off, vi, rfl, hc, ⟨p2', cp2, rfl, i1, i2, i3⟩⟩ := P3.out k _ (getD_some hlt [])
      unfold maxLen at i2
      have HSO : Hid (∀ i, i < k → ∀ j, j < (sc.getD i []).length → OpIn ops ((sc.getD i []).getD j call0)) := hso
      have I3 : Hid (∀ i a, (sc.getD k [])[i]? = some a → ∃ blk off, p2' = some ⟨blk, off, none⟩ ∧ blk < wr.heap.size ∧ wr.rangeAt blk (off + i * 4) (callL a)) := i3
      have hsm := sumL_le BL.out k
      have hbk := BL.out k
      have HSU : Hid (sumL sc (k + 1) = sumL sc k + (sc.getD k []).length) := rfl
      generalize hl : sc.getD k [] = l at hc i1 I3 hbk HSU
      have HL : Hid (sc.getD k [] = l) := hl
      generalize hgs : sumL sc k = sk at hsm HSU
      clear hso i3 hl hgs
      go_wp2_with fail
      go_loopw [15] (fun i u => ∃ j : Nat, j ≤ l.length ∧ i = .int .i64 j ∧ (∀ i, i < j → OpIn ops (l.getD i call0)) ∧ u = wr) (fun i _ => l.length - (intOf i).toNat)
      case atStart => exact ⟨0, Nat.zero_le _, rfl, fun i hi => absurd hi (Nat.not_lt_zero _), rfl⟩
      case round =>
        obtain ⟨j, hj, rfl, hso2, rfl⟩ := hrel
        have HS2 : Hid (∀ i, i < j → OpIn ops (l.getD i call0)) := hso2
        clear hso2
        by_cases hjl : j < l.length
        · obtain ⟨b2, f2, rfl, hb2, hr⟩ := I3.out j _ (getD_some hjl call0)
          have hcx : wr.cell? ⟨b2, f2 + j * 4, none⟩ = some (I (l.getD j call0).op) := by simpa using hr 0 _ rfl
          generalize hx : (l.getD j call0).op = x at hcx
          have HX : Hid ((l.getD j call0).op = x) := hx
          clear hr hx
          by_cases h1 : x < 1
          · have t1 : decide (x < 1) = true := decide_eq_true h1
            clear h1
            go_wp2_with fail
            go_ret
            exact ⟨rfl, Below.refl _ _⟩
          · have t1 : decide (x < 1) = false := decide_eq_false h1
            by_cases h2 : x > ops
            · have t2 : decide (x > ops) = true := decide_eq_true h2
              clear h1 h2
              go_wp2_with fail
              go_ret
              exact ⟨rfl, Below.refl _ _⟩
            · have t2 : decide (x > ops) = false := decide_eq_false h2
              have HOK : Hid (OpIn ops (l.getD j call0)) := ⟨by rw [HX.out]; omega, by rw [HX.out]; omega⟩
              clear h1 h2
              go_wp2_with fail
              go_roundw
              case rel => exact ⟨j + 1, by omega, by go_num, upto_succ HS2.out HOK.out, trivial⟩
              case measure => simp [intOf]; omega
        · have : j = l.length := by omega
          subst this
          go_wp2_with fail
          go_roundw
          case rel =>
            refine ⟨k + 1, by omega, by go_num, by rw [HSU.out]; go_num, upto_succ HSO.out ?_, trivial⟩
            rw [HL.out]
            exact HS2.out
          case measure => simp [intOf]; omega
    · have : k = sc.length := by omega
      subst this
      have hsm := sumL_le BL.out sc.length
      have HSO : Hid (∀ i, i < sc.length → ∀ j, j < (sc.getD i []).length → OpIn ops ((sc.getD i []).getD j call0)) := hso
      clear hso
      generalize hgs : sumL sc sc.length = sk at hsm
      have HGS : Hid (sumL sc sc.length = sk) := hgs
      clear hgs
      by_cases h12 : sk > 12
      · have t1 : decide ((sk : Int) > 12) = true := decide_eq_true (by omega)
        clear h12
        go_wp2_with fail
        go_ret
        exact ⟨rfl, Below.refl _ _⟩
      · have t1 : decide ((sk : Int) > 12) = false := decide_eq_false (by omega)
        obtain ⟨hal, hof⟩ := HY.out HSO.out (by rw [HGS.out]; omega)
        have HAL : Hid (Alike sc an) := hal
        have HOF : Hid (∀ r, Ofs sc an 0 tr st0 r → ∃ s, r = some s ∧ Starts ob st ∧ s.evs.length ≤ 12 ∧ Hist s.evs ∧ Lin (refWays ob st) (firstOf ob st) s.evs) := hof
        clear h12 hal hof
        go_wp2_with fail
        refine (rof_any _ _ _ sc an tr _ HSS.out HSA.out HTT.out (by omega) BA.out bt).mono ?_
        rintro e w1 ⟨⟨r, hr1, _, hr2⟩, hb1⟩
        obtain ⟨s, rfl, hS, hl12, hH, hL⟩ := HOF.out r (hr1 HAL.out)
        rcases hr2 with ⟨h, _⟩ | ⟨s', v, hs', rfl, hown⟩
        · cases h
        cases hs'
        have HOWN : Hid (w1.ownsRow wr.heap.size 129 8 v s.evs.length (s.evs.flatMap evL)) := hown
        have HB1 : Hid (Below wr.heap.size wr w1) := hb1
        have HF : Hid (Starts ob st ∧ s.evs.length ≤ 12 ∧ Hist s.evs ∧ Lin (refWays ob st) (firstOf ob st) s.evs) := ⟨hS, hl12, hH, hL⟩
        clear hr1 hown hb1 hS hl12 hH hL
        go_wp2_with fail
        refine (rlinear_any ob st HWC.out _ s.evs _ (sl_evs (own_sl HOWN.out))).mono ?_
        rintro e w2 ⟨⟨b, c, rfl, hL⟩, hb2⟩
        obtain ⟨rfl, rfl⟩ : c = 0 ∧ b = true := by
          obtain ⟨hS, hl, hH, hLin⟩ := HF.out
          rcases hL with ⟨h, _⟩ | ⟨_, h, _⟩ | ⟨_, _, h, _⟩ | ⟨_, _, _, h1, h2⟩
          · exact absurd hS h
          · omega
          · exact absurd hH h
          · exact ⟨h1, h2.2 hLin⟩
        have HB2 : Hid (Below wr.heap.size wr w2) := below_step HB1.out hb2
        clear hL hb2
        go_wp2_with fail
        go_ret
        exact ⟨rfl, HB2.out⟩
end Go.Proofs.Ytehingmdmijedaa.R3

namespace Go.Proofs.Ytehingmdmijedaa.Gen
open Go Go.Lift Go.Conc Go.RowKit
set_option maxHeartbeats 2000000 in
theorem run11 (W : World) (n0 : Int) (h63 : n0 ≤ 9223372036854775807) {sp : Option Addr} {sb so scap : Nat} {sched : List Int} (hS : InI W sp sb so sched) {p : Option Addr} {b o n cap : Nat} {pc : Nat → Option Addr} {ln cp rb : Nat → Nat} {cl : Nat → List Cl} (hC : InS W p b o n pc ln cp rb cl) :
    ∃ M last o w' t', runNT Try.prog (M + 1) (solo (G (Frame.enter Try.prog 11 #[.slice sp sched.length scap, I n0, .slice p n cap] .normal) []) W) #[] = (.ended o w', t') ∧
      runN Try.prog M (solo (G (Frame.enter Try.prog 11 #[.slice sp sched.length scap, I n0, .slice p n cap] .normal) []) W) = .next last ∧ step Try.prog last = .ended o w' ∧ Go.Conc.Good Try.prog (PostT W) last o w' t' := by
  have e : Frame.enter Try.prog 11 #[.slice sp sched.length scap, I n0, .slice p n cap] .normal = (base 11).at { tmps := #[.slice sp sched.length scap, I n0, .slice p n cap] ++ Array.replicate 33 undef, defers := [] } [.code LB11] := enter_at (fn := Try.f11) (c := LB11) _ Try.func11 (by rfl)
  rw [e, solo_eq_crowd]
  have A : Alone #[G ((base 11).at { tmps := #[.slice sp sched.length scap, I n0, .slice p n cap] ++ Array.replicate 33 undef, defers := [] } [.code LB11]) []] W #[] (fun _ => 0) := ⟨leavers_one _ _, 0, Nat.zero_le _, past_nil⟩
  obtain ⟨N1, gs1, a1, w1, sl1, T1, q1, r1, z1, h1, ⟨bd, ad, od, qd, rd, oe, kd, ⟨d1, rfl⟩, hoe, hback, rfl⟩, A1⟩ := alone_goes A rfl none (Stop := fun g w' => ∃ (bd : Frame) (ad : Act) (od : Array Oper) (qd : Nat) (rd : List Nat) (oe : Oper) (kd : List Item), (∃ d, w' = W.at d) ∧ od[qd]? = some oe ∧
      (∀ (Ch : Nat → Prop) (Stop : Goroutine → World → Prop) (w1 : World), (∀ a, Fl 36 [(0, .slice sp sched.length scap), (1, I n0), (2, .slice p n cap), (7, .bool true)] a → GoesI Try.prog true (DT (ScZ zn) Ch) Stop (G ((base 11).at a [.code P11]) []) w1) → GoesI Try.prog true (DT (ScZ zn) Ch) Stop (G (bd.at (ad.put oe.dst (.bool true)) (.inRegion od rd :: kd)) []) w1) ∧
      g = G ((base 39).at { tmps := Array.replicate 36 undef, defers := [] } [.code B39]) [bd.at ad (.inRegion od (qd :: rd) :: kd)])
    (law11_in _ _ _ (fun w' bd ad od qd rd oe kd hw ho hback => GoesI.stop fun d => ⟨bd, ad, od, qd, rd, oe, kd, by obtain ⟨d0, rfl⟩ := hw; exact ⟨d, rfl⟩, ho, hback, rfl⟩))
  obtain ⟨N2, gs2, w2, sl2, T2, q2, r2, h2, A2, g2⟩ := tawake_all hoe sl1 A1 h1
  have g2' : Grows W w2 := ⟨g2.size, g2.old, g2.os, g2.output⟩
  have hS2 := hS.grows g2'
  have hC2 := hC.grows g2'
  obtain ⟨N3, gs3, a3, w3, sl3, T3', q3, r3, z3, h3, ⟨wb, bk, sc, bd, ad, od, qd, rd, oe, kd, hnew, hoe3, hend3, rfl⟩, A3⟩ := alone_goes A2 h2 sl2 (Stop := fun g w' => ∃ (wb bk : Nat) (sc : Value) (bd : Frame) (ad : Act) (od : Array Oper) (qd : Nat) (rd : List Nat) (oe : Oper) (kd : List Item), IsNew w2 sched wb bk sc w' ∧ od[qd]? = some oe ∧
      (∀ (Ch : Nat → Prop) (Stop : Goroutine → World → Prop) (w2 : World) (A : Value) (E : Int), (∀ a, Fl 36 [(1, I n0), (2, .slice p n cap), (7, .bool true), (8, Pt wb 0), (9, A), (10, I E)] a → GoesI Try.prog true (DT (ScZ zn) Ch) Stop (G ((base 11).at a [.code (.seq l11c P11s)]) []) w2) →
        GoesI Try.prog true (DT (ScZ zn) Ch) Stop (G (bd.at (ad.put oe.dst (.tuple #[A, I E])) (.inRegion od rd :: kd)) []) w2) ∧
      g = G ((base 40).at { tmps := #[Pt wb 0, I n0, .slice p n cap] ++ Array.replicate 22 undef, defers := [] } [.code B40]) [bd.at ad (.inRegion od (qd :: rd) :: kd)])
    (hback (fun _ => False) _ w2 (law11_b sp scap sb so sched hS2.at_ hS2.len hS2.cell _ _ (Rel.refl w2) (fun c hc => hc.elim) (fun v' w' wb bk sc bd ad od qd rd oe kd hr hn hnew ho hend => GoesI.stop fun d => ⟨wb, bk, sc, bd, ad, od, qd, rd, oe, kd, by
      have e : (w'.at d).heap = v'.heap := hr.eq
      have hgr : Grows v' (w'.at d) := ⟨by rw [e]; exact Nat.le_refl _, fun b _ => by rw [e], hr.os, hr.output⟩
      refine ⟨(hnew.mem.grows hgr).mem, ?_, hnew.new, ⟨by rw [e]; exact hnew.old.size, fun b hb => by rw [e]; exact hnew.old.old b hb, hr.os.trans hnew.old.os, hr.output.trans hnew.old.output⟩⟩
      obtain ⟨c, m, h⟩ := hnew.opn
      exact ⟨c, m, by rw [e]; exact h⟩, ho, hend, rfl⟩)))
  have g3 : Grows W w3 := g2'.trans' hnew.old
  have hC3 := hC2.grows hnew.old
  have fin : ∀ (N4 : Nat) (gs4 : Array Goroutine) (w4 : World) (sl4 : Option (Nat × Nat)) (T4 : Trace) (q4 : Nat → Nat) (a4 : Goroutine), runNT Try.prog N4 (crowd gs3 w3 sl3) T3' = (.next (crowd gs4 w4 sl4), T4) → gs4[0]? = some a4 → Alone gs4 w4 T4 q4 → (∃ a' todo, a'.defers = [] ∧ a'.tmps.getD 6 undef = .bool true ∧ Grows W w4 ∧ a4 = G { (base 11).at a' todo with mode := .returning } []) →
      ∃ M last o w' t', runNT Try.prog (M + 1) (crowd #[G ((base 11).at { tmps := #[.slice sp sched.length scap, I n0, .slice p n cap] ++ Array.replicate 33 undef, defers := [] } [.code LB11]) []] W none) #[] = (.ended o w', t') ∧ runN Try.prog M (crowd #[G ((base 11).at { tmps := #[.slice sp sched.length scap, I n0, .slice p n cap] ++ Array.replicate 33 undef, defers := [] } [.code LB11]) []] W none) = .next last ∧ step Try.prog last = .ended o w' ∧ Go.Conc.Good Try.prog (PostT W) last o w' t' := by
    intro N4 gs4 w4 sl4 T4 q4 a4 r4 h4 A4 ⟨a', todo, hd, h6, g4, ea⟩
    subst ea
    obtain ⟨M5, last, o, w', t', e1, e2, e3, e4⟩ := alone_ends A4 h4 sl4 (Post := PostT W) (fun B d => ⟨rfl, .bool true, #[], end11 hd h6, fun e he => by simp at he, rfl, ⟨g4.size, g4.old, g4.os, g4.output⟩⟩)
    have hrun := runNT_then (runNT_then (runNT_then r1 r2) r3) r4
    refine ⟨N1 + N2 + N3 + N4 + M5, last, o, w', t', ?_, ?_, e3, e4⟩
    · rw [Nat.add_assoc, runNT_add, hrun]; exact e1
    · rw [runN_add, ← runNT_fst Try.prog _ _ #[], hrun]; exact e2
  by_cases hyes : (∀ k, k < n → ln k ≤ 64) ∧ (0 < n ∧ n ≤ 8) ∧ 0 ≤ n0
  · obtain ⟨h64, hn8, hx0⟩ := hyes
    have hl64 : ∀ j, j < n → (cl j).length ≤ 64 := fun j hj => by rw [hC.len j hj]; exact h64 j hj
    have hlens : ∀ caps pk N K, lens (scrs mcLatch 64 caps pk N n K pc ln cp rb cl) ≤ 512 := fun caps pk N K => Nat.le_trans (lens_scrs _ _ _ _ _ _ _ _ _ _ _ _ hl64) (by omega)
    have hpp := hC.at_ hn8.1
    subst hpp
    obtain ⟨N4, gs4, w4, sl4, T4, q4, caps, pk, N, cv, K, S', S1, l1, m, p', r4, z4, h4, A4, hK, hnv, hH, hT, O⟩ := tplay_all n0 hx0 (S := newS wb bk w2.heap.size sc sched) (n := n) (sb := b) (so := o) (cap := cap) (pc := pc) (ln := ln) (cp := cp) (rb := rb) (cl := cl) hoe3 sl3 300000 A3 h3 hnew.mem rfl rfl rfl hnew.opn (asked_of hC2 hnew h64 hn8.1) hn8 (fun caps pk N K => by
        have := hlens caps pk N K
        show 0 + 2 * _ ≤ 1000000
        omega) (by have := hS.len; show sched.length ≤ _; omega) (fun x hx => hS.inr x hx) (fun _ => .done []) (fun caps pk N cv K hK S1 l1 hH => play_ends metLatch hH rfl (by rw [scrs_len]; exact hn8.2) (hlens caps pk N K) (by decide) rfl)
    obtain ⟨cb, rfl⟩ := K_one hK
    obtain ⟨L, t1, t2, _⟩ := latch_run hx0 h63 (fun _ => rfl) (fun j hj => ⟨hC.len j hj, h64 j hj⟩) hn8.2 hH hT
    have hSn : S'.n = L.length := by have := congrArg TS.n hnv; exact this.trans t2
    have hStr : S'.tr = flat L := by have := congrArg TS.tr hnv; exact this.trans t1
    have hsm := play_small metLatch hH hT rfl (by rw [scrs_len]; exact hn8.2) (hlens caps pk N _) (by decide) rfl
    have hSw : S'.wb = wb := by
      have h5 := congrArg TS.wb hnv
      have h6 := (turns_wb hT).trans (hires_wb hH)
      exact h5.trans h6
    have hn1 : S'.n ≤ 400000 := by
      have : S'.n = p'.S.n := by have := congrArg TS.n hnv; exact this
      omega
    have hg34 : ∀ b, b < w2.heap.size → w4.heap[b]? = w3.heap[b]? := fun b hb => by
      have hs := hnew.old.size
      exact (O.old b (by omega) (fun h => by have := hnew.new b (.inl h); omega) (fun h => by have := hnew.new b (.inr h); omega)).1
    have hgW : Grows W w4 := ⟨by have := g3.size; have := O.size; omega, fun b hb => by rw [hg34 b (by have := g2'.size; omega)]; exact g3.old b hb, O.os.trans g3.os, O.out.trans g3.output⟩
    have hC4 := hC.grows hgW
    subst hSw
    have hans : R3.SSw 2 R3.ansL w4 (.slice (some ⟨N + 1, 0, none⟩) n n) (anL n fun i => (p'.l i).ans) := ss_answers h64 hn8.2 O.rows (fun j hj => ⟨(O.ans j hj).1, (O.ans j hj).2.1⟩)
    have hscr : R3.SSw 4 R3.callL w4 (.slice (some ⟨b, o, none⟩) n cap) (scL n cl) := ss_scripts hC4 h64 hn8.2
    have hX : ∀ (u : World) (tv : Value), Grows w4 u → R3.SLw 5 R3.stepL u tv (L.map toStep) → Calls Try.prog 41 #[I 4, I n0, I 2, .slice (some ⟨b, o, none⟩) n cap, .slice (some ⟨N + 1, 0, none⟩) n n, tv] u fun e w' => e = .returned (.bool true) ∧ Below u.heap.size u w' := fun u tv hg ht =>
      R3.explained_any 4 n0 2 (R3.waysC_latch n0) _ _ tv (scL n cl) (anL n fun i => (p'.l i).ans) (L.map toStep) u (SSw_grows hg hscr) (SSw_grows hg hans) ht (by rw [scL_len]; exact hn8.2)
        (fun i => by
          by_cases hi : i < n
          · rw [scL_get cl hi, List.length_map, hC.len i hi]; exact h64 i hi
          · rw [List.getD_eq_getElem?_getD, List.getElem?_eq_none (by rw [scL_len]; omega)]; exact Nat.zero_le _)
        (fun i => by
          by_cases hi : i < n
          · rw [anL_get _ hi]
            have := (O.ans i hi).1
            have := h64 i hi
            omega
          · rw [List.getD_eq_getElem?_getD, List.getElem?_eq_none (by rw [anL_len]; omega)]; exact Nat.zero_le _)
        (by rw [List.length_map]; omega)
        (fun hop h12 => latch_lin hx0 h63 (fun _ => rfl) (fun j hj => ⟨hC.len j hj, h64 j hj⟩) hn8.2 hH hT t1 hop h12)
    obtain ⟨N5, gs5, a5, w5, sl5, T5, q5, r5, z5, h5, hs5, A5⟩ := alone_goes A4 h4 sl4 (hend3 (fun _ => False) (fun g w' => ∃ a' todo, a'.defers = [] ∧ a'.tmps.getD 6 undef = .bool true ∧ Grows W w' ∧ g = G { (base 11).at a' todo with mode := .returning } []) w4 _ 0 (fun a hA => law11_yes (v := w4) (S := S') O.mem.rep hStr hSn hn1 hX (Rel.refl w4) (fun c hc => hc.elim) (show Fl 36 [(1, I n0), (2, .slice (some ⟨b, o, none⟩) n cap), (8, Pt S'.wb 0), (9, .slice (some ⟨N + 1, 0, none⟩) n n), (7, .bool true), (10, I 0)] a from hA.sub (by simp)) (fun a' v' w' todo hr hgr hd h6 => GoesI.stop fun d => ⟨a', todo, hd, h6, by
      have e : (w'.at d).heap = v'.heap := hr.eq
      have := hgW.trans' hgr
      exact ⟨by rw [e]; exact this.size, fun b hb => by rw [e]; exact this.old b hb, hr.os.trans this.os, hr.output.trans this.output⟩, rfl⟩)))
    exact fin _ gs5 w5 sl5 T5 q5 a5 (runNT_then r4 r5) h5 A5 hs5
  · obtain ⟨E, hE0, hE⟩ : ∃ E : Int, (E = 1 ∨ E = 2) ∧ (Refused n ln E ∨ ((∀ k, k < n → ln k ≤ 64) ∧ (0 < n ∧ n ≤ 8) ∧ n0 < 0 ∧ E = 1)) := by
      by_cases h64 : ∀ k, k < n → ln k ≤ 64
      · by_cases hn8 : 0 < n ∧ n ≤ 8
        · refine ⟨1, .inl rfl, .inr ⟨h64, hn8, ?_, rfl⟩⟩
          have : ¬ 0 ≤ n0 := fun h => hyes ⟨h64, hn8, h⟩
          omega
        · exact ⟨1, .inl rfl, .inl (.inr ⟨h64, by omega, rfl⟩)⟩
      · refine ⟨2, .inr rfl, .inl (.inl ⟨?_, rfl⟩)⟩
        simp only [Classical.not_forall] at h64
        obtain ⟨k, hk, hk2⟩ := h64
        exact ⟨k, hk, by omega⟩
    obtain ⟨N5, gs5, a5, w5, sl5, T5, q5, r5, z5, h5, hs5, A5⟩ := alone_goes A3 h3 sl3 (Stop := fun g w' => ∃ a' todo, a'.defers = [] ∧ a'.tmps.getD 6 undef = .bool true ∧ Grows W w' ∧ g = G { (base 11).at a' todo with mode := .returning } []) (tplay_no (S := newS wb bk w2.heap.size sc sched) (v := w3) n0 p n cap pc ln cp (fun k hk => ⟨b, o, hC3.at_ (by omega), hC3.row k hk⟩) hC.n rfl hnew.mem hE [] hoe3 (Rel.refl w3) (fun c hc => hc.elim) (fun v' w' hr hn e1 e2 e3 => hend3 (fun _ => False) _ w' _ E (fun a hA => law11_no hE0 hr hn (show Fl 36 [(1, I n0), (2, .slice p n cap), (8, Pt wb 0), (9, .slice none 0 0), (7, .bool true), (10, I E)] a from hA.sub (by simp)) (fun a' v'' w'' todo hr' hgr hd h6 => GoesI.stop fun d => ⟨a', todo, hd, h6, by
      have e : (w''.at d).heap = v''.heap := hr'.eq
      have : Grows W v' := ⟨by rw [e1]; exact g3.size, fun b hb => by rw [e1]; exact g3.old b hb, e2.trans g3.os, e3.trans g3.output⟩
      have := this.trans' hgr
      exact ⟨by rw [e]; exact this.size, fun b hb => by rw [e]; exact this.old b hb, hr'.os.trans this.os, hr'.output.trans this.output⟩, rfl⟩))))
    exact fin _ gs5 w5 sl5 T5 q5 a5 r5 h5 A5 hs5
end Go.Proofs.Ytehingmdmijedaa.Gen

namespace Go.Proofs.Ytehingmdmijedaa.Gen
open Go Go.Lift Go.Conc
open Go.ChangeShapes Go.WideShapes Go.ChangeAt Go.RowKit Go.Joins Go.Deep
theorem op_knob : ownKnob Try.prog.godebug = none := by kernel_rfl
theorem op_cells3 : Try.prog.cellsOf 3 = 1 := by kernel_rfl
theorem op_cells39 : Try.prog.cellsOf 39 = 4 := by kernel_rfl
theorem op_cells37 : Try.prog.cellsOf 37 = 1 := by kernel_rfl
theorem op_bytes3 : Try.prog.bytesOf 3 = 8 := by kernel_rfl
theorem op_bytes37 : Try.prog.bytesOf 37 = 24 := by kernel_rfl
def clV (c : Cl) : List Value := [I c.po, I c.ca, I c.cb, I c.cc]
theorem inr_of {n : Int} (h : (Lit.int .i64 n).wf = true) : InR n := by
  have := bounds_i64 h
  unfold InR
  omega
section
variable {H : Type} {enc : TypeId × Value → H} {w : World}
set_option maxRecDepth 100000 in
theorem ints_in {r : Reach} {b0 : Nat} {v : Value} {d : DataW H} {ps : List MemPlace} (hv : Value.okWide Try.prog w r b0 22 v) (h : DataW.Trod enc Try.prog w 0 (fun _ => true) true 22 v d ps) (hsz : ∀ elems spare, d = .slice elems spare → (elems.length + spare.length) * Try.prog.bytesOf 3 ≤ reachBytes) :
    ∃ (p : Option Addr) (cap b o : Nat) (xs : List Int), v = .slice p xs.length cap ∧ InI w p b o xs := by
  obtain ⟨a0, len0, cap0, rfl⟩ := okWide_slice Try.underlying22 hv
  obtain ⟨fuel, hf⟩ := h
  rcases open_ints Try.underlying22 Try.underlying3 op_cells3 hf with ⟨hcs, _⟩ | ⟨x, l, c, zs, hcs, _, hl, hm, hz, hx, hcell, hwf⟩
  · simp [Value.cells] at hcs
    obtain ⟨rfl, rfl, rfl⟩ := hcs
    exact ⟨none, 0, 0, 0, [], rfl, ⟨fun h => by simp at h, fun k x hk => by simp at hk, fun x hx => by simp at hx, Nat.zero_le _⟩⟩
  · simp [Value.cells] at hcs
    obtain ⟨rfl, rfl, rfl⟩ := hcs
    have hz' : zs.length = cap0 := by simpa using hz
    have ht : (zs.take len0).length = len0 := by rw [List.length_take]; omega
    have hb := hsz _ _ (congrArg Prod.fst hx)
    have hlz : ∀ (k : IntKind) (l : List Int), (ChangeShapes.lits (H := H) k l).length = l.length := fun k l => by simp [ChangeShapes.lits]
    rw [op_bytes3, hlz, hlz, ht] at hb
    have hlen : len0 ≤ 17592186043904 := by unfold reachBytes at hb; omega
    obtain ⟨b, off, spot⟩ := x
    by_cases h0 : len0 = 0
    · subst h0
      exact ⟨_, _, 0, 0, [], rfl, ⟨fun h => by simp at h, fun k x hk => by simp at hk, fun x hx => by simp at hx, Nat.zero_le _⟩⟩
    · have hspot : spot = none := by simpa [Addr.add] using World.cell?_spot (hcell 0 (by omega))
      subst hspot
      refine ⟨_, _, b, off, zs.take len0, by rw [ht], ⟨fun _ => rfl, fun i a hi => ?_, fun x hx => inr_of (hwf x (List.mem_of_mem_take hx)), by rw [ht]; exact hlen⟩⟩
      have hil : i < len0 := by have := (List.getElem?_eq_some_iff.1 hi).1; omega
      have hc := hcell i (by omega)
      have hadd : (⟨b, off, none⟩ : Addr).add i = ⟨b, off + i, none⟩ := by unfold Addr.add; split <;> simp_all
      rw [hadd] at hc
      have ha : zs.getD i 0 = a := by
        rw [List.getElem?_take_of_lt hil] at hi
        rw [List.getD_eq_getElem?_getD, hi]
        rfl
      rw [ha] at hc
      exact hc
set_option maxRecDepth 100000 in
theorem clV_open : ∀ fuel cs (y : DataW H × List MemPlace), cs.length = 4 → DataW.trod enc Try.prog w 0 (fun _ => true) true fuel 39 cs = some y → ∃ a, cs = clV a ∧ InR a.ca ∧ a.ok := by
  intro fuel cs y hl h
  obtain ⟨xs, k, hk, hxy, _, hxl, hf⟩ := DataW.trod_struct Try.underlying39 h
  match xs, hxl, cs, hl with
  | [y0, y1, y2, y3], _, [c0, c1, c2, c3], _ =>
    have g0 := hf 0 _ rfl
    have g1 := hf 1 _ rfl
    have g2 := hf 2 _ rfl
    have g3 := hf 3 _ rfl
    simp [op_cells3] at g0 g1 g2 g3
    obtain ⟨a0, e0, _, f0⟩ := DataW.trod_int Try.underlying3 g0
    obtain ⟨a1, e1, _, f1⟩ := DataW.trod_int Try.underlying3 g1
    obtain ⟨a2, e2, _, f2⟩ := DataW.trod_int Try.underlying3 g2
    obtain ⟨a3, e3, _, f3⟩ := DataW.trod_int Try.underlying3 g3
    simp at e0 e1 e2 e3
    subst e0 e1 e2 e3
    exact ⟨⟨a0, a1, a2, a3⟩, rfl, inr_of f1, inr_of f2, inr_of f3⟩
def Sc (w : World) (v : Value) (q : Option Addr × Nat × Nat × List Cl) : Prop :=
  v = .slice q.1 q.2.2.2.length q.2.1 ∧ (0 < q.2.2.2.length → q.1 = some ⟨q.2.2.1, roOf q.1, none⟩) ∧ (∀ (k : Nat) (c : Cl), q.2.2.2[k]? = some c → w.cell? ⟨q.2.2.1, roOf q.1 + k * 4, none⟩ = some (I c.po) ∧ w.cell? ⟨q.2.2.1, roOf q.1 + k * 4 + 1, none⟩ = some (I c.ca) ∧ w.cell? ⟨q.2.2.1, roOf q.1 + k * 4 + 2, none⟩ = some (I c.cb) ∧ w.cell? ⟨q.2.2.1, roOf q.1 + k * 4 + 3, none⟩ = some (I c.cc)) ∧ ∀ c ∈ q.2.2.2, InR c.ca ∧ c.ok
set_option maxRecDepth 100000 in
theorem script_in {fuel : Nat} {cs : List Value} {y : DataW H × List MemPlace} (h : DataW.trod enc Try.prog w 0 (fun _ => true) true fuel 37 cs = some y) : ∃ v q, cs = [v] ∧ Sc w v q := by
  rcases open_slice Try.underlying37 h with ⟨hcs, hx⟩ | ⟨ad, len, cap, m, k, D, Pl, hcs, _, hl, hm, hmm, hxe, hx⟩
  · exact ⟨_, (none, 0, 0, []), hcs, rfl, fun h => by simp at h, fun k c h => by simp at h, fun c hc => by simp at hc⟩
  · simp only [if_true] at hmm
    subst hmm
    have each : ∀ i, i < len → ∃ a : Cl, (∀ j, j < 4 → w.cell? ((ad.add (i * 4)).add j) = (clV a)[j]?) ∧ InR a.ca ∧ a.ok := by
      intro i hi
      obtain ⟨cs', h1, h2⟩ := hx i (by omega)
      rw [op_cells39] at h1
      obtain ⟨_, hlen, hc⟩ := World.cells?_some h1
      obtain ⟨a, rfl, ha⟩ := clV_open _ _ _ hlen h2
      exact ⟨a, hc, ha⟩
    have ie : Inhabited Cl := ⟨⟨0, 0, 0, 0⟩⟩
    obtain ⟨q, hq⟩ := choose_lt each
    obtain ⟨b, off, spot⟩ := ad
    by_cases h0 : len = 0
    · subst h0
      exact ⟨_, (some ⟨b, off, spot⟩, m, 0, []), hcs, rfl, fun h => by simp at h, fun k c h => by simp at h, fun c hc => by simp at hc⟩
    · have c01 : w.cell? (((⟨b, off, spot⟩ : Addr).add (0 * 4)).add 0) = some (I (q 0).po) := (hq 0 (by omega)).1 0 (by omega)
      have hspot : spot = none := by
        have := World.cell?_spot c01
        simpa [Addr.add] using this
      subst hspot
      have hadd : ∀ (o j : Nat), (⟨b, o, none⟩ : Addr).add j = ⟨b, o + j, none⟩ := by intro o j; unfold Addr.add; split <;> simp_all
      refine ⟨_, (some ⟨b, off, none⟩, m, b, (List.range len).map q), hcs, ?_, fun _ => rfl, fun i a hi => ?_, fun c hc => ?_⟩
      · simp
      · have hil : i < len := by simpa using (List.getElem?_eq_some_iff.1 hi).1
        have ha : a = q i := by simp [hil] at hi; exact hi.symm
        subst ha
        have k0 := (hq i hil).1 0 (by omega)
        have k1 := (hq i hil).1 1 (by omega)
        have k2 := (hq i hil).1 2 (by omega)
        have k3 := (hq i hil).1 3 (by omega)
        rw [hadd, hadd] at k0 k1 k2 k3
        exact ⟨k0, k1, k2, k3⟩
      · obtain ⟨i, hi, rfl⟩ := List.mem_map.1 hc
        exact (hq i (List.mem_range.1 hi)).2
set_option maxRecDepth 100000 in
theorem scripts_in {r : Reach} {b0 : Nat} {v : Value} {d : DataW H} {ps : List MemPlace} (hv : Value.okWide Try.prog w r b0 23 v) (h : DataW.Trod enc Try.prog w 0 (fun _ => true) true 23 v d ps) (hsz : ∀ elems spare, d = .slice elems spare → (elems.length + spare.length) * Try.prog.bytesOf 37 ≤ reachBytes) :
    ∃ (p : Option Addr) (b o n cap : Nat) (pc : Nat → Option Addr) (ln cp rb : Nat → Nat) (cl : Nat → List Cl), v = .slice p n cap ∧ InS w p b o n pc ln cp rb cl := by
  obtain ⟨a0, len0, cap0, rfl⟩ := okWide_slice Try.underlying23 hv
  obtain ⟨fuel, hf⟩ := h
  have nothing : ∀ p cap, ∃ (p' : Option Addr) (b o n cap' : Nat) (pc : Nat → Option Addr) (ln cp rb : Nat → Nat) (cl : Nat → List Cl), (Value.slice p 0 cap) = .slice p' n cap' ∧ InS w p' b o n pc ln cp rb cl := fun p cap =>
    ⟨p, 0, 0, 0, cap, fun _ => none, fun _ => 0, fun _ => 0, fun _ => 0, fun _ => [], rfl, ⟨fun h => by omega, fun k hk => by omega, fun k hk => by omega, fun k hk => by omega, fun k hk => by omega, fun k hk => by omega, Nat.zero_le _⟩⟩
  rcases open_slice Try.underlying23 hf with ⟨hcs, _⟩ | ⟨ad, len, cap, m, k, D, Pl, hcs, _, hl, hm, hmm, hxe, hx⟩
  · simp [Value.cells] at hcs
    obtain ⟨rfl, rfl, rfl⟩ := hcs
    exact nothing _ _
  · simp [Value.cells] at hcs
    obtain ⟨rfl, rfl, rfl⟩ := hcs
    simp only [if_true] at hmm
    subst hmm
    have hb := hsz _ _ (congrArg Prod.fst hxe)
    rw [op_bytes37] at hb
    simp only [List.length_map, List.length_range] at hb
    have hlen : len0 ≤ 17592186043904 := by unfold reachBytes at hb; omega
    have each : ∀ i, i < len0 → ∃ q : Option Addr × Nat × Nat × List Cl, ∃ v, w.cell? ((ad.add (i * 1)).add 0) = some v ∧ Sc w v q := by
      intro i hi
      obtain ⟨cs', h1, h2⟩ := hx i (by omega)
      rw [op_cells37] at h1
      obtain ⟨_, hlen, hc⟩ := World.cells?_some h1
      obtain ⟨v, q, rfl, hq⟩ := script_in h2
      exact ⟨q, v, hc 0 (by omega), hq⟩
    have ie : Inhabited (Option Addr × Nat × Nat × List Cl) := ⟨(none, 0, 0, [])⟩
    obtain ⟨q, hq⟩ := choose_lt each
    obtain ⟨b, off, spot⟩ := ad
    by_cases h0 : len0 = 0
    · subst h0
      exact nothing _ _
    · obtain ⟨v0, hv0, _⟩ := hq 0 (by omega)
      have hspot : spot = none := by
        have := World.cell?_spot hv0
        simpa [Addr.add] using this
      subst hspot
      have hadd : ∀ (o j : Nat), (⟨b, o, none⟩ : Addr).add j = ⟨b, o + j, none⟩ := by intro o j; unfold Addr.add; split <;> simp_all
      refine ⟨some ⟨b, off, none⟩, b, off, len0, _, fun i => (q i).1, fun i => (q i).2.2.2.length, fun i => (q i).2.1, fun i => (q i).2.2.1, fun i => (q i).2.2.2, rfl, ⟨fun _ => rfl, fun i hi => ?_, fun _ _ => rfl, fun i hi h => ?_, fun i hi k c hc => ?_, fun i hi c hc => ?_, hlen⟩⟩
      · obtain ⟨v, h1, h2⟩ := hq i hi
        rw [hadd, hadd, Nat.mul_one, h2.1] at h1
        exact h1
      · obtain ⟨v, h1, h2⟩ := hq i hi
        exact h2.2.1 h
      · obtain ⟨v, h1, h2⟩ := hq i hi
        exact h2.2.2.1 k c hc
      · obtain ⟨v, h1, h2⟩ := hq i hi
        exact h2.2.2.2 c hc
end
theorem grows_frame {W w' : World} (h : Grows W w') (may : MemPlace → Prop) : W.keptBut w' may := by
  refine ⟨h.os, h.output, fun i hi => ?_⟩
  rw [h.old i hi]
  split <;> simp_all
theorem grows_same {W w' : World} (h : Grows W w') {p : MemPlace} (hp : p.block < W.heap.size) : W.sameAt w' p := by
  cases p with
  | cell b o => exact World.cell?_of_block (w := W) (h.old b hp)
  | map b => exact h.old b hp
theorem op_laid : laidOutB Try.prog = true := by kernel_rfl
theorem grows_trod {H : Type} {enc : TypeId × Value → H} {t : TypeId} (hr : Try.prog.readableRec t = true) (hrow : t < Try.prog.types.size) {W W' : World} {v : Value} {d : DataW H} {ps : List MemPlace}
    (h : DataW.Trod enc Try.prog W 0 (fun _ => true) true t v d ps) (hb : Grows W W') (hlt : ∀ x ∈ ps, x.block < W.heap.size) :
    DataW.Trod enc Try.prog W' 0 (fun b => decide (b < W.heap.size)) true t v d ps :=
  WideElems.Trod_stays op_laid hr hrow h (fun x hx => grows_same hb (hlt x hx)) (fun x hx => by simpa using hlt x hx)
end Go.Proofs.Ytehingmdmijedaa.Gen
