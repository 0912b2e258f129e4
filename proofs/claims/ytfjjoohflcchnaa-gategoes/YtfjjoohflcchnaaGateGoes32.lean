/- GateGoes: for every schedule and all rows of numbers, the Play of scripts in which each Enter has a Leave of its own behind it, ahead of the next Shut, leaves nobody stuck and nobody in; no conditions. Part 32 of 37. (Joined, by program, of: La14b, La14c.) -/
import Derived.Test.YtfjjoohflcchnaaGateGoes25
import Derived.Test.YtfjjoohflcchnaaGateGoes29
import Derived.Test.YtfjjoohflcchnaaGateGoes31
set_option linter.unusedSimpArgs false
set_option linter.unusedVariables false
namespace Go.Proofs.Ytfjjoohflcchnaa.Gen
open Go Go.Lift Go.Conc Go.RowKit

theorem inBlock_out {id : Nat} {Q : Exit → Act → World → Prop} {a : Act} {w : World} (h : Q .normal a w) : Exit.inBlock id Q (.exit id) a w := by
  show if id = id then _ else _
  rw [if_pos rfl]
  exact h
theorem then_out {N : Act → World → Prop} {Q : Exit → Act → World → Prop} {id : Nat} {a : Act} {w : World} (h : Q (.exit id) a w) : Exit.then N Q (.exit id) a w := h

/-- A script's cells. -/
def opC (ops : List Int) : List Value := ops.flatMap fun x => [I x, I 0, I 0, I 0]
theorem opC_one (ops : List Int) (x : Int) : opC (ops ++ [x]) = opC ops ++ [I x, I 0, I 0, I 0] := by
  unfold opC
  rw [List.flatMap_append]
  rfl
/-- Scripts of the law's kind. -/
inductive Bld : List Int → Prop
  | nil : Bld []
  | shut {l : List Int} : Bld l → Bld (l ++ [3])
  | ent {l : List Int} (m : Nat) : Bld l → Bld (l ++ List.replicate m 1 ++ List.replicate m 2)
/-- The script under way: a list of the call's own, made behind v1. -/
structure Cur (v1 : World) (l : Value) (ops : List Int) (w : World) : Prop where
  own : w.ownsRow v1.heap.size 39 4 l ops.length (opC ops)
  gr : Grows v1 w
theorem Cur.same {v1 : World} {l : Value} {ops : List Int} {w w' : World} (h : Cur v1 l ops w) (e : w'.heap = w.heap) (e1 : w'.os = w.os) (e2 : w'.output = w.output) : Cur v1 l ops w' :=
  ⟨own_stay (fun g _ => by rw [e]) h.own, grow_trans h.gr (grow_same e e1 e2)⟩
theorem Cur.app {v1 : World} {lp : Option Addr} {lc : Nat} {ops : List Int} {w w' : World} {l' : Value} {x : Int} (h : Cur v1 (.slice lp ops.length lc) ops w) (k : Apd v1.heap.size 39 4 (.slice lp ops.length lc) ops.length (opC ops) [I x, I 0, I 0, I 0] w l' w') :
    ∃ lp' lc', l' = .slice lp' (ops ++ [x]).length lc' ∧ Cur v1 l' (ops ++ [x]) w' := by
  obtain ⟨g, c, hl, hg⟩ := k.at_
  refine ⟨some ⟨g, 0, none⟩, c, by rw [hl, List.length_append]; rfl, ?_, ?_⟩
  · rw [opC_one, List.length_append]; exact k.own
  · refine ⟨Nat.le_trans h.gr.size k.size, fun b hb => ?_, k.os.trans h.gr.os, k.output.trans h.gr.output⟩
    rw [k.old b (Nat.lt_of_lt_of_le hb h.gr.size) (fun e => by have := (own_lt h.own b e.symm).1; omega)]
    exact h.gr.old b hb
--MADE
theorem and7 (x : Int) : ∃ m : Nat, m ≤ 7 ∧ bits .and .i64 x 7 = (m : Int) := by
  refine ⟨(BitVec.ofInt 64 x &&& BitVec.ofInt 64 7).toNat, ?_, ?_⟩
  · have : (BitVec.ofInt 64 7).toNat = 7 := by decide
    rw [BitVec.toNat_and, this]
    exact Nat.and_le_right
  · show IntKind.i64.wrap ((BitVec.ofInt 64 x &&& BitVec.ofInt 64 7).toNat : Int) = _
    have h7 : (BitVec.ofInt 64 x &&& BitVec.ofInt 64 7).toNat ≤ 7 := by
      have : (BitVec.ofInt 64 7).toNat = 7 := by decide
      rw [BitVec.toNat_and, this]
      exact Nat.and_le_right
    generalize (BitVec.ofInt 64 x &&& BitVec.ofInt 64 7).toNat = m at h7
    rw [Go.IntWalk.i64_left]
    unfold wrap64
    omega
theorem rep_one (ops : List Int) (j : Nat) (x : Int) : (ops ++ List.replicate j x) ++ [x] = ops ++ List.replicate (j + 1) x := by
  rw [List.append_assoc, List.replicate_succ']
section
variable {v1 v : World} {a : Act} {s0 s6 : Value} {b o R cap i k m lc : Nat} {lp : Option Addr} {ops : List Int}
set_option maxHeartbeats 1000000 in
theorem loopE (hm : m ≤ 8) (hn : ops.length ≤ 500) (hC : Cur v1 (.slice lp ops.length lc) ops v) (hA : Fl 133 [(0, s0), (1, .slice (some ⟨b, o, none⟩) R cap), (5, .bool true), (6, s6), (7, I (i : Int)), (8, .slice lp ops.length lc), (9, I (k : Int)), (10, I (m : Int))] a) {Q : Exit → Act → World → Prop}
    (hK : ∀ a' w' lp' lc', Cur v1 (.slice lp' (ops ++ List.replicate m 1).length lc') (ops ++ List.replicate m 1) w' → Fl 133 [(0, s0), (1, .slice (some ⟨b, o, none⟩) R cap), (5, .bool true), (6, s6), (7, I (i : Int)), (8, .slice lp' (ops ++ List.replicate m 1).length lc'), (9, I (k : Int)), (10, I (m : Int))] a' → Q .normal a' w') : (Code.seq h13 (.block 4 (.loop HF))).wp Try.prog Q a v := by
  refine wp_then (h13_wp hA) ?_
  rintro a1 w1 ⟨hA1, e1, o1, u1⟩
  rw [eHF]
  refine wp_while (fun N a w => ∃ (j : Nat) (lp : Option Addr) (lc : Nat), j ≤ m ∧ N = m - j ∧ Cur v1 (.slice lp (ops ++ List.replicate j 1).length lc) (ops ++ List.replicate j 1) w ∧ Fl 133 [(0, s0), (1, .slice (some ⟨b, o, none⟩) R cap), (5, .bool true), (6, s6), (7, I (i : Int)), (8, .slice lp (ops ++ List.replicate j 1).length lc), (9, I (k : Int)), (10, I (m : Int)), (11, I (j : Int))] a) m ⟨0, lp, lc, Nat.zero_le _, rfl, by simpa using hC.same e1 o1 u1, by simpa using hA1⟩ ?_
  rintro N a2 w2 ⟨j, lp2, lc2, hj, rfl, hC2, hA2⟩
  refine ⟨fun a' w' => Cur v1 (.slice lp2 (ops ++ List.replicate j 1).length lc2) (ops ++ List.replicate j 1) w' ∧ Fl 133 [(0, s0), (1, .slice (some ⟨b, o, none⟩) R cap), (5, .bool true), (6, s6), (7, I (i : Int)), (8, .slice lp2 (ops ++ List.replicate j 1).length lc2), (9, I (k : Int)), (10, I (m : Int)), (11, I (j : Int)), (60, .bool (decide ((j : Int) < (m : Int))))] a', ?_, ?_⟩
  · refine wp_mono (h14_wp hA2) ?_
    rintro e a' w' ⟨rfl, hA', e', o', u'⟩
    exact ⟨rfl, hC2.same e' o' u', hA'⟩
  · rintro a3 w3 ⟨hC3, hA3⟩
    have ht := hA3.at 60 (.bool (decide ((j : Int) < (m : Int)))) (by simp)
    have hA3' : Fl 133 [(0, s0), (1, .slice (some ⟨b, o, none⟩) R cap), (5, .bool true), (6, s6), (7, I (i : Int)), (8, .slice lp2 (ops ++ List.replicate j 1).length lc2), (9, I (k : Int)), (10, I (m : Int)), (11, I (j : Int))] a3 := hA3.sub (by simp)
    have hlen : (ops ++ List.replicate j 1).length ≤ 1000 := by rw [List.length_append, List.length_replicate]; omega
    by_cases hlt : j < m
    · right
      refine ⟨by rw [ht]; exact congrArg Value.bool (decide_eq_true (by omega)), ?_⟩
      refine wp_seq (wp_block (wp_mono (h16_wp hC3.own hlen hC3.gr.size hA3') ?_))
      rintro e a4 w4 ⟨rfl, l', hap, hA4⟩
      obtain ⟨lp4, lc4, rfl, hC4⟩ := hC3.app hap
      show h15.wp Try.prog _ a4 w4
      refine wp_last (h15_wp (by unfold wrap64; omega) hA4) ?_
      rintro a5 w5 ⟨hA5, e5, o5, u5⟩
      rw [rep_one] at hC4 hA5
      exact ⟨m - (j + 1), by omega, j + 1, lp4, lc4, by omega, rfl, hC4.same e5 o5 u5, hA5⟩
    · left
      obtain rfl : j = m := by omega
      exact ⟨by rw [ht]; exact congrArg Value.bool (decide_eq_false (by omega)), hK a3 w3 lp2 lc2 hC3 (hA3.sub (by simp))⟩
set_option maxHeartbeats 1000000 in
theorem loopL (hm : m ≤ 8) (hn : ops.length ≤ 500) (hC : Cur v1 (.slice lp ops.length lc) ops v) (hA : Fl 133 [(0, s0), (1, .slice (some ⟨b, o, none⟩) R cap), (5, .bool true), (6, s6), (7, I (i : Int)), (8, .slice lp ops.length lc), (9, I (k : Int)), (10, I (m : Int))] a) {Q : Exit → Act → World → Prop}
    (hK : ∀ a' w' lp' lc', Cur v1 (.slice lp' (ops ++ List.replicate m 2).length lc') (ops ++ List.replicate m 2) w' → Fl 133 [(0, s0), (1, .slice (some ⟨b, o, none⟩) R cap), (5, .bool true), (6, s6), (7, I (i : Int)), (8, .slice lp' (ops ++ List.replicate m 2).length lc'), (9, I (k : Int)), (10, I (m : Int))] a' → Q .normal a' w') : (Code.seq h17 (.block 6 (.loop HH))).wp Try.prog Q a v := by
  refine wp_then (h17_wp hA) ?_
  rintro a1 w1 ⟨hA1, e1, o1, u1⟩
  rw [eHH]
  refine wp_while (fun N a w => ∃ (j : Nat) (lp : Option Addr) (lc : Nat), j ≤ m ∧ N = m - j ∧ Cur v1 (.slice lp (ops ++ List.replicate j 2).length lc) (ops ++ List.replicate j 2) w ∧ Fl 133 [(0, s0), (1, .slice (some ⟨b, o, none⟩) R cap), (5, .bool true), (6, s6), (7, I (i : Int)), (8, .slice lp (ops ++ List.replicate j 2).length lc), (9, I (k : Int)), (10, I (m : Int)), (12, I (j : Int))] a) m ⟨0, lp, lc, Nat.zero_le _, rfl, by simpa using hC.same e1 o1 u1, by simpa using hA1⟩ ?_
  rintro N a2 w2 ⟨j, lp2, lc2, hj, rfl, hC2, hA2⟩
  refine ⟨fun a' w' => Cur v1 (.slice lp2 (ops ++ List.replicate j 2).length lc2) (ops ++ List.replicate j 2) w' ∧ Fl 133 [(0, s0), (1, .slice (some ⟨b, o, none⟩) R cap), (5, .bool true), (6, s6), (7, I (i : Int)), (8, .slice lp2 (ops ++ List.replicate j 2).length lc2), (9, I (k : Int)), (10, I (m : Int)), (12, I (j : Int)), (69, .bool (decide ((j : Int) < (m : Int))))] a', ?_, ?_⟩
  · refine wp_mono (h18_wp hA2) ?_
    rintro e a' w' ⟨rfl, hA', e', o', u'⟩
    exact ⟨rfl, hC2.same e' o' u', hA'⟩
  · rintro a3 w3 ⟨hC3, hA3⟩
    have ht := hA3.at 69 (.bool (decide ((j : Int) < (m : Int)))) (by simp)
    have hA3' : Fl 133 [(0, s0), (1, .slice (some ⟨b, o, none⟩) R cap), (5, .bool true), (6, s6), (7, I (i : Int)), (8, .slice lp2 (ops ++ List.replicate j 2).length lc2), (9, I (k : Int)), (10, I (m : Int)), (12, I (j : Int))] a3 := hA3.sub (by simp)
    have hlen : (ops ++ List.replicate j 2).length ≤ 1000 := by rw [List.length_append, List.length_replicate]; omega
    by_cases hlt : j < m
    · right
      refine ⟨by rw [ht]; exact congrArg Value.bool (decide_eq_true (by omega)), ?_⟩
      refine wp_seq (wp_block (wp_mono (h20_wp hC3.own hlen hC3.gr.size hA3') ?_))
      rintro e a4 w4 ⟨rfl, l', hap, hA4⟩
      obtain ⟨lp4, lc4, rfl, hC4⟩ := hC3.app hap
      show h19.wp Try.prog _ a4 w4
      refine wp_last (h19_wp (by unfold wrap64; omega) hA4) ?_
      rintro a5 w5 ⟨hA5, e5, o5, u5⟩
      rw [rep_one] at hC4 hA5
      exact ⟨m - (j + 1), by omega, j + 1, lp4, lc4, by omega, rfl, hC4.same e5 o5 u5, hA5⟩
    · left
      obtain rfl : j = m := by omega
      exact ⟨by rw [ht]; exact congrArg Value.bool (decide_eq_false (by omega)), hK a3 w3 lp2 lc2 hC3 (hA3.sub (by simp))⟩
set_option maxHeartbeats 1000000 in
/-- One number of the row. -/
theorem numb {rl rc rb ro : Nat} {x : Int} (hi : i < R) (hk : k < rl) (d1 : v1.cell? ⟨b, o + i, none⟩ = some (.slice (some ⟨rb, ro, none⟩) rl rc)) (c1 : v1.cell? ⟨rb, ro + k, none⟩ = some (I x)) (hB : Bld ops) (hn : ops.length ≤ 50) (hC : Cur v1 (.slice lp ops.length lc) ops v) (hA : Fl 133 [(0, s0), (1, .slice (some ⟨b, o, none⟩) R cap), (5, .bool true), (6, s6), (7, I (i : Int)), (8, .slice lp ops.length lc), (9, I (k : Int))] a) {Q : Exit → Act → World → Prop}
    (hK : ∀ a' w' lp' lc' ops', Bld ops' → ops'.length ≤ ops.length + 6 → Cur v1 (.slice lp' ops'.length lc') ops' w' → Fl 133 [(0, s0), (1, .slice (some ⟨b, o, none⟩) R cap), (5, .bool true), (6, s6), (7, I (i : Int)), (8, .slice lp' ops'.length lc'), (9, I (k : Int))] a' → Q .normal a' w') : (Code.block 3 HD).wp Try.prog Q a v := by
  refine wp_block ?_
  rw [eHD]
  refine wp_then (h10_wp hi (grow_cell hC.gr d1) hk (grow_cell hC.gr c1) hA) ?_
  rintro a1 w1 ⟨hA1, e1, o1, u1⟩
  obtain ⟨m, hm, em⟩ := and7 x
  rw [em] at hA1
  have hC1 := hC.same e1 o1 u1
  refine wp_seq (wp_then (h11_wp hA1) ?_)
  rintro a2 w2 ⟨hA2, e2, o2, u2⟩
  have hC2 := hC1.same e2 o2 u2
  have ht := hA2.at 53 (.bool (decide ((m : Int) > 3))) (by simp)
  have hA2' : Fl 133 [(0, s0), (1, .slice (some ⟨b, o, none⟩) R cap), (5, .bool true), (6, s6), (7, I (i : Int)), (8, .slice lp ops.length lc), (9, I (k : Int)), (10, I (m : Int))] a2 := hA2.sub (by simp)
  by_cases h3 : 3 < m
  · refine wp_cond_true (by rw [ht]; exact congrArg Value.bool (decide_eq_true (by omega))) ?_
    refine wp_then (R := fun a' w' => ∃ l', Apd v1.heap.size 39 4 (.slice lp ops.length lc) ops.length (opC ops) [I 3, I 0, I 0, I 0] w2 l' w' ∧ Fl 133 [(0, s0), (1, .slice (some ⟨b, o, none⟩) R cap), (5, .bool true), (6, s6), (7, I (i : Int)), (8, l'), (9, I (k : Int)), (10, I (m : Int))] a') (h12_wp hC2.own (by omega) hC2.gr.size hA2') ?_
    rintro a3 w3 ⟨l', hap, hA3⟩
    obtain ⟨lp3, lc3, rfl, hC3⟩ := hC2.app hap
    refine wp_exit (then_out (inBlock_out ?_))
    exact hK a3 w3 lp3 lc3 _ (.shut hB) (by rw [List.length_append]; simp) hC3 (hA3.sub (by simp))
  · refine wp_cond_false (by rw [ht]; exact congrArg Value.bool (decide_eq_false (by omega))) (wp_skip ?_)
    show Code.wp Try.prog (.seq _ _) _ a2 w2
    refine wp_seq (loopE (by omega) (by omega) hC2 hA2' fun a3 w3 lp3 lc3 hC3 hA3 => ?_)
    show Code.wp Try.prog (.seq h17 (.block 6 (.loop HH))) _ a3 w3
    refine loopL (by omega) (by rw [List.length_append, List.length_replicate]; omega) hC3 hA3 fun a4 w4 lp4 lc4 hC4 hA4 => ?_
    exact hK a4 w4 lp4 lc4 _ (.ent m hB) (by simp only [List.length_append, List.length_replicate]; omega) hC4 (hA4.sub (by simp))
set_option maxHeartbeats 1000000 in
/-- A row of numbers. -/
theorem rowN {rl rc : Nat} {rp : Option Addr} (hrl : rl ≤ 9223372036854775807) (hi : i < R) (d1 : v1.cell? ⟨b, o + i, none⟩ = some (.slice rp rl rc)) (hrow : ∀ k, k < rl → ∃ rb ro x, rp = some ⟨rb, ro, none⟩ ∧ v1.cell? ⟨rb, ro + k, none⟩ = some (I x)) (hG : Grows v1 v) (hA : Fl 133 [(0, s0), (1, .slice (some ⟨b, o, none⟩) R cap), (5, .bool true), (6, s6), (7, I (i : Int)), (8, .slice none 0 0)] a) {Q : Exit → Act → World → Prop}
    (hK : ∀ a' w' lp' lc' ops', Bld ops' → ops'.length ≤ 55 → Cur v1 (.slice lp' ops'.length lc') ops' w' → Fl 133 [(0, s0), (1, .slice (some ⟨b, o, none⟩) R cap), (5, .bool true), (6, s6), (7, I (i : Int)), (8, .slice lp' ops'.length lc')] a' → Q .normal a' w') : (Code.seq h7 (.block 2 (.loop HC))).wp Try.prog Q a v := by
  refine wp_then (h7_wp hA) ?_
  rintro a1 w1 ⟨hA1, e1, o1, u1⟩
  rw [eHC]
  refine wp_while (fun N a w => ∃ (k : Nat) (lp : Option Addr) (lc : Nat) (ops : List Int), k ≤ rl ∧ N = rl - k ∧ Bld ops ∧ ops.length ≤ 55 ∧ Cur v1 (.slice lp ops.length lc) ops w ∧ Fl 133 [(0, s0), (1, .slice (some ⟨b, o, none⟩) R cap), (5, .bool true), (6, s6), (7, I (i : Int)), (8, .slice lp ops.length lc), (9, I (k : Int))] a) rl ⟨0, none, 0, [], Nat.zero_le _, rfl, .nil, by simp, ⟨World.ownsRow_nil .., grow_trans hG (grow_same e1 o1 u1)⟩, hA1⟩ ?_
  rintro N a2 w2 ⟨k, lp2, lc2, ops, hk, rfl, hB, hn, hC2, hA2⟩
  have d2 := grow_cell hC2.gr d1
  by_cases hlt : k < rl ∧ ops.length < 50
  · refine ⟨fun a' w' => Cur v1 (.slice lp2 ops.length lc2) ops w' ∧ Fl 133 [(0, s0), (1, .slice (some ⟨b, o, none⟩) R cap), (5, .bool true), (6, s6), (7, I (i : Int)), (8, .slice lp2 ops.length lc2), (9, I (k : Int)), (41, .bool true)] a', ?_, ?_⟩
    · refine wp_mono (h8_wpy hi d2 hlt.1 hlt.2 hA2) ?_
      rintro e a' w' ⟨rfl, hA', e', o', u'⟩
      exact ⟨rfl, hC2.same e' o' u', hA'⟩
    · rintro a3 w3 ⟨hC3, hA3⟩
      right
      refine ⟨hA3.at 41 (.bool true) (by simp), ?_⟩
      obtain ⟨rb, ro, x, rfl, c1⟩ := hrow k hlt.1
      refine wp_seq (numb hi hlt.1 d1 c1 hB (by omega) hC3 (show Fl 133 [(0, s0), (1, .slice (some ⟨b, o, none⟩) R cap), (5, .bool true), (6, s6), (7, I (i : Int)), (8, .slice lp2 ops.length lc2), (9, I (k : Int))] a3 from hA3.sub (by simp)) fun a4 w4 lp4 lc4 ops4 hB4 hn4 hC4 hA4 => ?_)
      show h9.wp Try.prog _ a4 w4
      refine wp_last (h9_wp (by unfold wrap64; omega) hA4) ?_
      rintro a5 w5 ⟨hA5, e5, o5, u5⟩
      exact ⟨rl - (k + 1), by omega, k + 1, lp4, lc4, ops4, by omega, rfl, hB4, by omega, hC4.same e5 o5 u5, hA5⟩
  · refine ⟨fun a' w' => Cur v1 (.slice lp2 ops.length lc2) ops w' ∧ Fl 133 [(0, s0), (1, .slice (some ⟨b, o, none⟩) R cap), (5, .bool true), (6, s6), (7, I (i : Int)), (8, .slice lp2 ops.length lc2), (9, I (k : Int)), (41, .bool false)] a', ?_, ?_⟩
    · by_cases h1 : k < rl
      · refine wp_mono (h8_wpm hi d2 h1 (fun h => hlt ⟨h1, h⟩) hA2) ?_
        rintro e a' w' ⟨rfl, hA', e', o', u'⟩
        exact ⟨rfl, hC2.same e' o' u', hA'⟩
      · refine wp_mono (h8_wpn hi d2 h1 hA2) ?_
        rintro e a' w' ⟨rfl, hA', e', o', u'⟩
        exact ⟨rfl, hC2.same e' o' u', hA'⟩
    · rintro a3 w3 ⟨hC3, hA3⟩
      left
      exact ⟨hA3.at 41 (.bool false) (by simp), hK a3 w3 lp2 lc2 ops hB hn hC3 (hA3.sub (by simp))⟩
end

/-- The rows that are there. -/
structure Made (v0 : World) (l6 : Value) (rows : List (Value × List Int)) (w : World) : Prop where
  own : w.ownsRow v0.heap.size 37 1 l6 rows.length (rows.map (·.1))
  gr : Grows v0 w
  row : ∀ r ∈ rows, w.ownsRow v0.heap.size 39 4 r.1 r.2.length (opC r.2) ∧ Bld r.2 ∧ r.2.length ≤ 55 ∧ (∀ g, r.1.ownBlock = some g → l6.ownBlock ≠ some g) ∧ ∃ lp lc, r.1 = .slice lp r.2.length lc
theorem own_base {w : World} {base base' : Nat} {e : TypeId} {size : Nat} {v : Value} {n : Nat} {xs : List Value} (hb : base' ≤ base) (h : w.ownsRow base e size v n xs) : w.ownsRow base' e size v n xs := by
  refine ⟨h.1, ?_⟩
  rcases h.2 with h | ⟨g, cap, cur, h1, h2, h3⟩
  · exact .inl h
  · exact .inr ⟨g, cap, cur, h1, Nat.le_trans hb h2, h3⟩
theorem Made.later {v0 : World} {l6 : Value} {rows : List (Value × List Int)} {w w' : World} (h : Made v0 l6 rows w) (g : Grows w w') : Made v0 l6 rows w' :=
  ⟨own_stay (fun x hx => g.old x (own_lt h.own x hx).2) h.own, grow_trans h.gr g, fun r hr => by
    obtain ⟨r1, r2⟩ := h.row r hr
    exact ⟨own_stay (fun x hx => g.old x (own_lt r1 x hx).2) r1, r2⟩⟩
theorem Made.app {v0 v1 w w' : World} {op lp : Option Addr} {oc lc : Nat} {rows : List (Value × List Int)} {ops : List Int} {l' : Value} (h : Made v0 (.slice op rows.length oc) rows v1) (hC : Cur v1 (.slice lp ops.length lc) ops w) (hB : Bld ops) (hn : ops.length ≤ 55) (k : Apd v0.heap.size 37 1 (.slice op rows.length oc) rows.length (rows.map (·.1)) [.slice lp ops.length lc] w l' w') :
    ∃ op' oc', l' = .slice op' (rows ++ [(Value.slice lp ops.length lc, ops)]).length oc' ∧ Made v0 l' (rows ++ [(Value.slice lp ops.length lc, ops)]) w' := by
  obtain ⟨g, c, hl, hg⟩ := k.at_
  refine ⟨some ⟨g, 0, none⟩, c, by rw [hl, List.length_append]; rfl, ?_, ?_, ?_⟩
  · rw [List.length_append, List.map_append]; exact k.own
  · refine ⟨by have := h.gr.size; have := hC.gr.size; have := k.size; omega, fun x hx => ?_, (k.os.trans hC.gr.os).trans h.gr.os, (k.output.trans hC.gr.output).trans h.gr.output⟩
    have h1 := h.gr.size
    have h2 := hC.gr.size
    rw [k.old x (by omega) (fun e => by have := (own_lt h.own x e.symm).1; omega), hC.gr.old x (by omega), h.gr.old x hx]
  · intro r hr
    have e' : l'.ownBlock = some g := by rw [hl]; rfl
    rw [List.mem_append, List.mem_singleton] at hr
    rcases hr with hr | rfl
    · obtain ⟨r1, r2, r3, r4, r5⟩ := h.row r hr
      have h2 := hC.gr.size
      refine ⟨own_stay (fun x hx => ?_) r1, r2, r3, fun x hx => ?_, r5⟩
      · have := (own_lt r1 x hx).2
        rw [k.old x (by omega) (fun e => r4 x hx e.symm), hC.gr.old x this]
      · rw [e']
        intro e
        obtain rfl : g = x := Option.some.inj e
        rcases hg with hg | hg
        · exact r4 _ hx hg
        · have := (own_lt r1 _ hx).2; omega
    · refine ⟨own_base h.gr.size (own_stay (fun x hx => ?_) hC.own), hB, hn, fun x hx => ?_, lp, lc, rfl⟩
      · have := own_lt hC.own x hx
        exact k.old x this.2 (fun e => by have := (own_lt h.own x e.symm).2; omega)
      · rw [e']
        intro e
        obtain rfl : g = x := Option.some.inj e
        have h3 := own_lt hC.own _ hx
        rcases hg with hg | hg
        · have := (own_lt h.own _ hg).2; omega
        · omega
section
variable {v0 v : World} {a : Act} {s0 : Value} {b o R cap : Nat} {p : Option Addr} {rp : Nat → Option Addr} {rl rc : Nat → Nat}
set_option maxHeartbeats 2000000 in
/-- All rows. -/
theorem rowsN (hat : 0 < R → p = some ⟨b, o, none⟩) (hR : R ≤ 17592186043904) (hrl : ∀ i, i < R → rl i ≤ 9223372036854775807) (hrow : ∀ i, i < R → v0.cell? ⟨b, o + i, none⟩ = some (.slice (rp i) (rl i) (rc i))) (hcell : ∀ i, i < R → ∀ k, k < rl i → ∃ rb ro x, rp i = some ⟨rb, ro, none⟩ ∧ v0.cell? ⟨rb, ro + k, none⟩ = some (I x)) (hG : Grows v0 v) (hA : Fl 133 [(0, s0), (1, .slice p R cap), (5, .bool true), (6, .slice none 0 0)] a) {Q : Exit → Act → World → Prop}
    (hK : ∀ a' w' op oc rows, rows.length = min R 8 → Made v0 (.slice op rows.length oc) rows w' → Fl 133 [(0, s0), (5, .bool true), (6, .slice op rows.length oc)] a' → Q .normal a' w') : S14.wp Try.prog Q a v := by
  unfold S14
  refine wp_then (h3_wp hA) ?_
  rintro a1 w1 ⟨hA1, e1, o1, u1⟩
  rw [eHA]
  refine wp_while (fun N a w => ∃ (i : Nat) (op : Option Addr) (oc : Nat) (rows : List (Value × List Int)), i ≤ R ∧ i ≤ 8 ∧ N = 8 - i ∧ rows.length = i ∧ Made v0 (.slice op rows.length oc) rows w ∧ Fl 133 [(0, s0), (1, .slice p R cap), (5, .bool true), (6, .slice op rows.length oc), (7, I (i : Int))] a) 8 ⟨0, none, 0, [], Nat.zero_le _, by decide, rfl, rfl, ⟨World.ownsRow_nil .., grow_trans hG (grow_same e1 o1 u1), fun r hr => (nomatch hr)⟩, hA1⟩ ?_
  rintro N a2 w2 ⟨i, op, oc, rows, hi, hi8, rfl, hlen, hM, hA2⟩
  by_cases hlt : i < R ∧ i < 8
  · obtain ⟨h1, h8⟩ := hlt
    obtain rfl := hat (by omega)
    refine ⟨fun a' w' => Made v0 (.slice op rows.length oc) rows w' ∧ Fl 133 [(0, s0), (1, .slice (some ⟨b, o, none⟩) R cap), (5, .bool true), (6, .slice op rows.length oc), (7, I (i : Int)), (27, .bool true)] a', ?_, ?_⟩
    · refine wp_mono (h4_wpy h1 h8 hA2) ?_
      rintro e a' w' ⟨rfl, hA', e', o', u'⟩
      exact ⟨rfl, hM.later (grow_same e' o' u'), hA'⟩
    · rintro a3 w3 ⟨hM3, hA3⟩
      right
      refine ⟨hA3.at 27 (.bool true) (by simp), wp_seq (wp_block ?_)⟩
      rw [eHB]
      refine wp_then (h6_wp (show Fl 133 [(0, s0), (1, .slice (some ⟨b, o, none⟩) R cap), (5, .bool true), (6, .slice op rows.length oc), (7, I (i : Int))] a3 from hA3.sub (by simp))) ?_
      rintro a4 w4 ⟨hA4, e4, o4, u4⟩
      refine wp_seq (rowN (v1 := w3) (hrl i h1) h1 (grow_cell hM3.gr (hrow i h1)) (fun k hk => ?_) (grow_same e4 o4 u4) hA4 fun a5 w5 lp lc ops hB hn hC hA5 => ?_)
      · obtain ⟨rb, ro, x, q1, q2⟩ := hcell i h1 k hk
        exact ⟨rb, ro, x, q1, grow_cell hM3.gr q2⟩
      show h21.wp Try.prog _ a5 w5
      have hM5 := hM3.later hC.gr
      refine wp_mono (h21_wp hM5.own (by omega) hM5.gr.size hA5) ?_
      rintro e a6 w6 ⟨rfl, l', hap, hA6⟩
      obtain ⟨op6, oc6, rfl, hM6⟩ := hM3.app hC hB hn hap
      show h5.wp Try.prog _ a6 w6
      refine wp_last (h5_wp (by unfold wrap64; omega) hA6) ?_
      rintro a7 w7 ⟨hA7, e7, o7, u7⟩
      exact ⟨8 - (i + 1), by omega, i + 1, op6, oc6, _, by omega, by omega, rfl, by rw [List.length_append, hlen]; rfl, hM6.later (grow_same e7 o7 u7), hA7⟩
  · refine ⟨fun a' w' => Made v0 (.slice op rows.length oc) rows w' ∧ Fl 133 [(0, s0), (1, .slice p R cap), (5, .bool true), (6, .slice op rows.length oc), (7, I (i : Int)), (27, .bool false)] a', ?_, ?_⟩
    · by_cases h1 : i < R
      · refine wp_mono (h4_wpm h1 (fun h => hlt ⟨h1, h⟩) hA2) ?_
        rintro e a' w' ⟨rfl, hA', e', o', u'⟩
        exact ⟨rfl, hM.later (grow_same e' o' u'), hA'⟩
      · refine wp_mono (h4_wpn h1 hA2) ?_
        rintro e a' w' ⟨rfl, hA', e', o', u'⟩
        exact ⟨rfl, hM.later (grow_same e' o' u'), hA'⟩
    · rintro a3 w3 ⟨hM3, hA3⟩
      left
      exact ⟨hA3.at 27 (.bool false) (by simp), hK a3 w3 op oc rows (by omega) hM3 (hA3.sub (by simp))⟩
end
end Go.Proofs.Ytfjjoohflcchnaa.Gen

namespace Go.Proofs.Ytfjjoohflcchnaa.Gen
open Go Go.Lift Go.Conc Go.RowKit

/-! ### Scripts of that kind -/
theorem n1_app (A B : List Cl) (k : Nat) : n1 (A ++ B) k = n1 A k + n1 B (k - A.length) := by
  unfold n1; rw [List.take_append, List.countP_append]
theorem n2_app (A B : List Cl) (k : Nat) : n2 (A ++ B) k = n2 A k + n2 B (k - A.length) := by
  unfold n2; rw [List.take_append, List.countP_append]
theorem n1_all {A : List Cl} {k : Nat} (h : A.length ≤ k) : n1 A k = n1 A A.length := by
  unfold n1; rw [List.take_of_length_le h, List.take_of_length_le (Nat.le_refl _)]
theorem n2_all {A : List Cl} {k : Nat} (h : A.length ≤ k) : n2 A k = n2 A A.length := by
  unfold n2; rw [List.take_of_length_le h, List.take_of_length_le (Nat.le_refl _)]
theorem Nest.le_any {A : List Cl} (h : Nest A) (k : Nat) : n2 A k ≤ n1 A k := by
  by_cases hk : k ≤ A.length
  · exact h.le k hk
  · rw [n1_all (by omega), n2_all (by omega)]; exact h.le _ (Nat.le_refl _)
theorem Nest.app {A B : List Cl} (h : Nest A) (k : Nest B) : Nest (A ++ B) := by
  refine ⟨fun c hc => ?_, fun j _ => ?_, fun j c hc h3 => ?_, ?_⟩
  · rcases List.mem_append.1 hc with hc | hc
    · exact h.ops c hc
    · exact k.ops c hc
  · rw [n1_app, n2_app]
    have := h.le_any j
    have := k.le_any (j - A.length)
    omega
  · rw [n1_app, n2_app]
    by_cases hj : j < A.length
    · rw [List.getElem?_append_left hj] at hc
      have e : j - A.length = 0 := by omega
      rw [h.shut j c hc h3, e]
      rfl
    · rw [List.getElem?_append_right (by omega)] at hc
      rw [k.shut _ c hc h3, n1_all (A := A) (by omega), n2_all (A := A) (by omega), h.fin]
  · rw [n1_app, n2_app, List.length_append, show A.length + B.length - A.length = B.length by omega, k.fin, n1_all (A := A) (by omega), n2_all (A := A) (by omega), h.fin]
def mkC (x : Int) : Cl := ⟨x, 0, 0, 0⟩
theorem nest_nil : Nest [] := ⟨fun c hc => (nomatch hc), fun k _ => by unfold n1 n2; simp, fun k c hc => by simp at hc, rfl⟩
theorem nest_shut : Nest [mkC 3] := by
  refine ⟨fun c hc => ?_, fun k hk => ?_, fun k c hc _ => ?_, rfl⟩
  · rw [List.mem_singleton] at hc; subst hc; exact .inr (.inr rfl)
  · have : k = 0 ∨ k = 1 := by simp at hk; omega
    rcases this with rfl | rfl <;> exact Nat.le_refl _
  · have : k = 0 := by have := (List.getElem?_eq_some_iff.1 hc).1; simp at this; omega
    subst this
    rfl
theorem nest_ent (m : Nat) : Nest (List.replicate m (mkC 1) ++ List.replicate m (mkC 2)) := by
  have e1 : ∀ k, n1 (List.replicate m (mkC 1) ++ List.replicate m (mkC 2)) k = min k m := fun k => by
    unfold n1
    rw [List.take_append, List.countP_append, List.take_replicate, List.take_replicate, List.countP_replicate, List.countP_replicate]
    simp [mkC]
  have e2 : ∀ k, n2 (List.replicate m (mkC 1) ++ List.replicate m (mkC 2)) k = min (k - m) m := fun k => by
    unfold n2
    rw [List.take_append, List.countP_append, List.take_replicate, List.take_replicate, List.countP_replicate, List.countP_replicate]
    simp [mkC]
  have hm : ∀ c ∈ List.replicate m (mkC 1) ++ List.replicate m (mkC 2), c.po = 1 ∨ c.po = 2 := fun c hc => by
    rcases List.mem_append.1 hc with hc | hc
    · rw [(List.mem_replicate.1 hc).2]; exact .inl rfl
    · rw [(List.mem_replicate.1 hc).2]; exact .inr rfl
  refine ⟨fun c hc => ?_, fun k _ => ?_, fun k c hc h3 => ?_, ?_⟩
  · rcases hm c hc with h | h
    · exact .inl h
    · exact .inr (.inl h)
  · rw [e1, e2]; omega
  · exfalso
    have := hm c (List.mem_of_getElem? hc)
    omega
  · rw [e1, e2, List.length_append, List.length_replicate, List.length_replicate]; omega
theorem bld_nest {ops : List Int} (h : Bld ops) : Nest (ops.map mkC) := by
  induction h with
  | nil => exact nest_nil
  | shut _ ih => rw [List.map_append]; exact ih.app nest_shut
  | ent m _ ih =>
    rw [List.append_assoc, List.map_append, List.map_append, List.map_replicate, List.map_replicate]
    exact ih.app (nest_ent m)

/-! ### Where they lie -/
theorem opC_get : ∀ (ops : List Int) (k : Nat) (x : Int), ops[k]? = some x → (opC ops)[k * 4]? = some (I x) ∧ (opC ops)[k * 4 + 1]? = some (I 0) ∧ (opC ops)[k * 4 + 2]? = some (I 0) ∧ (opC ops)[k * 4 + 3]? = some (I 0)
  | [], k, x, h => by simp at h
  | y :: ops, 0, x, h => by
    have : y = x := by simpa using h
    subst this
    exact ⟨rfl, rfl, rfl, rfl⟩
  | y :: ops, k + 1, x, h => by
    have ih := opC_get ops k x (by simpa using h)
    have e : opC (y :: ops) = I y :: I 0 :: I 0 :: I 0 :: opC ops := rfl
    rw [e, show (k + 1) * 4 = k * 4 + 4 by omega]
    exact ih
/-- A cell of a list of the call's own. -/
theorem own_get {w : World} {base : Nat} {e : TypeId} {size : Nat} {p : Option Addr} {n cap : Nat} {xs : List Value} (h : w.ownsRow base e size (.slice p n cap) n xs) (h0 : 0 < n) : ∃ g, p = some ⟨g, 0, none⟩ ∧ ∀ j x, xs[j]? = some x → w.cell? ⟨g, j, none⟩ = some x := by
  rcases h.2 with ⟨_, h⟩ | ⟨g, c, cur, h1, _, h3, _, _, _, h7⟩
  · omega
  · refine ⟨g, by cases h1; rfl, fun j x hj => cell_of h3 ?_⟩
    rw [← h7, List.getElem?_take] at hj
    split at hj
    · simpa using hj
    · cases hj
def slP : Value → Option Addr
  | .slice p _ _ => p
  | _ => none
def slC : Value → Nat
  | .slice _ _ c => c
  | _ => 0
theorem made_in {v0 w : World} {op : Option Addr} {oc : Nat} {rows : List (Value × List Int)} (h : Made v0 (.slice op rows.length oc) rows w) (h0 : 0 < rows.length) (h8 : rows.length ≤ 8) :
    ∃ b pc ln cp rb cl, op = some ⟨b, 0, none⟩ ∧ InS w op b 0 rows.length pc ln cp rb cl ∧ (∀ j, j < rows.length → ln j ≤ 64) ∧ ∀ j, j < rows.length → Nest (cl j) := by
  obtain ⟨b, rfl, hg⟩ := own_get h.own h0
  let r : Nat → Value × List Int := fun j => rows[j]?.getD (.slice none 0 0, [])
  have hr : ∀ j, j < rows.length → rows[j]? = some (r j) ∧ r j ∈ rows := fun j hj => by
    have e : rows[j]? = some rows[j] := List.getElem?_eq_getElem hj
    have e' : r j = rows[j] := by show rows[j]?.getD _ = _; rw [e]; rfl
    rw [e']
    exact ⟨e, List.getElem_mem hj⟩
  refine ⟨b, fun j => slP (r j).1, fun j => (r j).2.length, fun j => slC (r j).1, fun j => ((r j).1.ownBlock).getD 0, fun j => (r j).2.map mkC, rfl, ⟨fun _ => rfl, fun k hk => ?_, fun j hj => by simp, fun j hj hl => ?_, fun j hj k c hc => ?_, fun j hj c hc => ?_, by omega⟩, fun j hj => ?_, fun j hj => ?_⟩
  · obtain ⟨e, hm⟩ := hr k hk
    obtain ⟨_, _, _, _, lp, lc, e'⟩ := h.row _ hm
    rw [Nat.zero_add]
    refine hg k _ ?_
    rw [List.getElem?_map, e]
    show some (r k).1 = some (.slice (slP (r k).1) (r k).2.length (slC (r k).1))
    rw [e']
    rfl
  · obtain ⟨e, hm⟩ := hr j hj
    obtain ⟨ho, _, _, _, lp, lc, e'⟩ := h.row _ hm
    rw [e'] at ho
    obtain ⟨g, rfl, _⟩ := own_get ho hl
    rw [e']
    rfl
  · obtain ⟨e, hm⟩ := hr j hj
    obtain ⟨ho, _, _, _, lp, lc, e'⟩ := h.row _ hm
    rw [List.getElem?_map] at hc
    cases hx : (r j).2[k]? with
    | none => rw [hx] at hc; cases hc
    | some x =>
      rw [hx] at hc
      obtain rfl : mkC x = c := Option.some.inj hc
      have hl : 0 < (r j).2.length := by have := (List.getElem?_eq_some_iff.1 hx).1; omega
      rw [e'] at ho
      obtain ⟨g, rfl, hgg⟩ := own_get ho hl
      rw [e']
      obtain ⟨q0, q1, q2, q3⟩ := opC_get _ k x hx
      show w.cell? ⟨g, 0 + k * 4, none⟩ = some (I x) ∧ w.cell? ⟨g, 0 + k * 4 + 1, none⟩ = some (I 0) ∧ w.cell? ⟨g, 0 + k * 4 + 2, none⟩ = some (I 0) ∧ w.cell? ⟨g, 0 + k * 4 + 3, none⟩ = some (I 0)
      rw [Nat.zero_add]
      exact ⟨hgg _ _ q0, hgg _ _ q1, hgg _ _ q2, hgg _ _ q3⟩
  · obtain ⟨x, _, rfl⟩ := List.mem_map.1 hc
    show InR 0 ∧ InR 0 ∧ InR 0
    exact ⟨⟨by decide, by decide⟩, ⟨by decide, by decide⟩, ⟨by decide, by decide⟩⟩
  · have := (h.row _ (hr j hj).2).2.2.1
    show (r j).2.length ≤ 64
    omega
  · exact bld_nest (h.row _ (hr j hj).2).2.1

/-! ### Behind the Play -/
theorem lastC_take {L : List Stp} {i : Nat} {q : Stp} (h : L[i]? = some q) : lastC (L.take (i + 1)) = if q.op = 4 then q.ne else lastC (L.take i) := by
  rw [List.take_add_one, h]
  unfold lastC
  rw [List.foldl_append]
  rfl
set_option maxHeartbeats 1000000 in
theorem tail14 {n M b o cap e : Nat} {L : List Stp} {S : TS} {v : World} (he : e ≤ 1) (hl : lastC L = (e : Int)) (hS : Rep zn S v) (hst : S.stk = false) (htr : S.tr = flat L) (hSn : S.n = L.length) (hs4 : S.n ≤ 400000) {a : Act} (hA : Fl 133 [(5, .bool true), (6, .slice (some ⟨b, o, none⟩) n cap), (13, Pt S.wb 0), (14, .slice (some ⟨M, 0, none⟩) n n), (15, I 0)] a) :
    T14.wp Try.prog (fun e a' w' => e = .ret ∧ Fl 133 [(4, .bool true)] a' ∧ Grows v w') a v := by
  unfold T14
  refine wp_then (h26_wp hS (by omega) (by rw [htr]; exact flat_one L) hA) ?_
  rintro a2 w2 ⟨p, g, ct, hA2, hp, htc, g2⟩
  have hT2 : TrL g L w2 := fun k s hs => by
    have := flat_get L k s hs
    rw [← htr] at this
    exact ⟨htc _ _ this.1, htc _ _ this.2.1, htc _ _ this.2.2.1, htc _ _ this.2.2.2.1, htc _ _ this.2.2.2.2⟩
  refine wp_then (h27_wp hA2) ?_
  rintro a3 w3 ⟨hA3, e3, o3, u3⟩
  refine wp_seq (wp_then (h28_wp hA3) ?_)
  rintro a4 w4 ⟨hA4, e4, o4, u4⟩
  have g4 : Grows v w4 := grow_trans g2 (grow_same (e4.trans e3) (o4.trans o3) (u4.trans u3))
  rw [eHN]
  refine wp_while (fun m a w => ∃ i : Nat, i + m = S.n ∧ w.heap = w4.heap ∧ w.os = w4.os ∧ w.output = w4.output ∧ Fl 133 [(5, .bool true), (6, .slice (some ⟨b, o, none⟩) n cap), (13, Pt S.wb 0), (14, .slice (some ⟨M, 0, none⟩) n n), (15, I 0), (16, .slice p S.n ct), (17, I (lastC (L.take i))), (18, I (i : Int))] a) S.n ⟨0, by omega, rfl, rfl, rfl, hA4⟩ ?_
  rintro m a5 w5 ⟨i, him, e5, o5, u5, hA5⟩
  refine ⟨_, h29_wp hA5, ?_⟩
  rintro a6 w6 ⟨hA6, e6, o6, u6⟩
  have ht := hA6.at 97 (.bool (decide ((i : Int) < (S.n : Int)))) (by simp)
  have e64 : w6.heap = w4.heap := e6.trans e5
  by_cases hi : i < S.n
  · right
    refine ⟨by rw [ht]; exact congrArg Value.bool (decide_eq_true (by omega)), ?_⟩
    obtain ⟨rfl, _⟩ := hp (by omega)
    obtain ⟨q, hq⟩ : ∃ q, L[i]? = some q := ⟨_, List.getElem?_eq_getElem (by omega)⟩
    have c : ∀ u : World, u.heap = w4.heap → u.cell? ⟨g, i * 5 + 2, none⟩ = some (I q.op) ∧ u.cell? ⟨g, i * 5 + 4, none⟩ = some (I q.ne) := fun u eu => by
      have := hT2.go (v' := u) (fun b _ => by rw [eu, e4, e3]) i q hq
      exact ⟨this.2.2.1, this.2.2.2.2⟩
    have hA6' : Fl 133 [(5, .bool true), (6, .slice (some ⟨b, o, none⟩) n cap), (13, Pt S.wb 0), (14, .slice (some ⟨M, 0, none⟩) n n), (15, I 0), (16, .slice (some ⟨g, 0, none⟩) S.n ct), (17, I (lastC (L.take i))), (18, I (i : Int))] a6 := hA6.sub (by simp)
    have fin : ∀ (a' : Act) (w' : World), w'.heap = w4.heap → w'.os = w4.os → w'.output = w4.output → Fl 133 [(5, .bool true), (6, .slice (some ⟨b, o, none⟩) n cap), (13, Pt S.wb 0), (14, .slice (some ⟨M, 0, none⟩) n n), (15, I 0), (16, .slice (some ⟨g, 0, none⟩) S.n ct), (17, I (lastC (L.take (i + 1)))), (18, I (i : Int))] a' → h30.wp Try.prog (Exit.then (fun a'' w'' => ∃ n', n' < m ∧ ∃ i : Nat, i + n' = S.n ∧ w''.heap = w4.heap ∧ w''.os = w4.os ∧ w''.output = w4.output ∧ Fl 133 [(5, .bool true), (6, .slice (some ⟨b, o, none⟩) n cap), (13, Pt S.wb 0), (14, .slice (some ⟨M, 0, none⟩) n n), (15, I 0), (16, .slice (some ⟨g, 0, none⟩) S.n ct), (17, I (lastC (L.take i))), (18, I (i : Int))] a'') (Exit.inBlock 8 (Exit.then (fun a w => h33.wp Try.prog (fun e a' w' => e = .ret ∧ Fl 133 [(4, .bool true)] a' ∧ Grows v w') a w) (fun e a' w' => e = .ret ∧ Fl 133 [(4, .bool true)] a' ∧ Grows v w')))) a' w' := fun a' w' e' o' u' hA' => by
      refine wp_last (h30_wp (by unfold wrap64; omega) hA') ?_
      rintro a8 w8 ⟨hA8, e8, o8, u8⟩
      exact ⟨m - 1, by omega, i + 1, by omega, e8.trans e', o8.trans o', u8.trans u', hA8⟩
    refine wp_seq (wp_block (wp_then (h31_wp hi (c w6 e64).1 hA6') ?_))
    rintro a7 w7 ⟨hA7, e7, o7, u7⟩
    have e74 : w7.heap = w4.heap := e7.trans e64
    have hA7' : Fl 133 [(5, .bool true), (6, .slice (some ⟨b, o, none⟩) n cap), (13, Pt S.wb 0), (14, .slice (some ⟨M, 0, none⟩) n n), (15, I 0), (16, .slice (some ⟨g, 0, none⟩) S.n ct), (17, I (lastC (L.take i))), (18, I (i : Int))] a7 := hA7.sub (by simp)
    have hlt := lastC_take hq
    by_cases h4 : q.op = 4
    · rw [if_pos h4] at hlt
      refine wp_cond_true (by rw [hA7.at 105 (.bool (q.op == 4)) (by simp), h4]; rfl) (wp_mono (h32_wp hi (c w7 e74).2 hA7') ?_)
      rintro e' a8 w8 ⟨rfl, hA8, e8, o8, u8⟩
      rw [← hlt] at hA8
      exact fin a8 w8 (e8.trans e74) (o8.trans (o7.trans (o6.trans o5))) (u8.trans (u7.trans (u6.trans u5))) hA8
    · rw [if_neg h4] at hlt
      refine wp_cond_false (by rw [hA7.at 105 (.bool (q.op == 4)) (by simp)]; simp [h4]) (wp_skip ?_)
      rw [← hlt] at hA7'
      exact fin a7 w7 e74 (o7.trans (o6.trans o5)) (u7.trans (u6.trans u5)) hA7'
  · left
    refine ⟨by rw [ht]; exact congrArg Value.bool (decide_eq_false (by omega)), ?_⟩
    have hi' : L.take i = L := List.take_of_length_le (by omega)
    rw [hi', hl] at hA6
    have g6 : Grows v w6 := grow_trans g4 (grow_same e64 (o6.trans o5) (u6.trans u5))
    have hS6 := hS.grows g6.size g6.old
    show h33.wp Try.prog _ a6 w6
    have : e = 0 ∨ e = 1 := by omega
    rcases this with rfl | rfl
    · refine wp_mono (h33_wp0 hS6 hst (show Fl 133 [(5, .bool true), (6, .slice (some ⟨b, o, none⟩) n cap), (13, Pt S.wb 0), (14, .slice (some ⟨M, 0, none⟩) n n), (15, I 0), (16, .slice p S.n ct), (17, I 0)] a6 from hA6.sub (by simp))) ?_
      rintro e' a8 w8 ⟨rfl, hA8, e8, o8, u8⟩
      exact ⟨rfl, hA8, grow_trans g6 (grow_same e8 o8 u8)⟩
    · refine wp_mono (h33_wp1 hS6 hst (show Fl 133 [(5, .bool true), (6, .slice (some ⟨b, o, none⟩) n cap), (13, Pt S.wb 0), (14, .slice (some ⟨M, 0, none⟩) n n), (15, I 0), (16, .slice p S.n ct), (17, I 1)] a6 from hA6.sub (by simp))) ?_
      rintro e' a8 w8 ⟨rfl, hA8, e8, o8, u8⟩
      exact ⟨rfl, hA8, grow_trans g6 (grow_same e8 o8 u8)⟩
end Go.Proofs.Ytfjjoohflcchnaa.Gen
