/- LatchCounts: whatever the schedule, the number and the scripts, what the calls are told and what the trace says of the number is as the law asks. Part 29 of 35. (Joined, by program, of: La10c.) -/
import Derived.Test.YtfjjoohflcchnaaLatchCounts28
set_option linter.unusedSimpArgs false
set_option linter.unusedVariables false
namespace Go.Proofs.Ytfjjoohflcchnaa.Gen
open Go Go.Lift Go.Conc Go.RowKit

/-- How many of a thread's first k calls are such. -/
def row (f : Nat → Nat → Bool) (i k : Nat) : Nat := (List.range k).countP (f i)
def tot2 (f : Nat → Nat → Bool) (ln : Nat → Nat) (i : Nat) : Nat := ((List.range i).map fun j => row f j (ln j)).sum
theorem row_succ (f : Nat → Nat → Bool) (i k : Nat) : row f i (k + 1) = row f i k + if f i k then 1 else 0 := by
  unfold row
  rw [List.range_succ, List.countP_append, List.countP_singleton]
theorem row_le (f : Nat → Nat → Bool) (i k : Nat) : row f i k ≤ k := by
  unfold row
  have := List.countP_le_length (p := f i) (l := List.range k)
  simpa using this
theorem tot2_succ (f : Nat → Nat → Bool) (ln : Nat → Nat) (i : Nat) : tot2 f ln (i + 1) = tot2 f ln i + row f i (ln i) := by
  unfold tot2
  rw [List.range_succ, List.map_append, List.sum_append]
  simp
theorem tot2_le (f : Nat → Nat → Bool) (ln : Nat → Nat) (n : Nat) (h : ∀ j, j < n → ln j ≤ 64) : ∀ i, i ≤ n → tot2 f ln i ≤ 64 * i
  | 0, _ => Nat.zero_le _
  | i + 1, hi => by
    rw [tot2_succ]
    have := tot2_le f ln n h i (by omega)
    have := row_le f i (ln i)
    have := h i (by omega)
    omega
def fD (po : Nat → Nat → Int) (i k : Nat) : Bool := po i k == 1
def fF (po ec : Nat → Nat → Int) (i k : Nat) : Bool := po i k == 1 && ec i k == 0
def fS (po ec : Nat → Nat → Int) (i k : Nat) : Bool := po i k == 2 && ec i k == 4
def fW (po ec : Nat → Nat → Int) (i k : Nat) : Bool := po i k == 2 && ec i k == 0
/-- The four numbers, where so many threads and calls are gone through. -/
structure Cn (po ec : Nat → Nat → Int) (ln : Nat → Nat) (i k : Nat) (d f s w : Int) : Prop where
  d : d = ((tot2 (fD po) ln i + row (fD po) i k : Nat) : Int)
  f : f = ((tot2 (fF po ec) ln i + row (fF po ec) i k : Nat) : Int)
  s : s = ((tot2 (fS po ec) ln i + row (fS po ec) i k : Nat) : Int)
  w : w = ((tot2 (fW po ec) ln i + row (fW po ec) i k : Nat) : Int)
section
variable {po ec : Nat → Nat → Int} {ln : Nat → Nat} {i k n : Nat} {d f s w : Int}
theorem Cn.small (h : Cn po ec ln i k d f s w) (hln : ∀ j, j < n → ln j ≤ 64) (hi : i < n) (hn : n ≤ 8) (hk : k ≤ ln i) : (0 ≤ d ∧ d ≤ 600) ∧ (0 ≤ f ∧ f ≤ 600) ∧ (0 ≤ s ∧ s ≤ 600) ∧ (0 ≤ w ∧ w ≤ 600) := by
  have b := fun g : Nat → Nat → Bool => tot2_le g ln n hln i (by omega)
  have r := fun g : Nat → Nat → Bool => row_le g i k
  have h64 := hln i hi
  have b1 := b (fD po); have b2 := b (fF po ec); have b3 := b (fS po ec); have b4 := b (fW po ec)
  have r1 := r (fD po); have r2 := r (fF po ec); have r3 := r (fS po ec); have r4 := r (fW po ec)
  rw [h.d, h.f, h.s, h.w]
  omega
theorem Cn.next (h : Cn po ec ln i (ln i) d f s w) : Cn po ec ln (i + 1) 0 d f s w := by
  have e : ∀ g : Nat → Nat → Bool, tot2 g ln i + row g i (ln i) = tot2 g ln (i + 1) + row g (i + 1) 0 := fun g => by rw [tot2_succ]; rfl
  exact ⟨by rw [h.d, e], by rw [h.f, e], by rw [h.s, e], by rw [h.w, e]⟩
theorem Cn.step (h : Cn po ec ln i k d f s w) : Cn po ec ln i (k + 1) (d + if po i k = 1 then 1 else 0) (f + if po i k = 1 ∧ ec i k = 0 then 1 else 0) (s + if po i k = 2 ∧ ec i k = 4 then 1 else 0) (w + if po i k = 2 ∧ ec i k = 0 then 1 else 0) := by
  refine ⟨?_, ?_, ?_, ?_⟩
  · rw [h.d, row_succ]
    unfold fD
    by_cases h1 : po i k = 1 <;> simp [h1] <;> omega
  · rw [h.f, row_succ]
    unfold fF
    by_cases h1 : po i k = 1 <;> by_cases h2 : ec i k = 0 <;> simp [h1, h2] <;> omega
  · rw [h.s, row_succ]
    unfold fS
    by_cases h1 : po i k = 2 <;> by_cases h2 : ec i k = 4 <;> simp [h1, h2] <;> omega
  · rw [h.w, row_succ]
    unfold fW
    by_cases h1 : po i k = 2 <;> by_cases h2 : ec i k = 0 <;> simp [h1, h2] <;> omega
end
/-- Where the answers and the scripts lie. -/
structure R10 (n M b o : Nat) (A ln cp rb ro : Nat → Nat) (pc : Nat → Option Addr) (po ec : Nat → Nat → Int) (v : World) : Prop where
  ar : ∀ k, k < n → v.cell? ⟨M, k, none⟩ = some (.slice (some ⟨A k, 0, none⟩) (ln k) (ln k))
  an : ∀ k, k < n → ∀ j, j < ln k → v.cell? ⟨A k, j * 2, none⟩ = some (I (ec k j))
  sr : ∀ k, k < n → v.cell? ⟨b, o + k, none⟩ = some (.slice (pc k) (ln k) (cp k))
  pq : ∀ k, k < n → 0 < ln k → pc k = some ⟨rb k, ro k, none⟩
  sa : ∀ k, k < n → ∀ j, j < ln k → v.cell? ⟨rb k, ro k + j * 4, none⟩ = some (I (po k j))
theorem R10.go {n M b o : Nat} {A ln cp rb ro : Nat → Nat} {pc : Nat → Option Addr} {po ec : Nat → Nat → Int} {v v' : World} (h : R10 n M b o A ln cp rb ro pc po ec v) (g : ∀ q, q < v.heap.size → v'.heap[q]? = v.heap[q]?) : R10 n M b o A ln cp rb ro pc po ec v' := by
  have hc : ∀ (a : Addr) (x : Value), v.cell? a = some x → v'.cell? a = some x := fun a x ha => by rw [World.cell?_of_block (w := v) (w' := v') (g _ (World.block_lt_of_cell? _ _ ha))]; exact ha
  exact ⟨fun k hk => hc _ _ (h.ar k hk), fun k hk j hj => hc _ _ (h.an k hk j hj), fun k hk => hc _ _ (h.sr k hk), h.pq, fun k hk j hj => hc _ _ (h.sa k hk j hj)⟩
theorem R10.same {n M b o : Nat} {A ln cp rb ro : Nat → Nat} {pc : Nat → Option Addr} {po ec : Nat → Nat → Int} {v v' : World} (h : R10 n M b o A ln cp rb ro pc po ec v) (e : v'.heap = v.heap) : R10 n M b o A ln cp rb ro pc po ec v' := h.go fun q _ => by rw [e]

section
variable {Ch : Nat → Prop} {Stop : Goroutine → World → Prop} {main : Bool} {n0 : Int} {wb n M b o cap : Nat} {A ln cp rb ro : Nat → Nat} {pc : Nat → Option Addr} {po ec : Nat → Nat → Int}
set_option maxHeartbeats 1000000 in
/-- A call's answer is counted. -/
theorem countJ {v w0 : World} {a : Act} {i k : Nat} {d f s w : Int} (hb : (0 ≤ d ∧ d ≤ 600) ∧ (0 ≤ f ∧ f ≤ 600) ∧ (0 ≤ s ∧ s ≤ 600) ∧ (0 ≤ w ∧ w ≤ 600)) (cs : List Frame) (kk : List Item) (hvw : Rel zn v w0) (hn : NoRow Ch v) (hA : Fl 223 [(1, I n0), (2, .slice (some ⟨b, o, none⟩) n cap), (8, Pt wb 0), (9, .slice (some ⟨M, 0, none⟩) n n), (11, I d), (12, I f), (13, I s), (14, I w), (15, I (i : Int)), (16, I (k : Int)), (17, I (ec i k)), (94, I (po i k))] a)
    (hK : ∀ a' v' w', Rel zn v' w' → NoRow Ch v' → v'.heap = v.heap → v'.os = v.os → v'.output = v.output → Fl 223 [(1, I n0), (2, .slice (some ⟨b, o, none⟩) n cap), (8, Pt wb 0), (9, .slice (some ⟨M, 0, none⟩) n n), (11, I (d + if po i k = 1 then 1 else 0)), (12, I (f + if po i k = 1 ∧ ec i k = 0 then 1 else 0)), (13, I (s + if po i k = 2 ∧ ec i k = 4 then 1 else 0)), (14, I (w + if po i k = 2 ∧ ec i k = 0 then 1 else 0)), (15, I (i : Int)), (16, I (k : Int))] a' → GoesI Try.prog main (DT (ScZ zn) Ch) Stop (G ((base 10).at a' kk) cs) w') :
    GoesI Try.prog main (DT (ScZ zn) Ch) Stop (G ((base 10).at a (.code SJ :: .inBlock 4 :: kk)) cs) w0 := by
  rw [eSJ]
  refine goesI_seq (dt_idle _ _) ?_
  refine goesI_plain (z := zn) (wr := true) (L := LV) (I := NoRow Ch) hE fineV noRow_keeps (fun v v' w w' es hi hr ho he => dt_of_z v v' w w' es hi hr ho he) hvw fine_a22 hA.2.1 (by simp [base]) hn (Q := fun a w' => Fl 223 [(1, I n0), (2, .slice (some ⟨b, o, none⟩) n cap), (8, Pt wb 0), (9, .slice (some ⟨M, 0, none⟩) n n), (11, I d), (12, I f), (13, I s), (14, I w), (15, I (i : Int)), (16, I (k : Int)), (17, I (ec i k)), (94, I (po i k)), (95, .bool (po i k == 1))] a ∧ w'.heap = v.heap ∧ w'.os = v.os ∧ w'.output = v.output) (fun τ => a22_wp (v := onTape v τ 0) hA) ?_
  rintro a1 v1 w1 ⟨hA1, e1, o1, u1⟩ hr1 hn1 -
  have hA1' : Fl 223 [(1, I n0), (2, .slice (some ⟨b, o, none⟩) n cap), (8, Pt wb 0), (9, .slice (some ⟨M, 0, none⟩) n n), (11, I d), (12, I f), (13, I s), (14, I w), (15, I (i : Int)), (16, I (k : Int)), (17, I (ec i k)), (94, I (po i k))] a1 := hA1.sub (by simp)
  by_cases h1 : po i k = 1
  · refine goesI_cond (dt_idle _ _) (t := true) (by rw [hA1.at 95 (.bool (po i k == 1)) (by simp), h1]; rfl) ?_
    simp only [if_true]
    rw [eKA]
    refine goesI_seq (dt_idle _ _) ?_
    refine goesI_plain (z := zn) (wr := true) (L := LV) (I := NoRow Ch) hE fineV noRow_keeps (fun v v' w w' es hi hr ho he => dt_of_z v v' w w' es hi hr ho he) hr1 fine_a23 hA1'.2.1 (by simp [base]) hn1 (Q := fun a w' => Fl 223 [(1, I n0), (2, .slice (some ⟨b, o, none⟩) n cap), (8, Pt wb 0), (9, .slice (some ⟨M, 0, none⟩) n n), (11, I (d + 1)), (12, I f), (13, I s), (14, I w), (15, I (i : Int)), (16, I (k : Int)), (17, I (ec i k)), (94, I (po i k))] a ∧ w'.heap = v1.heap ∧ w'.os = v1.os ∧ w'.output = v1.output) (fun τ => a23_wp (v := onTape v1 τ 0) (by unfold wrap64; omega) hA1') ?_
    rintro a2 v2 w2 ⟨hA2, e2, o2, u2⟩ hr2 hn2 -
    refine goesI_seq (dt_idle _ _) ?_
    refine goesI_plain (z := zn) (wr := true) (L := LV) (I := NoRow Ch) hE fineV noRow_keeps (fun v v' w w' es hi hr ho he => dt_of_z v v' w w' es hi hr ho he) hr2 fine_a24 hA2.2.1 (by simp [base]) hn2 (Q := fun a w' => Fl 223 [(1, I n0), (2, .slice (some ⟨b, o, none⟩) n cap), (8, Pt wb 0), (9, .slice (some ⟨M, 0, none⟩) n n), (11, I (d + 1)), (12, I f), (13, I s), (14, I w), (15, I (i : Int)), (16, I (k : Int)), (17, I (ec i k)), (94, I (po i k)), (100, .bool (ec i k == 0))] a ∧ w'.heap = v2.heap ∧ w'.os = v2.os ∧ w'.output = v2.output) (fun τ => a24_wp (v := onTape v2 τ 0) hA2) ?_
    rintro a3 v3 w3 ⟨hA3, e3, o3, u3⟩ hr3 hn3 -
    have hA3' : Fl 223 [(1, I n0), (2, .slice (some ⟨b, o, none⟩) n cap), (8, Pt wb 0), (9, .slice (some ⟨M, 0, none⟩) n n), (11, I (d + 1)), (12, I f), (13, I s), (14, I w), (15, I (i : Int)), (16, I (k : Int)), (17, I (ec i k)), (94, I (po i k))] a3 := hA3.sub (by simp)
    have h12 : ¬ po i k = 2 := by omega
    simp only [h1, h12, true_and, false_and, if_true, if_false, Int.add_zero, show ¬ ((1 : Int) = 2) by decide] at hK
    by_cases h0 : ec i k = 0
    · refine goesI_cond (dt_idle _ _) (t := true) (by rw [hA3.at 100 (.bool (ec i k == 0)) (by simp), h0]; rfl) ?_
      simp only [if_true]
      refine goesI_plain (z := zn) (wr := true) (L := LV) (I := NoRow Ch) hE fineV noRow_keeps (fun v v' w w' es hi hr ho he => dt_of_z v v' w w' es hi hr ho he) hr3 fine_a25 hA3'.2.1 (by simp [base]) hn3 (Q := fun a w' => Fl 223 [(1, I n0), (2, .slice (some ⟨b, o, none⟩) n cap), (8, Pt wb 0), (9, .slice (some ⟨M, 0, none⟩) n n), (11, I (d + 1)), (12, I (f + 1)), (13, I s), (14, I w), (15, I (i : Int)), (16, I (k : Int)), (17, I (ec i k)), (94, I (po i k))] a ∧ w'.heap = v3.heap ∧ w'.os = v3.os ∧ w'.output = v3.output) (fun τ => a25_wp (v := onTape v3 τ 0) (by unfold wrap64; omega) hA3') ?_
      rintro a4 v4 w4 ⟨hA4, e4, o4, u4⟩ hr4 hn4 -
      refine goesI_inBlock (dt_idle _ _) ?_
      simp only [h0, if_true] at hK
      exact hK a4 v4 w4 hr4 hn4 (e4.trans (e3.trans (e2.trans e1))) (o4.trans (o3.trans (o2.trans o1))) (u4.trans (u3.trans (u2.trans u1))) (hA4.sub (by simp))
    · refine goesI_cond (dt_idle _ _) (t := false) (by rw [hA3.at 100 (.bool (ec i k == 0)) (by simp)]; simp [h0]) ?_
      simp only [if_false, Bool.false_eq_true]
      refine goesI_skip (dt_idle _ _) ?_
      refine goesI_inBlock (dt_idle _ _) ?_
      simp only [h0, if_false, Int.add_zero] at hK
      exact hK a3 v3 w3 hr3 hn3 (e3.trans (e2.trans e1)) (o3.trans (o2.trans o1)) (u3.trans (u2.trans u1)) (hA3.sub (by simp))
  · refine goesI_cond (dt_idle _ _) (t := false) (by rw [hA1.at 95 (.bool (po i k == 1)) (by simp)]; simp [h1]) ?_
    simp only [if_false, Bool.false_eq_true]
    rw [eKB]
    refine goesI_seq (dt_idle _ _) ?_
    refine goesI_plain (z := zn) (wr := true) (L := LV) (I := NoRow Ch) hE fineV noRow_keeps (fun v v' w w' es hi hr ho he => dt_of_z v v' w w' es hi hr ho he) hr1 fine_a26 hA1'.2.1 (by simp [base]) hn1 (Q := fun a w' => Fl 223 [(1, I n0), (2, .slice (some ⟨b, o, none⟩) n cap), (8, Pt wb 0), (9, .slice (some ⟨M, 0, none⟩) n n), (11, I d), (12, I f), (13, I s), (14, I w), (15, I (i : Int)), (16, I (k : Int)), (17, I (ec i k)), (94, I (po i k)), (103, .bool (po i k == 2))] a ∧ w'.heap = v1.heap ∧ w'.os = v1.os ∧ w'.output = v1.output) (fun τ => a26_wp (v := onTape v1 τ 0) hA1') ?_
    rintro a2 v2 w2 ⟨hA2, e2, o2, u2⟩ hr2 hn2 -
    have hA2' : Fl 223 [(1, I n0), (2, .slice (some ⟨b, o, none⟩) n cap), (8, Pt wb 0), (9, .slice (some ⟨M, 0, none⟩) n n), (11, I d), (12, I f), (13, I s), (14, I w), (15, I (i : Int)), (16, I (k : Int)), (17, I (ec i k)), (94, I (po i k))] a2 := hA2.sub (by simp)
    simp only [h1, false_and, if_false, Int.add_zero] at hK
    by_cases h2 : po i k = 2
    · refine goesI_cond (dt_idle _ _) (t := true) (by rw [hA2.at 103 (.bool (po i k == 2)) (by simp), h2]; rfl) ?_
      simp only [if_true]
      rw [eKC]
      refine goesI_seq (dt_idle _ _) ?_
      refine goesI_seq (dt_idle _ _) ?_
      refine goesI_plain (z := zn) (wr := true) (L := LV) (I := NoRow Ch) hE fineV noRow_keeps (fun v v' w w' es hi hr ho he => dt_of_z v v' w w' es hi hr ho he) hr2 fine_a27 hA2'.2.1 (by simp [base]) hn2 (Q := fun a w' => Fl 223 [(1, I n0), (2, .slice (some ⟨b, o, none⟩) n cap), (8, Pt wb 0), (9, .slice (some ⟨M, 0, none⟩) n n), (11, I d), (12, I f), (13, I s), (14, I w), (15, I (i : Int)), (16, I (k : Int)), (17, I (ec i k)), (94, I (po i k)), (106, .bool (ec i k == 4))] a ∧ w'.heap = v2.heap ∧ w'.os = v2.os ∧ w'.output = v2.output) (fun τ => a27_wp (v := onTape v2 τ 0) hA2') ?_
      rintro a3 v3 w3 ⟨hA3, e3, o3, u3⟩ hr3 hn3 -
      have hA3' : Fl 223 [(1, I n0), (2, .slice (some ⟨b, o, none⟩) n cap), (8, Pt wb 0), (9, .slice (some ⟨M, 0, none⟩) n n), (11, I d), (12, I f), (13, I s), (14, I w), (15, I (i : Int)), (16, I (k : Int)), (17, I (ec i k)), (94, I (po i k))] a3 := hA3.sub (by simp)
      simp only [h2, true_and] at hK
      by_cases h4 : ec i k = 4
      · refine goesI_cond (dt_idle _ _) (t := true) (by rw [hA3.at 106 (.bool (ec i k == 4)) (by simp), h4]; rfl) ?_
        simp only [if_true]
        refine goesI_plain (z := zn) (wr := true) (L := LV) (I := NoRow Ch) hE fineV noRow_keeps (fun v v' w w' es hi hr ho he => dt_of_z v v' w w' es hi hr ho he) hr3 fine_a28 hA3'.2.1 (by simp [base]) hn3 (Q := fun a w' => Fl 223 [(1, I n0), (2, .slice (some ⟨b, o, none⟩) n cap), (8, Pt wb 0), (9, .slice (some ⟨M, 0, none⟩) n n), (11, I d), (12, I f), (13, I (s + 1)), (14, I w), (15, I (i : Int)), (16, I (k : Int)), (17, I (ec i k)), (94, I (po i k))] a ∧ w'.heap = v3.heap ∧ w'.os = v3.os ∧ w'.output = v3.output) (fun τ => a28_wp (v := onTape v3 τ 0) (by unfold wrap64; omega) hA3') ?_
        rintro a4 v4 w4 ⟨hA4, e4, o4, u4⟩ hr4 hn4 -
        refine goesI_seq (dt_idle _ _) ?_
        refine goesI_plain (z := zn) (wr := true) (L := LV) (I := NoRow Ch) hE fineV noRow_keeps (fun v v' w w' es hi hr ho he => dt_of_z v v' w w' es hi hr ho he) hr4 fine_a29 hA4.2.1 (by simp [base]) hn4 (Q := fun a w' => Fl 223 [(1, I n0), (2, .slice (some ⟨b, o, none⟩) n cap), (8, Pt wb 0), (9, .slice (some ⟨M, 0, none⟩) n n), (11, I d), (12, I f), (13, I (s + 1)), (14, I w), (15, I (i : Int)), (16, I (k : Int)), (17, I (ec i k)), (94, I (po i k)), (110, .bool (ec i k == 0))] a ∧ w'.heap = v4.heap ∧ w'.os = v4.os ∧ w'.output = v4.output) (fun τ => a29_wp (v := onTape v4 τ 0) hA4) ?_
        rintro a5 v5 w5 ⟨hA5, e5, o5, u5⟩ hr5 hn5 -
        have h0 : ¬ ec i k = 0 := by omega
        refine goesI_cond (dt_idle _ _) (t := false) (by rw [hA5.at 110 (.bool (ec i k == 0)) (by simp)]; simp [h0]) ?_
        simp only [if_false, Bool.false_eq_true]
        refine goesI_skip (dt_idle _ _) ?_
        refine goesI_inBlock (dt_idle _ _) ?_
        simp only [h4, if_true, show ¬ ((4 : Int) = 0) by decide, if_false, Int.add_zero] at hK
        exact hK a5 v5 w5 hr5 hn5 (e5.trans (e4.trans (e3.trans (e2.trans e1)))) (o5.trans (o4.trans (o3.trans (o2.trans o1)))) (u5.trans (u4.trans (u3.trans (u2.trans u1)))) (hA5.sub (by simp))
      · refine goesI_cond (dt_idle _ _) (t := false) (by rw [hA3.at 106 (.bool (ec i k == 4)) (by simp)]; simp [h4]) ?_
        simp only [if_false, Bool.false_eq_true]
        refine goesI_skip (dt_idle _ _) ?_
        refine goesI_seq (dt_idle _ _) ?_
        refine goesI_plain (z := zn) (wr := true) (L := LV) (I := NoRow Ch) hE fineV noRow_keeps (fun v v' w w' es hi hr ho he => dt_of_z v v' w w' es hi hr ho he) hr3 fine_a29 hA3'.2.1 (by simp [base]) hn3 (Q := fun a w' => Fl 223 [(1, I n0), (2, .slice (some ⟨b, o, none⟩) n cap), (8, Pt wb 0), (9, .slice (some ⟨M, 0, none⟩) n n), (11, I d), (12, I f), (13, I s), (14, I w), (15, I (i : Int)), (16, I (k : Int)), (17, I (ec i k)), (94, I (po i k)), (110, .bool (ec i k == 0))] a ∧ w'.heap = v3.heap ∧ w'.os = v3.os ∧ w'.output = v3.output) (fun τ => a29_wp (v := onTape v3 τ 0) hA3') ?_
        rintro a4 v4 w4 ⟨hA4, e4, o4, u4⟩ hr4 hn4 -
        have hA4' : Fl 223 [(1, I n0), (2, .slice (some ⟨b, o, none⟩) n cap), (8, Pt wb 0), (9, .slice (some ⟨M, 0, none⟩) n n), (11, I d), (12, I f), (13, I s), (14, I w), (15, I (i : Int)), (16, I (k : Int)), (17, I (ec i k)), (94, I (po i k))] a4 := hA4.sub (by simp)
        simp only [h4, if_false, Int.add_zero] at hK
        by_cases h0 : ec i k = 0
        · refine goesI_cond (dt_idle _ _) (t := true) (by rw [hA4.at 110 (.bool (ec i k == 0)) (by simp), h0]; rfl) ?_
          simp only [if_true]
          refine goesI_plain (z := zn) (wr := true) (L := LV) (I := NoRow Ch) hE fineV noRow_keeps (fun v v' w w' es hi hr ho he => dt_of_z v v' w w' es hi hr ho he) hr4 fine_a30 hA4'.2.1 (by simp [base]) hn4 (Q := fun a w' => Fl 223 [(1, I n0), (2, .slice (some ⟨b, o, none⟩) n cap), (8, Pt wb 0), (9, .slice (some ⟨M, 0, none⟩) n n), (11, I d), (12, I f), (13, I s), (14, I (w + 1)), (15, I (i : Int)), (16, I (k : Int)), (17, I (ec i k)), (94, I (po i k))] a ∧ w'.heap = v4.heap ∧ w'.os = v4.os ∧ w'.output = v4.output) (fun τ => a30_wp (v := onTape v4 τ 0) (by unfold wrap64; omega) hA4') ?_
          rintro a5 v5 w5 ⟨hA5, e5, o5, u5⟩ hr5 hn5 -
          refine goesI_inBlock (dt_idle _ _) ?_
          simp only [h0, if_true] at hK
          exact hK a5 v5 w5 hr5 hn5 (e5.trans (e4.trans (e3.trans (e2.trans e1)))) (o5.trans (o4.trans (o3.trans (o2.trans o1)))) (u5.trans (u4.trans (u3.trans (u2.trans u1)))) (hA5.sub (by simp))
        · refine goesI_cond (dt_idle _ _) (t := false) (by rw [hA4.at 110 (.bool (ec i k == 0)) (by simp)]; simp [h0]) ?_
          simp only [if_false, Bool.false_eq_true]
          refine goesI_skip (dt_idle _ _) ?_
          refine goesI_inBlock (dt_idle _ _) ?_
          simp only [h0, if_false, Int.add_zero] at hK
          exact hK a4 v4 w4 hr4 hn4 (e4.trans (e3.trans (e2.trans e1))) (o4.trans (o3.trans (o2.trans o1))) (u4.trans (u3.trans (u2.trans u1))) (hA4.sub (by simp))
    · refine goesI_cond (dt_idle _ _) (t := false) (by rw [hA2.at 103 (.bool (po i k == 2)) (by simp)]; simp [h2]) ?_
      simp only [if_false, Bool.false_eq_true]
      refine goesI_skip (dt_idle _ _) ?_
      refine goesI_inBlock (dt_idle _ _) ?_
      simp only [h2, false_and, if_false, Int.add_zero] at hK
      exact hK a2 v2 w2 hr2 hn2 (e2.trans e1) (o2.trans o1) (u2.trans u1) (hA2.sub (by simp))

theorem innerJ (hn8 : n ≤ 8) (hln : ∀ j, j < n → ln j ≤ 64) {i : Nat} (hi : i < n) (cs : List Frame) (kk : List Item) : ∀ (m k : Nat) (a : Act) (v w0 : World) (d f s w : Int), k + m = ln i → Rel zn v w0 → NoRow Ch v → R10 n M b o A ln cp rb ro pc po ec v → Cn po ec ln i k d f s w → Fl 223 [(1, I n0), (2, .slice (some ⟨b, o, none⟩) n cap), (8, Pt wb 0), (9, .slice (some ⟨M, 0, none⟩) n n), (11, I d), (12, I f), (13, I s), (14, I w), (15, I (i : Int)), (16, I (k : Int))] a →
    (∀ a' v' w' d' f' s' w2, Rel zn v' w' → NoRow Ch v' → v'.heap = v.heap → v'.os = v.os → v'.output = v.output → Cn po ec ln i (ln i) d' f' s' w2 → Fl 223 [(1, I n0), (2, .slice (some ⟨b, o, none⟩) n cap), (8, Pt wb 0), (9, .slice (some ⟨M, 0, none⟩) n n), (11, I d'), (12, I f'), (13, I s'), (14, I w2), (15, I (i : Int))] a' → GoesI Try.prog main (DT (ScZ zn) Ch) Stop (G ((base 10).at a' kk) cs) w') →
    GoesI Try.prog main (DT (ScZ zn) Ch) Stop (G ((base 10).at a (.code LJ :: .inLoop LJ :: .inBlock 2 :: kk)) cs) w0 := by
  intro m
  induction m with
  | zero =>
    intro k a v w0 d f s w hk hvw hn hR hC hA hK
    have hkl : k = ln i := by omega
    rw [eLJ]
    refine goesI_seq (dt_idle _ _) ?_
    refine goesI_seq (dt_idle _ _) ?_
    refine goesI_plain (z := zn) (wr := true) (L := LV) (I := NoRow Ch) hE fineV noRow_keeps (fun v v' w w' es hi hr ho he => dt_of_z v v' w w' es hi hr ho he) hvw fine_a18 hA.2.1 (by simp [base]) hn (Q := fun a w' => Fl 223 [(1, I n0), (2, .slice (some ⟨b, o, none⟩) n cap), (8, Pt wb 0), (9, .slice (some ⟨M, 0, none⟩) n n), (11, I d), (12, I f), (13, I s), (14, I w), (15, I (i : Int)), (16, I (k : Int)), (76, .bool (decide ((k : Int) < (ln i : Int))))] a ∧ w'.heap = v.heap ∧ w'.os = v.os ∧ w'.output = v.output) (fun τ => a18_wp (v := onTape v τ 0) rfl hi (hR.ar i hi) hA) ?_
    rintro a1 v1 w1 ⟨hA1, e1, o1, u1⟩ hr1 hn1 -
    refine goesI_cond (dt_idle _ _) (t := false) (by rw [hA1.at 76 (.bool (decide ((k : Int) < (ln i : Int)))) (by simp), decide_eq_false (by omega)]) ?_
    simp only [if_false, Bool.false_eq_true]
    refine goesI_exit (dt_idle _ _) (k' := kk) (by simp [exitTo]) ?_
    exact hK a1 v1 w1 d f s w hr1 hn1 e1 o1 u1 (by rw [← hkl]; exact hC) (hA1.sub (by simp))
  | succ m ih =>
    intro k a v w0 d f s w hk hvw hn hR hC hA hK
    have hkl : k < ln i := by omega
    have hb := hC.small hln hi hn8 (by omega)
    rw [eLJ]
    refine goesI_seq (dt_idle _ _) ?_
    refine goesI_seq (dt_idle _ _) ?_
    refine goesI_plain (z := zn) (wr := true) (L := LV) (I := NoRow Ch) hE fineV noRow_keeps (fun v v' w w' es hi hr ho he => dt_of_z v v' w w' es hi hr ho he) hvw fine_a18 hA.2.1 (by simp [base]) hn (Q := fun a w' => Fl 223 [(1, I n0), (2, .slice (some ⟨b, o, none⟩) n cap), (8, Pt wb 0), (9, .slice (some ⟨M, 0, none⟩) n n), (11, I d), (12, I f), (13, I s), (14, I w), (15, I (i : Int)), (16, I (k : Int)), (76, .bool (decide ((k : Int) < (ln i : Int))))] a ∧ w'.heap = v.heap ∧ w'.os = v.os ∧ w'.output = v.output) (fun τ => a18_wp (v := onTape v τ 0) rfl hi (hR.ar i hi) hA) ?_
    rintro a1 v1 w1 ⟨hA1, e1, o1, u1⟩ hr1 hn1 -
    refine goesI_cond (dt_idle _ _) (t := true) (by rw [hA1.at 76 (.bool (decide ((k : Int) < (ln i : Int)))) (by simp), decide_eq_true (by omega)]) ?_
    simp only [if_true]
    refine goesI_skip (dt_idle _ _) ?_
    refine goesI_seq (dt_idle _ _) ?_
    refine goesI_block (dt_idle _ _) ?_
    rw [← eLJ, eIJ]
    have hR1 := hR.same e1
    have hA1' : Fl 223 [(1, I n0), (2, .slice (some ⟨b, o, none⟩) n cap), (8, Pt wb 0), (9, .slice (some ⟨M, 0, none⟩) n n), (11, I d), (12, I f), (13, I s), (14, I w), (15, I (i : Int)), (16, I (k : Int))] a1 := hA1.sub (by simp)
    refine goesI_seq (dt_idle _ _) ?_
    refine goesI_plain (z := zn) (wr := true) (L := LV) (I := NoRow Ch) hE fineV noRow_keeps (fun v v' w w' es hi hr ho he => dt_of_z v v' w w' es hi hr ho he) hr1 fine_a20 hA1'.2.1 (by simp [base]) hn1 (Q := fun a w' => Fl 223 [(1, I n0), (2, .slice (some ⟨b, o, none⟩) n cap), (8, Pt wb 0), (9, .slice (some ⟨M, 0, none⟩) n n), (11, I d), (12, I f), (13, I s), (14, I w), (15, I (i : Int)), (16, I (k : Int)), (17, I (ec i k))] a ∧ w'.heap = v1.heap ∧ w'.os = v1.os ∧ w'.output = v1.output) (fun τ => a20_wp (v := onTape v1 τ 0) rfl hi (hR1.ar i hi) hkl (hR1.an i hi k hkl) hA1') ?_
    rintro a2 v2 w2 ⟨hA2, e2, o2, u2⟩ hr2 hn2 -
    have hR2 := hR1.same e2
    refine goesI_seq (dt_idle _ _) ?_
    refine goesI_plain (z := zn) (wr := true) (L := LV) (I := NoRow Ch) hE fineV noRow_keeps (fun v v' w w' es hi hr ho he => dt_of_z v v' w w' es hi hr ho he) hr2 fine_a21 hA2.2.1 (by simp [base]) hn2 (Q := fun a w' => Fl 223 [(1, I n0), (2, .slice (some ⟨b, o, none⟩) n cap), (8, Pt wb 0), (9, .slice (some ⟨M, 0, none⟩) n n), (11, I d), (12, I f), (13, I s), (14, I w), (15, I (i : Int)), (16, I (k : Int)), (17, I (ec i k)), (94, I (po i k))] a ∧ w'.heap = v2.heap ∧ w'.os = v2.os ∧ w'.output = v2.output) (fun τ => a21_wp (v := onTape v2 τ 0) rfl hi (by have := hR2.sr i hi; rw [hR2.pq i hi (by omega)] at this; exact this) hkl (hR2.sa i hi k hkl) hA2) ?_
    rintro a3 v3 w3 ⟨hA3, e3, o3, u3⟩ hr3 hn3 -
    refine goesI_block (dt_idle _ _) ?_
    refine countJ hb cs _ hr3 hn3 hA3 (fun a4 v4 w4 hr4 hn4 e4 o4 u4 hA4 => ?_)
    refine goesI_inBlock (dt_idle _ _) ?_
    refine goesI_plain (z := zn) (wr := true) (L := LV) (I := NoRow Ch) hE fineV noRow_keeps (fun v v' w w' es hi hr ho he => dt_of_z v v' w w' es hi hr ho he) hr4 fine_a19 hA4.2.1 (by simp [base]) hn4 (Q := fun a w' => Fl 223 [(1, I n0), (2, .slice (some ⟨b, o, none⟩) n cap), (8, Pt wb 0), (9, .slice (some ⟨M, 0, none⟩) n n), (11, I (d + if po i k = 1 then 1 else 0)), (12, I (f + if po i k = 1 ∧ ec i k = 0 then 1 else 0)), (13, I (s + if po i k = 2 ∧ ec i k = 4 then 1 else 0)), (14, I (w + if po i k = 2 ∧ ec i k = 0 then 1 else 0)), (15, I (i : Int)), (16, I ((k + 1 : Nat) : Int))] a ∧ w'.heap = v4.heap ∧ w'.os = v4.os ∧ w'.output = v4.output) (fun τ => a19_wp (v := onTape v4 τ 0) (by have := hln i hi; unfold wrap64; omega) hA4) ?_
    rintro a5 v5 w5 ⟨hA5, e5, o5, u5⟩ hr5 hn5 -
    refine goesI_inLoop (dt_idle _ _) ?_
    have e50 : v5.heap = v.heap := e5.trans (e4.trans (e3.trans (e2.trans e1)))
    exact ih (k + 1) a5 v5 w5 _ _ _ _ (by omega) hr5 hn5 (hR.same e50) hC.step hA5 (fun a' v' w' d' f' s' w2 q1 q2 q3 q4 q5 q6 q7 => hK a' v' w' d' f' s' w2 q1 q2 (q3.trans e50) (q4.trans (o5.trans (o4.trans (o3.trans (o2.trans o1))))) (q5.trans (u5.trans (u4.trans (u3.trans (u2.trans u1))))) q6 q7)

theorem outerA (hn8 : n ≤ 8) (hln : ∀ j, j < n → ln j ≤ 64) (cs : List Frame) (kk : List Item) : ∀ (m i : Nat) (a : Act) (v w0 : World) (d f s w : Int), i + m = n → Rel zn v w0 → NoRow Ch v → R10 n M b o A ln cp rb ro pc po ec v → Cn po ec ln i 0 d f s w → Fl 223 [(1, I n0), (2, .slice (some ⟨b, o, none⟩) n cap), (8, Pt wb 0), (9, .slice (some ⟨M, 0, none⟩) n n), (11, I d), (12, I f), (13, I s), (14, I w), (15, I (i : Int))] a →
    (∀ a' v' w' d' f' s' w2, Rel zn v' w' → NoRow Ch v' → v'.heap = v.heap → v'.os = v.os → v'.output = v.output → Cn po ec ln n 0 d' f' s' w2 → Fl 223 [(1, I n0), (2, .slice (some ⟨b, o, none⟩) n cap), (8, Pt wb 0), (9, .slice (some ⟨M, 0, none⟩) n n), (11, I d'), (12, I f'), (13, I s'), (14, I w2)] a' → GoesI Try.prog main (DT (ScZ zn) Ch) Stop (G ((base 10).at a' kk) cs) w') →
    GoesI Try.prog main (DT (ScZ zn) Ch) Stop (G ((base 10).at a (.code LA :: .inLoop LA :: .inBlock 0 :: kk)) cs) w0 := by
  intro m
  induction m with
  | zero =>
    intro i a v w0 d f s w hi hvw hn hR hC hA hK
    have hin : i = n := by omega
    rw [eLA]
    refine goesI_seq (dt_idle _ _) ?_
    refine goesI_seq (dt_idle _ _) ?_
    refine goesI_plain (z := zn) (wr := true) (L := LV) (I := NoRow Ch) hE fineV noRow_keeps (fun v v' w w' es hi hr ho he => dt_of_z v v' w w' es hi hr ho he) hvw fine_a13 hA.2.1 (by simp [base]) hn (Q := fun a w' => Fl 223 [(1, I n0), (2, .slice (some ⟨b, o, none⟩) n cap), (8, Pt wb 0), (9, .slice (some ⟨M, 0, none⟩) n n), (11, I d), (12, I f), (13, I s), (14, I w), (15, I (i : Int)), (56, .bool (decide ((i : Int) < (n : Int))))] a ∧ w'.heap = v.heap ∧ w'.os = v.os ∧ w'.output = v.output) (fun τ => a13_wp (v := onTape v τ 0) rfl hA) ?_
    rintro a1 v1 w1 ⟨hA1, e1, o1, u1⟩ hr1 hn1 -
    refine goesI_cond (dt_idle _ _) (t := false) (by rw [hA1.at 56 (.bool (decide ((i : Int) < (n : Int)))) (by simp), decide_eq_false (by omega)]) ?_
    simp only [if_false, Bool.false_eq_true]
    refine goesI_exit (dt_idle _ _) (k' := kk) (by simp [exitTo]) ?_
    exact hK a1 v1 w1 d f s w hr1 hn1 e1 o1 u1 (by rw [← hin]; exact hC) (hA1.sub (by simp))
  | succ m ih =>
    intro i a v w0 d f s w hi hvw hn hR hC hA hK
    have hin : i < n := by omega
    rw [eLA]
    refine goesI_seq (dt_idle _ _) ?_
    refine goesI_seq (dt_idle _ _) ?_
    refine goesI_plain (z := zn) (wr := true) (L := LV) (I := NoRow Ch) hE fineV noRow_keeps (fun v v' w w' es hi hr ho he => dt_of_z v v' w w' es hi hr ho he) hvw fine_a13 hA.2.1 (by simp [base]) hn (Q := fun a w' => Fl 223 [(1, I n0), (2, .slice (some ⟨b, o, none⟩) n cap), (8, Pt wb 0), (9, .slice (some ⟨M, 0, none⟩) n n), (11, I d), (12, I f), (13, I s), (14, I w), (15, I (i : Int)), (56, .bool (decide ((i : Int) < (n : Int))))] a ∧ w'.heap = v.heap ∧ w'.os = v.os ∧ w'.output = v.output) (fun τ => a13_wp (v := onTape v τ 0) rfl hA) ?_
    rintro a1 v1 w1 ⟨hA1, e1, o1, u1⟩ hr1 hn1 -
    refine goesI_cond (dt_idle _ _) (t := true) (by rw [hA1.at 56 (.bool (decide ((i : Int) < (n : Int)))) (by simp), decide_eq_true (by omega)]) ?_
    simp only [if_true]
    refine goesI_skip (dt_idle _ _) ?_
    refine goesI_seq (dt_idle _ _) ?_
    refine goesI_block (dt_idle _ _) ?_
    rw [← eLA, eIA]
    have hR1 := hR.same e1
    have hA1' : Fl 223 [(1, I n0), (2, .slice (some ⟨b, o, none⟩) n cap), (8, Pt wb 0), (9, .slice (some ⟨M, 0, none⟩) n n), (11, I d), (12, I f), (13, I s), (14, I w), (15, I (i : Int))] a1 := hA1.sub (by simp)
    refine goesI_seq (dt_idle _ _) ?_
    refine goesI_plain (z := zn) (wr := true) (L := LV) (I := NoRow Ch) hE fineV noRow_keeps (fun v v' w w' es hi hr ho he => dt_of_z v v' w w' es hi hr ho he) hr1 fine_a15 hA1'.2.1 (by simp [base]) hn1 (Q := fun a w' => Fl 223 [(1, I n0), (2, .slice (some ⟨b, o, none⟩) n cap), (8, Pt wb 0), (9, .slice (some ⟨M, 0, none⟩) n n), (11, I d), (12, I f), (13, I s), (14, I w), (15, I (i : Int))] a ∧ w'.heap = v1.heap ∧ w'.os = v1.os ∧ w'.output = v1.output) (fun τ => a15_wp (v := onTape v1 τ 0) rfl rfl hin (hR1.ar i hin) (hR1.sr i hin) hA1') ?_
    rintro a2 v2 w2 ⟨hA2, e2, o2, u2⟩ hr2 hn2 -
    refine goesI_seq (dt_idle _ _) ?_
    refine goesI_plain (z := zn) (wr := true) (L := LV) (I := NoRow Ch) hE fineV noRow_keeps (fun v v' w w' es hi hr ho he => dt_of_z v v' w w' es hi hr ho he) hr2 fine_a17 hA2.2.1 (by simp [base]) hn2 (Q := fun a w' => Fl 223 [(1, I n0), (2, .slice (some ⟨b, o, none⟩) n cap), (8, Pt wb 0), (9, .slice (some ⟨M, 0, none⟩) n n), (11, I d), (12, I f), (13, I s), (14, I w), (15, I (i : Int)), (16, I ((0 : Nat) : Int))] a ∧ w'.heap = v2.heap ∧ w'.os = v2.os ∧ w'.output = v2.output) (fun τ => a17_wp (v := onTape v2 τ 0) hA2) ?_
    rintro a3 v3 w3 ⟨hA3, e3, o3, u3⟩ hr3 hn3 -
    have e30 : v3.heap = v.heap := e3.trans (e2.trans e1)
    refine goesI_block (dt_idle _ _) ?_
    refine goesI_loop (dt_idle _ _) ?_
    refine innerJ hn8 hln hin cs _ (ln i) 0 a3 v3 w3 d f s w (by omega) hr3 hn3 (hR.same e30) hC hA3 (fun a4 v4 w4 d' f' s' w2 hr4 hn4 e4 o4 u4 hC4 hA4 => ?_)
    refine goesI_inBlock (dt_idle _ _) ?_
    refine goesI_plain (z := zn) (wr := true) (L := LV) (I := NoRow Ch) hE fineV noRow_keeps (fun v v' w w' es hi hr ho he => dt_of_z v v' w w' es hi hr ho he) hr4 fine_a14 hA4.2.1 (by simp [base]) hn4 (Q := fun a w' => Fl 223 [(1, I n0), (2, .slice (some ⟨b, o, none⟩) n cap), (8, Pt wb 0), (9, .slice (some ⟨M, 0, none⟩) n n), (11, I d'), (12, I f'), (13, I s'), (14, I w2), (15, I ((i + 1 : Nat) : Int))] a ∧ w'.heap = v4.heap ∧ w'.os = v4.os ∧ w'.output = v4.output) (fun τ => a14_wp (v := onTape v4 τ 0) (by unfold wrap64; omega) hA4) ?_
    rintro a5 v5 w5 ⟨hA5, e5, o5, u5⟩ hr5 hn5 -
    refine goesI_inLoop (dt_idle _ _) ?_
    have e50 : v5.heap = v.heap := e5.trans (e4.trans e30)
    exact ih (i + 1) a5 v5 w5 _ _ _ _ (by omega) hr5 hn5 (hR.same e50) hC4.next hA5 (fun a' v' w' d' f' s' w2 q1 q2 q3 q4 q5 q6 q7 => hK a' v' w' d' f' s' w2 q1 q2 (q3.trans e50) (q4.trans (o5.trans (o4.trans (o3.trans (o2.trans o1))))) (q5.trans (u5.trans (u4.trans (u3.trans (u2.trans u1))))) q6 q7)
end
end Go.Proofs.Ytfjjoohflcchnaa.Gen
