/- What sameInts (17) and same (33) do where both are the same. -/
import Derived.Test.YtgohfdgkihoilaaSamP
set_option linter.unusedSimpArgs false
set_option linter.unusedVariables false
namespace Go.Proofs.Ytgohfdgkihoilaa.Rcp
open Go Go.RowKit Go.Deep Go.Maps

theorem sameInts_any {Z Z' : Nat → Prop} {w : World} {x0 x1 : Value} {xs : List Int} (h0 : IL Z w x0 xs) (h1 : IL Z' w x1 xs) (hZ : ∀ i, Z i → i < w.heap.size) (hZ' : ∀ i, Z' i → i < w.heap.size) (hl : xs.length ≤ 17592186044416) :
    Calls Try.prog 17 #[x0, x1] w (Ret fun r w' => r = .bool true ∧ Kp (fun i => i < w.heap.size) w w') := by
  obtain ⟨p, c, rfl, -, -⟩ := id h0
  obtain ⟨q, d, rfl, -, -⟩ := id h1
  refine in17 fun a hA => ?_
  rw [e17]
  refine wp_then (p17_0 hA) fun a0 w0 h => ?_
  obtain ⟨g0, rfl⟩ := h
  refine wp_seq (wp_then (p17_1 hl g0) fun a1 w1 h => ?_)
  obtain ⟨g1, rfl⟩ := h
  refine wp_cond_false (g1.hf rfl) (wp_skip ?_)
  refine wp_seq (wp_then (p17_3 g1.tl) fun a2 w2 h => ?_)
  obtain ⟨g2, rfl⟩ := h
  refine wp_while (t := 14) (fun c' a u => ∃ i, i ≤ xs.length ∧ c' = xs.length - i ∧ Fl 26 [(0, .slice p xs.length c), (1, .slice q xs.length d), (5, I (i : Nat))] a ∧ Kp (fun i => i < w2.heap.size) w2 u) _
    ⟨0, Nat.zero_le _, rfl, g2, Kp.refl _ _⟩ ?_
  rintro c' a3 u ⟨i, hi, rfl, g3, ku⟩
  refine ⟨_, p17_4 hl g3, ?_⟩
  rintro a4 w4 ⟨g4, rfl⟩
  by_cases hlt : i < xs.length
  · refine .inr ⟨g4.hd (by simp [hlt]), ?_⟩
    obtain ⟨sb, so, rfl, -, c1⟩ := (h0.kp (ku.mono hZ)).at hlt
    obtain ⟨tb, to, rfl, -, c2⟩ := (h1.kp (ku.mono hZ')).at hlt
    refine wp_seq (wp_block ?_)
    refine wp_then (p17_6 hl hlt c1 c2 g4.tl) fun a5 w5 h => ?_
    obtain ⟨g5, m, rfl⟩ := h
    refine wp_cond_false (g5.hf rfl) (wp_skip ?_)
    show Code.wp _ _ _ _ _
    refine wp_last (p17_5 (by omega) g5.tl) fun a6 w6 h => ?_
    obtain ⟨g6, rfl⟩ := h
    exact ⟨xs.length - (i + 1), by omega, i + 1, by omega, rfl, g6, ku.trans (Kp.drewN _ _)⟩
  · refine .inl ⟨g4.hf (by simp [hlt]), ?_⟩
    show Code.wp _ _ _ _ _
    refine wp_then (p17_8 (g4.sub (l' := []) (by simp))) fun a5 w5 h => ?_
    obtain ⟨g5, rfl⟩ := h
    exact wp_ret (fin1 rfl g5 _ (.head _) ⟨rfl, ku⟩)

theorem same_any {Z Z' : Nat → Prop} {w : World} {na nb : Value} {r : Rc} (h0 : IL Z w na r.needs) (h1 : IL Z' w nb r.needs) (hZ : ∀ i, Z i → i < w.heap.size) (hZ' : ∀ i, Z' i → i < w.heap.size) (hl : r.needs.length ≤ 17592186044416) :
    Calls Try.prog 33 #[.agg #[na, I r.level, I r.act, I r.value, I r.fin], .agg #[nb, I r.level, I r.act, I r.value, I r.fin]] w (Ret fun x w' => x = .bool true ∧ Kp (fun i => i < w.heap.size) w w') := by
  obtain ⟨p, c, rfl, -, -⟩ := id h0
  obtain ⟨q, d, rfl, -, -⟩ := id h1
  refine in33 fun a hA => ?_
  rw [e33]
  refine wp_then (p33_0 hA) fun a0 w0 h => ?_
  obtain ⟨g0, rfl⟩ := h
  have kA : Kp (fun i => i < w.heap.size) w (w.alloc (.cells (rcC (.slice p r.needs.length c) r) 43)) := Kp.alloc (fun _ h => h) _
  have sA : (w.alloc (.cells (rcC (.slice p r.needs.length c) r) 43)).heap.size = w.heap.size + 1 := by simp
  have bA := heap_alloc_new w (.cells (rcC (.slice p r.needs.length c) r) 43)
  generalize w.alloc (.cells (rcC (.slice p r.needs.length c) r) 43) = V at kA sA bA g0
  have kB : Kp (fun i => i < V.heap.size) V (V.alloc (.cells (rcC (.slice q r.needs.length d) r) 43)) := Kp.alloc (fun _ h => h) _
  have sB : (V.alloc (.cells (rcC (.slice q r.needs.length d) r) 43)).heap.size = V.heap.size + 1 := by simp
  have bB := heap_alloc_new V (.cells (rcC (.slice q r.needs.length d) r) 43)
  generalize V.alloc (.cells (rcC (.slice q r.needs.length d) r) 43) = W at kB sB bB
  have bA' := (kB.block w.heap.size (by omega)).trans bA
  rw [sA] at bB
  have kW : Kp (fun i => i < w.heap.size) w W := kA.after kB
  have rd : ∀ {b : Nat} {nv : Value} {U : World}, W.heap[b]? = some (.cells (rcC nv r) 43) → b < W.heap.size → Kp (fun i => i < W.heap.size) W U → U.cell? ⟨b, 0, none⟩ = some nv ∧ U.cell? ⟨b, 1, none⟩ = some (I r.level) ∧ U.cell? ⟨b, 2, none⟩ = some (I r.act) ∧ U.cell? ⟨b, 3, none⟩ = some (I r.value) ∧ U.cell? ⟨b, 4, none⟩ = some (I r.fin) := by
    intro b nv U hb hlt hk
    refine ⟨hk.cell hlt ?_, hk.cell hlt ?_, hk.cell hlt ?_, hk.cell hlt ?_, hk.cell hlt ?_⟩
    all_goals simp [World.cell?, hb, rcC]
  obtain ⟨d0, d1, d2, d3, d4⟩ := rd bA' (by omega) (Kp.refl _ _)
  obtain ⟨e0, e1, e2, e3, e4⟩ := rd bB (by omega) (Kp.refl _ _)
  refine wp_seq (wp_then (p33_1 hl d0 d1 d2 d3 d4 e0 e1 e2 e3 e4 g0) fun a1 w1 h => ?_)
  obtain ⟨g1, rfl⟩ := h
  refine wp_cond_false (g1.hf rfl) (wp_skip ?_)
  refine wp_seq (wp_then (p33_3 g1.tl) fun a2 w2 h => ?_)
  obtain ⟨g2, rfl⟩ := h
  refine wp_while (t := 45) (fun c' a u => ∃ i, i ≤ r.needs.length ∧ c' = r.needs.length - i ∧ Fl 59 [(2, P1 w.heap.size), (3, P1 (w.heap.size + 1)), (5, I (i : Nat))] a ∧ Kp (fun i => i < w2.heap.size) w2 u) _
    ⟨0, Nat.zero_le _, rfl, g2, Kp.refl _ _⟩ ?_
  clear d0 d1 d2 d3 d4 e0 e1 e2 e3 e4
  rintro c' a3 u ⟨i, hi, rfl, g3, ku⟩
  obtain ⟨d0, d1, d2, d3, d4⟩ := rd bA' (by omega) ku
  obtain ⟨e0, e1, e2, e3, e4⟩ := rd bB (by omega) ku
  have kwu : Kp (fun i => i < w.heap.size) w u := kW.after ku
  refine ⟨_, p33_4 (q := none) (d := 0) hl d0 g3, ?_⟩
  rintro a4 w4 ⟨g4, rfl⟩
  by_cases hlt : i < r.needs.length
  · refine .inr ⟨g4.hd (by simp [hlt]), ?_⟩
    obtain ⟨sb, so, rfl, -, c1⟩ := (h0.kp (kwu.mono hZ)).at hlt
    obtain ⟨tb, to, rfl, -, c2⟩ := (h1.kp (kwu.mono hZ')).at hlt
    refine wp_seq (wp_block ?_)
    refine wp_then (p33_6 hl d0 e0 hlt c1 c2 g4.tl) fun a5 w5 h => ?_
    obtain ⟨g5, m, rfl⟩ := h
    refine wp_cond_false (g5.hf rfl) (wp_skip ?_)
    show Code.wp _ _ _ _ _
    refine wp_last (p33_5 (by omega) g5.tl) fun a6 w6 h => ?_
    obtain ⟨g6, rfl⟩ := h
    exact ⟨r.needs.length - (i + 1), by omega, i + 1, by omega, rfl, g6, ku.trans (Kp.drewN _ _)⟩
  · refine .inl ⟨g4.hf (by simp [hlt]), ?_⟩
    show Code.wp _ _ _ _ _
    refine wp_then (p33_8 (g4.sub (l' := []) (by simp))) fun a5 w5 h => ?_
    obtain ⟨g5, rfl⟩ := h
    exact wp_ret (fin1 rfl g5 _ (.head _) ⟨rfl, kwu⟩)
end Go.Proofs.Ytgohfdgkihoilaa.Rcp
