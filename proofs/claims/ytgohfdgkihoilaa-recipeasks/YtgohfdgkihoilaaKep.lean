/- What Kept (15) and Spoil (16) do. -/
import Derived.Test.YtgohfdgkihoilaaKepP
set_option linter.unusedSimpArgs false
set_option linter.unusedVariables false
namespace Go.Proofs.Ytgohfdgkihoilaa.Rcp
open Go Go.RowKit Go.Deep Go.Maps

theorem marked_il {w : World} {c : Nat} {xs : List Int} {ys : List Value} {cap : Nat} (hx : xs.length ≤ 17592186044416) (h : w.heap[c]? = some (.cells (xs.map I ++ ys).toArray 3 (0, 0))) : IL (fun i => i = c) w (.slice (some ⟨c, 0, none⟩) xs.length cap) xs := by
  refine ⟨_, _, rfl, by omega, fun j x hj => ⟨c, 0, rfl, rfl, ?_⟩⟩
  have hjl : j < xs.length := (List.getElem?_eq_some_iff.1 hj).1
  simp only [World.cell?, h]
  rw [Nat.zero_add, List.getElem?_toArray, List.getElem?_append_left (by simpa using hjl), List.getElem?_map, hj]
  rfl

set_option maxHeartbeats 17592186044416 in
theorem kept_any {Z : Nat → Prop} {w : World} {x0 : Value} {l : List Rc} {gr : Nat} (hL : LM gr l l.length w) (h73 : w.cell? ⟨gr, l.length * 5 + 2, none⟩ = some (I (-73))) (hl : RL Z w x0 l) (hZ : ∀ i, Z i → i < w.heap.size) (hn : l.length ≤ 2600000000000) (hm : ∀ r ∈ l, r.needs.length ≤ 17592186044416) :
    Calls Try.prog 15 #[.slice (some ⟨gr, 0, none⟩) l.length (l.length + 1), x0] w (Ret fun r w' => r = .bool true ∧ Kp (fun i => i < w.heap.size) w w') := by
  obtain ⟨p, cap, rfl, -, -⟩ := id hl
  refine in15 fun a hA => ?_
  rw [e15]
  refine wp_then (p15_0 hA) fun a0 w0 h => ?_
  obtain ⟨h0, rfl⟩ := h
  refine wp_then (p15_1 hn h0) fun a1 w1 h => ?_
  obtain ⟨h1, rfl⟩ := h
  refine wp_seq (wp_then (p15_2 hn h73 h1) fun a2 w2 h => ?_)
  obtain ⟨h2, rfl⟩ := h
  refine wp_cond_false (h2.hf rfl) (wp_skip ?_)
  refine wp_seq (wp_then (p15_4 h2.tl) fun a3 w3 h => ?_)
  obtain ⟨h3, rfl⟩ := h
  refine wp_while (t := 25) (fun c a u => ∃ i, i ≤ l.length ∧ c = l.length - i ∧ Fl 66 [(0, .slice (some ⟨gr, 0, none⟩) l.length (l.length + 1)), (1, .slice p l.length cap), (6, I (i : Nat))] a ∧ Kp (fun i => i < w3.heap.size) w3 u) _
    ⟨0, Nat.zero_le _, rfl, h3, Kp.refl _ _⟩ ?_
  clear h3 h2 h1 h0 hA h73
  rintro c a4 u ⟨i, hi, rfl, h4, ku⟩
  refine ⟨_, p15_5 hn h4, ?_⟩
  rintro a5 w5 ⟨h5, rfl⟩
  by_cases hlt : i < l.length
  · refine .inr ⟨h5.hd (by simp [hlt]), ?_⟩
    have hmi : (l.getD i r0).needs.length ≤ 17592186044416 := hm _ (List.mem_of_getElem? (getD_some hlt r0))
    have facts : ∀ {U : World}, Kp (fun i => i < w3.heap.size) w3 U → LM gr l l.length U ∧ RL Z U (.slice p l.length cap) l := fun hk => ⟨hL.stay (hk.mono fun j hj => hj.2), hl.kp (hk.mono hZ)⟩
    obtain ⟨b, o, nv, rfl, hz, -, hn5, c0, c1, c2, c3, c4⟩ := (facts ku).2.at hlt
    obtain ⟨q, nc, rfl, -, -⟩ := id hn5
    obtain ⟨c, hgc, hr5, hm5⟩ := (facts ku).1.rc i hlt
    have hzb : b < w3.heap.size := hZ b hz
    have hgl : gr < w3.heap.size := hL.bk.lt
    have hc3 : c < w3.heap.size := by
      obtain ⟨c', e1, e2, e3⟩ := hL.rc i hlt
      have a1 := hr5 0 _ rfl
      have a2 := ku.cell (p := ⟨gr, i * 5 + 0, none⟩) hgl (e2 0 _ rfl)
      rw [a2] at a1
      injection a1 with a1
      injection a1 with a1
      injection a1 with a1
      injection a1 with a1
      subst a1
      exact (Array.getElem?_eq_some_iff.1 e3).1
    generalize hr : l.getD i r0 = r at *
    refine wp_seq (wp_block ?_)
    have kd : Kp (fun i => i < w3.heap.size) w3 w5.drew := ku.trans (Kp.drew _)
    refine wp_then (p15_7 (R := fun U => Kp (fun i => i < w3.heap.size) w3 U) hn hlt (by simpa using hr5 0 _ rfl) (hr5 1 _ rfl) (hr5 2 _ rfl) (hr5 3 _ rfl) (hr5 4 _ rfl) c0 c1 c2 c3 c4 ?_ ?_ h5.tl) fun a6 w6 h => ?_
    · refine (same_any (Z := fun j => j = c) (Z' := Z) ((marked_il hmi hm5).kp (Kp.drew _)) (hn5.kp (Kp.drew _)) (fun j hj => by subst hj; exact Nat.lt_of_lt_of_le hc3 kd.size) (fun j hj => Nat.lt_of_lt_of_le (hZ j hj) kd.size) (by omega)).mono ?_
      rintro e U ⟨_, rfl, rfl, hk⟩
      exact ⟨_, rfl, rfl, kd.after hk⟩
    · intro U hU
      obtain ⟨b', o', nv', e', -, -, -, f0, f1, f2, f3, f4⟩ := (facts hU).2.at hlt
      cases e'
      obtain ⟨c', -, hr5', -⟩ := (facts hU).1.rc i hlt
      obtain ⟨c'', -, e2, -⟩ := hL.rc i hlt
      rw [hr] at f1 f2 f3 f4 hr5' e2
      have g0 : U.cell? ⟨gr, i * 5, none⟩ = some (.slice (some ⟨c, 0, none⟩) r.needs.length (r.needs.length + 2)) := by
        have a1 : w5.cell? ⟨gr, i * 5 + 0, none⟩ = _ := hr5 0 _ rfl
        have a2 := ku.cell (p := ⟨gr, i * 5 + 0, none⟩) hgl (e2 0 _ rfl)
        have a3 := hU.cell (p := ⟨gr, i * 5 + 0, none⟩) hgl (e2 0 _ rfl)
        rw [a1] at a2
        rw [← a2] at a3
        exact a3
      have g1 : U.cell? ⟨b, o + i * 5, none⟩ = some (.slice q r.needs.length nc) := by
        obtain ⟨b2, o2, nv2, e2', -, -, -, k0, -⟩ := hl.at hlt
        cases e2'
        have a2 := ku.cell (p := ⟨b, o + i * 5, none⟩) hzb k0
        have a3 := hU.cell (p := ⟨b, o + i * 5, none⟩) hzb k0
        rw [c0] at a2
        rw [← a2] at a3
        exact a3
      exact ⟨g0, hr5' 1 _ rfl, hr5' 2 _ rfl, hr5' 3 _ rfl, hr5' 4 _ rfl, g1, f1, f2, f3, f4⟩
    obtain ⟨h6, k6⟩ := h
    have c06 : w6.cell? ⟨b, o + i * 5, none⟩ = some (.slice q r.needs.length nc) := by
      obtain ⟨b2, o2, nv2, e2', -, -, -, k0, -⟩ := hl.at hlt
      cases e2'
      have a2 := ku.cell (p := ⟨b, o + i * 5, none⟩) hzb k0
      have a3 := k6.cell (p := ⟨b, o + i * 5, none⟩) hzb k0
      rw [c0] at a2
      rw [← a2] at a3
      exact a3
    obtain ⟨c2', e1, e2, e3⟩ := hL.rc i hlt
    rw [hr] at e2 e3
    have d06 : w6.cell? ⟨gr, i * 5, none⟩ = some (.slice (some ⟨c2', 0, none⟩) r.needs.length (r.needs.length + 2)) := k6.cell (p := ⟨gr, i * 5, none⟩) hgl (e2 0 _ rfl)
    have m6 := (k6.block c2' (Array.getElem?_eq_some_iff.1 e3).1).trans e3
    refine wp_then (p15_8 hn hmi hlt c06 h6) fun a7 w7 h => ?_
    obtain ⟨h7, rfl⟩ := h
    refine wp_seq (wp_then (p15_9 h7) fun a8 w8 h => ?_)
    obtain ⟨h8, rfl⟩ := h
    refine wp_cond_false (h8.hf rfl) (wp_skip ?_)
    refine wp_then (p15_11 hn hmi hlt d06 h8.tl) fun a9 w9 h => ?_
    obtain ⟨h9, rfl⟩ := h
    refine wp_then (p15_12 hn hmi (by simp [World.cell?, m6]) (by simp [World.cell?, m6]) h9) fun a10 w10 h => ?_
    obtain ⟨h10, rfl⟩ := h
    refine wp_cond_false (h10.hf rfl) (wp_skip ?_)
    show Code.wp _ _ _ _ _
    refine wp_last (p15_6 (by omega) h10.tl) fun a11 w11 h => ?_
    obtain ⟨h11, rfl⟩ := h
    exact ⟨l.length - (i + 1), by omega, i + 1, by omega, rfl, h11, k6⟩
  · refine .inl ⟨h5.hf (by simp [hlt]), ?_⟩
    show Code.wp _ _ _ _ _
    refine wp_then (p15_14 (h5.sub (l' := []) (by simp))) fun a6 w6 h => ?_
    obtain ⟨h6, rfl⟩ := h
    exact wp_ret (fin1 rfl h6 _ (.head _) ⟨rfl, ku⟩)

/-- What Spoil writes to. -/
structure SM (B1 gr : Nat) (l : List Rc) (w : World) : Prop where
  bk : Bk w gr 43 ((l.length + 1) * 5)
  lt : gr < B1
  rc : ∀ i, i < l.length → ∃ c, gr < c ∧ c < B1 ∧ w.cell? ⟨gr, i * 5, none⟩ = some (.slice (some ⟨c, 0, none⟩) (l.getD i r0).needs.length ((l.getD i r0).needs.length + 2)) ∧ Bk w c 3 ((l.getD i r0).needs.length + 2)
theorem LM.sm {gr : Nat} {l : List Rc} {w : World} (h : LM gr l l.length w) : SM w.heap.size gr l w := by
  refine ⟨h.bk, h.bk.lt, fun i hi => ?_⟩
  obtain ⟨c, e1, e2, e3⟩ := h.rc i hi
  exact ⟨c, e1, (Array.getElem?_eq_some_iff.1 e3).1, by simpa using e2 0 _ rfl, _, e3, by simp⟩
theorem SM.stay {B1 gr : Nat} {l : List Rc} {w w' : World} (h : SM B1 gr l w) (hk : Kp (fun i => gr ≤ i ∧ i < B1) w w') : SM B1 gr l w' := by
  refine ⟨h.bk.block (hk.block gr ⟨Nat.le_refl _, h.lt⟩), h.lt, fun i hi => ?_⟩
  obtain ⟨c, e1, e2, e3, e4⟩ := h.rc i hi
  exact ⟨c, e1, e2, hk.cell (p := ⟨gr, i * 5, none⟩) ⟨Nat.le_refl _, h.lt⟩ e3, e4.block (hk.block c ⟨Nat.le_of_lt e1, e2⟩)⟩
theorem SM.set {B1 gr : Nat} {l : List Rc} {w : World} (h : SM B1 gr l w) {g o : Nat} (ho : g = gr → ∀ i, o ≠ i * 5) (v : Value) : SM B1 gr l (w.setCell ⟨g, o, none⟩ v) := by
  refine ⟨h.bk.set _ _ _, h.lt, fun i hi => ?_⟩
  obtain ⟨c, e1, e2, e3, e4⟩ := h.rc i hi
  refine ⟨c, e1, e2, ?_, e4.set _ _ _⟩
  rw [World.cell?_setCell_other _ _ _ _ (by intro e; injection e with a b; exact ho a i b)]
  exact e3

theorem spoil_any {w : World} {l : List Rc} {gr B1 : Nat} (hS : SM B1 gr l w) (hn : l.length ≤ 2600000000000) (hm : ∀ r ∈ l, r.needs.length ≤ 17592186044416) :
    Calls Try.prog 16 #[.slice (some ⟨gr, 0, none⟩) l.length (l.length + 1)] w (Ret fun r w' => r = .tuple #[] ∧ Kp (fun i => i < gr ∨ B1 ≤ i) w w') := by
  refine in16 fun a hA => ?_
  rw [e16]
  refine wp_then (p16_0 hA) fun a0 w0 h => ?_
  obtain ⟨h0, rfl⟩ := h
  refine wp_while (t := 7) (fun c a u => ∃ i, i ≤ l.length ∧ c = l.length - i ∧ Fl 31 [(0, .slice (some ⟨gr, 0, none⟩) l.length (l.length + 1)), (2, I (i : Nat))] a ∧ SM B1 gr l u ∧ Kp (fun i => i < gr ∨ B1 ≤ i) w0 u) _
    ⟨0, Nat.zero_le _, rfl, h0, hS, Kp.refl _ _⟩ ?_
  clear h0 hA hS
  rintro c a1 u ⟨i, hi, rfl, h1, hS, ku⟩
  refine ⟨_, p16_1 hn h1, ?_⟩
  rintro a2 w2 ⟨h2, rfl⟩
  by_cases hlt : i < l.length
  · refine .inr ⟨h2.hd (by simp [hlt]), ?_⟩
    have hmi : (l.getD i r0).needs.length ≤ 17592186044416 := hm _ (List.mem_of_getElem? (getD_some hlt r0))
    refine wp_seq (wp_block ?_)
    refine wp_seq (wp_then (p16_3 h2.tl) fun a3 w3 h => ?_)
    obtain ⟨h3, rfl⟩ := h
    refine wp_while (t := 17) (fun c a u => ∃ t, t ≤ (l.getD i r0).needs.length ∧ c = (l.getD i r0).needs.length - t ∧ Fl 31 [(0, .slice (some ⟨gr, 0, none⟩) l.length (l.length + 1)), (2, I (i : Nat)), (3, I (t : Nat))] a ∧ SM B1 gr l u ∧ Kp (fun i => i < gr ∨ B1 ≤ i) w0 u) _
      ⟨0, Nat.zero_le _, rfl, h3, hS, ku⟩ ?_
    clear h3 h2 h1 hS ku
    rintro c' a4 u ⟨t, ht, rfl, h4, hS, ku⟩
    obtain ⟨c, e1, e2, e3, e4⟩ := hS.rc i hlt
    refine ⟨_, p16_4 hn hmi hlt e3 h4, ?_⟩
    rintro a5 w5 ⟨h5, rfl⟩
    by_cases htl : t < (l.getD i r0).needs.length
    · refine .inr ⟨h5.hd (by simp only [decide_eq_true_eq]; exact htl), ?_⟩
      refine wp_seq (wp_block ?_)
      obtain ⟨x, hx⟩ := e4.some (j := t) (by omega)
      refine wp_last (p16_6 hn hmi hlt e3 htl hx (e4.frozen _) h5.tl) fun a6 w6 h => ?_
      obtain ⟨h6, rfl⟩ := h
      have hS6 := hS.set (g := c) (o := t) (fun e => by omega) (I 0)
      have k6 : Kp (fun i => i < gr ∨ B1 ≤ i) w0 (w5.setCell ⟨c, t, none⟩ (I 0)) := ku.trans (Kp.setCell (p := ⟨c, t, none⟩) (by show ¬ (c < gr ∨ B1 ≤ c); omega) _)
      generalize w5.setCell ⟨c, t, none⟩ (I 0) = w6 at hS6 k6
      show Code.wp _ _ _ _ _
      refine wp_last (p16_5 (by omega) h6) fun a7 w7 h => ?_
      obtain ⟨h7, rfl⟩ := h
      exact ⟨(l.getD i r0).needs.length - (t + 1), by omega, t + 1, by omega, rfl, h7, hS6, k6⟩
    · refine .inl ⟨h5.hf (by simp only [decide_eq_false_iff_not]; exact htl), ?_⟩
      show Code.wp _ _ _ _ _
      obtain ⟨x, hx⟩ := hS.bk.some (j := i * 5 + 2) (by omega)
      refine wp_last (p16_7 (n := l.length) (gr := gr) (i := i) hn hlt hx (hS.bk.frozen _) (h5.sub (by simp))) fun a6 w6 h => ?_
      obtain ⟨h6, rfl⟩ := h
      have hS6 := hS.set (g := gr) (o := i * 5 + 2) (fun _ j => by omega) (I 1)
      have k6 : Kp (fun i => i < gr ∨ B1 ≤ i) w0 (w5.setCell ⟨gr, i * 5 + 2, none⟩ (I 1)) := ku.trans (Kp.setCell (p := ⟨gr, i * 5 + 2, none⟩) (by show ¬ (gr < gr ∨ B1 ≤ gr); have := hS.lt; omega) _)
      generalize w5.setCell ⟨gr, i * 5 + 2, none⟩ (I 1) = w6 at hS6 k6
      show Code.wp _ _ _ _ _
      refine wp_last (p16_2 (by omega) h6) fun a7 w7 h => ?_
      obtain ⟨h7, rfl⟩ := h
      exact ⟨l.length - (i + 1), by omega, i + 1, by omega, rfl, h7, hS6, k6⟩
  · refine .inl ⟨h2.hf (by simp [hlt]), ?_⟩
    exact fin0n rfl h2 ⟨rfl, ku⟩
end Go.Proofs.Ytgohfdgkihoilaa.Rcp
