/- The law RecipeApart (7). -/
import Derived.Test.YtgohfdgkihoilaaApP
set_option linter.unusedSimpArgs false
set_option linter.unusedVariables false
namespace Go.Proofs.Ytgohfdgkihoilaa.Rcp
open Go Go.RowKit Go.Deep Go.Maps

theorem and_range (x : Int) (m : Nat) (hm : m < 1024) : 0 ≤ bits .and .i64 x m ∧ bits .and .i64 x m ≤ m := by
  have e : bits .and .i64 x m = IntKind.i64.wrap ((BitVec.ofInt 64 x &&& BitVec.ofInt 64 m).toNat : Int) := rfl
  have h : (BitVec.ofInt 64 x &&& BitVec.ofInt 64 (m : Int)).toNat ≤ m := by
    rw [BitVec.toNat_and]
    refine Nat.le_trans Nat.and_le_right ?_
    rw [BitVec.toNat_ofInt]
    omega
  rw [e, IntWalk.i64_in _ (by omega)]
  omega
/-- A recipe that was turned. -/
def modR (x : Int) (r : Rc) (i : Nat) : Rc := ⟨if (bits .and .i64 x 4 == 4) = true then [(i : Int)] else r.needs, r.level, (bits .and .i64 x 3).tmod 3, bits .and .i64 x 511, r.fin⟩
theorem modR_ok (x : Int) (r : Rc) (i : Nat) (h : okR r) : okR (modR x r i) := by
  obtain ⟨h1, h2, h3, h4, h5, h6, h7, h8⟩ := h
  have a : 0 ≤ bits .and .i64 x 3 ∧ bits .and .i64 x 3 ≤ 3 := and_range x 3 (by omega)
  have b : 0 ≤ bits .and .i64 x 511 ∧ bits .and .i64 x 511 ≤ 511 := and_range x 511 (by omega)
  have c : (bits .and .i64 x 3).tmod 3 = (bits .and .i64 x 3) % 3 := Int.tmod_eq_emod_of_nonneg a.1
  refine ⟨h1, h2, ?_, ?_, h5, h6, ?_, ?_⟩
  · show 0 ≤ (bits .and .i64 x 3).tmod 3; rw [c]; omega
  · show (bits .and .i64 x 3).tmod 3 ≤ 2; rw [c]; omega
  · show -1000 ≤ bits .and .i64 x 511; have := b.1; omega
  · show bits .and .i64 x 511 ≤ 1000; have := b.2; omega
/-- Recipes of which some are turned. -/
structure Turned (l l2 : List Rc) (keep : Nat → Prop) : Prop where
  len : l2.length = l.length
  same : ∀ i, i < l.length → keep i → l2.getD i r0 = l.getD i r0
  other : ∀ i, i < l.length → ¬ keep i → ∃ x, l2.getD i r0 = modR x (l.getD i r0) i
theorem Turned.level {l l2 : List Rc} {keep : Nat → Prop} (h : Turned l l2 keep) (i : Nat) (hi : i < l.length) : (l2.getD i r0).level = (l.getD i r0).level := by
  by_cases hk : keep i
  · rw [h.same i hi hk]
  · obtain ⟨x, hx⟩ := h.other i hi hk; rw [hx]; rfl
theorem mem_getD {l : List Rc} {r : Rc} (h : r ∈ l) : ∃ i, i < l.length ∧ l.getD i r0 = r := by
  obtain ⟨i, hi, rfl⟩ := List.mem_iff_getElem.1 h
  exact ⟨i, hi, by rw [List.getD_eq_getElem?_getD, List.getElem?_eq_getElem hi]; rfl⟩
theorem Turned.right {l l2 : List Rc} {keep : Nat → Prop} (h : Turned l l2 keep) (hR : RIGHT l) : RIGHT l2 := by
  have hm : ∀ i, i < l.length → l.getD i r0 ∈ l := fun i hi => List.mem_of_getElem? (getD_some hi r0)
  refine ⟨?_, ?_, fun r hr => ?_⟩
  · rintro (hl | ⟨r, hr, hn⟩)
    · exact hR.short (.inl (by rw [← h.len]; exact hl))
    · obtain ⟨i, hi, rfl⟩ := mem_getD hr
      rw [h.len] at hi
      by_cases hk : keep i
      · rw [h.same i hi hk] at hn
        exact hR.short (.inr ⟨_, hm i hi, hn⟩)
      · obtain ⟨x, hx⟩ := h.other i hi hk
        rw [hx] at hn
        unfold modR at hn
        simp only [] at hn
        split at hn
        · simp at hn
        · exact hR.short (.inr ⟨_, hm i hi, hn⟩)
  · rw [h.len]; exact hR.good.1
  · obtain ⟨i, hi, rfl⟩ := mem_getD hr
    rw [h.len] at hi
    have hg := hR.good.2 _ (hm i hi)
    have old : ∀ n ∈ (l.getD i r0).needs, 0 ≤ n ∧ n < l2.length ∧ (l2.getD n.toNat r0).level ≤ (l.getD i r0).level := fun n hn => by
      have := hg.2 n hn
      refine ⟨this.1, by rw [h.len]; exact this.2.1, ?_⟩
      rw [h.level _ (by omega)]
      exact this.2.2
    by_cases hk : keep i
    · rw [h.same i hi hk]
      exact ⟨hg.1, old⟩
    · obtain ⟨x, hx⟩ := h.other i hi hk
      rw [hx]
      refine ⟨modR_ok x _ i hg.1, fun n hn => ?_⟩
      by_cases h4 : (bits .and .i64 x 4 == 4) = true
      · have hn' : n ∈ [(i : Int)] := by unfold modR at hn; simp only [] at hn; rw [if_pos h4] at hn; exact hn
        rw [List.mem_singleton] at hn'
        subst hn'
        refine ⟨by omega, by rw [h.len]; omega, ?_⟩
        rw [show ((i : Int)).toNat = i by omega, h.level i hi]
        exact Int.le_refl _
      · have hn' : n ∈ (l.getD i r0).needs := by unfold modR at hn; simp only [] at hn; rw [if_neg h4] at hn; exact hn
        exact old n hn'
theorem Turned.fate {l l2 : List Rc} {key : Nat} (h : Turned l l2 (fun i => i = key ∨ Rch (nd l) key i)) (hR : RIGHT l) (hk : key < l.length) : (FateB l2 key ↔ FateB l key) ∧ fateV l2 key = fateV l key := by
  have hR2 := h.right hR
  have e : ∀ j, j = key ∨ Rch (nd l) key j → l2.getD j r0 = l.getD j r0 := fun j hj => h.same j (by
    rcases hj with rfl | hj
    · exact hk
    · exact hj.lt (nd_lt hR) hk) hj
  have hs := can_same (N := nd l) (A := gives l) (V := vl l) (N' := nd l2) (A' := gives l2) (V' := vl l2) (k := key) (fun j hj => by unfold nd; rw [e j hj]) (fun j hj => by unfold gives; rw [e j hj]) (fun j hj => by unfold vl; rw [e j hj])
  have hk2 : key < l2.length := by rw [h.len]; exact hk
  refine ⟨(fateB_nat hR2 hk2).trans (hs.1.trans (fateB_nat hR hk).symm), ?_⟩
  rw [fateV_nat hR2 hk2, fateV_nat hR hk]
  exact hs.2

open Classical in
/-- What becomes of a recipe. -/
noncomputable def tr (l : List Rc) (raw : List Int) (key i : Nat) : Rc := if i = key ∨ Rch (nd l) key i then l.getD i r0 else modR (raw.getD i 0) (l.getD i r0) i
theorem turned_tr (l : List Rc) (raw : List Int) (key : Nat) : Turned l ((List.range l.length).map (tr l raw key)) (fun i => i = key ∨ Rch (nd l) key i) where
  len := by simp
  same i hi hk := by rw [List.getD_eq_getElem?_getD]; simp [hi]; unfold tr; rw [if_pos hk]; simp [List.getD_eq_getElem?_getD, hi]
  other i hi hk := ⟨raw.getD i 0, by rw [List.getD_eq_getElem?_getD]; simp [hi]; unfold tr; rw [if_neg hk]; simp [List.getD_eq_getElem?_getD, hi]⟩
theorem boxC {w : World} {bx : Nat} {c0 c1 c2 c3 c4 : Value} (h : w.heap[bx]? = some (.cells #[c0, c1, c2, c3, c4] 43 (0, 0))) :
    w.cell? ⟨bx, 0, none⟩ = some c0 ∧ w.cell? ⟨bx, 1, none⟩ = some c1 ∧ w.cell? ⟨bx, 2, none⟩ = some c2 ∧ w.cell? ⟨bx, 3, none⟩ = some c3 ∧ w.cell? ⟨bx, 4, none⟩ = some c4 ∧ w.frozen? ⟨bx, 0, none⟩ = false ∧ w.frozen? ⟨bx, 2, none⟩ = false ∧ w.frozen? ⟨bx, 3, none⟩ = false := by
  refine ⟨?_, ?_, ?_, ?_, ?_, ?_, ?_, ?_⟩
  all_goals simp [World.cell?, World.frozen?, h]
theorem boxS {w : World} {bx : Nat} {c0 c1 c2 c3 c4 v : Value} (h : w.heap[bx]? = some (.cells #[c0, c1, c2, c3, c4] 43 (0, 0))) :
    (w.setCell ⟨bx, 0, none⟩ v).heap[bx]? = some (.cells #[v, c1, c2, c3, c4] 43 (0, 0)) ∧ (w.setCell ⟨bx, 2, none⟩ v).heap[bx]? = some (.cells #[c0, c1, v, c3, c4] 43 (0, 0)) ∧ (w.setCell ⟨bx, 3, none⟩ v).heap[bx]? = some (.cells #[c0, c1, c2, v, c4] 43 (0, 0)) := by
  refine ⟨?_, ?_, ?_⟩
  all_goals simp [World.setCell, Array.getElem?_modify, h]

section
variable {Z ZT : Nat → Prop} {u w4 : World} {l : List Rc} {raw : List Int} {b o cap g ct key i : Nat} {rw mv : Value} {rb : Nat → Nat} {T : Nat → Nat → Bool} {P : List (Value × Rc)} {Q : Exit → Act → World → Prop}
set_option maxHeartbeats 2000000 in
theorem round7 (hR : RIGHT l) (hl : RL Z u (.slice (some ⟨b, o, none⟩) l.length cap) l) (hZ : ∀ i, Z i → i < w4.heap.size) (hrw : IL Z u rw raw) (hT : Tab ZT l.length l.length (.slice (some ⟨g, 0, none⟩) l.length ct) rb T u) (hTR : ∀ i k, i < l.length → k < l.length → (T i k = true ↔ Rch (nd l) i k)) (hkey : key < l.length) (hli : i < l.length)
    (ku : Kp (fun i => i < w4.heap.size) w4 u) (hO : OwnR (fun i => i < w4.heap.size) u mv P) (hP : P.length = i) {a : Act} (hA : Fl 108 [(0, .slice (some ⟨b, o, none⟩) l.length cap), (1, I (key : Nat)), (2, rw), (9, .slice (some ⟨g, 0, none⟩) l.length ct), (10, mv), (11, I (i : Nat))] a)
    (hK : ∀ a' w' g2 c2 nv, Fl 108 [(0, .slice (some ⟨b, o, none⟩) l.length cap), (1, I (key : Nat)), (2, rw), (9, .slice (some ⟨g, 0, none⟩) l.length ct), (10, .slice (some ⟨g2, 0, none⟩) (P.length + 1) c2), (11, I (i : Nat))] a' → OwnR (fun i => i < w4.heap.size) w' (.slice (some ⟨g2, 0, none⟩) (P.length + 1) c2) (P ++ [(nv, tr l raw key i)]) → Kp (fun i => i < w4.heap.size) w4 w' → Q .normal a' w') : K7_1.wp Try.prog Q a u := by
  have h100 := short100 hR
  have hpos : 0 < l.length := hR.good.1
  obtain ⟨g', ct', e, -, hcl⟩ := hT.cells hpos
  cases e
  obtain ⟨b', o', nv, e, hz, -, hn, c0, c1, c2, c3, c4⟩ := hl.at hli
  cases e
  have hn' := hn
  obtain ⟨q, nc, rfl, hq, -⟩ := hn
  obtain ⟨rp, rc, hrwv, hrl, -⟩ := id hrw
  have hown : ∀ b, mv.ownBlock = some b → ¬ b < w4.heap.size ∧ b < u.heap.size := fun b hb => ⟨hO.nz b hb, hO.lt b hb⟩
  refine wp_then (p7_10 hli h100 c0 c1 c2 c3 c4 hA) fun a1 w1 h => ?_
  obtain ⟨h1, rfl⟩ := h
  have hbx : (u.alloc (.cells (rcC (.slice q (l.getD i r0).needs.length nc) (l.getD i r0)) 43)).heap[u.heap.size]? = some (.cells (rcC (.slice q (l.getD i r0).needs.length nc) (l.getD i r0)) 43 (0, 0)) := heap_alloc_new _ _
  have kW : Kp (fun i => i < u.heap.size) u (u.alloc (.cells (rcC (.slice q (l.getD i r0).needs.length nc) (l.getD i r0)) 43)) := Kp.alloc (fun _ h => h) _
  have sW : (u.alloc (.cells (rcC (.slice q (l.getD i r0).needs.length nc) (l.getD i r0)) 43)).heap.size = u.heap.size + 1 := by simp
  generalize hW : u.alloc (.cells (rcC (.slice q (l.getD i r0).needs.length nc) (l.getD i r0)) 43) = W at hbx kW sW
  have hZu : ∀ j, Z j → j < u.heap.size := fun j hj => Nat.lt_of_lt_of_le (hZ j hj) ku.size
  -- the end of a round
  have fin : ∀ {a' : Act} {v' : World} {q' : Option Addr} {nn' nc' : Nat} {r' : Rc}, Fl 108 [(0, .slice (some ⟨b, o, none⟩) l.length cap), (1, I (key : Nat)), (2, rw), (9, .slice (some ⟨g, 0, none⟩) l.length ct), (10, mv), (11, I (i : Nat)), (12, P1 u.heap.size)] a' → v'.heap[u.heap.size]? = some (.cells (rcC (.slice q' nn' nc') r') 43 (0, 0)) → IL (fun b => b < v'.heap.size ∧ mv.ownBlock ≠ some b) v' (.slice q' nn' nc') r'.needs → r' = tr l raw key i → Kp (fun i => i < u.heap.size) u v' → q7_19.wp Try.prog Q a' v' := by
    intro a' v' q' nn' nc' r' hA' hb hil hr kv
    obtain ⟨d0, d1, d2, d3, d4, -⟩ := boxC hb
    refine wp_last (p7_19 (hO.kp kv) (fun j hj => Nat.lt_of_lt_of_le hj (Nat.le_trans ku.size kv.size)) (by omega) hil d0 d1 d2 d3 d4 hA') fun a9 w9 h => ?_
    obtain ⟨g2, c2, h9, hO9, k9⟩ := h
    rw [hr] at hO9
    exact hK _ _ g2 c2 _ h9 hO9 (ku.trans ((kv.mono fun j hj => Nat.lt_of_lt_of_le hj ku.size).trans k9))
  refine wp_then (p7_11 h1) fun a2 w2 h => ?_
  obtain ⟨h2, rfl⟩ := h
  have oldIL : ∀ {v' : World}, Kp (fun i => i < u.heap.size) u v' → IL (fun b => b < v'.heap.size ∧ mv.ownBlock ≠ some b) v' (.slice q (l.getD i r0).needs.length nc) (l.getD i r0).needs := fun {v'} kv =>
    (hn'.kp (kv.mono hZu)).mono fun j hj => ⟨Nat.lt_of_lt_of_le (hZu j hj) kv.size, fun e => (hown j e).1 (hZ j hj)⟩
  -- behind the number
  have rest : ∀ {a' : Act}, Fl 108 [(0, .slice (some ⟨b, o, none⟩) l.length cap), (1, I (key : Nat)), (2, rw), (9, .slice (some ⟨g, 0, none⟩) l.length ct), (10, mv), (11, I (i : Nat)), (12, P1 u.heap.size), (13, I (raw.getD i 0))] a' → (seq2 (seq2 (seq2 K7_1))).wp Try.prog Q a' w2 := by
    intro a' hA'
    by_cases hik : i = key
    · refine wp_seq (wp_then (p7_14_a hik hA') fun a4 w4' h => ?_)
      obtain ⟨h4, rfl⟩ := h
      refine wp_cond_false (h4.hf rfl) (wp_skip ?_)
      exact fin (h4.sub (by simp)) hbx (oldIL kW) (by unfold tr; rw [if_pos (.inl hik)]) kW
    have hT2 := hT.kp kW
    obtain ⟨g', ct', e, -, hcl2⟩ := hT2.cells hpos
    cases e
    refine wp_seq (wp_then (p7_14_b (t := T key i) h100 (by simp; omega) hkey hli (hcl2 key hkey) (hT2.cell hkey hli) hA') fun a4 w4' h => ?_)
    obtain ⟨h4, rfl⟩ := h
    cases hTk : T key i with
    | true =>
      refine wp_cond_false (h4.hf (by rw [hTk]; rfl)) (wp_skip ?_)
      exact fin (h4.sub (by simp)) hbx (oldIL kW) (by unfold tr; rw [if_pos (.inr ((hTR key i hkey hli).1 hTk))]) kW
    | false =>
      have hnk : ¬ (i = key ∨ Rch (nd l) key i) := by
        rintro (h | h)
        · exact hik h
        · have := (hTR key i hkey hli).2 h; rw [hTk] at this; cases this
      refine wp_cond_true (h4.hd (by rw [hTk]; rfl)) ?_
      obtain ⟨_, _, d2, _, _, _, f2, _⟩ := boxC hbx
      refine wp_then (p7_15 d2 f2 h4.tl) fun a5 w5 h => ?_
      obtain ⟨h5, rfl⟩ := h
      have b5 := (boxS (v := I ((bits .and .i64 (raw.getD i 0) 3).tmod 3)) hbx).2.1
      have k5 : Kp (fun i => i < u.heap.size) u (w4'.setCell ⟨u.heap.size, 2, none⟩ (I ((bits .and .i64 (raw.getD i 0) 3).tmod 3))) := kW.trans (Kp.setCell (Z := fun i => i < u.heap.size) (show ¬ u.heap.size < u.heap.size from Nat.lt_irrefl _) _)
      have s5 : (w4'.setCell ⟨u.heap.size, 2, none⟩ (I ((bits .and .i64 (raw.getD i 0) 3).tmod 3))).heap.size = u.heap.size + 1 := by rw [← sW]; simp [World.setCell]
      generalize w4'.setCell ⟨u.heap.size, 2, none⟩ (I ((bits .and .i64 (raw.getD i 0) 3).tmod 3)) = W5 at b5 k5 s5
      obtain ⟨_, _, _, d3, _, _, _, f3⟩ := boxC b5
      refine wp_then (p7_16 d3 f3 h5) fun a6 w6 h => ?_
      obtain ⟨h6, rfl⟩ := h
      have b6 := (boxS (v := I (bits .and .i64 (raw.getD i 0) 511)) b5).2.2
      have k6 : Kp (fun i => i < u.heap.size) u (W5.setCell ⟨u.heap.size, 3, none⟩ (I (bits .and .i64 (raw.getD i 0) 511))) := k5.trans (Kp.setCell (Z := fun i => i < u.heap.size) (show ¬ u.heap.size < u.heap.size from Nat.lt_irrefl _) _)
      have s6 : (W5.setCell ⟨u.heap.size, 3, none⟩ (I (bits .and .i64 (raw.getD i 0) 511))).heap.size = u.heap.size + 1 := by rw [← s5]; simp [World.setCell]
      generalize W5.setCell ⟨u.heap.size, 3, none⟩ (I (bits .and .i64 (raw.getD i 0) 511)) = W6 at b6 k6 s6
      refine wp_then (p7_17 h6) fun a7 w7 h => ?_
      obtain ⟨h7, rfl⟩ := h
      cases h44 : (bits .and .i64 (raw.getD i 0) 4 == 4) with
      | false =>
        refine wp_cond_false (h7.hf h44) (wp_skip ?_)
        refine fin (r' := modR (raw.getD i 0) (l.getD i r0) i) (h7.sub (by simp)) b6 ?_ (by unfold tr; rw [if_neg hnk]) k6
        have e : (modR (raw.getD i 0) (l.getD i r0) i).needs = (l.getD i r0).needs := by unfold modR; simp only []; rw [if_neg (by rw [h44]; decide)]
        rw [e]
        exact oldIL k6
      | true =>
        refine wp_cond_true (h7.hd h44) ?_
        obtain ⟨d0, _, _, _, _, f0, _, _⟩ := boxC b6
        refine wp_last (p7_18 (by omega) d0 f0 h7.tl) fun a8 w8 h => ?_
        obtain ⟨h8, rfl⟩ := h
        have b7 : (w7.alloc (.cells #[I (i : Nat)] 3)).heap[u.heap.size]? = some (.cells #[.slice q (l.getD i r0).needs.length nc, I (l.getD i r0).level, I ((bits .and .i64 (raw.getD i 0) 3).tmod 3), I (bits .and .i64 (raw.getD i 0) 511), I (l.getD i r0).fin] 43 (0, 0)) := (Below.heap_alloc _ _ _ (by omega)).trans b6
        have b8 := (boxS (v := .slice (some ⟨w7.heap.size, 0, none⟩) 1 1) b7).1
        have hnb : ((w7.alloc (.cells #[I (i : Nat)] 3)).setCell ⟨u.heap.size, 0, none⟩ (.slice (some ⟨w7.heap.size, 0, none⟩) 1 1)).heap[w7.heap.size]? = some (.cells #[I (i : Nat)] 3 (0, 0)) := by
          rw [Below.heap_setCell _ _ _ _ (show w7.heap.size ≠ u.heap.size by omega)]
          exact heap_alloc_new _ _
        have k8 : Kp (fun i => i < u.heap.size) u ((w7.alloc (.cells #[I (i : Nat)] 3)).setCell ⟨u.heap.size, 0, none⟩ (.slice (some ⟨w7.heap.size, 0, none⟩) 1 1)) := k6.trans ((Kp.alloc (fun j hj => by omega) _).trans (Kp.setCell (Z := fun i => i < u.heap.size) (show ¬ u.heap.size < u.heap.size from Nat.lt_irrefl _) _))
        have s8 : ((w7.alloc (.cells #[I (i : Nat)] 3)).setCell ⟨u.heap.size, 0, none⟩ (.slice (some ⟨w7.heap.size, 0, none⟩) 1 1)).heap.size = w7.heap.size + 1 := by simp [World.setCell]
        have e : modR (raw.getD i 0) (l.getD i r0) i = ⟨[(i : Int)], (l.getD i r0).level, (bits .and .i64 (raw.getD i 0) 3).tmod 3, bits .and .i64 (raw.getD i 0) 511, (l.getD i r0).fin⟩ := by unfold modR; rw [if_pos h44]
        refine fin (q' := some ⟨w7.heap.size, 0, none⟩) (nn' := 1) (nc' := 1) (r' := ⟨[(i : Int)], (l.getD i r0).level, (bits .and .i64 (raw.getD i 0) 3).tmod 3, bits .and .i64 (raw.getD i 0) 511, (l.getD i r0).fin⟩) (h8.sub (by simp)) b8 ?_ (by unfold tr; rw [if_neg hnk, e]) k8
        refine ⟨_, _, rfl, by simp, fun j x hj => ⟨w7.heap.size, 0, rfl, ⟨by rw [s8]; omega, fun e => ?_⟩, ?_⟩⟩
        · have := (hown _ e).2; omega
        · match j, hj with
          | 0, hj =>
            cases hj
            show World.cell? _ ⟨w7.heap.size, 0, none⟩ = _
            simp only [World.cell?, hnb]
            rfl
          | j + 1, hj => simp at hj
  have hrn : raw.length ≤ 9223372036854775807 := hrl
  subst hrwv
  refine wp_seq (wp_then (p7_12 hrn (by omega) h2) fun a3 w3 h => ?_)
  obtain ⟨h3, rfl⟩ := h
  by_cases hir : i < raw.length
  · refine wp_cond_true (h3.hd (by simp [hir])) ?_
    obtain ⟨wb, wo, rfl, -, hcx⟩ := (hrw.kp (kW.mono hZu)).at hir
    refine wp_last (p7_13 hrn hir hcx h3.tl) fun a4 w4' h => ?_
    obtain ⟨h4, rfl⟩ := h
    exact rest h4
  · refine wp_cond_false (h3.hf (by simp [hir])) (wp_skip ?_)
    have e : raw.getD i 0 = 0 := by rw [List.getD_eq_getElem?_getD, List.getElem?_eq_none (by omega)]; rfl
    refine rest ?_
    rw [e]
    exact h3.tl
end

set_option maxHeartbeats 2000000 in
theorem apart_any {Z : Nat → Prop} {w : World} {x0 rw : Value} {l : List Rc} {raw : List Int} {key : Int} (hl : RL Z w x0 l) (hrw : IL Z w rw raw) (hZ : ∀ i, Z i → i < w.heap.size) :
    Calls Try.prog 7 #[x0, I key, rw] w (Ret fun x w' => x = .bool true ∧ Kp (fun i => i < w.heap.size) w w') := by
  refine in7 fun a hA => ?_
  rw [e7]
  refine wp_then (p7_0 hA) fun a0 w0 h => ?_
  obtain ⟨h0, rfl⟩ := h
  refine wp_then (p7_1 h0) fun a1 w1 h => ?_
  obtain ⟨h1, k1⟩ := h
  refine wp_then (p7_2 (hl.kp (k1.mono hZ)) ((k1.mono hZ).lt hZ) h1) fun a2 w2 h => ?_
  obtain ⟨h2, k2⟩ := h
  have k02 := k1.after k2
  obtain ⟨p, cap, rfl, -, -⟩ := id hl
  have out : ∀ {aa : Act}, Fl 108 [(36, .bool true), (7, .bool true)] aa → (Code.cond (.tmp 36) (.seq q7_4 .ret) .skip).wp Try.prog (Exit.then (Code.wp Try.prog (.seq q7_5 (.seq q7_6 (.seq (.seq q7_7 (.block 0 K7_0)) (.seq q7_20 (.seq q7_21 (.seq q7_22 .ret)))))) (bodyPost Try.prog Try.f7 (Ret fun x w' => x = .bool true ∧ Kp (fun i => i < w0.heap.size) w0 w'))) (bodyPost Try.prog Try.f7 (Ret fun x w' => x = .bool true ∧ Kp (fun i => i < w0.heap.size) w0 w'))) aa w2 := by
    intro aa hA'
    refine wp_cond_true (hA'.hd rfl) ?_
    refine wp_then (p7_4 hA'.tl) fun a4 w4 h => ?_
    obtain ⟨h4, rfl⟩ := h
    exact wp_ret (fin1 rfl h4 (.bool true) (by simp) ⟨rfl, k02⟩)
  by_cases hR : RIGHT l
  · have hr0 : (rightS l != 0) = false := by rw [(rightS_iff l).2 hR]; rfl
    by_cases hk0 : key < 0
    · refine wp_seq (wp_then (p7_3_b hr0 hk0 h2) fun a3 w3 h => ?_)
      obtain ⟨h3, rfl⟩ := h
      exact out h3
    by_cases hkn : (l.length : Int) ≤ key
    · refine wp_seq (wp_then (p7_3_c hr0 (decide_eq_false hk0) hkn h2) fun a3 w3 h => ?_)
      obtain ⟨h3, rfl⟩ := h
      exact out h3
    refine wp_seq (wp_then (p7_3_d hr0 (decide_eq_false hk0) (decide_eq_false hkn) h2) fun a3 w3 h => ?_)
    obtain ⟨h3, rfl⟩ := h
    clear out
    refine wp_cond_false (h3.hf rfl) (wp_skip ?_)
    obtain ⟨key, rfl⟩ := Int.eq_ofNat_of_zero_le (by omega : 0 ≤ key)
    have hkey : key < l.length := by omega
    have h100 := short100 hR
    have hpos : 0 < l.length := hR.good.1
    have hZ3 := (k02.mono hZ).lt hZ
    refine wp_then (p7_5 (key := (key : Int)) (rw := rw) (hl.kp (k02.mono hZ)) hZ3 hR (h3.sub (by simp))) fun a4 w4 h => ?_
    obtain ⟨tv, h4, rb, T, hT, hTR, k4⟩ := h
    have k04 := k02.after k4
    have hZ4 := (k04.mono hZ).lt hZ
    refine wp_then (p7_6 h4) fun a5 w5 h => ?_
    obtain ⟨h5, rfl⟩ := h
    have hv : ∃ b o, p = some ⟨b, o, none⟩ := by
      obtain ⟨p', cap', e, -, h2⟩ := hl
      cases e
      obtain ⟨blk, off, nv, rfl, -⟩ := h2 0 _ (getD_some hpos r0)
      exact ⟨blk, off, rfl⟩
    obtain ⟨b, o, rfl⟩ := hv
    obtain ⟨g, ct, rfl, -, -⟩ := hT.cells hpos
    refine wp_seq (wp_then (p7_7 h5) fun a6 w6 h => ?_)
    obtain ⟨h6, rfl⟩ := h
    have hl6 := hl.kp (k04.mono hZ)
    have hrw6 := hrw.kp (k04.mono hZ)
    refine wp_while (t := 43) (fun c a u => ∃ i mv P, i ≤ l.length ∧ c = l.length - i ∧ Fl 108 [(0, .slice (some ⟨b, o, none⟩) l.length cap), (1, I (key : Nat)), (2, rw), (9, .slice (some ⟨g, 0, none⟩) l.length ct), (10, mv), (11, I (i : Nat))] a ∧ OwnR (fun i => i < w6.heap.size) u mv P ∧ P.map (·.2) = (List.range i).map (tr l raw key) ∧ Kp (fun i => i < w6.heap.size) w6 u) _
      ⟨0, _, [], Nat.zero_le _, rfl, h6, OwnR.nil _ _, rfl, Kp.refl _ _⟩ ?_
    clear h6 h5 h4 h3 h2 h1 h0 hA
    rintro c a7 u ⟨i, mv, P, hi, rfl, h7, hO, hP, ku⟩
    have hPl : P.length = i := by have := congrArg List.length hP; simpa using this
    refine ⟨_, p7_8 h100 h7, ?_⟩
    rintro a8 w8 ⟨h8, rfl⟩
    have hl8 := hl6.kp (ku.mono hZ4)
    by_cases hli : i < l.length
    · refine .inr ⟨h8.hd (by simp [hli]), ?_⟩
      refine wp_seq (wp_block ?_)
      refine round7 (w4 := w6) hR hl8 hZ4 (hrw6.kp (ku.mono hZ4)) (hT.kp ku) hTR hkey hli ku hO hPl h8.tl fun a' w' g2 c2 nv hf hO' hk' => ?_
      show Code.wp _ _ _ _ _
      rw [hPl] at hf hO'
      refine wp_last (p7_9 (by omega) hf) fun a9 w9 h => ?_
      obtain ⟨h9, rfl⟩ := h
      refine ⟨l.length - (i + 1), by omega, i + 1, _, _, by omega, rfl, h9, hO', ?_, hk'⟩
      rw [List.map_append, hP, List.range_succ, List.map_append]
      rfl
    · refine .inl ⟨h8.hf (by simp [hli]), ?_⟩
      have hie : i = l.length := by omega
      subst hie
      have hturn := turned_tr l raw key
      have hf := hturn.fate hR hkey
      obtain ⟨is, his⟩ : ∃ is : Bool, is = true ↔ FateB l key := by
        by_cases h : FateB l key
        · exact ⟨true, by simp [h]⟩
        · exact ⟨false, by simp [h]⟩
      have hZ8 : ∀ i, Z i → i < w8.heap.size := fun i hi => Nat.lt_of_lt_of_le (hZ4 i hi) ku.size
      show Code.wp _ _ _ _ _
      refine wp_then (p7_20 (x0 := .slice (some ⟨b, o, none⟩) l.length cap) (mv := mv) (key := key) (is := is) hl8 hZ8 (by omega) his (h8.sub (by simp))) fun a9 w9 h => ?_
      obtain ⟨h9, k9⟩ := h
      have hO9 := hO.kp k9
      have hrl := hO9.rl (by omega)
      rw [hP] at hrl
      refine wp_then (p7_21 (mv := mv) (key := key) (is := is) (ia := is) (va := fateV l key) hrl (fun _ h => h) (by omega) (his.trans hf.1.symm) (h9.sub (by simp))) fun a10 w10 h => ?_
      obtain ⟨h10, k10⟩ := h
      rw [hf.2] at h10
      have kend : Kp (fun i => i < w0.heap.size) w0 w10 := k04.after (ku.after (k9.after k10))
      cases is with
      | true =>
        refine wp_then (p7_22_a h10) fun a11 w11 h => ?_
        obtain ⟨h11, rfl⟩ := h
        exact wp_ret (fin1 rfl h11 (.bool true) (by simp) ⟨rfl, kend⟩)
      | false =>
        refine wp_then (p7_22_b h10) fun a11 w11 h => ?_
        obtain ⟨h11, rfl⟩ := h
        exact wp_ret (fin1 rfl h11 (.bool true) (by simp) ⟨rfl, kend⟩)
  · refine wp_seq (wp_then (p7_3_a (by simp; exact fun h => hR ((rightS_iff l).1 h)) h2) fun a3 w3 h => ?_)
    obtain ⟨h3, rfl⟩ := h
    exact out h3
end Go.Proofs.Ytgohfdgkihoilaa.Rcp
