/- What the document's ask (36) does. -/
import Derived.Test.YtgohfdgkihoilaaRAkP
import Derived.Test.YtgohfdgkihoilaaAsd
set_option linter.unusedSimpArgs false
set_option linter.unusedVariables false
namespace Go.Proofs.Ytgohfdgkihoilaa.Rcp
open Go Go.RowKit Go.Deep Go.Maps

/-- What stands in memory while the document's rules ask for keys. -/
structure AM (Z : Nat → Prop) (l : List Rc) (lv : Value) (bb cb ob : Nat) (M : Nat → Bool) (s : St) (w : World) : Prop where
  box : ∃ tv, w.heap[bb]? = some (.cells #[lv, .slice (some ⟨cb, 0, none⟩) l.length l.length, .slice (some ⟨ob, 0, none⟩) l.length l.length, tv] 67 (0, 0)) ∧ OwnI (fun i => Z i ∨ i = bb ∨ i = cb ∨ i = ob) w tv (s.td.map Int.ofNat)
  can : w.rowIs cb 4 l.length (fun k => .bool (M k))
  bgn : w.rowIs ob 4 l.length (fun k => .bool (s.bg k))
  z1 : ¬ Z bb
  z3 : ¬ Z ob
  n1 : bb ≠ cb
  n2 : bb ≠ ob
  n3 : cb ≠ ob

theorem AM.lt {Z : Nat → Prop} {l : List Rc} {lv : Value} {bb cb ob : Nat} {M : Nat → Bool} {s : St} {w : World} (h : AM Z l lv bb cb ob M s w) (hZ : ∀ i, Z i → i < w.heap.size) : ∀ i, (Z i ∨ i = bb ∨ i = cb ∨ i = ob) → i < w.heap.size := by
  obtain ⟨tv, hx, -⟩ := h.box
  intro i hi
  rcases hi with hi | rfl | rfl | rfl
  · exact hZ i hi
  · exact (Array.getElem?_eq_some_iff.1 hx).1
  · exact h.can.lt
  · exact h.bgn.lt
theorem AM.beg {Z : Nat → Prop} {l : List Rc} {lv : Value} {bb cb ob : Nat} {M : Nat → Bool} {s : St} {w : World} (h : AM Z l lv bb cb ob M s w) (k : Nat) : AM Z l lv bb cb ob M (s.beg k) (w.setCell ⟨ob, k, none⟩ (.bool true)) := by
  obtain ⟨tv, hx, hO⟩ := h.box
  refine ⟨⟨tv, (Below.heap_setCell _ _ _ _ h.n2).trans hx, hO.stay fun g hg => Below.heap_setCell _ _ _ _ (fun e => hO.2 g hg (.inr (.inr (.inr e))))⟩, h.can.of_block (Below.heap_setCell _ _ _ _ h.n3), (h.bgn.set k (.bool true)).congr fun i hi => ?_, h.z1, h.z3, h.n1, h.n2, h.n3⟩
  by_cases e : i = k
  · simp [e, St.beg]
  · simp [e, St.beg]
theorem AM.told {Z : Nat → Prop} {l : List Rc} {lv : Value} {bb cb ob : Nat} {M : Nat → Bool} {s : St} {w u : World} {g c k : Nat} (h : AM Z l lv bb cb ob M s w) (hC : CC l k) (hk : Kp (fun i => Z i ∨ i = bb ∨ i = cb ∨ i = ob) w u)
    (hO : OwnI (fun i => Z i ∨ i = bb ∨ i = cb ∨ i = ob) u (.slice (some ⟨g, 0, none⟩) ((s.td.map Int.ofNat).length + 1) c) (s.td.map Int.ofNat ++ [((k : Nat) : Int)])) :
    AM Z l lv bb cb ob M (s.tell (CC l) k) (u.setCell ⟨bb, 3, none⟩ (.slice (some ⟨g, 0, none⟩) ((s.td.map Int.ofNat).length + 1) c)) := by
  obtain ⟨tv, hx, -⟩ := h.box
  have hx' := (hk.block bb (.inr (.inl rfl))).trans hx
  have e : s.tell (CC l) k = ⟨s.bg, s.td ++ [k]⟩ := if_pos hC
  rw [e]
  refine ⟨⟨_, heap_set3A hx', ?_⟩, (h.can.of_block (hk.block cb (.inr (.inr (.inl rfl))))).of_block (Below.heap_setCell _ _ _ _ h.n1.symm), (h.bgn.of_block (hk.block ob (.inr (.inr (.inr rfl))))).of_block (Below.heap_setCell _ _ _ _ h.n2.symm), h.z1, h.z3, h.n1, h.n2, h.n3⟩
  have hO' := hO.stay (w' := u.setCell ⟨bb, 3, none⟩ (.slice (some ⟨g, 0, none⟩) ((s.td.map Int.ofNat).length + 1) c)) fun g' hg' => Below.heap_setCell _ _ _ _ (fun e => hO.2 g' hg' (.inr (.inl e)))
  rw [List.map_append]
  exact hO'

set_option maxHeartbeats 2000000 in
theorem ask36_any {lv : Value} {l : List Rc} {bb cb ob : Nat} {M : Nat → Bool} (hR : RIGHT l) (hM : ∀ k, k < l.length → (M k = true ↔ CC l k)) : ∀ (f : Nat) (Z : Nat → Prop) (s : St) (key : Nat) (w : World), key < l.length → (∀ i, Z i → i < w.heap.size) → RL Z w lv l → AM Z l lv bb cb ob M s w →
    s.td.length + left l s ≤ 100 → left l s ≤ f →
    Calls Try.prog 36 #[P1 bb, I (key : Nat)] w (Ret fun r w' => r = .tuple #[] ∧ ∃ s', Ask1 (CC l) (nd l) s key s' ∧ AM Z l lv bb cb ob M s' w' ∧ Kp Z w w' ∧ s'.td.length + left l s' ≤ s.td.length + left l s ∧ left l s' ≤ left l s) := by
  intro f
  induction f using Nat.strongRecOn with
  | ind f ih =>
    intro Z s key w hk hZ hl hB h100' hf
    have h100 := short100 hR
    have hpos : 0 < l.length := hR.good.1
    have hN := nd_lt hR
    have hv : ∃ b o cap, lv = .slice (some ⟨b, o, none⟩) l.length cap := by
      obtain ⟨p, cap, rfl, -, h2⟩ := hl
      obtain ⟨blk, off, nv, rfl, -⟩ := h2 0 _ (getD_some hpos r0)
      exact ⟨blk, off, cap, rfl⟩
    obtain ⟨b, o, cap, rfl⟩ := hv
    refine in36 fun a hA => ?_
    rw [e36]
    obtain ⟨tv, hx, hO⟩ := hB.box
    obtain ⟨c0, c1, c2, c3, -⟩ := boxA hx
    refine wp_seq (wp_then (p36_0 h100 hk c2 (hB.bgn.cell hk) hA) fun a0 w0 h => ?_)
    obtain ⟨h0, rfl⟩ := h
    cases hbk : s.bg key with
    | true =>
      refine wp_cond_true (h0.hd hbk) (wp_ret ?_)
      exact fin0 rfl h0 ⟨rfl, s, .inl ⟨hbk, rfl⟩, hB, Kp.refl _ _, Nat.le_refl _, Nat.le_refl _⟩
    | false =>
      refine wp_cond_false (h0.hf hbk) (wp_skip ?_)
      refine wp_then (p36_1 h100 hk c2 (hB.bgn.cell hk) (hB.bgn.frozen key) h0.tl) fun a1 w1 h => ?_
      obtain ⟨h1, rfl⟩ := h
      have hB1 := hB.beg key
      have k1 : Kp Z w0 (w0.setCell ⟨ob, key, none⟩ (.bool true)) := Kp.setCell (p := ⟨ob, key, none⟩) hB.z3 _
      generalize w0.setCell ⟨ob, key, none⟩ (.bool true) = W at hB1 k1
      have hlt := left_beg hk hbk
      have hnd20 := nd_len hR hk
      have hndl : (nd l key).length = (l.getD key r0).needs.length := by simp [nd]
      refine wp_seq (wp_then (p36_2 h1) fun a2 w2 h => ?_)
      obtain ⟨h2, rfl⟩ := h
      refine wp_while (t := 29) (fun c a u => ∃ t s1, t ≤ (l.getD key r0).needs.length ∧ c = (l.getD key r0).needs.length - t ∧ Fl 71 [(0, P1 bb), (1, I (key : Nat)), (4, I (t : Nat))] a ∧ Ak (CC l) (nd l) false (s.beg key) ((nd l key).take t) s1 ∧ (∀ j ∈ (nd l key).take t, CC l j) ∧ AM Z l (.slice (some ⟨b, o, none⟩) l.length cap) bb cb ob M s1 u ∧ Kp Z w0 u ∧ s1.td.length + left l s1 ≤ s.td.length + left l (s.beg key) ∧ left l s1 ≤ left l (s.beg key)) _
        ⟨0, s.beg key, Nat.zero_le _, rfl, h2, .nil _ _, fun j hj => by simp at hj, hB1, k1, Nat.le_refl _, Nat.le_refl _⟩ ?_
      clear h2 h1 h0 hA hB1 k1 hx hO c0 c1 c2 c3
      rintro c a3 u ⟨t, s1, ht, rfl, h3, hAk, hCt, hB1, k1, hs1, hl1⟩
      have hlu := hl.kp k1
      have hZu := k1.lt hZ
      obtain ⟨tv1, hx, hO⟩ := hB1.box
      obtain ⟨c0, c1, c2, c3, -⟩ := boxA hx
      obtain ⟨b', o', nv, e, -, -, hn, cn, -⟩ := hlu.at hk
      cases e
      have hn' := hn
      obtain ⟨q, nc, rfl, hqq, -⟩ := hn
      have hnn : (l.getD key r0).needs.length ≤ 20 := by omega
      refine ⟨_, p36_3 h100 c0 cn hk hnn h3, ?_⟩
      rintro a4 w4 ⟨h4, rfl⟩
      by_cases hlt' : t < (l.getD key r0).needs.length
      · refine .inr ⟨h4.hd (by simp only [decide_eq_true_eq]; exact hlt'), ?_⟩
        obtain ⟨nb, no, rfl, -, hcx⟩ := hn'.at hlt'
        obtain ⟨x, hxe, hxl, hxm, -⟩ := needs_ok hR hk hlt'
        rw [hxe] at hcx
        have hnx : (nd l key)[t]? = some x := by unfold nd; rw [List.getElem?_map, getD_some hlt' 0, hxe]; simp
        have htk : (nd l key).take (t + 1) = (nd l key).take t ++ [x] := by rw [List.take_add_one, hnx]; rfl
        refine wp_seq (wp_block ?_)
        refine wp_then (p36_5 h100 c0 cn hk hnn hlt' hcx h4.tl) fun a5 w5 h => ?_
        obtain ⟨h5, rfl⟩ := h
        refine wp_then (p36_6 (R := fun w' => ∃ s', Ask1 (CC l) (nd l) s1 x s' ∧ AM Z l (.slice (some ⟨b, o, none⟩) l.length cap) bb cb ob M s' w' ∧ Kp Z w5 w' ∧ s'.td.length + left l s' ≤ s1.td.length + left l s1 ∧ left l s' ≤ left l s1) (ih (left l s1) (by omega) Z s1 x w5 hxl hZu hlu hB1 (by omega) (Nat.le_refl _)) h5) fun a6 w6 h => ?_
        obtain ⟨h6, s2, hA2, hB2, k2, hs2, hl2⟩ := h
        obtain ⟨tv2, hx2, hO2⟩ := hB2.box
        obtain ⟨d0, d1, d2, d3, -⟩ := boxA hx2
        refine wp_then (p36_7 h100 hxl d1 (hB2.can.cell hxl) h6) fun a7 w7 h => ?_
        obtain ⟨h7, rfl⟩ := h
        cases hMx : M x with
        | false =>
          refine wp_cond_true (h7.hd (by simp [hMx])) (wp_ret ?_)
          have hCx : ¬ CC l x := fun h => by have := (hM x hxl).2 h; rw [hMx] at this; cases this
          have hCk : ¬ CC l key := fun h => hCx ((can_iff.1 h).2 x hxm)
          refine fin0 rfl h7 ⟨rfl, s2, .inr ⟨hbk, s2, ?_, (if_neg hCk).symm⟩, hB2, k1.trans k2, by omega, by omega⟩
          have e : nd l key = (nd l key).take t ++ x :: (nd l key).drop (t + 1) := by
            conv => lhs; rw [← List.take_append_drop (t + 1) (nd l key), htk]
            simp
          rw [e]
          exact hAk.stop hCt hA2 hCx
        | true =>
          refine wp_cond_false (h7.hf (by simp [hMx])) (wp_skip ?_)
          show Code.wp _ _ _ _ _
          refine wp_last (p36_4 (by omega) h7.tl) fun a8 w8 h => ?_
          obtain ⟨h8, rfl⟩ := h
          refine ⟨(l.getD key r0).needs.length - (t + 1), by omega, t + 1, s2, by omega, rfl, h8, ?_, fun j hj => ?_, hB2, k1.trans k2, by omega, by omega⟩
          · rw [htk]
            exact hAk.snoc (fun j hj => .inr (hCt j hj)) hA2
          · rw [htk] at hj
            rcases List.mem_append.1 hj with hj | hj
            · exact hCt j hj
            · simp at hj; subst hj; exact (hM _ hxl).1 hMx
      · refine .inl ⟨h4.hf (by simp only [decide_eq_false_iff_not]; exact hlt'), ?_⟩
        have hte : t = (nd l key).length := by omega
        have hall : (nd l key).take t = nd l key := by rw [hte, List.take_length]
        rw [hall] at hAk hCt
        show Code.wp _ _ _ _ _
        refine wp_then (p36_8 h100 hk c1 (hB1.can.cell hk) (h4.sub (by simp))) fun a5 w5 h => ?_
        obtain ⟨h5, rfl⟩ := h
        cases hMk : M key with
        | false =>
          refine wp_cond_false (h5.hf hMk) (wp_skip ?_)
          have hCk : ¬ CC l key := fun h => by have := (hM key hk).2 h; rw [hMk] at this; cases this
          exact fin0n rfl h5 ⟨rfl, s1, .inr ⟨hbk, s1, hAk, (if_neg hCk).symm⟩, hB1, k1, by omega, by omega⟩
        | true =>
          refine wp_cond_true (h5.hd hMk) ?_
          have hCk : CC l key := (hM key hk).1 hMk
          refine wp_last (p36_9 hO (hB1.lt hZu) (by rw [List.length_map]; omega) (.inr (.inl rfl)) hx h5.tl) fun a6 w6 h => ?_
          obtain ⟨g, c, u, h6, hO6, k6, rfl⟩ := h
          have e1 : (s1.tell (CC l) key).td.length = s1.td.length + 1 := by unfold St.tell; rw [if_pos hCk]; simp
          have e2 : left l (s1.tell (CC l) key) = left l s1 := by unfold left; rw [St.tell_bg]
          exact fin0n rfl h6 ⟨rfl, s1.tell (CC l) key, .inr ⟨hbk, s1, hAk, rfl⟩, hB1.told hCk k6 hO6, k1.trans ((k6.mono fun i hi => .inl hi).trans (Kp.setCell (p := ⟨bb, 3, none⟩) hB1.z1 _)), by omega, by omega⟩
end Go.Proofs.Ytgohfdgkihoilaa.Rcp
