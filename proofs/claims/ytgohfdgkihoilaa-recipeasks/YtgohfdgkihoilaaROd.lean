/- What the document's Order (21) does. -/
import Derived.Test.YtgohfdgkihoilaaROdP
set_option linter.unusedSimpArgs false
set_option linter.unusedVariables false
namespace Go.Proofs.Ytgohfdgkihoilaa.Rcp
open Go Go.RowKit Go.Deep Go.Maps

set_option maxHeartbeats 17592186044416 in
theorem refOrder_any {Z : Nat → Prop} {w : World} {x0 x1 : Value} {l : List Rc} {keys : List Int} (hl : RL Z w x0 l) (hks : IL Z w x1 keys) (hZ : ∀ i, Z i → i < w.heap.size) (h300 : keys.length ≤ 17592186044416) :
    Calls Try.prog 21 #[x0, x1] w (Ret fun r w' => (∃ td : List Nat, OwnI (fun i => i < w.heap.size) w' r (td.map Int.ofNat) ∧ OrderIs l keys td ∧ td.length ≤ 100) ∧ Kp (fun i => i < w.heap.size) w w') := by
  refine in21 fun a hA => ?_
  rw [e21]
  refine wp_then (p21_0 hA) fun a0 w0 h => ?_
  obtain ⟨h0, rfl⟩ := h
  refine wp_then (p21_1 (x1 := x1) hl hZ (h0.sub (by simp))) fun a1 w1 h => ?_
  obtain ⟨h1, k1⟩ := h
  refine wp_seq (wp_then (p21_2 h1) fun a2 w2 h => ?_)
  obtain ⟨h2, rfl⟩ := h
  by_cases hR : RIGHT l
  · have hr0 : rightS l = 0 := (rightS_iff l).2 hR
    refine wp_cond_false (h2.hf (by simp [hr0])) (wp_skip ?_)
    have h100 := short100 hR
    have hpos : 0 < l.length := hR.good.1
    have hv : ∃ b o cap, x0 = .slice (some ⟨b, o, none⟩) l.length cap := by
      obtain ⟨p, cap, rfl, -, h2⟩ := hl
      obtain ⟨blk, off, nv, rfl, -⟩ := h2 0 _ (getD_some hpos r0)
      exact ⟨blk, off, cap, rfl⟩
    obtain ⟨b, o, cap, rfl⟩ := hv
    obtain ⟨kp, kc, rfl, -, -⟩ := id hks
    have hl2 := hl.kp (k1.mono hZ)
    have hZ2 := (k1.mono hZ).lt hZ
    refine wp_then (p21_4 (R := fun cv w' => ∃ (cb : Nat) (M : Nat → Bool), cv = .slice (some ⟨cb, 0, none⟩) l.length l.length ∧ w2.heap.size ≤ cb ∧ w'.rowIs cb 4 l.length (fun k => .bool (M k)) ∧ (∀ k, k < l.length → (M k = true ↔ CC l k)) ∧ Kp (fun i => i < w2.heap.size) w2 w') ((fates35_any hl2 hZ2 hR).mono ?_) h2.tl) fun a3 w3 h => ?_
    · rintro e w3 ⟨_, rfl, ⟨cb, gb, M, rfl, h1, h2, h3, h4, h5⟩, hk⟩
      exact ⟨_, rfl, _, _, rfl, cb, M, rfl, h1, h3, h5, hk⟩
    obtain ⟨cv, h3, cb, M, rfl, hcb, hcan, hM, k3⟩ := h
    refine wp_then (p21_5 h100 h3) fun a4 w4 h => ?_
    obtain ⟨h4, rfl⟩ := h
    -- memory
    have hmade := World.rowIs_made w3 (.bool false) l.length 4
    have kA : Kp (fun i => i < w3.heap.size) w3 (w3.alloc (.cells (madeCells #[.bool false] l.length) 4)) := Kp.alloc (fun _ h => h) _
    have sA : (w3.alloc (.cells (madeCells #[.bool false] l.length) 4)).heap.size = w3.heap.size + 1 := by simp
    generalize w3.alloc (.cells (madeCells #[.bool false] l.length) 4) = V at hmade kA sA
    have hbox := heap_alloc_new V (.cells #[.slice (some ⟨b, o, none⟩) l.length cap, .slice (some ⟨cb, 0, none⟩) l.length l.length, .slice (some ⟨w3.heap.size, 0, none⟩) l.length l.length, .slice none 0 0] 67)
    have kB : Kp (fun i => i < V.heap.size) V (V.alloc (.cells #[.slice (some ⟨b, o, none⟩) l.length cap, .slice (some ⟨cb, 0, none⟩) l.length l.length, .slice (some ⟨w3.heap.size, 0, none⟩) l.length l.length, .slice none 0 0] 67)) := Kp.alloc (fun _ h => h) _
    generalize V.alloc (.cells #[.slice (some ⟨b, o, none⟩) l.length cap, .slice (some ⟨cb, 0, none⟩) l.length l.length, .slice (some ⟨w3.heap.size, 0, none⟩) l.length l.length, .slice none 0 0] 67) = W at hbox kB
    rw [sA] at hbox
    have kAB : Kp (fun i => i < w3.heap.size) w3 W := kA.trans (kB.mono fun i hi => by omega)
    have hcb3 : cb < w3.heap.size := hcan.lt
    have k2W : Kp (fun i => i < w2.heap.size) w2 W := k3.after kAB
    have hB : AM (fun i => i < w2.heap.size) l (.slice (some ⟨b, o, none⟩) l.length cap) (w3.heap.size + 1) cb w3.heap.size M s0 W :=
      ⟨⟨_, hbox, OwnI.nil _ _⟩, hcan.of_block (kAB.block cb hcb3), (hmade.of_block (kB.block _ (by omega))).congr fun i hi => rfl, fun h => by have := k3.size; omega, fun h => by have := k3.size; omega, by omega, by omega, by omega⟩
    have k0W : Kp (fun i => i < w0.heap.size) w0 W := k1.after k2W
    have hlW : RL (fun i => i < w2.heap.size) W (.slice (some ⟨b, o, none⟩) l.length cap) l := ((hl.kp (k1.mono hZ)).mono fun i hi => Nat.lt_of_lt_of_le (hZ i hi) k1.size).kp k2W
    refine wp_seq (wp_then (p21_6 h4) fun a5 w5 h => ?_)
    obtain ⟨h5, rfl⟩ := h
    refine wp_while (t := 29) (fun c a u => ∃ t s, t ≤ keys.length ∧ c = keys.length - t ∧ Fl 56 [(0, .slice (some ⟨b, o, none⟩) l.length cap), (1, .slice kp keys.length kc), (8, P1 (w3.heap.size + 1)), (9, I (t : Nat))] a ∧ Ak (CC l) (nd l) true s0 (valid l (keys.take t)) s ∧ AM (fun i => i < w2.heap.size) l (.slice (some ⟨b, o, none⟩) l.length cap) (w3.heap.size + 1) cb w3.heap.size M s u ∧ Inv (CC l) s [] ∧ s.td.length + left l s ≤ 100 ∧ Kp (fun i => i < w2.heap.size) w2 u) _
      ⟨0, s0, Nat.zero_le _, rfl, h5, .nil _ _, hB, inv0 _, left0 hR, k2W⟩ ?_
    clear h5 h4 h3 h2 h1 h0 hA hB hbox hcan hmade hlW k0W k2W
    rintro c a6 u ⟨t, s, ht, rfl, h6, hAk, hB, hI, hs, ku⟩
    have k0u : Kp (fun i => i < w0.heap.size) w0 u := k1.after ku
    refine ⟨_, p21_7 h300 h6, ?_⟩
    rintro a7 w7 ⟨h7, rfl⟩
    by_cases hlt : t < keys.length
    · refine .inr ⟨h7.hd (by simp [hlt]), ?_⟩
      obtain ⟨kb, ko, rfl, -, hcx⟩ := (hks.kp (k0u.mono hZ)).at hlt
      have htk : keys.take (t + 1) = keys.take t ++ [keys.getD t 0] := by rw [List.take_add_one, getD_some hlt 0]; rfl
      generalize keys.getD t 0 = x at hcx htk
      refine wp_seq (wp_block ?_)
      have more : ∀ {a' : Act} {v' : World} {s' : St}, Fl 56 [(0, .slice (some ⟨b, o, none⟩) l.length cap), (1, .slice (some ⟨kb, ko, none⟩) keys.length kc), (8, P1 (w3.heap.size + 1)), (9, I (t : Nat))] a' → Ak (CC l) (nd l) true s0 (valid l (keys.take (t + 1))) s' → AM (fun i => i < w2.heap.size) l (.slice (some ⟨b, o, none⟩) l.length cap) (w3.heap.size + 1) cb w3.heap.size M s' v' → Inv (CC l) s' [] → s'.td.length + left l s' ≤ 100 → Kp (fun i => i < w2.heap.size) w2 v' →
          q21_8.wp Try.prog (fun e a'' w'' => e = .normal ∧ (∃ n', n' < keys.length - t ∧ ∃ t s, t ≤ keys.length ∧ n' = keys.length - t ∧ Fl 56 [(0, .slice (some ⟨b, o, none⟩) l.length cap), (1, .slice (some ⟨kb, ko, none⟩) keys.length kc), (8, P1 (w3.heap.size + 1)), (9, I (t : Nat))] a'' ∧ Ak (CC l) (nd l) true s0 (valid l (keys.take t)) s ∧ AM (fun i => i < w2.heap.size) l (.slice (some ⟨b, o, none⟩) l.length cap) (w3.heap.size + 1) cb w3.heap.size M s w'' ∧ Inv (CC l) s [] ∧ s.td.length + left l s ≤ 100 ∧ Kp (fun i => i < w2.heap.size) w2 w'')) a' v' := by
        intro a' v' s' hA' h1 h2 h3 h4 h5
        refine wp_last (p21_8 (by omega) hA') fun a6 w6 h => ?_
        obtain ⟨h6, rfl⟩ := h
        exact ⟨rfl, keys.length - (t + 1), by omega, t + 1, s', by omega, rfl, h6, h1, h2, h3, h4, h5⟩
      by_cases hx0 : 0 ≤ x
      · refine wp_then (p21_9_b h300 hlt hcx hx0 h7.tl) fun a8 w8 h => ?_
        obtain ⟨h8, rfl⟩ := h
        by_cases hxn : x < (l.length : Int)
        · refine wp_cond_true (h8.hd (by simp [hxn])) ?_
          obtain ⟨k, rfl⟩ := Int.eq_ofNat_of_zero_le hx0
          have hkn : k < l.length := by omega
          have hlu : RL (fun i => i < w2.heap.size) w8 (.slice (some ⟨b, o, none⟩) l.length cap) l := ((hl.kp (k1.mono hZ)).mono fun i hi => Nat.lt_of_lt_of_le (hZ i hi) k1.size).kp ku
          refine wp_last (p21_10 (R := fun w' => ∃ s', Ask1 (CC l) (nd l) s k s' ∧ AM (fun i => i < w2.heap.size) l (.slice (some ⟨b, o, none⟩) l.length cap) (w3.heap.size + 1) cb w3.heap.size M s' w' ∧ Kp (fun i => i < w2.heap.size) w8 w' ∧ s'.td.length + left l s' ≤ s.td.length + left l s ∧ left l s' ≤ left l s) h300 hlt hcx (ask36_any hR hM _ _ s k w8 hkn (fun i hi => Nat.lt_of_lt_of_le hi ku.size) hlu hB hs (Nat.le_refl _)) h8.tl) fun a9 w9 h => ?_
          obtain ⟨h9, s', hA9, hB9, k9, hs9, -⟩ := h
          have e : valid l [(k : Int)] = [k] := by simp only [valid]; rw [if_pos ⟨hx0, hxn⟩]; simp
          show Code.wp _ _ _ _ _
          refine wp_mono (more h9 (by rw [htk, valid_app, e]; exact hAk.snoc (fun _ _ => .inl rfl) hA9) hB9 (hA9.told (S := []) (fun i hi => can_noring hi) (fun a ha => by cases ha) hI).1 (by omega) (ku.trans k9)) fun e a w h => ?_
          obtain ⟨rfl, h⟩ := h
          exact h
        · refine wp_cond_false (h8.hf (by simp; omega)) (wp_skip ?_)
          show Code.wp _ _ _ _ _
          have e : valid l (keys.take (t + 1)) = valid l (keys.take t) := by
            rw [htk, valid_app]
            simp [valid, hxn]
          refine wp_mono (more h8.tl (by rw [e]; exact hAk) hB hI hs ku) fun e a w h => ?_
          obtain ⟨rfl, h⟩ := h
          exact h
      · refine wp_then (p21_9_a h300 hlt hcx (decide_eq_false hx0) h7.tl) fun a8 w8 h => ?_
        obtain ⟨h8, rfl⟩ := h
        refine wp_cond_false (h8.hf rfl) (wp_skip ?_)
        show Code.wp _ _ _ _ _
        have e : valid l (keys.take (t + 1)) = valid l (keys.take t) := by
          rw [htk, valid_app]
          simp [valid, hx0]
        refine wp_mono (more h8.tl (by rw [e]; exact hAk) hB hI hs ku) fun e a w h => ?_
        obtain ⟨rfl, h⟩ := h
        exact h
    · refine .inl ⟨h7.hf (by simp [hlt]), ?_⟩
      have hte : t = keys.length := by omega
      subst hte
      rw [List.take_length] at hAk
      obtain ⟨tv, hx, hO⟩ := hB.box
      obtain ⟨c0, c1, c2, c3, -⟩ := boxA hx
      show Code.wp _ _ _ _ _
      refine wp_then (p21_11 (bb := w3.heap.size + 1) c3 (h7.sub (by simp))) fun a8 w8 h => ?_
      obtain ⟨h8, rfl⟩ := h
      exact wp_ret (fin1 rfl h8 _ (.head _) ⟨⟨s.td, hO.mono fun i hi => .inl (Nat.lt_of_lt_of_le hi k1.size), ⟨fun h => absurd hR h, fun _ => ⟨s, hAk, rfl, hI⟩⟩, by omega⟩, k0u⟩)
  · have hne : (rightS l != 0) = true := by
      simp; exact fun h => hR ((rightS_iff l).1 h)
    refine wp_cond_true (h2.hd hne) ?_
    refine wp_then (p21_3 h2.tl) fun a3 w3 h => ?_
    obtain ⟨h3, rfl⟩ := h
    exact wp_ret (fin1 rfl h3 _ (.head _) ⟨⟨[], OwnI.nil _ _, ⟨fun _ => rfl, fun h => absurd h hR⟩, by simp⟩, k1⟩)
end Go.Proofs.Ytgohfdgkihoilaa.Rcp
