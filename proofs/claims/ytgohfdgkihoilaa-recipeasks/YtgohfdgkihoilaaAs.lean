/- The law RecipeAsks (4) answers true. -/
import Derived.Test.YtgohfdgkihoilaaAsP
set_option linter.unusedSimpArgs false
set_option linter.unusedVariables false
namespace Go.Proofs.Ytgohfdgkihoilaa.Rcp
open Go Go.RowKit Go.Deep Go.Maps

theorem OrderIs.det {l : List Rc} {keys : List Int} {td td' : List Nat} (h : OrderIs l keys td) (h' : OrderIs l keys td') : td = td' := by
  by_cases hR : RIGHT l
  · obtain ⟨s1, e1, e2, -⟩ := h.2 hR
    obtain ⟨s2, f1, f2, -⟩ := h'.2 hR
    rw [← e2, ← f2, e1.det f1]
  · rw [h.1 hR, h'.1 hR]
theorem rings_det {l : List Rc} {rs rs' : List Int} (h1 : ¬ RIGHT l → rs = []) (h2 : RIGHT l → rs = ringsTo l l.length) (h1' : ¬ RIGHT l → rs' = []) (h2' : RIGHT l → rs' = ringsTo l l.length) : rs = rs' := by
  by_cases hR : RIGHT l
  · rw [h2 hR, h2' hR]
  · rw [h1 hR, h1' hR]
theorem one_set {xs ys : List Value} {n : Nat} {a : Value} (h : ys.length = 1) (hn : xs.length = n) : ((xs ++ ys).toArray.setIfInBounds n a) = (xs ++ [a]).toArray := by
  subst hn
  match ys, h with
  | [x], _ =>
    apply Array.toList_inj.1
    simp [List.set_append]
def four {α : Type} (a b c d : α) : Nat → α
  | 0 => a
  | 1 => b
  | 2 => c
  | _ => d
/-- Ints that were built here, between two sizes of the heap. -/
def Bt (lo : Nat) (w : World) (v : Value) (xs : List Int) : Prop := OwnI (fun i => i < lo) w v xs
theorem Bt.kp {lo : Nat} {w w' : World} {v : Value} {xs : List Int} (h : Bt lo w v xs) (hk : Kp (fun i => i < w.heap.size) w w') : Bt lo w' v xs := OwnI.stay h fun g hg => hk.block g (OwnI.lt h g hg)
theorem Bt.il {lo : Nat} {w : World} {v : Value} {xs : List Int} (h : Bt lo w v xs) (hl : xs.length ≤ 100) : IL (fun i => v.ownBlock = some i) w v xs := OwnI.il h (by omega)
theorem bsame {lo lo' : Nat} {w : World} {v v' : Value} {xs : List Int} (h : Bt lo w v xs) (h' : Bt lo' w v' xs) (hl : xs.length ≤ 100) :
    Calls Try.prog 17 #[v, v'] w (Ret fun r w' => r = .bool true ∧ Kp (fun i => i < w.heap.size) w w') :=
  sameInts_any (h.il hl) (h'.il hl) (OwnI.lt h) (OwnI.lt h') (by omega)

set_option maxHeartbeats 17592186044416 in
theorem asks_any {Z : Nat → Prop} {w : World} {x0 x2 : Value} {l : List Rc} {key : Int} {keys : List Int} (hl : RL Z w x0 l) (hks : IL Z w x2 keys) (hZ : ∀ i, Z i → i < w.heap.size) (hwf : wfI key) (hwk : ∀ x ∈ keys, wfI x)
    (hn : l.length ≤ 2600000000000) (hm : ∀ r ∈ l, r.needs.length ≤ 17592186044416) (hkn : keys.length ≤ 17592186044416) :
    Calls Try.prog 4 #[x0, I key, x2] w (Ret fun r w' => r = Bl true ∧ Kp (fun i => i < w.heap.size) w w') := by
  obtain ⟨kp, kc, rfl, -, -⟩ := id hks
  refine in4 fun a hA => ?_
  rw [e4]
  refine wp_then (p4_0 (c := 0) hA) fun a0 w0 h => ?_
  obtain ⟨h0, rfl⟩ := h
  refine wp_then (p4_1 (c := 0) h0) fun a1 w1 h => ?_
  obtain ⟨h1, k1⟩ := h
  have hl1 := hl.kp (k1.mono hZ)
  have hZ1 := (k1.mono hZ).lt hZ
  refine wp_then (p4_2 (c := 0) (lent_any hl1 hZ1 hn hm) h1) fun a2 w2 h => ?_
  obtain ⟨x8, h2, rfl, hL2, h73, k2⟩ := h
  generalize hgr : w1.heap.size = gr at hL2 h73 k2 h2
  refine wp_then (p4_3 (c := 0) hkn h2) fun a3 w3 h => ?_
  obtain ⟨h3, rfl⟩ := h
  have m3 := heap_alloc_new w2 (.cells (madeCells #[I 0] (keys.length + 1)) 3)
  have k3 : Kp (fun j => j < w2.heap.size) w2 (w2.alloc (.cells (madeCells #[I 0] (keys.length + 1)) 3)) := Kp.alloc (fun _ h => h) _
  generalize w2.alloc (.cells (madeCells #[I 0] (keys.length + 1)) 3) = w3 at m3 k3
  generalize hc : w2.heap.size = c at m3 k3 h3
  have hgc : gr < c := by rw [← hc]; exact hL2.bk.lt
  have k03 : Kp (fun j => j < w0.heap.size) w0 w3 := by
    refine k1.trans ((k2.mono fun j hj => ?_).trans (k3.mono fun j hj => ?_))
    · have := k1.size; omega
    · have := k1.size; omega
  have hk3 := hks.kp (k03.mono hZ)
  obtain ⟨w4, e4', m4, k4, s4⟩ := run_copyN (P := Try.prog) w3 26 26 3 3 1 c (keys.length + 1) (keys.length + 1) kp keys.length kc _ 3 (keys.map I) Try.underlying26 size3' m3 (by rw [List.length_map, Nat.mul_one]; exact (Nat.min_eq_left (by omega)).symm) (by decide)
    (fun hpos => by
      have h0 : 0 < keys.length := by simpa using hpos
      obtain ⟨_, _, e, -, hcx⟩ := id hk3
      cases e
      obtain ⟨nb, no, e, -, -⟩ := hcx 0 _ (getD_some h0 0)
      refine ⟨_, e, fun j v hj => ?_⟩
      rw [List.getElem?_map] at hj
      obtain ⟨x, hx, rfl⟩ := Option.map_eq_some_iff.1 hj
      obtain ⟨nb', no', e', -, hc'⟩ := hcx j x hx
      rw [e] at e'
      cases e'
      rw [Addr.add_mid]
      exact hc')
    (by rw [size_madeCells, List.length_map]; omega)
    (fun v hv => by obtain ⟨x, _, rfl⟩ := List.mem_map.1 hv; rfl)
  rw [show Nat.min keys.length (keys.length + 1) = keys.length from Nat.min_eq_left (by omega)] at e4'
  have k4' : Kp (fun j => j < c) w3 w4 := Kp.ofBelow k4
  refine wp_then (p4_4 hkn e4' h3) fun a4 w4' h => ?_
  obtain ⟨h4, rfl⟩ := h
  have b4 : Bk w4' c 3 (keys.length + 1) := ⟨_, m4, by simp [size_madeCells]⟩
  obtain ⟨u5, g5⟩ := b4.some (j := keys.length) (by omega)
  refine wp_then (p4_5 hkn g5 (b4.frozen _) h4) fun a5 w5 h => ?_
  obtain ⟨h5, rfl⟩ := h
  have m5 : (w4'.setCell ⟨c, keys.length, none⟩ (I (-99))).heap[c]? = some (.cells (keys.map I ++ [I (-99)]).toArray 3 (0, 0)) := by
    rw [setCell_eq_setRow w4' c keys.length _ 3 (0, 0) _ m4, setRow_heap w4' c _ _ 3 _ m4]
    have hlen : ((madeCells #[I 0] (keys.length + 1)).toList.drop (keys.map I).length).length = 1 := by rw [List.length_drop, Array.length_toList, size_madeCells, List.length_map]; omega
    rw [one_set (xs := keys.map I) hlen (by simp)]
  have k5 : Kp (fun j => j < c) w4' (w4'.setCell ⟨c, keys.length, none⟩ (I (-99))) := Kp.setCell (p := ⟨c, keys.length, none⟩) (by show ¬ c < c; omega) _
  generalize w4'.setCell ⟨c, keys.length, none⟩ (I (-99)) = w5 at m5 k5
  have k25 : Kp (fun j => j < c) w2 w5 := k3.trans (k4'.trans k5)
  have hc5 : c < w5.heap.size := (Array.getElem?_eq_some_iff.1 m5).1
  have hL5 : LM gr l l.length w5 := hL2.stay (k25.mono fun j hj => hc ▸ hj.2)
  have h735 : w5.cell? ⟨gr, l.length * 5 + 2, none⟩ = some (I (-73)) := k25.cell (p := ⟨gr, l.length * 5 + 2, none⟩) hgc h73
  have k05 : Kp (fun j => j < w0.heap.size) w0 w5 := k1.trans ((k2.mono fun j hj => by have := k1.size; omega).trans (k25.mono fun j hj => by have := k1.size; omega))
  -- what stands in memory, in every world behind it
  have rl : ∀ {u : World}, Kp (fun i => i < w5.heap.size) w5 u → RL (fun i => gr ≤ i ∧ i < w5.heap.size) u (.slice (some ⟨gr, 0, none⟩) l.length (l.length + 1)) l := fun hk => (hL5.rl hn hm).kp (hk.mono fun j hj => hj.2)
  have zl : ∀ {u : World}, Kp (fun i => i < w5.heap.size) w5 u → ∀ i, (gr ≤ i ∧ i < w5.heap.size) → i < u.heap.size := fun hk i hi => Nat.lt_of_lt_of_le hi.2 hk.size
  have il : ∀ {u : World}, Kp (fun i => i < w5.heap.size) w5 u → IL (fun i => gr ≤ i ∧ i < w5.heap.size) u (.slice (some ⟨c, 0, none⟩) keys.length (keys.length + 1)) keys := fun hk => (IL.mono (fun i (hi : i = c) => by subst hi; exact ⟨Nat.le_of_lt hgc, hc5⟩) (marked_il (cap := keys.length + 1) hkn m5)).kp (hk.mono fun j hj => hj.2)
  refine wp_then (p4_6 (right_any (rl (Kp.refl _ _)) (zl (Kp.refl _ _))) h5) fun a6 w6 h => ?_
  obtain ⟨x10, h6, rfl, k6⟩ := h
  refine wp_then (p4_7 (rings_any (rl k6) (zl k6)) h6) fun a7 w7 h => ?_
  obtain ⟨x11, h7, rs, o7, l7, n7, r7, k7⟩ := h
  have k57 := k6.after k7
  refine wp_then (p4_8 (R := fun r r' w' => ∃ b, r = .bool b ∧ r' = I (fateV l key) ∧ (b = true ↔ FateB l key) ∧ Kp (fun i => i < w7.heap.size) w7 w') ((fate_any (rl k57) (zl k57) hwf).mono ?_) h7) fun a8 w8 h => ?_
  · rintro e u ⟨_, rfl, ⟨b, rfl, hb⟩, hk⟩
    exact ⟨_, rfl, _, _, rfl, b, rfl, rfl, hb, hk⟩
  obtain ⟨_, _, h8, b8, rfl, rfl, hb8, k8⟩ := h
  have k58 := k57.after k8
  refine wp_then (p4_9 hkn (order_any (rl k58) (il k58) (zl k58) hwk) h8) fun a9 w9 h => ?_
  obtain ⟨x14, h9, ⟨td, o9, t9, l9⟩, k9⟩ := h
  have k59 := k58.after k9
  refine wp_then (p4_10 (rings_any (rl k59) (zl k59)) h9) fun a10 w10 h => ?_
  obtain ⟨x15, h10, rs2, o10, l10, n10, r10, k10⟩ := h
  have k510 := k59.after k10
  refine wp_then (p4_11 hkn (order_any (rl k510) (il k510) (zl k510) hwk) h10) fun a11 w11 h => ?_
  obtain ⟨x16, h11, ⟨td2, o11, t11, l11⟩, k11⟩ := h
  have k511 := k510.after k11
  have k011 := k05.trans (k511.mono fun j hj => Nat.lt_of_lt_of_le hj k05.size)
  have hL11 := hL5.stay (k511.mono fun j hj => hj.2)
  have h7311 := k511.cell (p := ⟨gr, l.length * 5 + 2, none⟩) (by show gr < w5.heap.size; omega) h735
  refine wp_then (p4_12 (kept_any hL11 h7311 (hl.kp (k011.mono hZ)) ((k011.mono hZ).lt hZ) hn hm) h11) fun a12 w12 h => ?_
  obtain ⟨_, h12, rfl, k12⟩ := h
  have k512 := k511.after k12
  -- Spoil
  have hS12 : SM c gr l w12 := (by have := hL2.sm; rw [hc] at this; exact this : SM c gr l w2).stay ((k25.mono fun j hj => hj.2).trans (k512.mono fun j hj => by omega))
  refine wp_then (p4_13 (spoil_any hS12 hn hm) h12) fun a13 w13 h => ?_
  obtain ⟨h13, k13⟩ := h
  have g0 : w0.heap.size ≤ gr := by have := k1.size; omega
  have k013 : Kp (fun j => j < w0.heap.size) w0 w13 := (k05.trans (k512.mono fun j hj => Nat.lt_of_lt_of_le hj k05.size)).trans (k13.mono fun j hj => .inl (by omega))
  -- what was answered
  have s5 : c ≤ w6.heap.size := by have := k6.size; omega
  have B11 : Bt w6.heap.size w13 x11 rs := OwnI.stay ((((Bt.kp (show Bt _ _ _ _ from o7) k8).kp k9).kp k10).kp k11 |>.kp k12) fun g hg => k13.block g (.inr (Nat.le_trans s5 (Nat.le_of_not_lt fun h => o7.2 g hg h)))
  have B14 : Bt w8.heap.size w13 x14 (td.map Int.ofNat) := OwnI.stay (((Bt.kp (show Bt _ _ _ _ from o9) k10).kp k11).kp k12) fun g hg => k13.block g (.inr (Nat.le_trans s5 (Nat.le_trans (Nat.le_trans k7.size k8.size) (Nat.le_of_not_lt fun h => o9.2 g hg h))))
  have B15 : Bt w9.heap.size w13 x15 rs2 := OwnI.stay ((Bt.kp (show Bt _ _ _ _ from o10) k11).kp k12) fun g hg => k13.block g (.inr (Nat.le_trans s5 (Nat.le_trans (Nat.le_trans k7.size (Nat.le_trans k8.size k9.size)) (Nat.le_of_not_lt fun h => o10.2 g hg h))))
  have B16 : Bt w10.heap.size w13 x16 (td2.map Int.ofNat) := OwnI.stay (Bt.kp (show Bt _ _ _ _ from o11) k12) fun g hg => k13.block g (.inr (Nat.le_trans s5 (Nat.le_trans (Nat.le_trans k7.size (Nat.le_trans k8.size (Nat.le_trans k9.size k10.size))) (Nat.le_of_not_lt fun h => o11.2 g hg h))))
  have ub11 : ∀ g, x11.ownBlock = some g → g < w7.heap.size := OwnI.lt o7
  have ub14 : ∀ g, x14.ownBlock = some g → g < w9.heap.size := OwnI.lt o9
  have ub15 : ∀ g, x15.ownBlock = some g → g < w10.heap.size := OwnI.lt o10
  have m13 : w13.heap[c]? = some (.cells (keys.map I ++ [I (-99)]).toArray 3 (0, 0)) := (k13.block c (.inr (Nat.le_refl _))).trans ((k512.block c hc5).trans m5)
  have hc13 : c < w13.heap.size := (Array.getElem?_eq_some_iff.1 m13).1
  refine wp_then (p4_14 hkn (sameInts_any (marked_il (cap := keys.length + 1) hkn m13) (hks.kp (k013.mono hZ)) (fun i hi => by subst hi; exact hc13) ((k013.mono hZ).lt hZ) (by omega)) h13) fun a14 w14 h => ?_
  obtain ⟨_, h14, rfl, k14⟩ := h
  have k014 := k013.after k14
  refine wp_then (p4_15 (refRight_any (hl.kp (k014.mono hZ)) ((k014.mono hZ).lt hZ)) h14) fun a15 w15 h => ?_
  obtain ⟨_, h15, rfl, k15⟩ := h
  have k015 := k014.after k15
  refine wp_then (p4_16 (refRings_any (hl.kp (k015.mono hZ)) ((k015.mono hZ).lt hZ)) h15) fun a16 w16 h => ?_
  obtain ⟨x20, h16, rs3, o16, l16, n16, r16, k16⟩ := h
  have k016 := k015.after k16
  refine wp_then (p4_17 (R := fun r r' w' => ∃ b, r = .bool b ∧ r' = I (fateV l key) ∧ (b = true ↔ FateB l key) ∧ Kp (fun i => i < w16.heap.size) w16 w') ((refFate_any (hl.kp (k016.mono hZ)) ((k016.mono hZ).lt hZ)).mono ?_) h16) fun a17 w17 h => ?_
  · rintro e u ⟨_, rfl, ⟨b, rfl, hb⟩, hk⟩
    exact ⟨_, rfl, _, _, rfl, b, rfl, rfl, hb, hk⟩
  obtain ⟨_, _, h17, b17, rfl, rfl, hb17, k17⟩ := h
  have hbb : b17 = b8 := Bool.eq_iff_iff.2 (hb17.trans hb8.symm)
  subst hbb
  have k017 := k016.after k17
  refine wp_then (p4_18 (refOrder_any (hl.kp (k017.mono hZ)) (hks.kp (k017.mono hZ)) ((k017.mono hZ).lt hZ) hkn) h17) fun a18 w18 h => ?_
  obtain ⟨x23, h18, ⟨td3, o18, t18, l18⟩, k18⟩ := h
  have k018 := k017.after k18
  have k1318 : Kp (fun j => j < w13.heap.size) w13 w18 := (((k14.after k15).after k16).after k17).after k18
  rw [rings_det n7 r7 n16 r16] at B11
  rw [rings_det n10 r10 n16 r16] at B15
  rw [t9.det t18] at B14
  rw [t11.det t18] at B16
  have C11 := B11.kp k1318
  have C14 := B14.kp k1318
  have C15 := B15.kp k1318
  have C16 := B16.kp k1318
  have C20 := (Bt.kp (show Bt _ _ _ _ from o16) k17).kp k18
  have C23 : Bt _ _ _ _ := o18
  have hl100 : (List.map Int.ofNat td3).length ≤ 100 := by rw [List.length_map]; exact l18
  refine wp_then (p4_19 (bsame C11 C20 l16) h18) fun a19 w19 h => ?_
  obtain ⟨_, h19, rfl, k19⟩ := h
  refine wp_then (p4_20 (bsame (C14.kp k19) (C23.kp k19) hl100) h19) fun a20 w20 h => ?_
  obtain ⟨_, h20, rfl, k20⟩ := h
  have k1820 := k19.after k20
  refine wp_then (p4_21 (bsame (C15.kp k1820) (C20.kp k1820) l16) h20) fun a21 w21 h => ?_
  obtain ⟨_, h21, rfl, k21⟩ := h
  have k1821 := k1820.after k21
  refine wp_then (p4_22 (bsame (C16.kp k1821) (C23.kp k1821) hl100) h21) fun a22 w22 h => ?_
  obtain ⟨_, h22, rfl, k22⟩ := h
  have k1822 := k1821.after k22
  have k1322 := k1318.after k1822
  have k022 := k018.after k1822
  have m22 := (k1322.block c hc13).trans m13
  have e22' : w22.cell? ⟨c, keys.length, none⟩ = some (I (-99)) := by simp [World.cell?, m22]
  have all : q4_23.wp Try.prog (fun e a' w' => e = .normal ∧ (Fl 188 [(155, .bool false), (0, x0), (11, x11), (14, x14), (15, x15), (16, x16)] a' ∧ w' = w22)) a22 w22 := by
    cases b17 with
    | true => exact p4_23_true (kp := kp) (kn := keys.length) (kc := kc) (c := c) (key := key) (x0 := x0) (x11 := x11) (x14 := x14) (x15 := x15) (x16 := x16) (rs := rightS l) (fv := fateV l key) hkn e22' (h22.sub (by simp))
    | false => exact p4_23_false (kp := kp) (kn := keys.length) (kc := kc) (c := c) (key := key) (x0 := x0) (x11 := x11) (x14 := x14) (x15 := x15) (x16 := x16) (rs := rightS l) (fv := fateV l key) hkn e22' (h22.sub (by simp))
  refine wp_seq (wp_then all fun a23 w23 h => ?_)
  obtain ⟨h23, rfl⟩ := h
  refine wp_cond_false (h23.hf rfl) (wp_skip ?_)
  obtain ⟨p, cap, rfl, -, -⟩ := id hl
  refine wp_seq (wp_then (p4_25 h23.tl) fun a25 w25 h => ?_)
  obtain ⟨h25, rfl⟩ := h
  have D11 := C11.kp k1822
  have D14 := C14.kp k1822
  have D15 := C15.kp k1822
  have D16 := C16.kp k1822
  have hs22 : w11.heap.size ≤ w25.heap.size := Nat.le_trans k12.size (Nat.le_trans k13.size k1322.size)
  clear all h23 h22 h21 h20 h19 h18 h17 h16 h15 h14 h13 h12 h11 h10 h9 h8 h7 h6 h5 h4 h3 h2 h1 h0 hA
  refine wp_while (t := 159) (fun c' a u => ∃ i, i ≤ l.length ∧ c' = l.length - i ∧ Fl 188 [(0, .slice p l.length cap), (11, x11), (14, x14), (15, x15), (16, x16), (28, I (i : Nat))] a ∧ Kp (fun j => j < w25.heap.size) w25 u) _
    ⟨0, Nat.zero_le _, rfl, h25, Kp.refl _ _⟩ ?_
  clear h25
  rintro c' a26 u ⟨i, hi, rfl, h26, ku⟩
  have k0u := k022.after ku
  refine ⟨_, p4_26 hn h26, ?_⟩
  rintro a27 w27 ⟨h27, rfl⟩
  by_cases hlt : i < l.length
  · refine .inr ⟨h27.hd (by simp [hlt]), ?_⟩
    refine wp_seq (wp_block ?_)
    have hwi : wfI ((i : Nat) : Int) := ⟨by omega, by omega⟩
    refine wp_then (p4_28 (R := fun r r' w' => ∃ b, r = .bool b ∧ r' = I (fateV l (i : Nat)) ∧ (b = true ↔ FateB l (i : Nat)) ∧ Kp (fun j => j < w27.heap.size) w27 w') ((fate_any (hl.kp (k0u.mono hZ)) ((k0u.mono hZ).lt hZ) hwi).mono ?_) h27.tl) fun a28 w28 h => ?_
    · rintro e u ⟨_, rfl, ⟨b, rfl, hb⟩, hk⟩
      exact ⟨_, rfl, _, _, rfl, b, rfl, rfl, hb, hk⟩
    obtain ⟨_, _, h28, b28, rfl, rfl, hb28, k28⟩ := h
    have k028 := k0u.after k28
    refine wp_then (p4_29 (R := fun r r' w' => ∃ b, r = .bool b ∧ r' = I (fateV l (i : Nat)) ∧ (b = true ↔ FateB l (i : Nat)) ∧ Kp (fun j => j < w28.heap.size) w28 w') ((refFate_any (hl.kp (k028.mono hZ)) ((k028.mono hZ).lt hZ)).mono ?_) h28) fun a29 w29 h => ?_
    · rintro e u ⟨_, rfl, ⟨b, rfl, hb⟩, hk⟩
      exact ⟨_, rfl, _, _, rfl, b, rfl, rfl, hb, hk⟩
    obtain ⟨_, _, h29, b29, rfl, rfl, hb29, k29⟩ := h
    have hbb : b29 = b28 := Bool.eq_iff_iff.2 (hb29.trans hb28.symm)
    subst hbb
    have eq : q4_30.wp Try.prog (fun e a' w' => e = .normal ∧ (Fl 188 [(181, .bool false), (0, .slice p l.length cap), (11, x11), (14, x14), (15, x15), (16, x16), (28, I (i : Nat))] a' ∧ w' = w29)) a29 w29 := by
      cases b29 with
      | true => exact p4_30_true h29
      | false => exact p4_30_false h29
    refine wp_then eq fun a30 w30 h => ?_
    obtain ⟨h30, rfl⟩ := h
    refine wp_cond_false (h30.hf rfl) (wp_skip ?_)
    show Code.wp _ _ _ _ _
    refine wp_last (p4_27 (by omega) h30.tl) fun a31 w31 h => ?_
    obtain ⟨h31, rfl⟩ := h
    exact ⟨l.length - (i + 1), by omega, i + 1, by omega, rfl, h31, (ku.after k28).after k29⟩
  · refine .inl ⟨h27.hf (by simp [hlt]), ?_⟩
    show Code.wp _ _ _ _ _
    have E11 := D11.kp ku
    have E14 := D14.kp ku
    have E15 := D15.kp ku
    have E16 := D16.kp ku
    obtain ⟨q0, c0, rfl, -⟩ := OwnI.shape E11
    obtain ⟨q1, c1, rfl, -⟩ := OwnI.shape E14
    obtain ⟨q2, c2, rfl, -⟩ := OwnI.shape E15
    obtain ⟨q3, c3, rfl, -⟩ := OwnI.shape E16
    have F : FM w27.heap.size 4 (four (.slice q0 rs3.length c0) (.slice q1 (td3.map Int.ofNat).length c1) (.slice q2 rs3.length c2) (.slice q3 (td3.map Int.ofNat).length c3)) (four rs3 (td3.map Int.ofNat) rs3 (td3.map Int.ofNat)) (w27.alloc (.cells #[.slice q0 rs3.length c0, .slice q1 (td3.map Int.ofNat).length c1, .slice q2 rs3.length c2, .slice q3 (td3.map Int.ofNat).length c3] 26)) := by
      have kA : Kp (fun j => j < w27.heap.size) w27 (w27.alloc (.cells #[.slice q0 rs3.length c0, .slice q1 (td3.map Int.ofNat).length c1, .slice q2 rs3.length c2, .slice q3 (td3.map Int.ofNat).length c3] 26)) := Kp.alloc (fun _ h => h) _
      have z1 := k7.size
      have z2 := k8.size
      have z3 := k9.size
      have z4 := k10.size
      have z5 := ku.size
      have z6 := k11.size
      have a0 : ∀ g, (Value.slice q0 rs3.length c0).ownBlock = some g → w6.heap.size ≤ g ∧ g < w7.heap.size := fun g hg => ⟨Nat.le_of_not_lt fun h => E11.2 g hg h, ub11 g hg⟩
      have a1 : ∀ g, (Value.slice q1 (td3.map Int.ofNat).length c1).ownBlock = some g → w8.heap.size ≤ g ∧ g < w9.heap.size := fun g hg => ⟨Nat.le_of_not_lt fun h => E14.2 g hg h, ub14 g hg⟩
      have a2 : ∀ g, (Value.slice q2 rs3.length c2).ownBlock = some g → w9.heap.size ≤ g ∧ g < w10.heap.size := fun g hg => ⟨Nat.le_of_not_lt fun h => E15.2 g hg h, ub15 g hg⟩
      have a3 : ∀ g, (Value.slice q3 (td3.map Int.ofNat).length c3).ownBlock = some g → w10.heap.size ≤ g ∧ g < w27.heap.size := fun g hg => ⟨Nat.le_of_not_lt fun h => E16.2 g hg h, OwnI.lt E16 g hg⟩
      have c4 : ∀ {j : Nat}, j < 4 → j = 0 ∨ j = 1 ∨ j = 2 ∨ j = 3 := fun h => by omega
      have b0 := Bt.kp E11 kA
      have b1 := Bt.kp E14 kA
      have b2 := Bt.kp E15 kA
      have b3 := Bt.kp E16 kA
      refine ⟨fun j hj => ?_, fun j hj => ?_, fun j hj => ?_, by simp⟩
      · rcases c4 hj with rfl | rfl | rfl | rfl <;> exact (World.cell?_alloc_at _ _ _ _ rfl).trans rfl
      · rcases c4 hj with rfl | rfl | rfl | rfl
        · refine ⟨b0.1, fun g hg hz => ?_⟩
          have y := a0 g hg
          rcases hz with hz | ⟨j, hj, hne, hz⟩
          · omega
          · rcases c4 hj with rfl | rfl | rfl | rfl
            · exact hne rfl
            · have := a1 g hz; omega
            · have := a2 g hz; omega
            · have := a3 g hz; omega
        · refine ⟨b1.1, fun g hg hz => ?_⟩
          have y := a1 g hg
          rcases hz with hz | ⟨j, hj, hne, hz⟩
          · omega
          · rcases c4 hj with rfl | rfl | rfl | rfl
            · have := a0 g hz; omega
            · exact hne rfl
            · have := a2 g hz; omega
            · have := a3 g hz; omega
        · refine ⟨b2.1, fun g hg hz => ?_⟩
          have y := a2 g hg
          rcases hz with hz | ⟨j, hj, hne, hz⟩
          · omega
          · rcases c4 hj with rfl | rfl | rfl | rfl
            · have := a0 g hz; omega
            · have := a1 g hz; omega
            · exact hne rfl
            · have := a3 g hz; omega
        · refine ⟨b3.1, fun g hg hz => ?_⟩
          have y := a3 g hg
          rcases hz with hz | ⟨j, hj, hne, hz⟩
          · omega
          · rcases c4 hj with rfl | rfl | rfl | rfl
            · have := a0 g hz; omega
            · have := a1 g hz; omega
            · have := a2 g hz; omega
            · exact hne rfl
      · have e1 : rs3.length ≤ 2000 := by omega
        have e2 : (List.map Int.ofNat td3).length ≤ 2000 := by omega
        rcases c4 hj with rfl | rfl | rfl | rfl
        · exact e1
        · exact e2
        · exact e1
        · exact e2
    refine wp_then (p4_32 (q0 := q0) (q1 := q1) (q2 := q2) (q3 := q3) (c0 := c0) (c1 := c1) (c2 := c2) (c3 := c3) (l0 := rs3.length) (l1 := (td3.map Int.ofNat).length) (l2 := rs3.length) (l3 := (td3.map Int.ofNat).length) (owned_any (by omega) F) (h27.sub (by simp))) fun a32 w32 h => ?_
    obtain ⟨h32, k32⟩ := h
    refine wp_ret (fin1 rfl h32 _ (.head _) ⟨rfl, k0u.trans ((Kp.alloc (fun i hi => ?_) _).trans (k32.mono fun i hi => ⟨?_, fun j hj e => ?_⟩))⟩)
    · exact Nat.lt_of_lt_of_le hi k0u.size
    · exact Nat.lt_of_lt_of_le hi (Nat.le_trans k0u.size (by simp))
    · have z1 := k7.size
      have z2 := k8.size
      have z3 := k9.size
      have z4 := k10.size
      have hh : j = 0 ∨ j = 1 ∨ j = 2 ∨ j = 3 := by omega
      rcases hh with rfl | rfl | rfl | rfl
      · exact E11.2 i e (by show i < w6.heap.size; omega)
      · exact E14.2 i e (by show i < w8.heap.size; omega)
      · exact E15.2 i e (by show i < w9.heap.size; omega)
      · exact E16.2 i e (by show i < w10.heap.size; omega)
end Go.Proofs.Ytgohfdgkihoilaa.Rcp
