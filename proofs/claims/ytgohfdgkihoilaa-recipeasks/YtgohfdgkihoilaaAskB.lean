/- What ask of package recipe does. -/
import Derived.Test.YtgohfdgkihoilaaAskA
set_option linter.unusedSimpArgs false
set_option linter.unusedVariables false
namespace Go.Proofs.Ytgohfdgkihoilaa.Rcp
open Go Go.RowKit Go.Deep Go.Maps

noncomputable def sumTo (l : List Rc) (k t : Nat) : Int := vl l k + (((nd l k).take t).map (VV l)).sum
theorem sumTo_zero (l : List Rc) (k : Nat) : sumTo l k 0 = vl l k := by simp [sumTo]
theorem sumTo_succ {l : List Rc} {k t x : Nat} (h : (nd l k)[t]? = some x) : sumTo l k (t + 1) = sumTo l k t + VV l x := by
  unfold sumTo
  rw [List.take_add_one, h]
  simp
  omega
theorem sumTo_all {l : List Rc} {k : Nat} : sumTo l k (nd l k).length = vl l k + ((nd l k).map (VV l)).sum := by simp [sumTo]
theorem sum_range (f : Nat → Int) (h : ∀ x, 0 ≤ f x ∧ f x < 1000003) : ∀ (ks : List Nat), 0 ≤ (ks.map f).sum ∧ (ks.map f).sum ≤ 1000002 * (ks.length : Int)
  | [] => by simp
  | x :: r => by
    have := sum_range f h r
    have := h x
    simp only [List.map_cons, List.sum_cons, List.length_cons]
    omega
theorem vl_range {l : List Rc} (hR : RIGHT l) {k : Nat} (hk : k < l.length) : -1000 ≤ vl l k ∧ vl l k ≤ 1000 := by
  have := (hR.good.2 _ (List.mem_of_getElem? (getD_some hk r0))).1
  unfold okR at this
  unfold vl
  omega
theorem nd_len {l : List Rc} (hR : RIGHT l) {k : Nat} (hk : k < l.length) : (nd l k).length ≤ 20 := by
  have h1 : l.getD k r0 ∈ l := List.mem_of_getElem? (getD_some hk r0)
  have := hR.short
  unfold Long at this
  unfold nd
  rw [List.length_map]
  refine Nat.le_of_not_lt fun h => this (.inr ⟨_, h1, h⟩)
theorem sumTo_range {l : List Rc} (hR : RIGHT l) {k : Nat} (hk : k < l.length) {t : Nat} : -1000 ≤ sumTo l k t ∧ sumTo l k t ≤ 20001040 := by
  have h1 := vl_range hR hk
  have h2 := nd_len hR hk
  have h3 := sum_range (VV l) (fun x => val_range x) ((nd l k).take t)
  have h4 : (((nd l k).take t).length : Int) ≤ 20 := by rw [List.length_take]; omega
  unfold sumTo
  omega
theorem nd_lt {l : List Rc} (hR : RIGHT l) : ∀ k, k < l.length → ∀ j ∈ nd l k, j < l.length := by
  intro k hk j hj
  have hm : l.getD k r0 ∈ l := List.mem_of_getElem? (getD_some hk r0)
  obtain ⟨n, hn, rfl⟩ := List.mem_map.1 hj
  have := (hR.good.2 _ hm).2 n hn
  omega
def AskedI (l : List Rc) (s : St) (key : Int) (s' : St) : Prop := (0 ≤ key ∧ key < l.length ∧ Ask1 (CC l) (nd l) s key.toNat s') ∨ (¬ (0 ≤ key ∧ key < l.length) ∧ s' = s)

theorem box3 {w : World} {bb : Nat} {c0 c1 c2 tv : Value} (hx : w.heap[bb]? = some (.cells #[c0, c1, c2, tv] 60 (0, 0))) : w.cell? ⟨bb, 0, none⟩ = some c0 ∧ w.cell? ⟨bb, 1, none⟩ = some c1 ∧ w.cell? ⟨bb, 2, none⟩ = some c2 ∧ w.cell? ⟨bb, 3, none⟩ = some tv ∧ w.frozen? ⟨bb, 3, none⟩ = false := by
  refine ⟨?_, ?_, ?_, ?_, ?_⟩
  all_goals simp [World.cell?, World.frozen?, hx]

theorem modE {sv : Int} (h1 : -1000 ≤ sv) (h2 : sv ≤ 20001040) : (wrap64 (sv.tmod 1000003 + 1000003)).tmod 1000003 = sv % 1000003 := by
  have hw : ∀ x : Int, 0 ≤ x → x ≤ 100000000 → wrap64 x = x := fun x a b => by unfold wrap64; omega
  by_cases h : 0 ≤ sv
  · rw [Int.tmod_eq_emod_of_nonneg h, hw _ (by omega) (by omega), Int.tmod_eq_emod_of_nonneg (by omega)]
    omega
  · have e : sv.tmod 1000003 = sv := by
      rw [show sv = -(-sv) by omega, Int.neg_tmod, Int.tmod_eq_emod_of_nonneg (by omega)]
      omega
    rw [e, hw _ (by omega) (by omega), Int.tmod_eq_emod_of_nonneg (by omega)]
    omega

set_option maxHeartbeats 4000000 in
theorem ask_any {lv : Value} {l : List Rc} {bb bu bg : Nat} (hR : RIGHT l) : ∀ (f : Nat) (Z : Nat → Prop) (s : St) (S : List Nat) (key : Int) (w : World), wfI key → (∀ i, Z i → i < w.heap.size) → RL Z w lv l → BM Z l lv bb bu bg s w →
    (0 ≤ key → key < l.length → ∀ a ∈ S, Rch (nd l) a key.toNat) → Inv (CC l) s S → s.td.length + left l s ≤ 100 → left l s ≤ f →
    Calls Try.prog 32 #[P1 bb, I key] w (Ret fun r w' => r = .tuple #[] ∧ ∃ s', AskedI l s key s' ∧ BM Z l lv bb bu bg s' w' ∧ Kp Z w w' ∧ s'.td.length + left l s' ≤ s.td.length + left l s ∧ left l s' ≤ left l s) := by
  intro f
  induction f using Nat.strongRecOn with
  | ind f ih =>
    intro Z s S key w hwf hZ hL hB hS hI h100 hf
    have HIH : Hid (∀ m, m < f → ∀ (Z : Nat → Prop) (s : St) (S : List Nat) (key : Int) (w : World), wfI key → (∀ i, Z i → i < w.heap.size) → RL Z w lv l → BM Z l lv bb bu bg s w →
      (0 ≤ key → key < l.length → ∀ a ∈ S, Rch (nd l) a key.toNat) → Inv (CC l) s S → s.td.length + left l s ≤ 100 → left l s ≤ m →
      Calls Try.prog 32 #[P1 bb, I key] w (Ret fun r w' => r = .tuple #[] ∧ ∃ s', AskedI l s key s' ∧ BM Z l lv bb bu bg s' w' ∧ Kp Z w w' ∧ s'.td.length + left l s' ≤ s.td.length + left l s ∧ left l s' ≤ left l s)) := ih
    clear ih
    have HTK : Hid (Calls Try.prog 41 #[.map (some bu), I key] w _) := take_any hB.un hwf
    have HBM : Hid (BM Z l lv bb bu bg s w) := hB
    have HL : Hid (RL Z w lv l) := hL
    have HI : Hid (Inv (CC l) s S) := hI
    have HS : Hid (0 ≤ key → key < l.length → ∀ a ∈ S, Rch (nd l) a key.toNat) := hS
    have HWF : Hid (wfI key) := hwf
    obtain ⟨tv, c0, c1, c2, c3, -, -, -⟩ := hB.cells
    obtain ⟨p, cap, rfl, h1, _⟩ := hL
    clear hB hI hS hwf
    by_cases hu : 0 ≤ key ∧ key < l.length ∧ s.bg key.toNat = false
    · obtain ⟨k, rfl⟩ := Int.eq_ofNat_of_zero_le hu.1
      have hk : k < l.length := by omega
      have hkl : (k : Int) < (l.length : Int) := by omega
      have hbk : s.bg k = false := by have := hu.2.2; simpa using this
      have HBK : Hid (s.bg k = false) := hbk
      have HK : Hid (k < l.length) := hk
      have HU : Hid (0 ≤ (k : Int) ∧ (k : Int) < l.length ∧ s.bg (k : Int).toNat = false) := hu
      obtain ⟨blk, off, nv, rfl, hz, -, hn, e0, e1, e2, e3, e4⟩ := HL.out.at hk
      have HN : Hid (IL Z w nv (l.getD k r0).needs) := hn
      obtain ⟨q, nc, rfl, hn1, _⟩ := hn
      have HNT : Hid (∀ t x, t < (l.getD k r0).needs.length → (l.getD k r0).needs.getD t 0 = (x : Nat) → (nd l k)[t]? = some x) := fun t x ht hx => by
        unfold nd; rw [List.getElem?_map, getD_some ht 0, hx]; simp
      have HNO : Hid (∀ t, t < (l.getD k r0).needs.length → ∃ x : Nat, (l.getD k r0).needs.getD t 0 = x ∧ x < l.length ∧ x ∈ nd l k ∧ l.length ≤ 100) := fun t ht => needs_ok hR hk ht
      have HNL : Hid ((nd l k).length = (l.getD k r0).needs.length) := by show (nd l k).length = _; simp [nd]
      have HN20 : Hid ((nd l k).length ≤ 20) := nd_len hR hk
      have HV : Hid (vl l k = (l.getD k r0).value) := rfl
      have HG : Hid (gives l k = ((l.getD k r0).act == 0)) := rfl
      have HVR : Hid (-1000 ≤ vl l k ∧ vl l k ≤ 1000) := vl_range hR hk
      have HSR : Hid (∀ t, -1000 ≤ sumTo l k t ∧ sumTo l k t ≤ 20001040) := fun t => sumTo_range hR hk
      generalize hr : l.getD k r0 = r at e0 e1 e2 e3 e4 HN hn1 HNT HNO HNL HV HG
      clear hr
      generalize hnn : r.needs.length = nn at e0 hn1 HNT HNO HNL HN
      have HNN : Hid (r.needs.length = nn) := hnn
      have HZ : Hid (Z blk) := hz
      have hn20 : nn ≤ 20 := by have := HN20.out; rw [HNL.out] at this; exact this
      clear hu hbk hk hnn
      go_enter Try.func32, Try.ntmps32
      go_wp2_with (first
        | (go_at_call 41; refine HTK.out.mono ?_; rintro e w2 ⟨_, rfl, ⟨c, rfl, hc⟩, hS2, hk2⟩; obtain rfl := hc.2 HU.out; clear hc
           have HB2 : Hid (BM Z l (.slice (some ⟨blk, off, none⟩) l.length cap) bb bu bg (s.beg k) w2) := HBM.out.took hS2 hk2 (fun x a b => by simp [St.beg]; constructor; (rintro ⟨h1, h2⟩; exact ⟨h2, fun e => h1 (by omega)⟩); (rintro ⟨h1, h2⟩; exact ⟨by omega, h1⟩)) rfl
           have HK2 : Hid (Kp Z w w2) := took_kp hZ HBM.out.z2 hk2
           obtain ⟨tv2, d0, d1, d2, d3, -⟩ := HB2.out.cells
           have f0 := HK2.out.cell (p := ⟨blk, off + k * 5, none⟩) HZ.out e0
           have f1 := HK2.out.cell (p := ⟨blk, off + k * 5 + 1, none⟩) HZ.out e1
           have f2 := HK2.out.cell (p := ⟨blk, off + k * 5 + 2, none⟩) HZ.out e2
           have f3 := HK2.out.cell (p := ⟨blk, off + k * 5 + 3, none⟩) HZ.out e3
           have f4 := HK2.out.cell (p := ⟨blk, off + k * 5 + 4, none⟩) HZ.out e4
           clear hS2 hk2))
      have HZ2 : Hid (∀ i, Z i → i < w2.heap.size) := HK2.out.lt hZ
      have HB3 : Hid (BM (fun i => Z i ∨ i = w2.heap.size) l (.slice (some ⟨blk, off, none⟩) l.length cap) bb bu bg (s.beg k) (w2.alloc (.cells (rcC (.slice q nn nc) r) 43))) := HB2.out.more _
      have HKA : Hid (Kp Z w2 (w2.alloc (.cells (rcC (.slice q nn nc) r) 43))) := Kp.alloc HZ2.out _
      have hlt : left l (s.beg k) < left l s := left_beg HK.out HBK.out
      have HLT : Hid (left l (s.beg k) < left l s) := hlt
      have HF : Hid (left l s ≤ f) := hf
      have H100 : Hid (s.td.length + left l s ≤ 100) := h100
      have hbx : (w2.alloc (.cells (rcC (.slice q nn nc) r) 43)).cell? ⟨w2.heap.size, 2, none⟩ = some (I r.act) := by simp [World.cell?_alloc_at]
      have HBX : Hid ((w2.alloc (.cells (rcC (.slice q nn nc) r) 43)).cell? ⟨w2.heap.size, 2, none⟩ = some (I r.act)) := hbx
      have HW3 : Hid ((w2.alloc (.cells (rcC (.slice q nn nc) r) 43)).heap.size = w2.heap.size + 1) := by show _ = _; simp
      clear hlt hf h100 hbx f0 f1 f2 f3 f4 d0 d1 d2 d3 e0 e1 e2 e3 e4 c0 c1 c2 c3
      go_loopw [5, 29] (fun sv i u => ∃ t : Nat, t ≤ nn ∧ i = .int .i64 t ∧ sv = .int .i64 (sumTo l k t) ∧ ∃ s1, Ak (CC l) (nd l) false (s.beg k) ((nd l k).take t) s1 ∧ (∀ j ∈ (nd l k).take t, CC l j) ∧ BM (fun i => Z i ∨ i = w2.heap.size) l (.slice (some ⟨blk, off, none⟩) l.length cap) bb bu bg s1 u ∧ Inv (CC l) s1 (k :: S) ∧
          Kp (fun i => Z i ∨ i = w2.heap.size) (w2.alloc (.cells (rcC (.slice q nn nc) r) 43)) u ∧ s1.td.length + left l s1 ≤ s.td.length + left l (s.beg k) ∧ left l s1 ≤ left l (s.beg k)) (fun _ i _ => nn - (intOf i).toNat)
      case atStart =>
        refine ⟨0, Nat.zero_le _, rfl, by rw [sumTo_zero, HV.out], s.beg k, .nil _ _, fun j hj => by simp at hj, HB3.out, HI.out.beg k, Kp.refl _ _, Nat.le_refl _, Nat.le_refl _⟩
      case round =>
        obtain ⟨t, ht, rfl, rfl, s1, hA1, hC1, hB1, hI1, hk1, hs1, hl1⟩ := hrel
        have HA1 : Hid (Ak (CC l) (nd l) false (s.beg k) ((nd l k).take t) s1) := hA1
        have HC1 : Hid (∀ j ∈ (nd l k).take t, CC l j) := hC1
        have HB1 : Hid (BM (fun i => Z i ∨ i = w2.heap.size) l (.slice (some ⟨blk, off, none⟩) l.length cap) bb bu bg s1 wr) := hB1
        have HI1 : Hid (Inv (CC l) s1 (k :: S)) := hI1
        have HK1 : Hid (Kp (fun i => Z i ∨ i = w2.heap.size) (w2.alloc (.cells (rcC (.slice q nn nc) r) 43)) wr) := hk1
        have HS1 : Hid (s1.td.length + left l s1 ≤ s.td.length + left l (s.beg k)) := hs1
        have HL1 : Hid (left l s1 ≤ left l (s.beg k)) := hl1
        have HKZ : Hid (Kp Z w wr) := HK2.out.trans (HKA.out.trans (hk1.mono fun i hi => .inl hi))
        have HZr : Hid (∀ i, Z i ∨ i = w2.heap.size → i < wr.heap.size) := fun i hi => by
          have h1 := hk1.size
          rw [HW3.out] at h1
          rcases hi with hi | hi
          · have := HZ2.out i hi; omega
          · omega
        obtain ⟨tvr, c0, c1, c2, c3, -, hx, hO⟩ := hB1.cells
        have HXB : Hid (wr.heap[bb]? = some (.cells #[.slice (some ⟨blk, off, none⟩) l.length cap, .map (some bu), .map (some bg), tvr] 60 (0, 0))) := hx
        have HO : Hid (OwnI (fun i => (Z i ∨ i = w2.heap.size) ∨ i = bb ∨ i = bu ∨ i = bg) wr tvr (s1.td.map Int.ofNat)) := hO
        clear hx hO
        have cb := hk1.cell (p := ⟨w2.heap.size, 2, none⟩) (.inr rfl) HBX.out
        have hsr := HSR.out t
        clear hA1 hC1 hB1 hI1 hk1 hs1 hl1
        by_cases hlt : t < nn
        · obtain ⟨x, hx, hxl, hxn, hl100⟩ := HNO.out t hlt
          have HNX : Hid ((nd l k)[t]? = some x) := HNT.out t x hlt hx
          obtain ⟨nb, no, rfl, -, hcx⟩ := (HN.out.kp HKZ.out).at (k := t) (by rw [HNN.out]; exact hlt)
          rw [hx] at hcx
          have HXN : Hid (x ∈ nd l k) := hxn
          have HXL : Hid (x < l.length) := hxl
          have HWX : Hid (wfI (x : Int)) := ⟨by omega, by omega⟩
          have HXT : Hid ((nd l k).take (t + 1) = (nd l k).take t ++ [x]) := by show (nd l k).take (t + 1) = (nd l k).take t ++ [x]; rw [List.take_add_one, HNX.out]; rfl
          have HSX : Hid (sumTo l k (t + 1) = sumTo l k t + VV l x) := sumTo_succ HNX.out
          have hvx : 0 ≤ VV l x ∧ VV l x < 1000003 := val_range x
          have HRX : Hid (∀ a ∈ k :: S, Rch (nd l) a x) := fun a ha => by
            rcases List.mem_cons.1 ha with rfl | ha
            · exact .one HXN.out
            · exact (HS.out (by omega) hkl a ha).snoc HXN.out
          have HC32 : Hid (Calls Try.prog 32 #[P1 bb, I (x : Int)] wr _) := HIH.out (left l s1) (by have := HLT.out; have := HF.out; have := HL1.out; omega) (fun i => Z i ∨ i = w2.heap.size) s1 (k :: S) x wr HWX.out HZr.out ((HL.out.kp HKZ.out).mono fun i hi => .inl hi) HB1.out
            (fun _ _ => HRX.out) HI1.out (by have := HLT.out; have := H100.out; have := HS1.out; omega) (Nat.le_refl _)
          clear hx hxn hxl
          by_cases hCx : CC l x
          · have HCX : Hid (CC l x) := hCx
            clear hCx
            go_wp2_with fail
            refine HC32.out.mono ?_
            rintro e w3 ⟨_, rfl, rfl, s2, ha2, hB2', hk3, hs2, hl2⟩
            have ha2' : Ask1 (CC l) (nd l) s1 x s2 := by
              rcases ha2 with ⟨_, _, h⟩ | ⟨h, _⟩
              · simpa using h
              · exact absurd ⟨by omega, by have := HXL.out; omega⟩ h
            obtain ⟨hI2, htd2, -⟩ := ha2'.told (fun i hi => can_noring hi) HRX.out HI1.out
            have HA2 : Hid (Ask1 (CC l) (nd l) s1 x s2) := ha2'
            have HI2 : Hid (Inv (CC l) s2 (k :: S)) := hI2
            have HB2' : Hid (BM (fun i => Z i ∨ i = w2.heap.size) l (.slice (some ⟨blk, off, none⟩) l.length cap) bb bu bg s2 w3) := hB2'
            have HK3 : Hid (Kp (fun i => Z i ∨ i = w2.heap.size) wr w3) := hk3
            have HS2 : Hid (s2.td.length + left l s2 ≤ s1.td.length + left l s1) := hs2
            have HL2 : Hid (left l s2 ≤ left l s1) := hl2
            obtain ⟨D, hD, hU⟩ := hB2'.gi
            have HD : Hid (w3.ownsMap Try.prog 3 (plainElem Try.prog 3) bg s2.td.length D) := hD
            have HHS : Hid (Maps.has D (kI (x : Int)) = true) := (hU x HWX.out).1.2 ⟨by omega, by simpa using htd2.2 HCX.out⟩
            have HAT : Hid (D.atKey (kI (x : Int)) (.lit (.int .i64 0)) = .lit (.int .i64 (VV l x))) := by have := (hU x HWX.out).2.1 ⟨by omega, by simpa using htd2.2 HCX.out⟩; show D.atKey _ _ = _; simpa using this
            obtain ⟨tv3, g0, g1, g2, g3, -⟩ := hB2'.cells
            clear ha2 ha2' hI2 htd2 hB2' hk3 hs2 hl2 hD hU
            go_wp2_with (first
              | (at_lookup; refine wpList_lookup_own_ok_int _ rfl _ _ 58 rfl 3 3 .i64 lawI Try.underlying58 Try.underlying3 (zero3 _) bg s2.td.length D rfl HD.out _ _ rfl (keyI HWX.out) ?_; intro c hat hwc
                 have hcv : c = VV l x := by rw [HAT.out] at hat; injection hat with hat; injection hat with _ hat; exact hat.symm
                 subst hcv; rw [HHS.out]; clear hat hwc))
            go_roundw
            case rel =>
              refine ⟨t + 1, by omega, by go_num, by rw [HSX.out], s2, by rw [HXT.out]; exact HA1.out.snoc (fun j hj => .inr (HC1.out j hj)) HA2.out, fun j hj => ?_, HB2'.out, HI2.out, HK1.out.trans HK3.out, Nat.le_trans HS2.out HS1.out, Nat.le_trans HL2.out HL1.out⟩
              rw [HXT.out] at hj
              rcases List.mem_append.1 hj with hj | hj
              · exact HC1.out j hj
              · simp at hj; subst hj; exact HCX.out
            case measure => simp [intOf]; omega
          · have HCX : Hid (¬ CC l x) := hCx
            clear hCx
            go_wp2_with fail
            refine HC32.out.mono ?_
            rintro e w3 ⟨_, rfl, rfl, s2, ha2, hB2', hk3, hs2, hl2⟩
            have ha2' : Ask1 (CC l) (nd l) s1 x s2 := by
              rcases ha2 with ⟨_, _, h⟩ | ⟨h, _⟩
              · simpa using h
              · exact absurd ⟨by omega, by have := HXL.out; omega⟩ h
            obtain ⟨hI2, htd2, -⟩ := ha2'.told (fun i hi => can_noring hi) HRX.out HI1.out
            have HA2 : Hid (Ask1 (CC l) (nd l) s1 x s2) := ha2'
            have HI2 : Hid (Inv (CC l) s2 (k :: S)) := hI2
            have HB2' : Hid (BM (fun i => Z i ∨ i = w2.heap.size) l (.slice (some ⟨blk, off, none⟩) l.length cap) bb bu bg s2 w3) := hB2'
            have HK3 : Hid (Kp (fun i => Z i ∨ i = w2.heap.size) wr w3) := hk3
            have HS2 : Hid (s2.td.length + left l s2 ≤ s1.td.length + left l s1) := hs2
            have HL2 : Hid (left l s2 ≤ left l s1) := hl2
            obtain ⟨D, hD, hU⟩ := hB2'.gi
            have HD : Hid (w3.ownsMap Try.prog 3 (plainElem Try.prog 3) bg s2.td.length D) := hD
            have HHS : Hid (Maps.has D (kI (x : Int)) = false) := Bool.eq_false_iff.2 fun h => HCX.out (htd2.1 (by simpa using ((hU x HWX.out).1.1 h).2))
            obtain ⟨tv3, g0, g1, g2, g3, -⟩ := hB2'.cells
            clear ha2 ha2' hI2 htd2 hB2' hk3 hs2 hl2 hD hU
            go_wp2_with (first
              | (at_lookup; refine wpList_lookup_own_ok_int _ rfl _ _ 58 rfl 3 3 .i64 lawI Try.underlying58 Try.underlying3 (zero3 _) bg s2.td.length D rfl HD.out _ _ rfl (keyI HWX.out) ?_; intro c hat hwc
                 rw [HHS.out]; clear hat hwc))
            have hCk : ¬ CC l k := fun h => HCX.out ((can_iff.1 h).2 x HXN.out)
            refine bodyPost_ret (results_none rfl _ _ _) rfl ⟨_, rfl, rfl, s2, ?_, HB2'.out.sub fun i hi => .inl hi, HKZ.out.trans (HK3.out.mono fun i hi => .inl hi), ?_, ?_⟩
            · refine .inl ⟨by omega, hkl, .inr ⟨by simpa using HBK.out, s2, ?_, ?_⟩⟩
              · have e : nd l k = (nd l k).take t ++ x :: (nd l k).drop (t + 1) := by
                  conv => lhs; rw [← List.take_append_drop (t + 1) (nd l k), HXT.out]
                  simp
                show Ak (CC l) (nd l) false (s.beg (k : Int).toNat) (nd l (k : Int).toNat) s2
                rw [show (k : Int).toNat = k by omega, e]
                exact HA1.out.stop HC1.out HA2.out HCX.out
              · show s2 = s2.tell (CC l) (k : Int).toNat
                rw [show (k : Int).toNat = k by omega]
                exact (if_neg hCk).symm
            · have := HS1.out; have := HS2.out; have := HLT.out; omega
            · have := HL1.out; have := HL2.out; have := HLT.out; omega
        · have : t = nn := by omega
          subst this
          have HALL : Hid (∀ j ∈ nd l k, CC l j) := fun j hj => HC1.out j (by rw [List.take_of_length_le (by rw [HNL.out]; exact Nat.le_refl _)]; exact hj)
          have HAN : Hid (Ak (CC l) (nd l) false (s.beg k) (nd l k) s1) := by
            have := HA1.out
            rw [List.take_of_length_le (by rw [HNL.out]; exact Nat.le_refl _)] at this
            exact this
          have HWK : Hid (wfI (k : Int)) := HWF.out
          by_cases hact : r.act = 0
          · have HCK : Hid (CC l k) := can_iff.2 ⟨by rw [HG.out]; simp [hact], HALL.out⟩
            have HVK : Hid (VV l k = sumTo l k t % 1000003) := by
              show VV l k = _
              rw [show VV l k = _ from val_eq HCK.out, ← sumTo_all, HNL.out]
            obtain ⟨D, hD, hU⟩ := HB1.out.gi
            have HD : Hid (wr.ownsMap Try.prog 3 (plainElem Try.prog 3) bg s1.td.length D) := hD
            have hact' : (r.act == 0) = true := by simp [hact]
            have HTL : Hid (s1.td.length ≤ 100) := by have := HS1.out; have := HLT.out; have := H100.out; show _ ≤ _; omega
            generalize sumTo l k t = sv at hsr HVK
            have HU5 : Hid (∀ k, wfI k → (Maps.has D (kI k) = true ↔ 0 ≤ k ∧ k.toNat ∈ s1.td) ∧ (0 ≤ k ∧ k.toNat ∈ s1.td → D.atKey (kI k) (.lit (.int .i64 0)) = .lit (.int .i64 (VV l k.toNat))) ∧ (¬ (0 ≤ k ∧ k.toNat ∈ s1.td) → D.atKey (kI k) (.lit (.int .i64 0)) = .lit (.int .i64 0))) := hU
            clear hact hD hU
            go_wp2_with (first
              | (at_mapUpdate; refine wpList_mapUpdate_own _ rfl _ _ _ 58 rfl 3 3 lawI Try.underlying58 _ bg s1.td.length D rfl HD.out (by have := HTL.out; unfold maxLen; omega) _ _ _ rfl rfl (keyI HWK.out) _ [] (plainElem_int Try.underlying3 (by rw [modE hsr.1 hsr.2]; exact WalkArith.wf_i64 ⟨by omega, by omega⟩)) ?_; intro w5 hown5 hgrow5
                 rw [modE hsr.1 hsr.2, ← HVK.out] at hown5
                 have HM5 : Hid (MapM w5 bg (s1.td.length + 1) (fun x => (0 ≤ x ∧ x.toNat ∈ s1.td) ∨ x = k) (fun x => VV l x.toNat)) := MapM.put HU5.out HWK.out hown5 HD.out.isMap (by simp)
                 have HG5 : Hid (wr.grownBy w5 (some bg)) := hgrow5
                 have HX5 : Hid (w5.heap[bb]? = some (.cells #[.slice (some ⟨blk, off, none⟩) l.length cap, .map (some bu), .map (some bg), tvr] 60 (0, 0))) := (hgrow5.block bb HB1.out.lt (fun e => HB1.out.n2 (Option.some.inj e))).trans HXB.out
                 have HO5 : Hid (OwnI (fun i => (Z i ∨ i = w2.heap.size) ∨ i = bb ∨ i = bu ∨ i = bg) w5 tvr (s1.td.map Int.ofNat)) := HO.out.stay fun g hg => hgrow5.block g (HO.out.lt g hg) (fun e => HO.out.2 g hg (.inr (.inr (.inr (Option.some.inj e)))))
                 have HZ5 : Hid (∀ i, (Z i ∨ i = w2.heap.size) ∨ i = bb ∨ i = bu ∨ i = bg → i < w5.heap.size) := fun i hi => Nat.lt_of_lt_of_le (by rcases hi with hi | rfl | rfl | rfl; exact HZr.out i hi; exact HB1.out.lt; exact HB1.out.un.lt; exact HB1.out.gi.lt) hgrow5.size
                 obtain ⟨p0, p1, p2, p3, p4⟩ := box3 HX5.out
                 clear hown5 hgrow5)
              | (at_builtin; refine wp_app (n := (k : Int)) rfl (.tmp 67) (.tmp 69) rfl rfl rfl HO5.out HZ5.out (by have := HTL.out; simp; omega) ?_; intro g6 cap6 w6 hO6 hk6 hb6 hloc6 hsz6
                 have HO6 : Hid (OwnI (fun i => (Z i ∨ i = w2.heap.size) ∨ i = bb ∨ i = bu ∨ i = bg) w6 (.slice (some ⟨g6, 0, none⟩) ((s1.td.map Int.ofNat).length + 1) cap6) (s1.td.map Int.ofNat ++ [(k : Int)])) := hO6
                 have HK6 : Hid (Kp (fun i => (Z i ∨ i = w2.heap.size) ∨ i = bb ∨ i = bu ∨ i = bg) w5 w6) := hk6
                 have HB6 : Hid (∀ i, i < w5.heap.size → tvr.ownBlock ≠ some i → w6.heap[i]? = w5.heap[i]?) := hb6
                 have HS6 : Hid (w5.heap.size ≤ w6.heap.size) := hsz6
                 obtain ⟨r0', r1', r2', r3', r4'⟩ := box3 ((hk6.block bb (.inr (.inl rfl))).trans HX5.out)
                 clear hO6 hk6 hb6 hloc6 hsz6))
            refine bodyPost_end (results_none rfl _ _ _) rfl ⟨_, rfl, rfl, s1.tell (CC l) k, ?_, by have h := (HB1.out.told HCK.out HM5.out HG5.out HX5.out HO5.out HO6.out HB6.out HS6.out).sub (Z := Z) fun i hi => .inl hi; rw [List.length_map] at h; exact h, ?_, ?_, ?_⟩
            · refine .inl ⟨by omega, hkl, .inr ⟨by simpa using HBK.out, s1, by simpa using HAN.out, ?_⟩⟩
              show s1.tell (CC l) k = s1.tell (CC l) (k : Int).toNat
              rw [show (k : Int).toNat = k by omega]
            · refine HKZ.out.trans (Kp.trans ?_ (Kp.trans (HK6.out.mono fun i hi => .inl (.inl hi)) (Kp.setCell (fun h => HB1.out.z1 (.inl h)) _)))
              exact Kp.grown HG5.out (fun i hi => HZr.out i (.inl hi)) (fun j hj h => HB1.out.z3 (by cases hj; exact .inl h))
            · have e1 : (s1.tell (CC l) k).td.length = s1.td.length + 1 := by unfold St.tell; rw [if_pos HCK.out]; simp
              have e2 : left l (s1.tell (CC l) k) = left l s1 := by unfold left; rw [St.tell_bg]
              have := HS1.out; have := HLT.out; omega
            · have e2 : left l (s1.tell (CC l) k) = left l s1 := by unfold left; rw [St.tell_bg]
              have := HL1.out; have := HLT.out; omega
          · have hact' : (r.act == 0) = false := by simp [hact]
            have hCk : ¬ CC l k := fun h => by have := (can_iff.1 h).1; rw [HG.out, hact'] at this; cases this
            have HCK : Hid (¬ CC l k) := hCk
            clear hact hCk
            go_wp2_with fail
            refine bodyPost_end (results_none rfl _ _ _) rfl ⟨_, rfl, rfl, s1, ?_, HB1.out.sub fun i hi => .inl hi, HKZ.out, ?_, ?_⟩
            · refine .inl ⟨by omega, hkl, .inr ⟨by simpa using HBK.out, s1, by simpa using HAN.out, ?_⟩⟩
              show s1 = s1.tell (CC l) (k : Int).toNat
              rw [show (k : Int).toNat = k by omega]
              exact (if_neg HCK.out).symm
            · have := HS1.out; have := HLT.out; omega
            · have := HL1.out; have := HLT.out; omega
    · have HU : Hid (¬ (0 ≤ key ∧ key < l.length ∧ s.bg key.toNat = false)) := hu
      clear hu
      go_enter Try.func32, Try.ntmps32
      go_wp2_with (first
        | (go_at_call 41; refine HTK.out.mono ?_; rintro e w2 ⟨_, rfl, ⟨c, rfl, hc⟩, hS2, hk2⟩; have hcf := Bool.eq_false_iff.2 (fun h => HU.out (hc.1 h)); subst hcf; clear hc))
      refine bodyPost_ret (results_none rfl _ _ _) rfl ⟨_, rfl, rfl, s, ?_, ?_, took_kp hZ HBM.out.z2 hk2, Nat.le_refl _, Nat.le_refl _⟩
      · by_cases h : 0 ≤ key ∧ key < l.length
        · refine .inl ⟨h.1, h.2, .inl ⟨?_, rfl⟩⟩
          cases hb : s.bg key.toNat with
          | true => rfl
          | false => exact absurd ⟨h.1, h.2, hb⟩ HU.out
        · exact .inr ⟨h, rfl⟩
      · exact HBM.out.took hS2 hk2 (fun x a b => ⟨fun h => ⟨h, fun e => HU.out (by subst e; exact ⟨a, b, h⟩)⟩, fun h => h.1⟩) rfl
end Go.Proofs.Ytgohfdgkihoilaa.Rcp
