/- What Fate and Order of package recipe do. -/
import Derived.Test.YtgohfdgkihoilaaAskB
set_option linter.unusedSimpArgs false
set_option linter.unusedVariables false
namespace Go.Proofs.Ytgohfdgkihoilaa.Rcp
open Go Go.RowKit Go.Deep Go.Maps

def s0 : St := ⟨fun _ => false, []⟩
theorem inv0 (C : Nat → Prop) : Inv C s0 [] := ⟨fun i h => (by cases h), fun i h => (by cases h)⟩
theorem left0 {l : List Rc} (hR : RIGHT l) : s0.td.length + left l s0 ≤ 100 := by
  have := cnt_le_m l.length (fun i => s0.bg i = false)
  have := short100 hR
  show 0 + left l s0 ≤ 100
  unfold left
  omega
/-- There is such a key, and it can be built. -/
def FateB (l : List Rc) (key : Int) : Prop := RIGHT l ∧ 0 ≤ key ∧ key < l.length ∧ CC l key.toNat
open Classical in
noncomputable def fateV (l : List Rc) (key : Int) : Int := if RIGHT l ∧ 0 ≤ key ∧ key < l.length then VV l key.toNat else 0
theorem fateV_no {l : List Rc} {key : Int} (h : ¬ FateB l key) : fateV l key = 0 := by
  unfold fateV
  split
  · rename_i h1
    exact val_no fun hc => h ⟨h1.1, h1.2.1, h1.2.2, hc⟩
  · rfl
theorem fateV_yes {l : List Rc} {key : Int} (h : FateB l key) : fateV l key = VV l key.toNat := if_pos ⟨h.1, h.2.1, h.2.2.1⟩

set_option maxHeartbeats 2000000 in
theorem fate_any {Z : Nat → Prop} {w : World} {v : Value} {l : List Rc} (hl : RL Z w v l) (hZ : ∀ i, Z i → i < w.heap.size) {key : Int} (hwf : wfI key) :
    Calls Try.prog 13 #[v, I key] w (Ret fun r w' => (∃ b, r = .tuple #[Bl b, I (fateV l key)] ∧ (b = true ↔ FateB l key)) ∧ Kp (fun i => i < w.heap.size) w w') := by
  have HL : Hid (RL Z w v l) := hl
  have HRT : Hid (Calls Try.prog 11 #[v] w _) := right_any hl hZ
  have HWF : Hid (wfI key) := hwf
  clear hwf
  by_cases hR : RIGHT l
  · have H0 : Hid (rightS l = 0) := (rightS_iff l).2 hR
    have HR : Hid (RIGHT l) := hR
    have HNB : Hid (∀ u, Kp (fun i => i < w.heap.size) w u → Calls Try.prog 31 #[v] u (Ret fun r w' => ∃ bb bu bg, r = P1 bb ∧ BM (fun i => i < u.heap.size) l v bb bu bg s0 w' ∧ Kp (fun i => i < u.heap.size) u w')) := fun u hu => newBuild_any (HL.out.kp (hu.mono hZ)) (short100 hR)
    have HAS : Hid (∀ (u u2 : World) (bb bu bg : Nat), Kp (fun i => i < w.heap.size) w u → BM (fun i => i < u.heap.size) l v bb bu bg s0 u2 → Kp (fun i => i < u.heap.size) u u2 →
        Calls Try.prog 32 #[P1 bb, I key] u2 (Ret fun r w' => r = .tuple #[] ∧ ∃ s', AskedI l s0 key s' ∧ BM (fun i => i < u.heap.size) l v bb bu bg s' w' ∧ Kp (fun i => i < u.heap.size) u2 w' ∧ s'.td.length + left l s' ≤ s0.td.length + left l s0 ∧ left l s' ≤ left l s0)) := fun u u2 bb bu bg hu hB hk =>
      ask_any hR _ _ s0 [] key u2 HWF.out (fun i hi => Nat.lt_of_lt_of_le hi hk.size) (((HL.out.kp (hu.mono hZ)).mono fun i hi => Nat.lt_of_lt_of_le (hZ i hi) hu.size).kp hk) hB (fun _ _ a ha => by cases ha) (inv0 _) (left0 hR) (Nat.le_refl _)
    clear hR hl
    go_enter Try.func13, Try.ntmps13
    go_wp2_with (first
      | (go_at_call 11; refine HRT.out.mono ?_; rintro e w1 ⟨_, rfl, rfl, hk1⟩; rw [H0.out]; have HK1 : Hid (Kp (fun i => i < w.heap.size) w w1) := hk1; clear hk1)
      | (go_at_call 31; refine (HNB.out _ HK1.out).mono ?_; rintro e w2 ⟨_, rfl, bb, bu, bg, rfl, hB2, hk2⟩; have HB2 : Hid (BM (fun i => i < w1.heap.size) l v bb bu bg s0 w2) := hB2; have HK2 : Hid (Kp (fun i => i < w1.heap.size) w1 w2) := hk2; clear hB2 hk2))
    refine (HAS.out w1 w2 bb bu bg HK1.out HB2.out HK2.out).mono ?_
    rintro e w3 ⟨_, rfl, rfl, s', ha, hB3, hk3, -, -⟩
    have htd : 0 ≤ key ∧ key.toNat ∈ s'.td ↔ FateB l key := by
      rcases ha with ⟨h1, h2, h3⟩ | ⟨h1, rfl⟩
      · obtain ⟨-, h4, -⟩ := h3.told (S := []) (fun i hi => can_noring hi) (fun a ha => by cases ha) (inv0 _)
        exact ⟨fun h => ⟨HR.out, h1, h2, h4.1 h.2⟩, fun h => ⟨h1, h4.2 h.2.2.2⟩⟩
      · exact ⟨fun h => (by cases h.2), fun h => absurd ⟨h.2.1, h.2.2.1⟩ h1⟩
    have HTD : Hid (0 ≤ key ∧ key.toNat ∈ s'.td ↔ FateB l key) := htd
    obtain ⟨tv, c0, c1, c2, c3, -⟩ := hB3.cells
    obtain ⟨D, hD, hU⟩ := hB3.gi
    have HD : Hid (w3.ownsMap Try.prog 3 (plainElem Try.prog 3) bg s'.td.length D) := hD
    have HU : Hid ((Maps.has D (kI key) = true ↔ 0 ≤ key ∧ key.toNat ∈ s'.td) ∧ D.atKey (kI key) (.lit (.int .i64 0)) = .lit (.int .i64 (fateV l key))) := by
      have h := hU key HWF.out
      refine ⟨h.1, ?_⟩
      by_cases hf : FateB l key
      · rw [fateV_yes hf]; exact h.2.1 (htd.2 hf)
      · rw [fateV_no hf]; exact h.2.2 (fun h' => hf (htd.1 h'))
    have HK3 : Hid (Kp (fun i => i < w.heap.size) w w3) := HK1.out.after (HK2.out.trans hk3)
    clear htd hD hU hk3 ha hB3
    go_wp2_with (first
      | (at_lookup; refine wpList_lookup_own_ok_int _ rfl _ _ 58 rfl 3 3 .i64 lawI Try.underlying58 Try.underlying3 (zero3 _) bg s'.td.length D rfl HD.out _ _ rfl (keyI HWF.out) ?_; intro c hat hwc
         have hcv : c = fateV l key := by rw [HU.out.2] at hat; injection hat with hat; injection hat with _ hat; exact hat.symm
         subst hcv; clear hat hwc))
    refine bodyPost_ret (results_tmp2 rfl _ _ _) rfl ⟨_, rfl, ⟨_, rfl, HU.out.1.trans HTD.out⟩, HK3.out⟩
  · have hne : (rightS l != 0) = true := by
      simp; exact fun h => hR ((rightS_iff l).1 h)
    have hf : ¬ FateB l key := fun h => hR h.1
    have HF : Hid (¬ FateB l key) := hf
    rw [fateV_no hf]
    clear hR hf hl
    go_enter Try.func13, Try.ntmps13
    go_wp2_with (first
      | (go_at_call 11; refine HRT.out.mono ?_; rintro e w1 ⟨_, rfl, rfl, hk1⟩; have HK1 : Hid (Kp (fun i => i < w.heap.size) w w1) := hk1; clear hk1))
    refine bodyPost_ret (results_tmp2 rfl _ _ _) rfl ⟨_, rfl, ⟨false, rfl, ⟨fun h => (by cases h), fun h => absurd h HF.out⟩⟩, HK1.out⟩

/-- The keys among numbers. -/
def valid (l : List Rc) : List Int → List Nat
  | [] => []
  | x :: r => if 0 ≤ x ∧ x < l.length then x.toNat :: valid l r else valid l r
theorem valid_app (l : List Rc) : ∀ (a b : List Int), valid l (a ++ b) = valid l a ++ valid l b
  | [], b => rfl
  | x :: r, b => by
    simp only [List.cons_append, valid]
    split
    · rw [valid_app l r b]; rfl
    · rw [valid_app l r b]
/-- What Order has told. -/
def OrderIs (l : List Rc) (keys : List Int) (td : List Nat) : Prop := (¬ RIGHT l → td = []) ∧ (RIGHT l → ∃ s1, Ak (CC l) (nd l) true s0 (valid l keys) s1 ∧ s1.td = td ∧ Inv (CC l) s1 [])

set_option maxHeartbeats 2000000 in
theorem order_any {Z : Nat → Prop} {w : World} {v kv : Value} {l : List Rc} {keys : List Int} (hl : RL Z w v l) (hks : IL Z w kv keys) (hZ : ∀ i, Z i → i < w.heap.size) (hwf : ∀ x ∈ keys, wfI x) :
    Calls Try.prog 14 #[v, kv] w (Ret fun r w' => (∃ td : List Nat, OwnI (fun i => i < w.heap.size) w' r (td.map Int.ofNat) ∧ OrderIs l keys td ∧ td.length ≤ 100) ∧ Kp (fun i => i < w.heap.size) w w') := by
  have HL : Hid (RL Z w v l) := hl
  have HKS : Hid (IL Z w kv keys) := hks
  have HRT : Hid (Calls Try.prog 11 #[v] w _) := right_any hl hZ
  have HWF : Hid (∀ x ∈ keys, wfI x) := hwf
  obtain ⟨q, kc, rfl, hk1, _⟩ := hks
  clear hwf
  by_cases hR : RIGHT l
  · have H0 : Hid (rightS l = 0) := (rightS_iff l).2 hR
    have HR : Hid (RIGHT l) := hR
    have HNB : Hid (∀ u, Kp (fun i => i < w.heap.size) w u → Calls Try.prog 31 #[v] u (Ret fun r w' => ∃ bb bu bg, r = P1 bb ∧ BM (fun i => i < u.heap.size) l v bb bu bg s0 w' ∧ Kp (fun i => i < u.heap.size) u w')) := fun u hu => newBuild_any (HL.out.kp (hu.mono hZ)) (short100 hR)
    have HAS : Hid (∀ (u u2 : World) (bb bu bg : Nat) (s : St) (key : Int), wfI key → Kp (fun i => i < w.heap.size) w u → BM (fun i => i < u.heap.size) l v bb bu bg s u2 → Kp (fun i => i < u.heap.size) u u2 → Inv (CC l) s [] → s.td.length + left l s ≤ 100 →
        Calls Try.prog 32 #[P1 bb, I key] u2 (Ret fun r w' => r = .tuple #[] ∧ ∃ s', AskedI l s key s' ∧ BM (fun i => i < u.heap.size) l v bb bu bg s' w' ∧ Kp (fun i => i < u.heap.size) u2 w' ∧ s'.td.length + left l s' ≤ s.td.length + left l s ∧ left l s' ≤ left l s)) := fun u u2 bb bu bg s key hw hu hB hk hI h100 =>
      ask_any hR _ _ s [] key u2 hw (fun i hi => Nat.lt_of_lt_of_le hi hk.size) (((HL.out.kp (hu.mono hZ)).mono fun i hi => Nat.lt_of_lt_of_le (hZ i hi) hu.size).kp hk) hB (fun _ _ a ha => by cases ha) hI h100 (Nat.le_refl _)
    clear hR hl
    go_enter Try.func14, Try.ntmps14
    go_wp2_with (first
      | (go_at_call 11; refine HRT.out.mono ?_; rintro e w1 ⟨_, rfl, rfl, hk1⟩; rw [H0.out]; have HK1 : Hid (Kp (fun i => i < w.heap.size) w w1) := hk1; clear hk1)
      | (go_at_call 31; refine (HNB.out _ HK1.out).mono ?_; rintro e w2 ⟨_, rfl, bb, bu, bg, rfl, hB2, hk2⟩; have HB2 : Hid (BM (fun i => i < w1.heap.size) l v bb bu bg s0 w2) := hB2; have HK2 : Hid (Kp (fun i => i < w1.heap.size) w1 w2) := hk2; clear hB2 hk2))
    go_loopw [15] (fun i u => ∃ t : Nat, t ≤ keys.length ∧ i = .int .i64 t ∧ ∃ s, Ak (CC l) (nd l) true s0 (valid l (keys.take t)) s ∧ BM (fun i => i < w1.heap.size) l v bb bu bg s u ∧ Inv (CC l) s [] ∧ s.td.length + left l s ≤ 100 ∧ Kp (fun i => i < w1.heap.size) w1 u) (fun i _ => keys.length - (intOf i).toNat)
    case atStart => exact ⟨0, Nat.zero_le _, rfl, s0, .nil _ _, HB2.out, inv0 _, left0 HR.out, HK2.out⟩
    case round =>
      obtain ⟨t, ht, rfl, s, hA, hB, hI, hs, hk⟩ := hrel
      have HA : Hid (Ak (CC l) (nd l) true s0 (valid l (keys.take t)) s) := hA
      have HB : Hid (BM (fun i => i < w1.heap.size) l v bb bu bg s wr) := hB
      have HI : Hid (Inv (CC l) s []) := hI
      have HS : Hid (s.td.length + left l s ≤ 100) := hs
      have HK : Hid (Kp (fun i => i < w1.heap.size) w1 wr) := hk
      have HKW : Hid (Kp (fun i => i < w.heap.size) w wr) := HK1.out.after hk
      clear hA hB hI hs hk
      by_cases hlt : t < keys.length
      · obtain ⟨nb, no, rfl, -, hcx⟩ := (HKS.out.kp (HKW.out.mono hZ)).at hlt
        have hwx : wfI (keys.getD t 0) := HWF.out _ (List.mem_of_getElem? (getD_some hlt 0))
        have HTK : Hid (keys.take (t + 1) = keys.take t ++ [keys.getD t 0]) := by show keys.take (t + 1) = _; rw [List.take_add_one, getD_some hlt 0]; rfl
        generalize keys.getD t 0 = x at hcx hwx HTK
        have HWX : Hid (wfI x) := hwx
        clear hwx
        go_wp2_with fail
        refine (HAS.out w1 wr bb bu bg s x HWX.out HK1.out HB.out HK.out HI.out HS.out).mono ?_
        rintro e w3 ⟨_, rfl, rfl, s', ha, hB3, hk3, hs3, -⟩
        have hA3 : Ak (CC l) (nd l) true s0 (valid l (keys.take (t + 1))) s' ∧ Inv (CC l) s' [] := by
          rw [HTK.out, valid_app]
          rcases ha with ⟨h1, h2, h3⟩ | ⟨h1, rfl⟩
          · have e : valid l [x] = [x.toNat] := by simp [valid, h1, h2]
            rw [e]
            exact ⟨HA.out.snoc (fun _ _ => .inl rfl) h3, (h3.told (S := []) (fun i hi => can_noring hi) (fun a ha => by cases ha) HI.out).1⟩
          · have e : valid l [x] = [] := by simp only [valid]; rw [if_neg h1]
            rw [e, List.append_nil]
            exact ⟨HA.out, HI.out⟩
        have HA3 : Hid (Ak (CC l) (nd l) true s0 (valid l (keys.take (t + 1))) s' ∧ Inv (CC l) s' []) := hA3
        have HB3 : Hid (BM (fun i => i < w1.heap.size) l v bb bu bg s' w3) := hB3
        have HK3 : Hid (Kp (fun i => i < w1.heap.size) w1 w3) := HK.out.trans hk3
        have HS3 : Hid (s'.td.length + left l s' ≤ 100) := Nat.le_trans hs3 HS.out
        clear ha hA3 hB3 hk3 hs3
        go_wp2_with fail
        go_roundw
        case rel => exact ⟨t + 1, by omega, by go_num, s', HA3.out.1, HB3.out, HA3.out.2, HS3.out, HK3.out⟩
        case measure => simp [intOf]; omega
      · have : t = keys.length := by omega
        subst this
        obtain ⟨tv, c0, c1, c2, c3, -, -, hO⟩ := HB.out.cells
        have HO : Hid (OwnI (fun i => i < w1.heap.size ∨ i = bb ∨ i = bu ∨ i = bg) wr tv (s.td.map Int.ofNat)) := hO
        clear hO
        go_wp2_with fail
        go_ret
        refine ⟨_, rfl, ⟨s.td, HO.out.mono fun i hi => .inl (Nat.lt_of_lt_of_le hi HK1.out.size), ⟨fun h => absurd HR.out h, fun _ => ⟨s, by have := HA.out; rw [List.take_length] at this; exact this, rfl, HI.out⟩⟩, by have := HS.out; omega⟩, HKW.out⟩
  · have hne : (rightS l != 0) = true := by
      simp; exact fun h => hR ((rightS_iff l).1 h)
    have HR : Hid (¬ RIGHT l) := hR
    clear hR hl
    go_enter Try.func14, Try.ntmps14
    go_wp2_with (first
      | (go_at_call 11; refine HRT.out.mono ?_; rintro e w1 ⟨_, rfl, rfl, hk1⟩; have HK1 : Hid (Kp (fun i => i < w.heap.size) w w1) := hk1; clear hk1))
    go_ret
    exact ⟨_, rfl, ⟨[], OwnI.nil _ _, ⟨fun _ => rfl, fun h => absurd h HR.out⟩, by simp⟩, HK1.out⟩
end Go.Proofs.Ytgohfdgkihoilaa.Rcp
