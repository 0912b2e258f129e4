/- What the document's Fate (20) does. -/
import Derived.Test.YtgohfdgkihoilaaFts
import Derived.Test.YtgohfdgkihoilaaFat
set_option linter.unusedSimpArgs false
set_option linter.unusedVariables false
namespace Go.Proofs.Ytgohfdgkihoilaa.Rcp
open Go Go.RowKit Go.Deep Go.Maps

set_option maxHeartbeats 2000000 in
theorem refFate_any {Z : Nat → Prop} {w : World} {v : Value} {l : List Rc} (hl : RL Z w v l) (hZ : ∀ i, Z i → i < w.heap.size) {key : Int} :
    Calls Try.prog 20 #[v, I key] w (Ret fun r w' => (∃ b, r = .tuple #[.bool b, I (fateV l key)] ∧ (b = true ↔ FateB l key)) ∧ Kp (fun i => i < w.heap.size) w w') := by
  have HL : Hid (RL Z w v l) := hl
  have HRT : Hid (Calls Try.prog 18 #[v] w _) := refRight_any hl hZ
  obtain ⟨p, cap, rfl, h1, _⟩ := hl
  by_cases hR : RIGHT l
  · have H0 : Hid (rightS l = 0) := (rightS_iff l).2 hR
    by_cases hk0 : key < 0
    · have hf : ¬ FateB l key := fun h => by have := h.2.1; omega
      have HF : Hid (¬ FateB l key) := hf
      rw [fateV_no hf]
      clear hf
      go_enter Try.func20, Try.ntmps20
      go_wp2_with (first
        | (go_at_call 18; refine HRT.out.mono ?_; rintro e w1 ⟨_, rfl, rfl, hk1⟩; rw [H0.out]; have HK1 : Hid (Kp (fun i => i < w.heap.size) w w1) := hk1; clear hk1))
      refine bodyPost_ret (results_tmp2 rfl _ _ _) rfl ⟨_, rfl, ⟨false, rfl, ⟨fun h => (by cases h), fun h => absurd h HF.out⟩⟩, HK1.out⟩
    have hk0' : decide (key < 0) = false := decide_eq_false hk0
    by_cases hkn : (l.length : Int) ≤ key
    · have hf : ¬ FateB l key := fun h => by have := h.2.2.1; omega
      have HF : Hid (¬ FateB l key) := hf
      rw [fateV_no hf]
      clear hf hk0
      go_enter Try.func20, Try.ntmps20
      go_wp2_with (first
        | (go_at_call 18; refine HRT.out.mono ?_; rintro e w1 ⟨_, rfl, rfl, hk1⟩; rw [H0.out]; have HK1 : Hid (Kp (fun i => i < w.heap.size) w w1) := hk1; clear hk1))
      refine bodyPost_ret (results_tmp2 rfl _ _ _) rfl ⟨_, rfl, ⟨false, rfl, ⟨fun h => (by cases h), fun h => absurd h HF.out⟩⟩, HK1.out⟩
    have hkn' : decide ((l.length : Int) ≤ key) = false := decide_eq_false hkn
    obtain ⟨k, rfl⟩ := Int.eq_ofNat_of_zero_le (by omega : 0 ≤ key)
    have hk : k < l.length := by omega
    have HFT : Hid (∀ u, Kp (fun i => i < w.heap.size) w u → Calls Try.prog 35 #[.slice p l.length cap] u _) := fun u hu => fates35_any (HL.out.kp (hu.mono hZ)) ((hu.mono hZ).lt hZ) hR
    have HFB : Hid (FateB l k ↔ CC l k) := fateB_nat hR hk
    have HFV : Hid (fateV l k = VV l k) := fateV_nat hR hk
    have HK : Hid (k < l.length) := hk
    have hkl : (k : Int) < (l.length : Int) := by omega
    clear hk0 hkn hR
    go_enter Try.func20, Try.ntmps20
    go_wp2_with (first
      | (go_at_call 18; refine HRT.out.mono ?_; rintro e w1 ⟨_, rfl, rfl, hk1⟩; rw [H0.out]; have HK1 : Hid (Kp (fun i => i < w.heap.size) w w1) := hk1; clear hk1)
      | (go_at_call 35; refine (HFT.out _ HK1.out).mono ?_; rintro e w2 ⟨_, rfl, ⟨cb, gb, M, rfl, -, -, hc, hg, hM⟩, hk2⟩; have HM : Hid (M k = true ↔ CC l k) := hM k HK.out; have cc := hc.cell HK.out; have cg := hg.cell HK.out; clear hc hg hM; have HK2 : Hid (Kp (fun i => i < w1.heap.size) w1 w2) := hk2; clear hk2))
    go_quiet (fail)
    go_wp2_with fail
    refine bodyPost_ret (results_tmp2 rfl _ _ _) rfl ⟨_, rfl, ⟨M k, by rw [HFV.out]; rfl, HM.out.trans HFB.out.symm⟩, (HK1.out.after HK2.out).trans (Kp.drewN _ _)⟩
  · have hne : (rightS l != 0) = true := by
      simp; exact fun h => hR ((rightS_iff l).1 h)
    have hf : ¬ FateB l key := fun h => hR h.1
    have HF : Hid (¬ FateB l key) := hf
    rw [fateV_no hf]
    clear hR hf
    go_enter Try.func20, Try.ntmps20
    go_wp2_with (first
      | (go_at_call 18; refine HRT.out.mono ?_; rintro e w1 ⟨_, rfl, rfl, hk1⟩; have HK1 : Hid (Kp (fun i => i < w.heap.size) w w1) := hk1; clear hk1))
    refine bodyPost_ret (results_tmp2 rfl _ _ _) rfl ⟨_, rfl, ⟨false, rfl, ⟨fun h => (by cases h), fun h => absurd h HF.out⟩⟩, HK1.out⟩
end Go.Proofs.Ytgohfdgkihoilaa.Rcp
