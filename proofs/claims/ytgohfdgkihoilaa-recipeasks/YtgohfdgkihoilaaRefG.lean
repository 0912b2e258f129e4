/- What the document's Rings (19) does. -/
import Derived.Test.YtgohfdgkihoilaaRch
import Derived.Test.YtgohfdgkihoilaaRefR2
set_option linter.unusedSimpArgs false
set_option linter.unusedVariables false
namespace Go.Proofs.Ytgohfdgkihoilaa.Rcp
open Go Go.RowKit Go.Deep Go.Maps

set_option maxHeartbeats 2000000 in
theorem refRings_any {Z : Nat → Prop} {w : World} {v : Value} {l : List Rc} (hl : RL Z w v l) (hZ : ∀ i, Z i → i < w.heap.size) :
    Calls Try.prog 19 #[v] w (Ret fun x w' => ∃ rs : List Int, OwnI (fun i => i < w.heap.size) w' x rs ∧ rs.length ≤ 100 ∧ (¬ RIGHT l → rs = []) ∧ (RIGHT l → rs = ringsTo l l.length) ∧ Kp (fun i => i < w.heap.size) w w') := by
  have HL : Hid (RL Z w v l) := hl
  have HRT : Hid (Calls Try.prog 18 #[v] w _) := refRight_any hl hZ
  obtain ⟨p, cap, rfl, h1, _⟩ := hl
  by_cases hR : RIGHT l
  · have h0 : rightS l = 0 := (rightS_iff l).2 hR
    have H0 : Hid (rightS l = 0) := h0
    have HR : Hid (RIGHT l) := hR
    have h100 := short100 hR
    clear h0 hR
    go_enter Try.func19, Try.ntmps19
    go_wp2_with (first
      | (go_at_call 18; refine HRT.out.mono ?_; rintro e w1 ⟨_, rfl, rfl, hk1⟩; rw [H0.out]; have HK1 : Hid (Kp (fun i => i < w.heap.size) w w1) := hk1; clear hk1))
    go_loopw [4, 5] (fun tv i u => ∃ k : Nat, k ≤ l.length ∧ i = .int .i64 k ∧ OwnI (fun i => i < w.heap.size) u tv (ringsTo l k) ∧ Kp (fun i => i < w.heap.size) w u) (fun _ i _ => l.length - (intOf i).toNat)
    case atStart => exact ⟨0, Nat.zero_le _, rfl, OwnI.nil _ _, HK1.out⟩
    case round =>
      obtain ⟨k, hk, rfl, hO, hbl⟩ := hrel
      have HO : Hid (OwnI (fun i => i < w.heap.size) wr u4 (ringsTo l k)) := hO
      have HB : Hid (Kp (fun i => i < w.heap.size) w wr) := hbl
      have hZr : ∀ i, Z i → i < wr.heap.size := fun i hi => Nat.lt_of_lt_of_le (hZ i hi) hbl.size
      have HLr : Hid (RL Z wr (.slice p l.length cap) l) := HL.out.kp (hbl.mono hZ)
      clear hO hbl
      by_cases hlt : k < l.length
      · have HIT : Hid (Calls Try.prog 34 #[.slice p l.length cap, I (k : Nat)] wr _) := reached_any HLr.out hZr HR.out hlt
        by_cases hr : Rch (nd l) k k
        · have HRR : Hid (Rch (nd l) k k) := hr
          clear hr
          go_wp2_with (first
            | (go_at_call 34; refine HIT.out.mono ?_; rintro e w2 ⟨_, rfl, ⟨ob, M, rfl, hob, hrow, hM⟩, hk2⟩; have hMk := (hM k).2 HRR.out; have hc := hrow.cell hlt; rw [hMk] at hc; clear hM hMk hrow hob; have HK2 : Hid (Kp (fun i => i < wr.heap.size) wr w2) := hk2; clear hk2)
            | (at_builtin; refine wp_app (n := (k : Int)) rfl (.tmp 24) (.tmp 26) rfl rfl rfl (HO.out.stay fun g hg => HK2.out.block g (HO.out.lt g hg)) (fun i hi => Nat.lt_of_lt_of_le hi (HB.out.after HK2.out).size) (Nat.le_trans (ringsTo_len l k) (by omega)) ?_; intro g4 c4 w4 hO4 hk4 hbk hloc hsz4))
          go_roundw
          case rel => exact ⟨k + 1, by omega, by go_num, by rw [ringsTo_yes HRR.out]; exact hO4, (HB.out.after HK2.out).trans hk4⟩
          case measure => simp [intOf]; omega
        · have HRR : Hid (¬ Rch (nd l) k k) := hr
          clear hr
          go_wp2_with (first
            | (go_at_call 34; refine HIT.out.mono ?_; rintro e w2 ⟨_, rfl, ⟨ob, M, rfl, hob, hrow, hM⟩, hk2⟩; have hMk : M k = false := Bool.eq_false_iff.2 (fun h => HRR.out ((hM k).1 h)); have hc := hrow.cell hlt; rw [hMk] at hc; clear hM hMk hrow hob; have HK2 : Hid (Kp (fun i => i < wr.heap.size) wr w2) := hk2; clear hk2))
          go_roundw
          case rel => exact ⟨k + 1, by omega, by go_num, by rw [ringsTo_no HRR.out]; exact HO.out.stay fun g hg => HK2.out.block g (HO.out.lt g hg), HB.out.after HK2.out⟩
          case measure => simp [intOf]; omega
      · have : k = l.length := by omega
        subst this
        go_wp2_with fail
        go_ret
        exact ⟨_, rfl, _, HO.out, Nat.le_trans (ringsTo_len l _) h100, fun h => absurd HR.out h, fun _ => rfl, HB.out⟩
  · have hne : (rightS l != 0) = true := by
      simp; exact fun h => hR ((rightS_iff l).1 h)
    have HR : Hid (¬ RIGHT l) := hR
    clear hR
    go_enter Try.func19, Try.ntmps19
    go_wp2_with (first
      | (go_at_call 18; refine HRT.out.mono ?_; rintro e w1 ⟨_, rfl, rfl, hk1⟩; have HK1 : Hid (Kp (fun i => i < w.heap.size) w w1) := hk1; clear hk1))
    go_ret
    exact ⟨_, rfl, [], OwnI.nil _ _, by simp, fun _ => rfl, fun h => absurd h HR.out, HK1.out⟩
end Go.Proofs.Ytgohfdgkihoilaa.Rcp
