/- What reachesItself and Rings of package recipe do. -/
import Derived.Test.YtgohfdgkihoilaaKeys
set_option linter.unusedSimpArgs false
set_option linter.unusedVariables false
namespace Go.Proofs.Ytgohfdgkihoilaa.Rcp
open Go Go.RowKit Go.Deep Go.Maps

theorem cf40 : ∀ args w, (callFunc 40 args).run Try.prog w = .ok (.enter 40 args) w := callFunc_go Try.func40 (by kernel_rfl) (by kernel_rfl)
/-- Blocks below B, but for one. -/
abbrev Zc (B bm : Nat) : Nat → Prop := fun i => i < B ∧ i ≠ bm
/-- What the closure has. -/
structure REnv (B bm bl bu br : Nat) (lv : Value) (l : List Rc) (w : World) : Prop where
  hl : RL (Zc B bm) w lv l
  cl : w.cell? ⟨bl, 0, none⟩ = some lv
  cu : w.cell? ⟨bu, 0, none⟩ = some (.map (some bm))
  cr : w.cell? ⟨br, 0, none⟩ = some (.func (.func 40) #[] #[P1 bl, P1 bu, P1 br])
  zl : Zc B bm bl
  zu : Zc B bm bu
  zr : Zc B bm br
  le : B ≤ w.heap.size
theorem REnv.kp {B bm bl bu br : Nat} {lv : Value} {l : List Rc} {w w' : World} (h : REnv B bm bl bu br lv l w) (k : Kp (Zc B bm) w w') : REnv B bm bl bu br lv l w' :=
  ⟨h.hl.kp k, k.cell h.zl h.cl, k.cell h.zu h.cu, k.cell h.zr h.cr, h.zl, h.zu, h.zr, Nat.le_trans h.le k.size⟩
/-- What has been reached. -/
structure Reached (N : Nat → List Nat) (k : Nat) (M M' : Nat → Prop) : Prop where
  old : ∀ i, M i → M' i
  new : ∀ i, M' i → M i ∨ Rch N k i
  clo : ∀ i, M' i → M i ∨ ∀ j ∈ N i, M' j
theorem Reached.refl (N : Nat → List Nat) (k : Nat) (M : Nat → Prop) : Reached N k M M := ⟨fun _ h => h, fun _ h => .inl h, fun _ h => .inl h⟩
theorem Reached.step {N : Nat → List Nat} {k x : Nat} {M M1 M2 : Nat → Prop} (h : Reached N k M M1) (hx : x ∈ N k) (h2 : Reached N x (fun i => M1 i ∨ i = x) M2) (hN : ∀ j ∈ N x, M2 j) : Reached N k M M2 where
  old i hi := h2.old i (.inl (h.old i hi))
  new i hi := by
    rcases h2.new i hi with (h1 | rfl) | h1
    · exact h.new i h1
    · exact .inr (.one hx)
    · exact .inr (.step hx h1)
  clo i hi := by
    rcases h2.clo i hi with (h1 | rfl) | h1
    · rcases h.clo i h1 with h3 | h3
      · exact .inl h3
      · exact .inr fun j hj => h2.old j (.inl (h3 j hj))
    · exact .inr hN
    · exact .inr h1
abbrev unS (l : List Rc) (M : Nat → Prop) : Int → Prop := fun k => 0 ≤ k ∧ k < l.length ∧ ¬ M k.toNat
theorem SetM.congr {w : World} {b n : Nat} {U U' : Int → Prop} (h : SetM w b n U) (e : ∀ k, U k ↔ U' k) : SetM w b n U' := by
  obtain ⟨D, hD, hU⟩ := h
  exact ⟨D, hD, fun k hk => (hU k hk).trans (e k)⟩
theorem needs_ok {l : List Rc} (hR : RIGHT l) {k t : Nat} (hk : k < l.length) (ht : t < (l.getD k r0).needs.length) : ∃ x : Nat, (l.getD k r0).needs.getD t 0 = x ∧ x < l.length ∧ x ∈ nd l k ∧ l.length ≤ 100 := by
  have hm : l.getD k r0 ∈ l := List.mem_of_getElem? (getD_some hk r0)
  have h := (hR.good.2 _ hm).2 _ (List.mem_of_getElem? (getD_some ht 0))
  refine ⟨((l.getD k r0).needs.getD t 0).toNat, by omega, by omega, ?_, ?_⟩
  · exact List.mem_map_of_mem (List.mem_of_getElem? (getD_some ht 0))
  · have := hR.short; unfold Long at this; omega

set_option maxHeartbeats 2000000 in
theorem reach_any {B bm bl bu br n : Nat} {lv : Value} {l : List Rc} (hR : RIGHT l) : ∀ (f : Nat) (M : Nat → Prop) (k : Nat) (w : World), k < l.length → cnt l.length (fun i => ¬ M i) ≤ f → REnv B bm bl bu br lv l w → SetM w bm n (unS l M) →
    Calls Try.prog 40 #[I k, P1 bl, P1 bu, P1 br] w (Ret fun r w' => r = .tuple #[] ∧ ∃ M', SetM w' bm n (unS l M') ∧ Reached (nd l) k M M' ∧ (∀ j ∈ nd l k, M' j) ∧ Kp (fun i => i < w.heap.size ∧ i ≠ bm) w w') := by
  have hcf := cf40
  intro f
  induction f using Nat.strongRecOn with
  | ind f ih =>
    intro M k w hk hf hE hS
    have HIH : Hid (∀ m, m < f → ∀ (M : Nat → Prop) (k : Nat) (w : World), k < l.length → cnt l.length (fun i => ¬ M i) ≤ m → REnv B bm bl bu br lv l w → SetM w bm n (unS l M) →
      Calls Try.prog 40 #[I k, P1 bl, P1 bu, P1 br] w (Ret fun r w' => r = .tuple #[] ∧ ∃ M', SetM w' bm n (unS l M') ∧ Reached (nd l) k M M' ∧ (∀ j ∈ nd l k, M' j) ∧ Kp (fun i => i < w.heap.size ∧ i ≠ bm) w w')) := ih
    have HE : Hid (REnv B bm bl bu br lv l w) := hE
    have HS : Hid (SetM w bm n (unS l M)) := hS
    have HF : Hid (cnt l.length (fun i => ¬ M i) ≤ f) := hf
    obtain ⟨p, cap, rfl, h1, _⟩ := hE.hl
    have hkl : (k : Int) < (l.length : Int) := by omega
    obtain ⟨blk, off, nv, rfl, hz, hr, hn, c0, -⟩ := hE.hl.at hk
    have HN : Hid (IL (Zc B bm) w nv (l.getD k r0).needs) := hn
    obtain ⟨q, nc, rfl, hn1, _⟩ := hn
    obtain ⟨-, cl, cu, cr, zl, zu, zr, le⟩ := hE
    have HNl : Hid ((nd l k).length = (l.getD k r0).needs.length) := by show (nd l k).length = _; simp [nd]
    clear ih hS hf hr
    generalize hnn : (l.getD k r0).needs.length = nn at c0 hn1 HNl HN
    have HNN : Hid ((l.getD k r0).needs.length = nn) := hnn
    clear hnn
    go_enter Try.func40, Try.ntmps40
    go_wp2_with fail
    go_loopw [13] (fun i u => ∃ t : Nat, t ≤ nn ∧ i = .int .i64 t ∧ ∃ M1, SetM u bm n (unS l M1) ∧ Reached (nd l) k M M1 ∧ (∀ j ∈ (nd l k).take t, M1 j) ∧ Kp (fun i => i < w.heap.size ∧ i ≠ bm) w u) (fun i _ => nn - (intOf i).toNat)
    case atStart => exact ⟨0, Nat.zero_le _, rfl, M, HS.out, Reached.refl _ _ _, fun j hj => by simp at hj, Kp.refl _ _⟩
    case round =>
      obtain ⟨t, ht, rfl, M1, hS1, hr1, hj1, hk1⟩ := hrel
      have HS1 : Hid (SetM wr bm n (unS l M1)) := hS1
      have HR1 : Hid (Reached (nd l) k M M1) := hr1
      have HJ1 : Hid (∀ j ∈ (nd l k).take t, M1 j) := hj1
      have HK1 : Hid (Kp (fun i => i < w.heap.size ∧ i ≠ bm) w wr) := hk1
      have HEr : Hid (REnv B bm bl bu br (.slice (some ⟨blk, off, none⟩) l.length cap) l wr) := HE.out.kp (hk1.mono fun i hi => ⟨Nat.lt_of_lt_of_le hi.1 HE.out.le, hi.2⟩)
      clear hS1 hr1 hj1 hk1 cl cu cr c0
      by_cases hlt : t < nn
      · obtain ⟨x, hx, hxl, hxn, h100⟩ := needs_ok hR hk (by rw [HNN.out]; exact hlt)
        obtain ⟨nb, no, rfl, -, hcx⟩ := (HN.out.kp (HK1.out.mono fun i hi => ⟨Nat.lt_of_lt_of_le hi.1 HE.out.le, hi.2⟩)).at (by rw [HNN.out]; exact hlt)
        rw [hx] at hcx
        obtain ⟨-, cl, cu, cr, -⟩ := HEr.out
        have HXN : Hid (x ∈ nd l k) := hxn
        have HXT : Hid ((nd l k).take (t + 1) = (nd l k).take t ++ [x]) := by
          show (nd l k).take (t + 1) = (nd l k).take t ++ [x]
          rw [List.take_add_one, show (nd l k)[t]? = some x by unfold nd; rw [List.getElem?_map, getD_some (by rw [HNN.out]; exact hlt) 0, hx]; simp]
          rfl
        have HWF : Hid (wfI (x : Int)) := ⟨by omega, by omega⟩
        have HTK : Hid (Calls Try.prog 41 #[.map (some bm), I (x : Int)] wr _) := take_any HS1.out HWF.out
        have hxl' : (x : Int) < (l.length : Int) := by omega
        clear hx hxn
        by_cases hM : M1 x
        · have HM : Hid (M1 x) := hM
          clear hM
          go_wp2_with (first
            | (go_at_call 41; refine HTK.out.mono ?_; rintro e w2 ⟨_, rfl, ⟨c, rfl, hc⟩, hS2, hk2⟩; have hcf := Bool.eq_false_iff.2 (fun h => (hc.1 h).2.2 HM.out); subst hcf; clear hc; have HS2 : Hid (SetM w2 bm n _) := hS2; have HK2 : Hid (Kp (fun i => i < wr.heap.size ∧ i ≠ bm) wr w2) := hk2; clear hS2 hk2))
          go_roundw
          case rel =>
            refine ⟨t + 1, by omega, by go_num, M1, HS2.out.congr fun i => ⟨fun h => h.1, fun h => ⟨h, fun e => by subst e; exact h.2.2 HM.out⟩⟩, HR1.out, ?_, HK1.out.trans (HK2.out.mono fun i hi => ⟨Nat.lt_of_lt_of_le hi.1 HK1.out.size, hi.2⟩)⟩
            rw [HXT.out]
            intro j hj
            rcases List.mem_append.1 hj with hj | hj
            · exact HJ1.out j hj
            · simp at hj; subst hj; exact HM.out
          case measure => simp [intOf]; omega
        · have HM : Hid (¬ M1 x) := hM
          clear hM
          go_wp2_with (first
            | (go_at_call 41; refine HTK.out.mono ?_; rintro e w2 ⟨_, rfl, ⟨c, rfl, hc⟩, hS2, hk2⟩; obtain rfl := hc.2 ⟨by omega, hxl', HM.out⟩; clear hc; have HS2 : Hid (SetM w2 bm n _) := hS2; have HK2 : Hid (Kp (fun i => i < wr.heap.size ∧ i ≠ bm) wr w2) := hk2; have HE2 : Hid (REnv B bm bl bu br (.slice (some ⟨blk, off, none⟩) l.length cap) l w2) := HEr.out.kp (hk2.mono fun i hi => ⟨Nat.lt_of_lt_of_le hi.1 HEr.out.le, hi.2⟩); obtain ⟨-, cl2, cu2, cr2, -⟩ := HE2.out; clear hS2 hk2))
          have hlt2 : cnt l.length (fun i => ¬ (M1 i ∨ i = x)) < cnt l.length (fun i => ¬ M i) := cnt_lt (fun i _ h h' => h (.inl (HR1.out.old i h'))) hxl (fun h => h (.inr rfl)) (fun h' => HM.out (HR1.out.old x h'))
          refine (HIH.out _ (Nat.lt_of_lt_of_le hlt2 HF.out) (fun i => M1 i ∨ i = x) x w2 hxl (Nat.le_refl _) HE2.out (HS2.out.congr fun i => ⟨fun h => ⟨h.1.1, h.1.2.1, fun h' => h'.elim h.1.2.2 (fun e => h.2 (by omega))⟩, fun h => ⟨⟨h.1, h.2.1, fun h' => h.2.2 (.inl h')⟩, fun e => h.2.2 (.inr (by omega))⟩⟩)).mono ?_
          rintro e w3 ⟨_, rfl, rfl, M2, hS3, hr3, hj3, hk3⟩
          have HS3 : Hid (SetM w3 bm n (unS l M2)) := hS3
          have HR3 : Hid (Reached (nd l) x (fun i => M1 i ∨ i = x) M2) := hr3
          have HJ3 : Hid (∀ j ∈ nd l x, M2 j) := hj3
          have HK3 : Hid (Kp (fun i => i < w2.heap.size ∧ i ≠ bm) w2 w3) := hk3
          clear hS3 hr3 hj3 hk3 hlt2
          go_wp2_with fail
          go_roundw
          case rel =>
            refine ⟨t + 1, by omega, by go_num, M2, HS3.out, HR1.out.step HXN.out HR3.out HJ3.out, ?_, HK1.out.trans ((HK2.out.mono fun i hi => ⟨Nat.lt_of_lt_of_le hi.1 HK1.out.size, hi.2⟩).trans (HK3.out.mono fun i hi => ⟨Nat.lt_of_lt_of_le hi.1 (Nat.le_trans HK1.out.size HK2.out.size), hi.2⟩))⟩
            rw [HXT.out]
            intro j hj
            rcases List.mem_append.1 hj with hj | hj
            · exact HR3.out.old j (.inl (HJ1.out j hj))
            · simp at hj; subst hj; exact HR3.out.old j (.inr rfl)
          case measure => simp [intOf]; omega
      · have : t = nn := by omega
        subst this
        go_wp2_with fail
        refine bodyPost_end (results_none rfl _ _ _) rfl ⟨_, rfl, rfl, M1, HS1.out, HR1.out, ?_, HK1.out⟩
        intro j hj
        refine HJ1.out j ?_
        rw [List.take_of_length_le (by rw [HNl.out]; exact Nat.le_refl _)]
        exact hj
end Go.Proofs.Ytgohfdgkihoilaa.Rcp
