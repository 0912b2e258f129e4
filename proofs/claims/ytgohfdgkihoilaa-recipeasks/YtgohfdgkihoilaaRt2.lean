/- What Right of package recipe does. -/
import Derived.Test.YtgohfdgkihoilaaRt
set_option linter.unusedSimpArgs false
set_option linter.unusedVariables false
namespace Go.Proofs.Ytgohfdgkihoilaa.Rcp
open Go Go.RowKit Go.Deep Go.Maps

theorem Kp.after {w u u' : World} (h : Kp (fun i => i < w.heap.size) w u) (k : Kp (fun i => i < u.heap.size) u u') : Kp (fun i => i < w.heap.size) w u' :=
  h.trans (k.mono fun i hi => Nat.lt_of_lt_of_le hi h.size)

/-- A box of a recipe stays. -/
theorem box5 {w w2 : World} {nv : Value} {x : Rc} (h : Kp (fun i => i < (w.alloc (.cells (rcC nv x) 43)).heap.size) (w.alloc (.cells (rcC nv x) 43)) w2) :
    w2.cell? ⟨w.heap.size, 0, none⟩ = some nv ∧ w2.cell? ⟨w.heap.size, 1, none⟩ = some (I x.level) ∧ w2.cell? ⟨w.heap.size, 2, none⟩ = some (I x.act) ∧ w2.cell? ⟨w.heap.size, 3, none⟩ = some (I x.value) ∧ w2.cell? ⟨w.heap.size, 4, none⟩ = some (I x.fin) ∧ w.heap.size < w2.heap.size ∧ Kp (fun i => i < w.heap.size) w w2 := by
  have hs : w.heap.size < (w.alloc (.cells (rcC nv x) 43)).heap.size := by simp
  refine ⟨h.cell hs ?_, h.cell hs ?_, h.cell hs ?_, h.cell hs ?_, h.cell hs ?_, Nat.lt_of_lt_of_le hs h.size, (Kp.alloc (fun _ h => h) _).trans (h.mono fun i hi => Nat.lt_trans hi hs)⟩
  all_goals simp [World.cell?_alloc_at]

set_option maxHeartbeats 2000000 in
theorem right_any {Z : Nat → Prop} {w : World} {v : Value} {l : List Rc} (hl : RL Z w v l) (hZ : ∀ i, Z i → i < w.heap.size) :
    Calls Try.prog 11 #[v] w (Ret fun x w' => x = I (rightS l) ∧ Kp (fun i => i < w.heap.size) w w') := by
  have HL : Hid (RL Z w v l) := hl
  obtain ⟨p, cap, rfl, h1, _⟩ := hl
  by_cases hlong : 100 < l.length
  · have hr : rightS l = 2 := by unfold rightS; exact if_pos (Or.inl hlong)
    rw [hr]
    have hlong' : (100 : Int) < (l.length : Int) := by omega
    go_enter Try.func11, Try.ntmps11
    go_wp2_with fail
    go_ret
    exact ⟨_, rfl, rfl, Kp.refl _ _⟩
  have hlong' : ¬ (100 : Int) < (l.length : Int) := by omega
  have HC := contains_any HL.out hZ
  by_cases hneed : ∃ x ∈ l, 20 < x.needs.length
  · have hr : rightS l = 2 := by unfold rightS; exact if_pos (Or.inr hneed)
    rw [hr]
    have HC2 : Hid (Calls Try.prog 26 #[.slice p l.length cap, .func (.func 27) #[] #[]] w fun e w' => e = .returned (Bl true) ∧ Kp (fun i => i < w.heap.size) w w') := HC.mono fun e w' h => by
      obtain ⟨_, rfl, ⟨b, rfl, hb⟩, hk⟩ := h
      rw [hb.2 hneed]; exact ⟨rfl, hk⟩
    clear HC hneed hr
    go_enter Try.func11, Try.ntmps11
    go_wp2_with (go_at_call 26; refine HC2.out.mono ?_; rintro e w' ⟨rfl, hk⟩)
    go_ret
    exact ⟨_, rfl, rfl, hk⟩
  have hshort : ¬ Long l := by rintro (h | h); exact hlong h; exact hneed h
  have HSH : Hid (¬ Long l) := hshort
  have HC2 : Hid (Calls Try.prog 26 #[.slice p l.length cap, .func (.func 27) #[] #[]] w fun e w' => e = .returned (Bl false) ∧ Kp (fun i => i < w.heap.size) w w') := HC.mono fun e w' h => by
    obtain ⟨_, rfl, ⟨b, rfl, hb⟩, hk⟩ := h
    cases b with
    | false => exact ⟨rfl, hk⟩
    | true => exact absurd (hb.1 rfl) hneed
  clear HC hneed hshort
  by_cases h0 : l.length = 0
  · have hr : rightS l = 110 := by unfold rightS; rw [if_neg HSH.out, if_neg]; rintro ⟨h, _⟩; omega
    rw [hr]
    have h0' : ((l.length : Int) == 0) = true := by rw [beq_iff_eq]; omega
    clear hr h0
    go_enter Try.func11, Try.ntmps11
    go_wp2_with (go_at_call 26; refine HC2.out.mono ?_; rintro e w' ⟨rfl, hk⟩)
    go_ret
    exact ⟨_, rfl, rfl, hk⟩
  have h0' : ((l.length : Int) == 0) = false := by rw [beq_eq_false_iff_ne]; omega
  have H0 : Hid (0 < l.length) := (by omega : 0 < l.length)
  clear h0
  go_enter Try.func11, Try.ntmps11
  go_wp2_with (go_at_call 26; refine HC2.out.mono ?_; rintro e w1 ⟨rfl, hk⟩)
  have HK : Hid (Kp (fun i => i < w.heap.size) w w1) := hk
  clear hk
  go_loopw [17] (fun i u => ∃ k : Nat, k ≤ l.length ∧ i = .int .i64 k ∧ (∀ j, j < k → okR (l.getD j r0) ∧ okN l (l.getD j r0)) ∧ Kp (fun i => i < w.heap.size) w u) (fun i _ => l.length - (intOf i).toNat)
  case atStart => exact ⟨0, Nat.zero_le _, rfl, fun i hi => absurd hi (Nat.not_lt_zero _), HK.out⟩
  case round =>
    obtain ⟨k, hk, rfl, hso, hbl⟩ := hrel
    have HS : Hid (∀ j, j < k → okR (l.getD j r0) ∧ okN l (l.getD j r0)) := hso
    have HB : Hid (Kp (fun i => i < w.heap.size) w wr) := hbl
    have HLr : Hid (RL Z wr (.slice p l.length cap) l) := HL.out.kp (hbl.mono hZ)
    have hZr : ∀ i, Z i → i < wr.heap.size := fun i hi => Nat.lt_of_lt_of_le (hZ i hi) hbl.size
    clear hso hbl
    by_cases hlt : k < l.length
    · obtain ⟨blk, off, nv, rfl, hz, hr, hn, c0, c1, c2, c3, c4⟩ := HLr.out.at hlt
      have HN : Hid (IL Z wr nv (l.getD k r0).needs) := hn
      obtain ⟨q, nc, rfl, hn1, _⟩ := hn
      have HM : Hid (l.getD k r0 ∈ l) := List.mem_of_getElem? (getD_some hlt r0)
      generalize hx : l.getD k r0 = x at c0 c1 c2 c3 c4 HN HM hn1
      have HX : Hid (l.getD k r0 = x) := hx
      have HBE : Hid (∀ u, Calls Try.prog 28 #[.agg (rcC (.slice q x.needs.length nc) x)] u (Ret fun v w' => (∃ b, v = Bl b ∧ (b = true ↔ okR x)) ∧ Kp (fun i => i < u.heap.size) u w')) := fun u => mayBe_any _ x u
      have HNE : Hid (∀ u, Kp (fun i => i < wr.heap.size) wr u → Calls Try.prog 29 #[.slice (some ⟨blk, off, none⟩) l.length cap, .agg (rcC (.slice q x.needs.length nc) x)] u (Ret fun v w' => (∃ b, v = Bl b ∧ (b = true ↔ okN l x)) ∧ Kp (fun i => i < u.heap.size) u w')) := fun u hu =>
        mayNeed_any (HLr.out.kp (hu.mono hZr)) (HN.out.kp (hu.mono hZr)) (hu.mono hZr |>.lt hZr)
      clear hr hx
      by_cases hok : okR x
      · have HOK : Hid (okR x) := hok
        by_cases hon : okN l x
        · have HON : Hid (okN l x) := hon
          clear hok hon
          go_wp2_with (first
            | (go_at_call 28; refine (HBE.out _).mono ?_; rintro e w2 ⟨_, rfl, ⟨b, rfl, hb⟩, hk2⟩; obtain rfl := hb.2 HOK.out; clear hb; obtain ⟨b0, b1, b2, b3, b4, hs2, hk3⟩ := box5 hk2; have HK2 : Hid (Kp (fun i => i < wr.heap.size) wr w2) := hk3; clear hk2 hk3)
            | (go_at_call 29; refine (HNE.out _ HK2.out).mono ?_; rintro e w4 ⟨_, rfl, ⟨b5, rfl, hb⟩, hk4⟩; obtain rfl := hb.2 HON.out; clear hb; have HK4 : Hid (Kp (fun i => i < wr.heap.size) wr w4) := HK2.out.after hk4; clear hk4))
          go_roundw
          case rel =>
            refine ⟨k + 1, by omega, by go_num, fun j hj => ?_, HB.out.after HK4.out⟩
            rcases Nat.lt_or_eq_of_le (Nat.le_of_lt_succ hj) with hj | rfl
            · exact HS.out j hj
            · rw [HX.out]; exact ⟨HOK.out, HON.out⟩
          case measure => simp [intOf]; omega
        · have HON : Hid (¬ okN l x) := hon
          clear hok hon
          go_wp2_with (first
            | (go_at_call 28; refine (HBE.out _).mono ?_; rintro e w2 ⟨_, rfl, ⟨b, rfl, hb⟩, hk2⟩; obtain rfl := hb.2 HOK.out; clear hb; obtain ⟨b0, b1, b2, b3, b4, hs2, hk3⟩ := box5 hk2; have HK2 : Hid (Kp (fun i => i < wr.heap.size) wr w2) := hk3; clear hk2 hk3)
            | (go_at_call 29; refine (HNE.out _ HK2.out).mono ?_; rintro e w4 ⟨_, rfl, ⟨b5, rfl, hb⟩, hk4⟩; have hbf := Bool.eq_false_iff.2 (fun h => HON.out (hb.1 h)); subst hbf; clear hb; have HK4 : Hid (Kp (fun i => i < wr.heap.size) wr w4) := HK2.out.after hk4; clear hk4))
          go_ret
          refine ⟨_, rfl, ?_, HB.out.after HK4.out⟩
          show I 110 = I (rightS l)
          unfold rightS
          rw [if_neg HSH.out, if_neg (fun hg => HON.out (hg.2 _ HM.out).2)]
      · have HOK : Hid (¬ okR x) := hok
        clear hok
        go_wp2_with (first
          | (go_at_call 28; refine (HBE.out _).mono ?_; rintro e w2 ⟨_, rfl, ⟨b, rfl, hb⟩, hk2⟩; have hbf := Bool.eq_false_iff.2 (fun h => HOK.out (hb.1 h)); subst hbf; clear hb; obtain ⟨b0, b1, b2, b3, b4, hs2, hk3⟩ := box5 hk2; have HK2 : Hid (Kp (fun i => i < wr.heap.size) wr w2) := hk3; clear hk2 hk3))
        go_ret
        refine ⟨_, rfl, ?_, HB.out.after HK2.out⟩
        show I 110 = I (rightS l)
        unfold rightS
        rw [if_neg HSH.out, if_neg (fun hg => HOK.out (hg.2 _ HM.out).1)]
    · have : k = l.length := by omega
      subst this
      go_wp2_with fail
      go_ret
      refine ⟨_, rfl, ?_, HB.out⟩
      have hg : Good l := ⟨H0.out, fun r hr => by
        obtain ⟨i, hi, rfl⟩ := List.mem_iff_getElem.1 hr
        have := HS.out i hi
        rw [List.getD_eq_getElem?_getD, List.getElem?_eq_getElem hi] at this
        simpa using this⟩
      show I 0 = I (rightS l)
      unfold rightS
      rw [if_neg HSH.out, if_pos hg]
end Go.Proofs.Ytgohfdgkihoilaa.Rcp
