/-
  What the statement WordApart does, for every word, fields and values: it answers true; of memory that was there nothing changes.
-/
import Derived.Test.YtaoahnpdhkdebaaAwake
import Derived.Test.YtaoahnpdhkdebaaFacts
namespace Go.Proofs.Ytaoahnpdhkdebaa
open Go.RowKit Pl

/-- What holds behind each call: of what was there nothing has changed, and both fields lie where they were laid. -/
structure Inv2 (w u : World) (a b c d : Int) : Prop where
  below : Below w.heap.size w u
  fa : u.cell? ⟨w.heap.size, 0, none⟩ = some (I a)
  fb : u.cell? ⟨w.heap.size, 1, none⟩ = some (I b)
  fc : u.cell? ⟨w.heap.size + 1, 0, none⟩ = some (I c)
  fd : u.cell? ⟨w.heap.size + 1, 1, none⟩ = some (I d)

theorem Inv2.later {w u u' : World} {a b c d : Int} (h : Inv2 w u a b c d) (hb : Below u.heap.size u u') : Inv2 w u' a b c d :=
  ⟨h.below.trans (hb.mono h.below.size), cell_later hb h.fa, cell_later hb h.fb, cell_later hb h.fc, cell_later hb h.fd⟩

theorem Inv2.start (w : World) (a b c d : Int) : Inv2 w ((w.alloc (.cells #[I a, I b] 26)).alloc (.cells #[I c, I d] 26)) a b c d := by
  refine ⟨((Below.refl _ _).alloc (Nat.le_refl _) _).alloc (by simp) _, ?_, ?_, ?_, ?_⟩ <;> simp [go_sem]

theorem putW_fits (x a b v : Int) : Fits (putW x a b v) := by
  unfold putW
  by_cases h : putB a b v = true
  · rw [if_pos h]; exact putI_fits _ _ _ _
  · rw [if_neg h]; exact fits0

theorem putE_0 {a b v : Int} (h : putB a b v = true) : putE a b v = 0 := by unfold putE; rw [h]; rfl

theorem apart_get {x a b c d v : Int} (hm : mayB c d = true) (hp : putB a b v = true) (h : Apart a.toNat b.toNat c.toNat d.toNat) : getW (putW x a b v) c d = getW x c d := by
  obtain ⟨⟨m1, m2, m3, m4⟩, _, _⟩ := putB_true hp
  obtain ⟨n1, n2, n3, n4⟩ := mayB_true hm
  unfold getW putW
  rw [if_pos hm, if_pos hm, if_pos hp]
  exact get_apart x v _ _ _ _ (by omega) (by omega) (by omega) h

theorem apart_put {x a b c d v z : Int} (hp : putB a b v = true) (hq : putB c d z = true) (h : Apart a.toNat b.toNat c.toNat d.toNat) : putW (putW x a b v) c d z = putW (putW x c d z) a b v := by
  obtain ⟨⟨m1, m2, m3, m4⟩, _, _⟩ := putB_true hp
  obtain ⟨⟨n1, n2, n3, n4⟩, _, _⟩ := putB_true hq
  simp only [putW, hp, hq, if_true]
  exact put_apart x v z _ _ _ _ (by omega) (by omega) h

set_option maxHeartbeats 1000000 in
theorem apart_any (x a b c d v z : Int) (w : World) (hx : Fits x) :
    Calls Try.prog 6 #[I x, F a b, F c d, I v, I z] w fun e u => e = .returned (.bool true) ∧ Below w.heap.size w u := by
  have HX : Hid (Fits x) := hx
  clear hx
  go_enter Try.func6, Try.ntmps6
  go_wp2_with fail
  refine (awake_any _).mono ?_
  rintro e w1 ⟨rfl, hb1⟩
  have HI1 : Hid (Inv2 w w1 a b c d) := (Inv2.start w a b c d).later hb1
  clear hb1
  have fa := HI1.out.fa
  have fb := HI1.out.fb
  have fc := HI1.out.fc
  have fd := HI1.out.fd
  go_wp2_with fail
  refine (right_any _ [(a, b), (c, d)] _ (two_fields w1 a b c d)).mono ?_
  rintro e w2 ⟨rfl, hb2⟩
  have HI2 : Hid (Inv2 w w2 a b c d) := (HI1.out.later ((Below.refl _ _).alloc (Nat.le_refl _) _)).later hb2
  clear hb2 HI1 fa fb fc fd
  have fa := HI2.out.fa
  have fb := HI2.out.fb
  have fc := HI2.out.fc
  have fd := HI2.out.fd
  by_cases hr : rightFrom 0 [(a, b), (c, d)] = true
  · obtain ⟨m1, m2, hap⟩ := right_two hr
    rw [hr]
    have HM1 : Hid (mayB a b = true) := m1
    have HM2 : Hid (mayB c d = true) := m2
    have HA : Hid (Apart a.toNat b.toNat c.toNat d.toNat) := hap
    clear hr m1 m2 hap
    go_wp2_with fail
    refine (put_any x a b v _ HX.out).mono ?_
    rintro e w3 ⟨rfl, hb3⟩
    have HI3 : Hid (Inv2 w w3 a b c d) := HI2.out.later hb3
    clear hb3 HI2 fa fb fc fd
    have fa := HI3.out.fa
    have fb := HI3.out.fb
    have fc := HI3.out.fc
    have fd := HI3.out.fd
    by_cases hp : putB a b v = true
    · have e1 : putE a b v = 0 := by unfold putE; rw [hp]; rfl
      rw [e1]
      have HP : Hid (putB a b v = true) := hp
      clear hp e1
      go_wp2_with fail
      refine (get_any _ c d _).mono ?_
      rintro e w4 ⟨rfl, hb4⟩
      have HI4 : Hid (Inv2 w w4 a b c d) := HI3.out.later hb4
      clear hb4 HI3 fa fb fc fd
      have fa := HI4.out.fa
      have fb := HI4.out.fb
      have fc := HI4.out.fc
      have fd := HI4.out.fd
      go_wp2_with fail
      refine (get_any x c d _).mono ?_
      rintro e w5 ⟨rfl, hb5⟩
      have HI5 : Hid (Inv2 w w5 a b c d) := HI4.out.later hb5
      clear hb5 HI4 fa fb fc fd
      have fa := HI5.out.fa
      have fb := HI5.out.fb
      have fc := HI5.out.fc
      have fd := HI5.out.fd
      go_wp2_with fail
      refine (put_any x c d z _ HX.out).mono ?_
      rintro e w6 ⟨rfl, hb6⟩
      have HI6 : Hid (Inv2 w w6 a b c d) := HI5.out.later hb6
      clear hb6 HI5 fa fb fc fd
      have fa := HI6.out.fa
      have fb := HI6.out.fb
      have fc := HI6.out.fc
      have fd := HI6.out.fd
      by_cases hq : putB c d z = true
      · have e1 : putE c d z = 0 := by unfold putE; rw [hq]; rfl
        rw [e1]
        have HQ : Hid (putB c d z = true) := hq
        clear hq e1
        go_wp2_with fail
        refine (put_any (putW x a b v) c d z _ (putW_fits _ _ _ _)).mono ?_
        rintro e w7 ⟨rfl, hb7⟩
        have HI7 : Hid (Inv2 w w7 a b c d) := HI6.out.later hb7
        clear hb7 HI6 fa fb fc fd
        have fa := HI7.out.fa
        have fb := HI7.out.fb
        go_wp2_with fail
        refine (put_any (putW x c d z) a b v _ (putW_fits _ _ _ _)).mono ?_
        rintro e w8 ⟨rfl, hb8⟩
        have HI8 : Hid (Inv2 w w8 a b c d) := HI7.out.later hb8
        clear hb8 HI7 fa fb
        rw [apart_put HP.out HQ.out HA.out, apart_get HM2.out HP.out HA.out, putE_0 HP.out, putE_0 HQ.out]
        go_wp2
        go_ret
        exact ⟨rfl, HI8.out.below⟩
      · have e1 : putE c d z = 10 := by unfold putE; rw [Bool.eq_false_iff.2 hq]; rfl
        rw [e1]
        clear hq e1
        rw [apart_get HM2.out HP.out HA.out]
        go_wp2
        go_ret
        exact ⟨rfl, HI6.out.below⟩
    · have e1 : putE a b v = 10 := by unfold putE; rw [Bool.eq_false_iff.2 hp]; rfl
      rw [e1]
      clear hp e1
      go_wp2
      go_ret
      exact ⟨rfl, HI3.out.below⟩
  · rw [Bool.eq_false_iff.2 hr]
    clear hr
    go_wp2
    go_ret
    exact ⟨rfl, HI2.out.below⟩

end Go.Proofs.Ytaoahnpdhkdebaa
