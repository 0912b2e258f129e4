/- CounterAlone, whatever the shards, the numbers and the ids: a counter of no world, added to by free threads; behind each Add its Sum is the sum of the shards' amounts, each within 32 bits with a sign; the law answers true and its input reads as it did. Part 24 of 34. (Joined, by program, of: CtW, GLit, CtA.) -/
import Derived.Test.YtcfmffmcammbjaaDoorCounterAlone06
import Derived.Test.YtcfmffmcammbjaaDoorCounterAlone08
import Derived.Test.YtcfmffmcammbjaaDoorCounterAlone22
import Derived.Test.YtcfmffmcammbjaaDoorCounterAlone23
import Derived.Deep.RegionHeld3
import Derived.BigRegion
import Derived.Deep.RegionLaw

/- counter's plain functions: added (87), total (90), slices.Equal (89). -/
set_option linter.unusedSimpArgs false
set_option linter.unusedVariables false
namespace Go.Proofs.YtcfmffmcammbjaaDoor.R1
open Go.RowKit Go.Proofs.YtcfmffmcammbjaaDoor.Pl

theorem get_at (x : Int) (a b : Nat) (w : World) (h1 : 1 ≤ b) (h2 : b ≤ 62) (h3 : a + b ≤ 64) {a' b' : Int} (ha : a' = a) (hb : b' = b) :
    Calls Tryd.prog 65 #[I x, F a' b'] w fun e w' => e = .returned (I (getI x a b)) ∧ Below w.heap.size w w' := by
  subst ha hb; exact get_yes x a b w h1 h2 h3
theorem putI_wrap (x : Int) (a b : Nat) (v : Int) : putI (wrap64 x) a b v = putI x a b v := by unfold putI; rw [ofInt_wrap]
theorem put_step0 {x v y : Int} {a k : Nat} (h : a + k < 64) (hy : y = putI x a k v ∨ (k = 0 ∧ y = x)) :
    bits .or .i64 (bits .andNot .i64 y (wrap64 (2 ^ (a + k)))) (wrap64 (bI v k * 2 ^ (a + k))) = putI x a (k + 1) v := by
  have hst := putI_step x v a k h
  rw [Int.one_mul] at hst
  rcases hy with rfl | ⟨rfl, rfl⟩
  · exact hst
  · have e : putI y a 0 v = wrap64 y := by rw [← putI_wrap, putI_zero (wrap_fits y)]
    rw [e] at hst
    rw [← hst, bits_andNot_eq y, bits_andNot_eq (wrap64 y), ofInt_wrap y]
theorem below_drewN2 {B : Nat} {a w : World} (h : Below B a w) (n : Nat) : Below B a (w.drewN n) := h.trans ⟨rfl, rfl, rfl, Nat.le_refl _, fun _ _ => rfl⟩
set_option maxHeartbeats 4000000 in
theorem put_all (x : Int) (a b : Nat) (v : Int) (w : World) (h1 : 1 ≤ b) (h2 : b ≤ 62) (h3 : a + b ≤ 64) (v0 : 0 ≤ v) (v1 : v < 2 ^ b) :
    Calls Tryd.prog 103 #[I x, F a b, I v] w fun e w' => e = .returned (.tuple #[I (putI x a b v), I 0]) ∧ Below w.heap.size w w' := by
  have H : Hid (mayB a b = true) := ⟨decide_eq_true ⟨by omega, by omega, by omega, by omega⟩⟩
  have h64 : (a : Int) + b ≤ 64 := by omega
  rw [← wrap_pow h2] at v1
  go_enter Tryd.func103, Tryd.ntmps103
  go_wp2_with (go_at_call 100; refine (mayBe_any _ _ _).mono ?_; rintro e w' ⟨rfl, rfl⟩; rw [H.out])
  go_loopw [0, 26] (fun y i u => ∃ (k : Nat) (y0 : Int), k ≤ b ∧ i = .int .i64 k ∧ y = .int .i64 y0 ∧ (y0 = putI x a k v ∨ (k = 0 ∧ y0 = x)) ∧ u.cell? ⟨w.heap.size, 0, none⟩ = some (I a) ∧ Below w.heap.size w u) (fun _ i _ => b - (intOf i).toNat)
  case atStart => exact ⟨0, x, Nat.zero_le _, rfl, rfl, .inr ⟨rfl, rfl⟩, by simp, ((Below.refl _ _).alloc (Nat.le_refl _) _).alloc (by simp) _⟩
  case round =>
    obtain ⟨k, y0, hk, rfl, rfl, hy, hc, hb⟩ := hrel
    have HB : Hid (Below w.heap.size w _) := ⟨hb⟩
    have HY : Hid (y0 = putI x a k v ∨ (k = 0 ∧ y0 = x)) := ⟨hy⟩
    clear hb hy
    by_cases hlt : k < b
    · have hst : Hid (bits .or .i64 (bits .andNot .i64 y0 (wrap64 (2 ^ (a + k)))) (wrap64 (bI v k * 2 ^ (a + k))) = putI x a (k + 1) v) := ⟨put_step0 (by omega) HY.out⟩
      go_wp2
      go_quiet ((go_at_call 101; exact Calls.quiet_of_same (bit_any _ _ _ (by omega) (by omega))))
      go_wp2
      go_roundw
      case rel =>
        exact ⟨k + 1, _, by omega, by go_num, by rw [hst.out], .inl rfl, by simpa using hc, below_drewN2 HB.out _⟩
      case measure => simp [intOf]; omega
    · go_wp2
      go_ret2
      have : k = b := by omega
      subst this
      rcases HY.out with rfl | ⟨h, _⟩
      · exact ⟨rfl, HB.out⟩
      · omega
theorem put_at (x : Int) (a b : Nat) (v : Int) (w : World) (h1 : 1 ≤ b) (h2 : b ≤ 62) (h3 : a + b ≤ 64) (v0 : 0 ≤ v) (v1 : v < 2 ^ b) {a' b' : Int} (ha : a' = a) (hb : b' = b) :
    Calls Tryd.prog 103 #[I x, F a' b', I v] w fun e w' => e = .returned (.tuple #[I (putI x a b v), I 0]) ∧ Below w.heap.size w w' := by
  subst ha hb; exact put_all x a b v w h1 h2 h3 v0 v1
/-- A shard's amount behind an Add of n. -/
def amtA (v n : Int) : Int := IntKind.i64.wrap (IntKind.u32.wrap (IntKind.i64.wrap (getI v 0 32 + n)))
theorem amtA_eq (v n : Int) : amtA v n = (getI v 0 32 + n) % 4294967296 := by
  unfold amtA
  simp only [IntKind.wrap_i64, IntKind.wrap_u32]
  omega
theorem amtA_in (v n : Int) : 0 ≤ amtA v n ∧ amtA v n < 2 ^ 32 := by rw [amtA_eq]; omega
def addA (v n : Int) : Int := putI v 0 32 (amtA v n)
def addI (v n : Int) : Int := putI (addA v n) 32 30 ((getI (addA v n) 32 30 + 1) % 1073741824)
/-- The fields that the program's variables name. -/
structure Flds (w : World) : Prop where
  a0 : w.cell? ⟨6, 0, none⟩ = some (I 0)
  a1 : w.cell? ⟨6, 1, none⟩ = some (I 32)
  b0 : w.cell? ⟨7, 0, none⟩ = some (I 32)
  b1 : w.cell? ⟨7, 1, none⟩ = some (I 30)
theorem Flds.of {w w' : World} (h : Flds w) (k : ∀ a x, w.cell? a = some x → w'.cell? a = some x) : Flds w' := ⟨k _ _ h.a0, k _ _ h.a1, k _ _ h.b0, k _ _ h.b1⟩
theorem Flds.below {w w' : World} (h : Flds w) (hb : Below w.heap.size w w') : Flds w' := h.of fun a x ha => by rw [hb.cell (World.block_lt_of_cell? _ _ ha)]; exact ha
theorem keepF {u u' : World} (h : u.cell? ⟨6, 0, none⟩ = some (I 0) ∧ u.cell? ⟨6, 1, none⟩ = some (I 32) ∧ u.cell? ⟨7, 0, none⟩ = some (I 32) ∧ u.cell? ⟨7, 1, none⟩ = some (I 30)) (hb : Below u.heap.size u u') :
    u'.cell? ⟨6, 0, none⟩ = some (I 0) ∧ u'.cell? ⟨6, 1, none⟩ = some (I 32) ∧ u'.cell? ⟨7, 0, none⟩ = some (I 32) ∧ u'.cell? ⟨7, 1, none⟩ = some (I 30) := by
  have := Flds.below ⟨h.1, h.2.1, h.2.2.1, h.2.2.2⟩ hb
  exact ⟨this.a0, this.a1, this.b0, this.b1⟩

theorem blw_drew (w : World) : Below w.heap.size w w.drew := ⟨rfl, rfl, rfl, Nat.le_refl _, fun _ _ => rfl⟩
theorem blw3 {w w1 w2 : World} (h1 : Below w.drew.heap.size w.drew w1) (h2 : Below w1.heap.size w1 w2) : Below w.heap.size w w2 := ((blw_drew w).trans h1).trans (h2.mono h1.size)
theorem blw_next {w w1 w2 : World} (h1 : Below w.heap.size w w1) (h2 : Below w1.heap.size w1 w2) : Below w.heap.size w w2 := h1.trans (h2.mono h1.size)
/-- A version behind one more change. -/
def verB (x : Int) : Int := (IntKind.i64.wrap (getI x 32 30 + 1)).tmod 1073741824
theorem verB_eq (x : Int) : verB x = (getI x 32 30 + 1) % 1073741824 := by
  have h0 := getI_nonneg x 32 30
  have h1 := getI_lt x 32 30
  unfold verB
  rw [i64_wrap, wrap_id (by unfold Fits; omega), Int.tmod_eq_emod_of_nonneg (by omega)]
theorem verB_in (x : Int) : 0 ≤ verB x ∧ verB x < 2 ^ 30 := by rw [verB_eq]; omega
set_option maxHeartbeats 4000000 in
set_option maxRecDepth 100000 in
theorem added_any (v n : Int) (w : World) (hF : Flds w) : Body Tryd.f87 #[I v, I n] w (fun r w' => r = I (addI v n) ∧ Below w.heap.size w w') := by
  obtain ⟨a0, a1, b0, b1⟩ := hF
  intro code hcode
  obtain rfl := Option.some.inj hcode
  clear hcode
  simp only [Tryd.ntmps87, List.size_toArray, List.length_cons, List.length_nil, Nat.reduceAdd, Nat.reduceSub, Array.replicate_succ, Array.replicate_zero, List.push_toArray, List.append_toArray, List.nil_append, List.cons_append]
  go_wp2_with fail
  have HA : Hid (0 ≤ amtA v n ∧ amtA v n < 2 ^ 32) := ⟨amtA_in v n⟩
  go_region_held3 (fun u => u.cell? ⟨6, 0, none⟩ = some (I 0) ∧ u.cell? ⟨6, 1, none⟩ = some (I 32) ∧ u.cell? ⟨7, 0, none⟩ = some (I 32) ∧ u.cell? ⟨7, 1, none⟩ = some (I 30))
    (first | (exact keepF ‹_› ‹Below _ _ _›) | (simp [go_sem, *]; done))
    (first
      | (go_at_call 65; refine (get_at v 0 32 _ (by decide) (by decide) (by decide) rfl rfl).mono ?_; rintro e w1 ⟨rfl, hb1⟩)
      | (go_at_call 103; refine (put_at v 0 32 (amtA v n) _ (by decide) (by decide) (by decide) HA.out.1 HA.out.2 rfl rfl).mono ?_; rintro e w2 ⟨rfl, hb2⟩))
  rename_i hH
  have HB2 : Hid (Below w.heap.size w w2) := ⟨blw3 hb1 hb2⟩
  clear hb1 hb2 a0 a1 b0 b1
  obtain ⟨a0, a1, b0, b1⟩ := hH
  generalize hX : putI v 0 32 (amtA v n) = x
  have HX : Hid (addA v n = x) := ⟨hX⟩
  have HVB : Hid (0 ≤ verB x ∧ verB x < 2 ^ 30) := ⟨verB_in x⟩
  clear hX
  go_wp2_with fail
  go_region_held3 (fun u => u.cell? ⟨6, 0, none⟩ = some (I 0) ∧ u.cell? ⟨6, 1, none⟩ = some (I 32) ∧ u.cell? ⟨7, 0, none⟩ = some (I 32) ∧ u.cell? ⟨7, 1, none⟩ = some (I 30))
    (first | (exact keepF ‹_› ‹Below _ _ _›) | (simp [go_sem, *]; done))
    (first
      | (go_at_call 65; refine (get_at x 32 30 _ (by decide) (by decide) (by decide) rfl rfl).mono ?_; rintro e w3 ⟨rfl, hb3⟩)
      | (go_at_call 103; refine (put_at x 32 30 (verB x) _ (by decide) (by decide) (by decide) HVB.out.1 HVB.out.2 rfl rfl).mono ?_; rintro e w4 ⟨rfl, hb4⟩))
  rename_i hH
  have HB4 : Hid (Below w.heap.size w w4) := ⟨blw_next HB2.out (blw3 hb3 hb4)⟩
  clear hb3 hb4 a0 a1 b0 b1 hH
  go_wp2_with fail
  go_ret
  refine ⟨_, rfl, ?_, HB4.out⟩
  unfold addI
  rw [HX.out, ← verB_eq]
  rfl

/-- What an amount stands for. -/
def amtS (v : Int) : Int := wrap64 (wrap32 (getI v 0 32))
def totI (l : List Int) : Int := l.foldl (fun s v => wrap64 (s + amtS v)) 0
theorem totI_next {l : List Int} {k : Nat} {x : Int} (h : l[k]? = some x) : totI (l.take (k + 1)) = wrap64 (totI (l.take k) + amtS x) := by
  have hk := (List.getElem?_eq_some_iff.1 h).1
  rw [List.take_succ_eq_append_getElem hk]
  unfold totI
  rw [List.foldl_append]
  have : l[k] = x := by have := List.getElem?_eq_getElem hk; rw [this] at h; exact Option.some.inj h
  rw [this]; rfl
theorem cell_below {w w' : World} {a : Addr} {x : Value} (hb : Below w.heap.size w w') (h : w.cell? a = some x) : w'.cell? a = some x := by rw [hb.cell (World.block_lt_of_cell? _ _ h)]; exact h

set_option maxHeartbeats 4000000 in
set_option maxRecDepth 100000 in
theorem total_any (l : List Int) (b cap : Nat) (w : World) (hl : l.length ≤ 1000) (hF : Flds w) (hc : ∀ k x, l[k]? = some x → w.cell? ⟨b, k, none⟩ = some (I x)) :
    Body Tryd.f90 #[.slice (some ⟨b, 0, none⟩) l.length cap] w (fun r w' => r = I (totI l) ∧ Below w.heap.size w w') := by
  have HF : Hid (Flds w) := ⟨hF⟩
  have HC : Hid (∀ k x, l[k]? = some x → w.cell? ⟨b, k, none⟩ = some (I x)) := ⟨hc⟩
  clear hF hc
  intro code hcode
  obtain rfl := Option.some.inj hcode
  clear hcode
  simp only [Tryd.ntmps90, List.size_toArray, List.length_cons, List.length_nil, Nat.reduceAdd, Nat.reduceSub, Array.replicate_succ, Array.replicate_zero, List.push_toArray, List.append_toArray, List.nil_append, List.cons_append]
  go_wp2_with fail
  go_loopw [3, 8] (fun s i u => ∃ k : Nat, k ≤ l.length ∧ i = .int .i64 k ∧ s = I (totI (l.take k)) ∧ Below w.heap.size w u) (fun _ i _ => l.length - (intOf i).toNat)
  case atStart => exact ⟨0, Nat.zero_le _, rfl, rfl, Below.refl _ _⟩
  case round =>
    obtain ⟨k, hk, rfl, rfl, hb⟩ := hrel
    have HB : Hid (Below w.heap.size w wr) := ⟨hb⟩
    by_cases hlt : k < l.length
    · obtain ⟨x, hx⟩ : ∃ x, l[k]? = some x := ⟨_, List.getElem?_eq_getElem hlt⟩
      have hcx : wr.cell? ⟨b, k, none⟩ = some (I x) := cell_below hb (HC.out k x hx)
      have a0 := (HF.out.below hb).a0
      have a1 := (HF.out.below hb).a1
      have HN : Hid (totI (l.take (k + 1)) = wrap64 (totI (l.take k) + amtS x)) := ⟨totI_next hx⟩
      generalize totI (l.take k) = sk at HN
      clear hb hx
      go_wp2_with (first
        | (go_at_call 65; refine (get_at x 0 32 _ (by decide) (by decide) (by decide) rfl rfl).mono ?_; rintro e w1 ⟨rfl, hb1⟩))
      go_roundw
      case rel => exact ⟨k + 1, by omega, by go_num, by rw [HN.out]; rfl, blw_next HB.out hb1⟩
      case measure => simp [intOf]; omega
    · have : k = l.length := by omega
      subst this
      rw [List.take_length]
      clear hb
      go_wp2_with fail
      go_ret
      exact ⟨_, rfl, rfl, HB.out⟩

set_option maxHeartbeats 4000000 in
set_option maxRecDepth 100000 in
theorem equal_any (l m : List Int) (b c cap cap2 : Nat) (w : World) (hl : l.length ≤ 1000) (hlm : m.length = l.length) (hc : ∀ k x, l[k]? = some x → w.cell? ⟨b, k, none⟩ = some (I x)) (hd : ∀ k x, m[k]? = some x → w.cell? ⟨c, k, none⟩ = some (I x)) :
    Body Tryd.f89 #[.slice (some ⟨b, 0, none⟩) l.length cap, .slice (some ⟨c, 0, none⟩) m.length cap2] w (fun r w' => r = .bool (decide (l = m)) ∧ Below w.heap.size w w') := by
  have HC : Hid (∀ k x, l[k]? = some x → w.cell? ⟨b, k, none⟩ = some (I x)) := ⟨hc⟩
  have HD : Hid (∀ k x, m[k]? = some x → w.cell? ⟨c, k, none⟩ = some (I x)) := ⟨hd⟩
  have HLM : Hid (m.length = l.length) := ⟨hlm⟩
  rw [hlm]
  clear hc hd hlm
  intro code hcode
  obtain rfl := Option.some.inj hcode
  clear hcode
  simp only [Tryd.ntmps89, List.size_toArray, List.length_cons, List.length_nil, Nat.reduceAdd, Nat.reduceSub, Array.replicate_succ, Array.replicate_zero, List.push_toArray, List.append_toArray, List.nil_append, List.cons_append]
  go_wp2_with fail
  go_loopw [13] (fun i u => ∃ k : Nat, k ≤ l.length ∧ i = .int .i64 k ∧ l.take k = m.take k ∧ ∃ q, u = w.drewN q) (fun i _ => l.length - (intOf i).toNat)
  case atStart => exact ⟨0, Nat.zero_le _, rfl, rfl, 0, rfl⟩
  case round =>
    obtain ⟨k, hk, rfl, hso, q, rfl⟩ := hrel
    have HSO : Hid (l.take k = m.take k) := ⟨hso⟩
    clear hso
    by_cases hlt : k < l.length
    · obtain ⟨x, hx⟩ : ∃ x, l[k]? = some x := ⟨_, List.getElem?_eq_getElem hlt⟩
      obtain ⟨y, hy⟩ : ∃ y, m[k]? = some y := ⟨_, List.getElem?_eq_getElem (by rw [HLM.out]; exact hlt)⟩
      have hcx : w.cell? ⟨b, k, none⟩ = some (I x) := HC.out k x hx
      have hcy : w.cell? ⟨c, k, none⟩ = some (I y) := HD.out k y hy
      have HXY : Hid (l[k]? = some x ∧ m[k]? = some y) := ⟨hx, hy⟩
      clear hx hy
      by_cases he : x = y
      · have e1 : (x != y) = false := by simp [he]
        have HE : Hid (x = y) := ⟨he⟩
        clear he
        go_wp2_with fail
        go_quiet (fail)
        go_wp2_with fail
        go_roundw
        case rel =>
          refine ⟨k + 1, by omega, by go_num, ?_, _, rfl⟩
          rw [List.take_add_one, List.take_add_one, HSO.out, HXY.out.1, HXY.out.2, HE.out]
        case measure => simp [intOf]; omega
      · have e1 : (x != y) = true := by simp [he]
        have HE : Hid (¬ x = y) := ⟨he⟩
        clear he
        go_wp2_with fail
        go_quiet (fail)
        go_wp2_with fail
        go_ret
        refine ⟨_, rfl, ?_, ⟨rfl, rfl, rfl, Nat.le_refl _, fun _ _ => rfl⟩⟩
        have : ¬ l = m := fun h => by
          subst h
          have := HXY.out
          rw [this.1] at this
          exact HE.out (Option.some.inj this.2)
        simp [this]
    · have : k = l.length := by omega
      subst this
      go_wp2_with fail
      go_ret
      refine ⟨_, rfl, ?_, ⟨rfl, rfl, rfl, Nat.le_refl _, fun _ _ => rfl⟩⟩
      have e1 : l = m := by
        have := HSO.out
        rw [List.take_length, ← HLM.out, List.take_length] at this
        exact this
      simp [e1]
end Go.Proofs.YtcfmffmcammbjaaDoor.R1

/- A frame of so many slots as a list of letters. -/
set_option linter.unusedSimpArgs false
set_option linter.unusedVariables false
namespace Go.Proofs.YtcfmffmcammbjaaDoor.Gen
open Go Go.Lift Go.Conc Go.RowKit
def lits (u : Nat → Value) : Nat → Nat → List Value
  | _, 0 => []
  | s, n + 1 => u s :: lits u (s + 1) n
theorem lits_get (u : Nat → Value) : ∀ (n s i : Nat), (lits u s n)[i]? = if i < n then some (u (s + i)) else none
  | 0, s, i => by simp [lits]
  | n + 1, s, 0 => by simp [lits]
  | n + 1, s, i + 1 => by
    have := lits_get u n (s + 1) i
    simp only [lits, List.getElem?_cons_succ, this, Nat.add_lt_add_iff_right]
    rw [show s + 1 + i = s + (i + 1) by omega]
theorem litN {n : Nat} {a : Act} (h : a.tmps.size = n) (hd : a.defers = []) : ∃ u : Nat → Value, a = { tmps := (lits u 0 n).toArray, defers := [] } ∧ ∀ i, a.tmps.getD i undef = u i := by
  obtain ⟨⟨l⟩, ds⟩ := a
  simp only at hd h
  subst hd
  refine ⟨fun i => (Array.mk l).getD i undef, ?_, fun i => rfl⟩
  have e : l = lits (fun i => (Array.mk l).getD i undef) 0 n := by
    apply List.ext_getElem?
    intro i
    rw [lits_get]
    have hl : l.length = n := h
    by_cases hi : i < n
    · rw [if_pos hi, List.getElem?_eq_getElem (by omega)]
      simp [Array.getD, hl, hi]
    · rw [if_neg hi, List.getElem?_eq_none (by omega)]
  exact congrArg (fun x => ({ tmps := x.toArray, defers := [] } : Act)) e
/-- Slots of a frame of n slots. -/
def Fl (n : Nat) (l : List (Nat × Value)) (a : Act) : Prop := a.tmps.size = n ∧ a.defers = [] ∧ ∀ p ∈ l, a.tmps.getD p.1 undef = p.2
theorem Fl.sub {n : Nat} {l l' : List (Nat × Value)} {a : Act} (h : Fl n l a) (hs : ∀ p ∈ l', p ∈ l) : Fl n l' a := ⟨h.1, h.2.1, fun p hp => h.2.2 p (hs p hp)⟩
theorem Fl.at {n : Nat} {l : List (Nat × Value)} {a : Act} (h : Fl n l a) (k : Nat) (v : Value) (hs : (k, v) ∈ l) : a.eval (.tmp k) = v := h.2.2 (k, v) hs
end Go.Proofs.YtcfmffmcammbjaaDoor.Gen

/- counter's Add (55), in company, in pieces: its shard is found; it looks at the cell; it tries to add; it did, or another was ahead of it. (Made by wip/tools/mkcta.py.) -/
set_option linter.unusedSimpArgs false
set_option linter.unusedVariables false
namespace Go.Proofs.YtcfmffmcammbjaaDoor.Gen
open Go Go.Lift Go.Conc Go.RowKit

theorem id_any (tb i : Nat) (w : World) (h : w.cell? ⟨tb, 1, none⟩ = some (I i)) : Calls Tryd.prog 68 #[Pt tb 0] w fun e w' => e = .returned (I i) ∧ w' = w := by
  go_enter Tryd.func68, Tryd.ntmps68
  go_wp2_with fail
  go_ret
  exact ⟨rfl, rfl⟩
theorem which_any (i s j : Nat) (hj : i % s = j) (hs : 0 < s) (w : World) : Calls Tryd.prog 62 #[I i, I s] w fun e w' => e = .returned (I j) ∧ w' = w := by
  subst hj
  have h2 : ((s : Int) == 0) = false := by simp; omega
  have h3 : ¬ ((s : Int) = 0) := by omega
  have h4 : 0 ≤ ((i : Int) % (s : Int)) := Int.emod_nonneg _ h3
  have h5 : decide ((i : Int) % (s : Int) < 0) = false := decide_eq_false (by omega)
  go_enter Tryd.func62, Tryd.ntmps62
  go_wp2_with fail
  go_ret
  exact ⟨by rw [Int.natCast_emod]; rfl, rfl⟩

noncomputable def a55 : Code := seq1 (Tryd.f55.body.getD .skip)
noncomputable def L55 : Code := loopC (blockC (seq2 (Tryd.f55.body.getD .skip)))
noncomputable def B55 : Code := blockC L55
noncomputable def ops551 : Array Oper := opsOf (seq1 B55)
noncomputable def ops552 : Array Oper := opsOf (seq1 (seq2 B55))
theorem fine_a55 : fineCode Tryd.prog true LT a55 := fineCode_ask callT extT (by kernel_rfl)

/-- The frame where it looks; where it has seen; where it has tried. -/
noncomputable def aFr (a : Act) : Frame := (base 55).at a [.code L55, .inLoop L55, .inBlock 0]
noncomputable def aSeen (a : Act) (r : Value) : Frame := (base 55).at (a.put (some 24) r) [.inRegion ops551 [3], .code (seq2 B55), .inBlock 1, .inLoop L55, .inBlock 0]
noncomputable def aTried (a : Act) (r : Value) : Frame := (base 55).at (a.put (some 31) r) [.inRegion ops552 [], .code (seq2 (seq2 B55)), .inBlock 1, .inLoop L55, .inBlock 0]
/-- Where a counter's shards lie. -/
structure Ctr (v : World) (c sb s : Nat) (kb : List Nat) : Prop where
  row : v.cell? ⟨c, 0, none⟩ = some (.slice (some ⟨sb, 0, none⟩) s s)
  cel : ∀ j, j < s → ∃ cb, kb[j]? = some cb ∧ v.cell? ⟨sb, j, none⟩ = some (Pt cb 0)
  s0 : 0 < s
  s1 : s ≤ 16

set_option maxHeartbeats 2000000 in
set_option maxRecDepth 100000 in
theorem a55_wp (v : World) (c sb s tb i cb : Nat) (n : Int) (h0 : v.cell? ⟨c, 0, none⟩ = some (.slice (some ⟨sb, 0, none⟩) s s)) (h1 : v.cell? ⟨tb, 1, none⟩ = some (I i)) (h2 : v.cell? ⟨sb, i % s, none⟩ = some (Pt cb 0)) (hs : 0 < s) :
    a55.wp Tryd.prog (fun e a w' => e = .normal ∧ Fl 32 [(0, Pt c 0), (1, Pt tb 0), (2, I n), (6, Pt cb 0)] a ∧ w'.heap = v.heap ∧ w'.os = v.os ∧ w'.output = v.output) { tmps := #[Pt c 0, Pt tb 0, I n] ++ Array.replicate 29 undef, defers := [] } v := by
  have hlt : i % s < s := Nat.mod_lt _ hs
  have hlt2 : ((i % s : Nat) : Int) < (s : Int) := by omega
  have hge : ¬ ((i % s : Nat) : Int) < 0 := by omega
  generalize hj : i % s = j at h2 hlt hlt2 hge
  have HJ : Hid (i % s = j) := ⟨hj⟩
  clear hj
  unfold a55 Tryd.f55 seq1
  simp only [Option.getD_some, Array.replicate_succ, Array.replicate_zero, List.push_toArray, List.append_toArray, List.nil_append, List.cons_append]
  go_wp2_with fail
  go_quiet ((first
    | (go_at_call 68; exact Calls.quiet_of_same (id_any tb i _ (by simpa using h1)))
    | (go_at_call 62; exact Calls.quiet_of_same (which_any i s j HJ.out hs _))))
  exact ⟨rfl, ⟨rfl, rfl, by
    intro p hp
    simp only [List.mem_cons, List.not_mem_nil, or_false] at hp
    rcases hp with rfl | rfl | rfl | rfl <;> rfl⟩, rfl, rfl, rfl⟩

/-- It has been entered: its shard is found. -/
theorem add_in {z : Nat → Option Nat} {Ch : Nat → Prop} {Stop : Goroutine → World → Prop} {main : Bool} {v w : World} {c sb s tb i cb : Nat} {kb : List Nat} (n : Int) (hC : Ctr v c sb s kb) (h1 : v.cell? ⟨tb, 1, none⟩ = some (I i)) (hcb : kb[i % s]? = some cb) (cs : List Frame) (hvw : Rel z v w) (hn : NoRow Ch v)
    (hk : ∀ a v' w', Fl 32 [(0, Pt c 0), (1, Pt tb 0), (2, I n), (6, Pt cb 0)] a → Rel z v' w' → NoRow Ch v' → v'.heap = v.heap → v'.os = v.os → v'.output = v.output → GoesI Tryd.prog main (DT (ScZ z) Ch) Stop (G (aFr a) cs) w') (code : Code) (hc : Tryd.f55.body = some code) :
    GoesI Tryd.prog main (DT (ScZ z) Ch) Stop (G ((base 55).at { tmps := #[Pt c 0, Pt tb 0, I n] ++ Array.replicate 29 undef, defers := [] } [.code code]) cs) w := by
  have hw0 : code = .seq a55 (.block 0 (.loop L55)) := by
    rw [show code = Tryd.f55.body.getD .skip by rw [hc]; rfl]; rfl
  subst hw0
  clear hc
  obtain ⟨cb', e1, e2⟩ := hC.cel (i % s) (Nat.mod_lt _ hC.s0)
  have e3 : cb' = cb := by rw [hcb] at e1; exact (Option.some.inj e1).symm
  rw [e3] at e2
  refine goesI_seq (dt_idle _ _) ?_
  refine goesI_plain (z := z) (wr := true) (L := LT) (I := NoRow Ch) hE fineT noRow_keeps (fun v v' w w' es hi hr ho he => dt_of_z v v' w w' es hi hr ho he) hvw fine_a55 rfl (by simp [base]) hn
    (Q := fun a w' => Fl 32 [(0, Pt c 0), (1, Pt tb 0), (2, I n), (6, Pt cb 0)] a ∧ w'.heap = v.heap ∧ w'.os = v.os ∧ w'.output = v.output) (fun τ => a55_wp (onTape v τ 0) c sb s tb i cb n hC.row h1 e2 hC.s0) ?_
  rintro a' v' w' ⟨hA, q1, q2, q3⟩ hr' hn' -
  refine goesI_block (dt_idle _ _) ?_
  refine goesI_loop (dt_idle _ _) ?_
  exact hk a' v' w' hA hr' hn' q1 q2 q3

set_option maxHeartbeats 2000000 in
set_option maxRecDepth 100000 in
theorem add_loop {z : Nat → Option Nat} {Ch : Nat → Prop} {Stop : Goroutine → World → Prop} {h : Nat} {cont : Addr → Value} {S : TS} {K : List (Nat × Int)} {v w : World} {i j cb c : Nat} {t : Thr} {n : Int} (x : Int) {a : Act} (hA : Fl 32 [(0, Pt c 0), (1, Pt t.tb 0), (2, I n), (6, Pt cb 0)] a) (cs : List Frame) (Hm : Goroutine → Prop)
    (hH : ∀ g, (∃ a, Fl 32 [(0, Pt c 0), (1, Pt t.tb 0), (2, I n), (6, Pt cb 0)] a ∧ OpBack (h == 0) i j cb t.tb 1 effLoad (fun r => G (aSeen a r) cs) g) → Hm g)
    (hvw : Rel z v w) (hn : NoRow Ch v) (hm : Mem z S K v) (ht : S.thr[i]? = some t) (hK : K[j]? = some (cb, x)) (hz : z t.tb = some 2) (hcont : cont ⟨t.tb, 2, none⟩ = .chan (some t.gc))
    (hstop : ∀ g w', GiveT z cont h S.bk t.gc Hm (Then z Ch S K v (waiting S i t 1 1 j) K) g w' → Stop g w') :
    GoesI Tryd.prog (h == 0) (DT (ScZ z) Ch) Stop (G (aFr a) cs) w := by
  have HM : Hid (Mem z S K v) := ⟨hm⟩
  clear hm
  unfold aSeen ops551 B55 L55 Tryd.f55 seq1 seq2 blockC loopC opsOf at hH
  simp only [Option.getD_some] at hH
  obtain ⟨hsz, hd, hpp⟩ := hA
  obtain ⟨u, rfl, hg⟩ := litN hsz hd
  have u0 := (hg 0).symm.trans (hpp (0, Pt c 0) (by simp))
  have u1 := (hg 1).symm.trans (hpp (1, Pt t.tb 0) (by simp))
  have u2 := (hg 2).symm.trans (hpp (2, I n) (by simp))
  have u6 := (hg 6).symm.trans (hpp (6, Pt cb 0) (by simp))
  clear hg hpp hsz hd
  unfold aFr L55 Tryd.f55 seq2 blockC loopC
  simp only [Option.getD_some, lits, Nat.reduceAdd, u0, u1, u2, u6]
  clear u0 u1 u2 u6
  refine goesI_block (dt_idle _ _) ?_
  refine goesI_seq (dt_idle _ _) ?_
  refine goesI_region (dt_idle _ _) ?_
  simp only [List.size_toArray, List.length_cons, List.length_nil, Nat.reduceAdd, Nat.zero_add, List.range, List.range.loop]
  iterate 2
    (refine goesI_oper rfl rfl (by decide) (fun d K hK => ?_)
     go_simp
     refine hK _ _ ⟨dt_reads (fun e he => ?_), GoesI.at ?_ d⟩
     · have hm := mem_listed he
       simp [go_sem, *] at hm
       try exact ⟨_, _, hm⟩
     clear hK K)
  refine goesI_into (f := 64) (fn := Tryd.f64) (args := #[Pt cb 0, Pt t.tb 0]) (dt_idle _ _) rfl rfl (by decide) rfl (by simp [Act.eval]) Tryd.func64 (by decide) rfl ?_
  exact load_goes x _ Hm rfl (fun g hg => hH g ⟨_, ⟨rfl, rfl, by
    intro p hp
    simp only [List.mem_cons, List.not_mem_nil, or_false] at hp
    rcases hp with rfl | rfl | rfl | rfl <;> rfl⟩, hg⟩) hvw hn HM.out ht hK hz hcont hstop _ rfl

theorem fits_flds {v w : World} (h : R1.Flds v) (e : w.heap = v.heap) : R1.Flds w := h.of fun a x ha => by rw [World.cell?_of_block (w := v) (by rw [e])]; exact ha
theorem blw_grows {v v' : World} (h : Below v.heap.size v v') : Grows v v' := ⟨h.size, fun b hb => h.block b hb, h.os, h.output⟩

set_option maxHeartbeats 2000000 in
set_option maxRecDepth 100000 in
theorem add_try {z : Nat → Option Nat} {Ch : Nat → Prop} {Stop : Goroutine → World → Prop} {h : Nat} {cont : Addr → Value} {S : TS} {K : List (Nat × Int)} {v w : World} {i j cb c : Nat} {t : Thr} {n : Int} (x y : Int) (hF : R1.Flds v) {a : Act} (hA : Fl 32 [(0, Pt c 0), (1, Pt t.tb 0), (2, I n), (6, Pt cb 0)] a) (cs : List Frame) (Hm : Goroutine → Prop)
    (hH : ∀ g, (∃ a, Fl 32 [(0, Pt c 0), (1, Pt t.tb 0), (2, I n), (6, Pt cb 0)] a ∧ OpBack (h == 0) i j cb t.tb 4 (effCas x (R1.addI x n)) (fun r => G (aTried a r) cs) g) → Hm g)
    (hvw : Rel z v w) (hn : NoRow Ch v) (hm : Mem z S K v) (ht : S.thr[i]? = some t) (hK : K[j]? = some (cb, y)) (hz : z t.tb = some 2) (hcont : cont ⟨t.tb, 2, none⟩ = .chan (some t.gc))
    (hstop : ∀ g w', GiveT z cont h S.bk t.gc Hm (Then z Ch S K v (waiting S i t 1 4 j) K) g w' → Stop g w') :
    GoesI Tryd.prog (h == 0) (DT (ScZ z) Ch) Stop (G (aSeen a (I x)) cs) w := by
  have HM : Hid (Mem z S K v) := ⟨hm⟩
  clear hm
  unfold aTried ops552 B55 L55 Tryd.f55 seq1 seq2 blockC loopC opsOf at hH
  simp only [Option.getD_some] at hH
  obtain ⟨hsz, hd, hpp⟩ := hA
  obtain ⟨u, rfl, hg⟩ := litN hsz hd
  have u0 := (hg 0).symm.trans (hpp (0, Pt c 0) (by simp))
  have u1 := (hg 1).symm.trans (hpp (1, Pt t.tb 0) (by simp))
  have u2 := (hg 2).symm.trans (hpp (2, I n) (by simp))
  have u6 := (hg 6).symm.trans (hpp (6, Pt cb 0) (by simp))
  clear hg hpp hsz hd
  unfold aSeen ops551 B55 L55 Tryd.f55 seq2 seq1 blockC loopC opsOf
  simp only [Option.getD_some, lits, Nat.reduceAdd, u0, u1, u2, u6]
  clear u0 u1 u2 u6
  walk_nrm
  iterate 1
    (refine goesI_oper rfl rfl (by decide) (fun d K hK => ?_)
     go_simp
     refine hK _ _ ⟨dt_reads (fun e he => ?_), GoesI.at ?_ d⟩
     · have hm := mem_listed he
       simp [go_sem, *] at hm
       try exact ⟨_, _, hm⟩
     clear hK K)
  refine goesI_regionEnd (dt_idle _ _) ?_
  refine goesI_seq (dt_idle _ _) ?_
  refine goesI_region (dt_idle _ _) ?_
  simp only [List.size_toArray, List.length_cons, List.length_nil, Nat.reduceAdd, Nat.zero_add, List.range, List.range.loop]
  iterate 5
    (refine goesI_oper rfl rfl (by decide) (fun d K hK => ?_)
     go_simp
     refine hK _ _ ⟨dt_reads (fun e he => ?_), GoesI.at ?_ d⟩
     · have hm := mem_listed he
       simp [go_sem, *] at hm
       try exact ⟨_, _, hm⟩
     clear hK K)
  refine goesI_call (f := 87) (fn := Tryd.f87) (args := #[I x, I n]) hE fineT rfl rfl (by decide) rfl (by simp [Act.eval]) Tryd.func87 (by kernel_rfl) rfl (fineFn_body fineT (by simp [LT, plainFs]) Tryd.func87 rfl) (fun tmps => ⟨_, fun w => results_tmp rfl _ _ _, fun w => by simp [results, go_sem, Tryd.f87]⟩) hvw hn
    (R := fun r v4 => r = I (R1.addI x n) ∧ Grows v v4) (fun τ => ?_) (fun r v4 w4 hR hvw4 hn4 => ?_)
  · exact wp_mono (R1.added_any x n (onTape v τ 0) (fits_flds hF rfl) _ rfl) (bp_mono fun r u hq => ⟨hq.1, ⟨(blw_grows hq.2).size, (blw_grows hq.2).old, hq.2.os, hq.2.output⟩⟩)
  obtain ⟨rfl, hg4⟩ := hR
  have hm4 := (HM.out.grows hg4)
  walk_nrm
  refine goesI_into (f := 66) (fn := Tryd.f66) (args := #[Pt cb 0, Pt t.tb 0, I x, I (R1.addI x n)]) (dt_idle _ _) rfl rfl (by decide) rfl (by simp [Act.eval]) Tryd.func66 (by decide) rfl ?_
  exact cas_goes x (R1.addI x n) y _ Hm rfl (fun g hg => hH g ⟨_, ⟨rfl, rfl, by
    intro p hp
    simp only [List.mem_cons, List.not_mem_nil, or_false] at hp
    rcases hp with rfl | rfl | rfl | rfl <;> rfl⟩, hg⟩) hvw4 hn4 hm4.mem ht hK hz hcont (fun g w' hs => hstop g w' (give_mono (fun hT => by obtain ⟨v', r1, r2, r3⟩ := hT; exact ⟨v', r1, r2, hm4.trans r3⟩) hs)) _ rfl

noncomputable def won55 : Code := condA (seq2 (seq2 B55))
theorem eWon55 : won55 = .ret := rfl
set_option maxHeartbeats 2000000 in
set_option maxRecDepth 100000 in
/-- It did. -/
theorem add_won {z : Nat → Option Nat} {Ch : Nat → Prop} {Stop : Goroutine → World → Prop} {main : Bool} {v w : World} {a : Act} {L : List (Nat × Value)} (hA : Fl 32 L a) (cs : List Frame) {bc : Frame} {ac : Act} {ops : Array Oper} {q : Nat} {rest : List Nat} {oc : Oper} {k : List Item} (hoc : ops[q]? = some oc)
    (hvw : Rel z v w) (hn : NoRow Ch v)
    (hk : ∀ w', Rel z v w' → GoesI Tryd.prog main (DT (ScZ z) Ch) Stop (G (bc.at (ac.put oc.dst (.tuple #[])) (.inRegion ops rest :: k)) cs) w') :
    GoesI Tryd.prog main (DT (ScZ z) Ch) Stop (G (aTried a (.bool true)) (bc.at ac (.inRegion ops (q :: rest) :: k) :: cs)) w := by
  obtain ⟨hsz, hd, hpp⟩ := hA
  obtain ⟨u, rfl, hg⟩ := litN hsz hd
  clear hg hpp hsz hd
  unfold aTried ops552 B55 L55 Tryd.f55 seq2 seq1 blockC loopC opsOf
  simp only [Option.getD_some, lits, Nat.reduceAdd]
  walk_nrm
  refine goesI_regionEnd (dt_idle _ _) ?_
  refine goesI_cond (dt_idle _ _) (t := true) rfl ?_
  simp only [if_true, if_false, Bool.false_eq_true]
  refine GoesI.ctl rfl (fun _ => stepG_ret') (dt_idle _ _) ?_
  exact goesI_leaveZ (f := 55) (fn := Tryd.f55) (x := .tuple #[]) hvw hn Tryd.func55 rfl hoc (by simp [results, go_sem, Tryd.f55]) (fun w' r' => hk w' r')
set_option maxHeartbeats 2000000 in
set_option maxRecDepth 100000 in
/-- Another was ahead of it: it looks again. -/
theorem add_again {z : Nat → Option Nat} {Ch : Nat → Prop} {Stop : Goroutine → World → Prop} {main : Bool} {w : World} {c tb cb : Nat} {n : Int} {a : Act} (hA : Fl 32 [(0, Pt c 0), (1, Pt tb 0), (2, I n), (6, Pt cb 0)] a) (cs : List Frame)
    (hk : ∀ a, Fl 32 [(0, Pt c 0), (1, Pt tb 0), (2, I n), (6, Pt cb 0)] a → GoesI Tryd.prog main (DT (ScZ z) Ch) Stop (G (aFr a) cs) w) :
    GoesI Tryd.prog main (DT (ScZ z) Ch) Stop (G (aTried a (.bool false)) cs) w := by
  unfold aFr L55 Tryd.f55 seq2 blockC loopC at hk
  simp only [Option.getD_some] at hk
  obtain ⟨hsz, hd, hpp⟩ := hA
  obtain ⟨u, rfl, hg⟩ := litN hsz hd
  have u0 := (hg 0).symm.trans (hpp (0, Pt c 0) (by simp))
  have u1 := (hg 1).symm.trans (hpp (1, Pt tb 0) (by simp))
  have u2 := (hg 2).symm.trans (hpp (2, I n) (by simp))
  have u6 := (hg 6).symm.trans (hpp (6, Pt cb 0) (by simp))
  clear hg hpp hsz hd
  unfold aTried ops552 B55 L55 Tryd.f55 seq2 seq1 blockC loopC opsOf
  simp only [Option.getD_some, lits, Nat.reduceAdd, u0, u1, u2, u6]
  clear u0 u1 u2 u6
  walk_nrm
  refine goesI_regionEnd (dt_idle _ _) ?_
  refine goesI_cond (dt_idle _ _) (t := false) rfl ?_
  simp only [if_true, if_false, Bool.false_eq_true]
  refine goesI_skip (dt_idle _ _) ?_
  refine goesI_inBlock (dt_idle _ _) ?_
  refine goesI_inLoop (dt_idle _ _) ?_
  exact hk _ ⟨rfl, rfl, by
    intro p hp
    simp only [List.mem_cons, List.not_mem_nil, or_false] at hp
    rcases hp with rfl | rfl | rfl | rfl <;> rfl⟩
end Go.Proofs.YtcfmffmcammbjaaDoor.Gen
