/-
  What word.Right does, for every list of fields: its answer; of memory that was there nothing changes.
-/
import Derived.Test.YtaoahnpdhkdebaaWord
namespace Go.Proofs.Ytaoahnpdhkdebaa
open Go.RowKit Pl

/-- The fields of l lie at that place, one behind the other. -/
def FieldsAt (w : World) (blk off : Nat) (l : List (Int × Int)) : Prop :=
  ∀ i, i < l.length → w.cell? ⟨blk, off + i * 2, none⟩ = some (I (l.getD i (0, 0)).1) ∧ w.cell? ⟨blk, off + i * 2 + 1, none⟩ = some (I (l.getD i (0, 0)).2)

/-- Is no bit of the field taken? -/
def freeB (t : Int) (a b : Nat) : Bool := (List.range b).all fun i => !tb t (a + i)

theorem freeB_yes {t : Int} {a b : Nat} (h : ∀ i, i < b → tb t (a + i) = false) : freeB t a b = true := by
  unfold freeB
  rw [List.all_eq_true]
  intro i hi
  rw [h i (List.mem_range.1 hi)]; rfl

theorem freeB_no {t : Int} {a b i : Nat} (hi : i < b) (h : tb t (a + i) = true) : freeB t a b = false := by
  unfold freeB
  rw [List.all_eq_false]
  exact ⟨i, List.mem_range.2 hi, by rw [h]; decide⟩

/-- May these fields be side by side, beside what is taken? -/
def rightFrom (t : Int) : List (Int × Int) → Bool
  | [] => true
  | (a, b) :: r => mayB a b && freeB t a.toNat b.toNat && rightFrom (putI t a.toNat b.toNat (-1)) r

theorem drop_getD {l : List (Int × Int)} {k : Nat} (h : k < l.length) {x : Int × Int} (hx : l.getD k (0, 0) = x) : l.drop k = x :: l.drop (k + 1) := by
  rw [← hx, List.drop_eq_getElem_cons h, List.getD_eq_getElem?_getD, List.getElem?_eq_getElem h]; rfl

/-- A bit beside what the field has taken so far. -/
theorem bI_take (t : Int) (a j : Nat) (h : a + j < 64) : bI (putI t a j (-1)) (a + j) = if tb t (a + j) = true then 1 else 0 := by
  rw [bI_tb _ _ h, tb_putI _ _ _ _ _ (by omega) h, if_neg (show ¬ (a ≤ a + j ∧ a + j < a + j) by omega)]

theorem rf_no {t a b : Int} {r : List (Int × Int)} (h : mayB a b = false) : rightFrom t ((a, b) :: r) = false := by
  unfold rightFrom; rw [h]; rfl
theorem rf_busy {t : Int} {a b i : Nat} {r : List (Int × Int)} (hi : i < b) (h : tb t (a + i) = true) : rightFrom t (((a : Int), (b : Int)) :: r) = false := by
  unfold rightFrom; rw [Int.toNat_natCast, Int.toNat_natCast, freeB_no hi h]; simp
theorem rf_free {t : Int} {a b : Nat} {r : List (Int × Int)} (hm : mayB (a : Int) (b : Int) = true) (h : ∀ i, i < b → tb t (a + i) = false) :
    rightFrom t (((a : Int), (b : Int)) :: r) = rightFrom (putI t a b (-1)) r := by
  rw [rightFrom, Int.toNat_natCast, Int.toNat_natCast, freeB_yes h, hm]; simp

set_option maxHeartbeats 1000000 in
theorem right_some (blk off len cap : Nat) (l : List (Int × Int)) (w : World) (hl : l.length = len) (hm : len ≤ maxLen) (hF : FieldsAt w blk off l) :
    Calls Try.prog 10 #[.slice (some ⟨blk, off, none⟩) len cap] w fun e w' => e = .returned (.bool (rightFrom 0 l)) ∧ Below w.heap.size w w' := by
  unfold maxLen at hm
  go_enter Try.func10, Try.ntmps10
  go_wp2
  go_loopw [3, 10] (fun t i u => ∃ (k : Nat) (tt : Int), k ≤ len ∧ i = .int .i64 k ∧ t = .int .i64 tt ∧ Fits tt ∧ rightFrom 0 l = rightFrom tt (l.drop k) ∧ Below w.heap.size w u) (fun _ i _ => len - (intOf i).toNat)
  case atStart => exact ⟨0, 0, Nat.zero_le _, rfl, rfl, by unfold Fits; omega, rfl, Below.refl _ _⟩
  case round =>
    obtain ⟨k, tt, hk, rfl, rfl, hfit, hright, hb⟩ := hrel
    by_cases hlt : k < len
    · have hc0 := cell_later hb (hF k (by omega)).1
      have hc1 := cell_later hb (hF k (by omega)).2
      generalize hab : l.getD k (0, 0) = ab at hc0 hc1
      obtain ⟨a, b⟩ := ab
      have HAB : Hid (l.drop k = (a, b) :: l.drop (k + 1)) := drop_getD (by omega) hab
      have HR : Hid (rightFrom 0 l = rightFrom tt (l.drop k)) := hright
      have HB : Hid (Below w.heap.size w wr) := hb
      have HS : Hid (w.heap.size ≤ wr.heap.size) := hb.size
      have HL : Hid (l.length = len) := hl
      have HF : Hid (Fits tt) := hfit
      clear hab hright hb hF hl hfit
      simp only [] at hc0 hc1
      by_cases hmay : mayB a b = true
      · obtain ⟨h1, h2, h3, h4⟩ := mayB_true hmay
        have HM : Hid (mayB a b = true) := hmay
        clear hmay
        obtain ⟨an, rfl⟩ := Int.eq_ofNat_of_zero_le h3
        obtain ⟨bn, rfl⟩ := Int.eq_ofNat_of_zero_le (show 0 ≤ b by omega)
        go_wp2_with (go_at_call 16; refine (mayBe_any _ _ _).mono ?_; rintro e w' ⟨rfl, rfl⟩; rw [HM.out])
        go_loop [3, 19] (fun t i => ∃ j : Nat, j ≤ bn ∧ i = .int .i64 j ∧ t = .int .i64 (putI tt an j (-1)) ∧ ∀ m, m < j → tb tt (an + m) = false) (fun _ i => bn - (intOf i).toNat)
        case atStart => exact ⟨0, Nat.zero_le _, rfl, by rw [putI_zero HF.out], fun m hm => absurd hm (Nat.not_lt_zero _)⟩
        case round =>
          obtain ⟨j, hj, rfl, rfl, hfree⟩ := hrel
          have HFR : Hid (∀ m, m < j → tb tt (an + m) = false) := hfree
          clear hfree
          by_cases hjl : j < bn
          · have hbi := bI_take tt an j (by omega)
            by_cases htb : tb tt (an + j) = true
            · rw [if_pos htb] at hbi
              have HT : Hid (tb tt (an + j) = true) := htb
              clear htb
              have heq : (bI (putI tt an j (-1)) (an + j) == 1) = true := by rw [hbi]; rfl
              clear hbi
              go_wp2_with (go_at_call 17; refine (bit_any _ _ _ (by omega) (by omega)).mono ?_; rintro e w' ⟨rfl, rfl⟩)
              go_ret
              refine ⟨?_, (HB.out.alloc HS.out _).alloc (by simp; have := HS.out; omega) _⟩
              rw [HR.out, HAB.out, rf_busy hjl HT.out]
              rfl
            · rw [if_neg htb] at hbi
              have HT : Hid (tb tt (an + j) = false) := Bool.eq_false_iff.2 htb
              clear htb
              have heq : (bI (putI tt an j (-1)) (an + j) == 1) = false := by rw [hbi]; rfl
              clear hbi
              have hst : Hid (bits .or .i64 (putI tt an j (-1)) (wrap64 (2 ^ (an + j))) = putI tt an (j + 1) (-1)) := by
                have := takeI_step tt an j (by omega)
                rw [Int.one_mul] at this
                exact this
              go_wp2_with (go_at_call 17; refine (bit_any _ _ _ (by omega) (by omega)).mono ?_; rintro e w' ⟨rfl, rfl⟩)
              go_round
              case rel =>
                refine ⟨j + 1, by omega, by go_num, by rw [hst.out], fun m hm => ?_⟩
                by_cases e : m = j
                · subst e; exact HT.out
                · exact HFR.out m (by omega)
              case measure => simp [intOf]; omega
          · have hjb : j = bn := by omega
            subst hjb
            go_wp2_with fail
            refine ⟨⟨k + 1, _, by omega, by go_num, rfl, putI_fits _ _ _ _, ?_, (HB.out.alloc HS.out _).alloc (by simp; have := HS.out; omega) _⟩, by simp [intOf]; omega⟩
            rw [HR.out, HAB.out, rf_free HM.out HFR.out]
      · have HM : Hid (mayB a b = false) := Bool.eq_false_iff.2 hmay
        clear hmay
        go_wp2_with (go_at_call 16; refine (mayBe_any _ _ _).mono ?_; rintro e w' ⟨rfl, rfl⟩; rw [HM.out])
        go_ret
        refine ⟨?_, (HB.out.alloc HS.out _).alloc (by simp; have := HS.out; omega) _⟩
        rw [HR.out, HAB.out, rf_no HM.out]
        rfl
    · go_wp2
      go_ret
      have : k = len := by omega
      subst this
      refine ⟨?_, hb⟩
      rw [hright, ← hl, List.drop_length]
      rfl

set_option maxHeartbeats 400000 in
theorem right_none (a : Option Addr) (cap : Nat) (w : World) :
    Calls Try.prog 10 #[.slice a 0 cap] w fun e w' => e = .returned (.bool true) ∧ w' = w := by
  go_enter Try.func10, Try.ntmps10
  go_wp2
  refine wp_loop_rounds 1 ?_
  rw [rounds_succ]
  go_wp2
  go_ret
  exact ⟨rfl, rfl⟩

/-- That slice holds these fields. -/
def Holds (w : World) (v : Value) (l : List (Int × Int)) : Prop :=
  (l = [] ∧ ∃ a cap, v = .slice a 0 cap) ∨ ∃ blk off cap, v = .slice (some ⟨blk, off, none⟩) l.length cap ∧ l.length ≤ maxLen ∧ FieldsAt w blk off l

theorem Holds.later {w w' : World} {v : Value} {l : List (Int × Int)} (hb : Below w.heap.size w w') (h : Holds w v l) : Holds w' v l := by
  rcases h with h | ⟨blk, off, cap, rfl, hm, hF⟩
  · exact .inl h
  · exact .inr ⟨blk, off, cap, rfl, hm, fun i hi => ⟨cell_later hb (hF i hi).1, cell_later hb (hF i hi).2⟩⟩

theorem right_any (v : Value) (l : List (Int × Int)) (w : World) (h : Holds w v l) :
    Calls Try.prog 10 #[v] w fun e w' => e = .returned (.bool (rightFrom 0 l)) ∧ Below w.heap.size w w' := by
  rcases h with ⟨rfl, a, cap, rfl⟩ | ⟨blk, off, cap, rfl, hm, hF⟩
  · exact (right_none a cap w).mono fun e w' ⟨he, hw⟩ => ⟨he, by rw [hw]; exact Below.refl _ _⟩
  · exact right_some blk off l.length cap l w rfl hm hF

end Go.Proofs.Ytaoahnpdhkdebaa
