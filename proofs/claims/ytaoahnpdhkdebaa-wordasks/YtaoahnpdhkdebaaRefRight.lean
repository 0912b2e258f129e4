/-
  What the document's answer for Right does, for every list of fields: the same answer as package word's; of memory that was there nothing changes.
-/
import Derived.Test.YtaoahnpdhkdebaaRef
import Derived.Deep.OwnRows
namespace Go.Proofs.Ytaoahnpdhkdebaa
open Go.RowKit Pl Go.Deep

/-- The list 'used' lies in block u: which bits are taken. -/
def Used (w : World) (u : Nat) (t : Int) : Prop := w.rowIs u 4 64 (fun j => .bool (tb t j))

theorem tb_m1 (i : Nat) (h : i < 64) : tb (-1) i = true := by
  unfold tb
  rw [show BitVec.ofInt 64 (-1) = BitVec.allOnes 64 from by decide, BitVec.getLsbD_allOnes]
  exact decide_eq_true h

theorem used_set {w : World} {u : Nat} {t : Int} {a j : Nat} (h : Used w u (putI t a j (-1))) (hj : a + j < 64) :
    Used (w.setCell ⟨u, a + j, none⟩ (.bool true)) u (putI t a (j + 1) (-1)) := by
  refine (World.rowIs.set h (a + j) (.bool true)).congr fun i hi => ?_
  by_cases e : i = a + j
  · rw [if_pos e, tb_putI _ _ _ _ _ (by omega) hi, if_pos (by omega), tb_m1 _ (by omega)]
  · rw [if_neg e, tb_putI _ _ _ _ _ (by omega) hi, tb_putI _ _ _ _ _ (by omega) hi]
    by_cases e2 : a ≤ i ∧ i < a + j
    · rw [if_pos e2, if_pos (by omega)]
    · rw [if_neg e2, if_neg (by omega)]

def none64 : Array Value := madeCells #[.bool false] 64

theorem make64 (w : World) : (Instr.makeSlice 39 (.int .i64 64) (.int .i64 64)).run Try.prog w = .ok (.slice (some ⟨w.heap.size, 0, none⟩) 64 64) (w.alloc (.cells none64 4)) := by
  unfold none64
  kernel_rfl

theorem tb_0 (i : Nat) : tb 0 i = false := by unfold tb; simp

theorem used_start (w : World) : Used (w.alloc (.cells none64 4)) w.heap.size 0 :=
  (World.rowIs_made w (.bool false) 64 4).congr fun i _ => by rw [tb_0]

set_option maxHeartbeats 1000000 in
theorem rright_some (blk off len cap : Nat) (l : List (Int × Int)) (w : World) (hl : l.length = len) (hm : len ≤ maxLen) (hF : FieldsAt w blk off l) :
    Calls Try.prog 13 #[.slice (some ⟨blk, off, none⟩) len cap] w fun e w' => e = .returned (.bool (rightFrom 0 l)) ∧ Below w.heap.size w w' := by
  unfold maxLen at hm
  have hmk := make64
  go_enter Try.func13, Try.ntmps13
  go_wp2
  clear hmk
  go_loopw [4] (fun i u => ∃ (k : Nat) (tt : Int), k ≤ len ∧ i = .int .i64 k ∧ Fits tt ∧ rightFrom 0 l = rightFrom tt (l.drop k) ∧ Used u w.heap.size tt ∧ Below w.heap.size w u) (fun i _ => len - (intOf i).toNat)
  case atStart => exact ⟨0, 0, Nat.zero_le _, rfl, by unfold Fits; omega, rfl, used_start w, (Below.refl _ _).alloc (Nat.le_refl _) _⟩
  case round =>
    obtain ⟨k, tt, hk, rfl, hfit, hright, hu, hb⟩ := hrel
    by_cases hlt : k < len
    · have hc0 := cell_later hb (hF k (by omega)).1
      have hc1 := cell_later hb (hF k (by omega)).2
      generalize hab : l.getD k (0, 0) = ab at hc0 hc1
      obtain ⟨a, b⟩ := ab
      have HC0 : Hid (w.cell? ⟨blk, off + k * 2, none⟩ = some (I a)) := by have := (hF k (by omega)).1; rw [hab] at this; exact this
      have HC1 : Hid (w.cell? ⟨blk, off + k * 2 + 1, none⟩ = some (I b)) := by have := (hF k (by omega)).2; rw [hab] at this; exact this
      have hblk : blk < wr.heap.size := World.block_lt_of_cell? _ _ hc0
      have HAB : Hid (l.drop k = (a, b) :: l.drop (k + 1)) := drop_getD (by omega) hab
      have HR : Hid (rightFrom 0 l = rightFrom tt (l.drop k)) := hright
      have HB : Hid (Below w.heap.size w wr) := hb
      have HS : Hid (w.heap.size < wr.heap.size) := World.rowIs.lt hu
      have HL : Hid (l.length = len) := hl
      have HF : Hid (Fits tt) := hfit
      have HU : Hid (Used wr w.heap.size tt) := hu
      clear hab hright hb hF hl hfit hu
      simp only [] at hc0 hc1
      by_cases hmay : mayB a b = true
      · obtain ⟨h1, h2, h3, h4⟩ := mayB_true hmay
        have HM : Hid (mayB a b = true) := hmay
        clear hmay
        obtain ⟨an, rfl⟩ := Int.eq_ofNat_of_zero_le h3
        obtain ⟨bn, rfl⟩ := Int.eq_ofNat_of_zero_le (show 0 ≤ b by omega)
        go_wp2_with (go_at_call 18; refine (may_any _ _ _).mono ?_; rintro e w' ⟨rfl, rfl⟩; rw [HM.out])
        go_loopw [6] (fun i u => ∃ j : Nat, j ≤ bn ∧ i = .int .i64 ((an + j : Nat) : Int) ∧ (∀ m, m < j → tb tt (an + m) = false) ∧ Used u w.heap.size (putI tt an j (-1)) ∧ Below w.heap.size w u) (fun i _ => an + bn - (intOf i).toNat)
        case atStart =>
          refine ⟨0, Nat.zero_le _, rfl, fun m hm => absurd hm (Nat.not_lt_zero _), ?_, HB.out.alloc (Nat.le_of_lt HS.out) _⟩
          rw [putI_zero HF.out]
          exact World.rowIs.alloc HU.out _
        case round =>
          obtain ⟨j, hj, rfl, hfree, hu2, hb2⟩ := hrel
          have HFR : Hid (∀ m, m < j → tb tt (an + m) = false) := hfree
          have hd0 := cell_later hb2 HC0.out
          have hd1 := cell_later hb2 HC1.out
          by_cases hjl : j < bn
          · have hbi : tb (putI tt an j (-1)) (an + j) = tb tt (an + j) := by
              rw [tb_putI _ _ _ _ _ (by omega) (by omega), if_neg (by omega)]
            have hcu := World.rowIs.cell hu2 (show an + j < 64 by omega)
            have hfu := World.rowIs.frozen hu2 (an + j)
            rw [hbi] at hcu
            have HB2 : Hid (Below w.heap.size w _) := hb2
            have HU2 : Hid (Used _ w.heap.size (putI tt an j (-1))) := hu2
            have hlk : (k : Int) < len := by omega
            have hlj : (an : Int) + j < an + bn := by omega
            clear hb2 hu2 hfree hbi hc0 hc1
            by_cases htb : tb tt (an + j) = true
            · rw [htb] at hcu
              have HT : Hid (tb tt (an + j) = true) := htb
              clear htb
              go_wp2_with fail
              go_quiet (fail)
              go_wp2
              go_ret
              refine ⟨?_, below_drewN HB2.out _⟩
              rw [HR.out, HAB.out, rf_busy hjl HT.out]
              rfl
            · have HT : Hid (tb tt (an + j) = false) := Bool.eq_false_iff.2 htb
              rw [HT.out] at hcu
              clear htb
              go_wp2_with fail
              go_quiet (fail)
              go_wp2
              go_roundw
              case rel =>
                refine ⟨j + 1, by omega, by go_num, fun m hm => ?_, ?_, ?_⟩
                · by_cases e : m = j
                  · subst e; exact HT.out
                  · exact HFR.out m (by omega)
                · exact used_set HU2.out (by omega)
                · exact (below_drewN HB2.out _).setCell (Nat.le_refl _) _
              case measure => simp [intOf]; omega
          · have hjb : j = bn := by omega
            subst hjb
            have HB2 : Hid (Below w.heap.size w _) := hb2
            have HU2 : Hid (Used _ w.heap.size (putI tt an j (-1))) := hu2
            have hlk : (k : Int) < len := by omega
            clear hb2 hu2 hfree hc0 hc1
            go_wp2_with fail
            go_quiet (fail)
            go_wp2_with fail
            refine ⟨⟨k + 1, _, by omega, by go_num, putI_fits _ _ _ _, ?_, HU2.out, below_drewN HB2.out _⟩, by simp [intOf]; omega⟩
            rw [HR.out, HAB.out, rf_free HM.out HFR.out]
      · have HM : Hid (mayB a b = false) := Bool.eq_false_iff.2 hmay
        clear hmay
        go_wp2_with (go_at_call 18; refine (may_any _ _ _).mono ?_; rintro e w' ⟨rfl, rfl⟩; rw [HM.out])
        go_ret
        refine ⟨?_, HB.out.alloc (Nat.le_of_lt HS.out) _⟩
        rw [HR.out, HAB.out, rf_no HM.out]
        rfl
    · go_wp2
      go_ret
      have : k = len := by omega
      subst this
      refine ⟨?_, hb⟩
      rw [hright, ← hl, List.drop_length]
      rfl

set_option maxHeartbeats 400000 in
theorem rright_none (a : Option Addr) (cap : Nat) (w : World) :
    Calls Try.prog 13 #[.slice a 0 cap] w fun e w' => e = .returned (.bool true) ∧ Below w.heap.size w w' := by
  have hmk := make64
  go_enter Try.func13, Try.ntmps13
  go_wp2
  refine wp_loop_rounds 1 ?_
  rw [rounds_succ]
  go_wp2
  go_ret
  exact ⟨rfl, (Below.refl _ _).alloc (Nat.le_refl _) _⟩

theorem rright_any (v : Value) (l : List (Int × Int)) (w : World) (h : Holds w v l) :
    Calls Try.prog 13 #[v] w fun e w' => e = .returned (.bool (rightFrom 0 l)) ∧ Below w.heap.size w w' := by
  rcases h with ⟨rfl, a, cap, rfl⟩ | ⟨blk, off, cap, rfl, hm, hF⟩
  · exact rright_none a cap w
  · exact rright_some blk off l.length cap l w rfl hm hF

end Go.Proofs.Ytaoahnpdhkdebaa
