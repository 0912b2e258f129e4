/-
  What ranks of package history does: masks of the events that are ahead, and of those that are over.
-/
import Derived.Test.YteniopbmkooomaaHist
import Derived.Deep.OwnRows
import Derived.Laws.MakeOwn
namespace Go.Proofs.Yteniopbmkooomaa
open Go.RowKit Hi Go.Deep

/-- The mask of those below n of which p holds. -/
def maskOf (p : Nat → Bool) : Nat → Nat
  | 0 => 0
  | n + 1 => maskOf p n ||| (if p n = true then 2 ^ n else 0)

theorem testBit_mask (p : Nat → Bool) (n i : Nat) : (maskOf p n).testBit i = (decide (i < n) && p i) := by
  induction n with
  | zero => simp [maskOf]
  | succ n ih =>
    unfold maskOf
    rw [Nat.testBit_or, ih]
    by_cases e : i = n
    · subst e
      by_cases hp : p i = true
      · rw [if_pos hp, Nat.testBit_two_pow]; simp [hp]
      · rw [if_neg hp]; simp [hp]
    · have e1 : decide (i < n + 1) = decide (i < n) := by
        rw [decide_eq_decide]; omega
      rw [e1]
      by_cases hp : p n = true
      · rw [if_pos hp, Nat.testBit_two_pow]; simp [Ne.symm e]
      · rw [if_neg hp]; simp

theorem mask_lt (p : Nat → Bool) (n : Nat) : maskOf p n < 2 ^ n := by
  apply Nat.lt_pow_two_of_testBit
  intro i hi
  rw [testBit_mask]
  simp; omega

theorem mask_succ (p : Nat → Bool) (n : Nat) : maskOf p (n + 1) = maskOf p n ||| (if p n = true then 2 ^ n else 0) := rfl
theorem mask_yes {p : Nat → Bool} {n : Nat} (h : p n = true) : maskOf p (n + 1) = maskOf p n ||| 2 ^ n := by rw [mask_succ, if_pos h]
theorem mask_no {p : Nat → Bool} {n : Nat} (h : p n = false) : maskOf p (n + 1) = maskOf p n := by rw [mask_succ, if_neg (by rw [h]; decide), Nat.or_zero]

theorem u64_id {n : Nat} (h : n < 2 ^ 64) : IntKind.u64.wrap (n : Int) = n := by rw [IntKind.wrap_u64]; omega
theorem u64_pow {i : Nat} (h : i < 64) : IntKind.u64.wrap ((2 : Int) ^ i) = ((2 ^ i : Nat) : Int) := by
  have : ((2 : Int) ^ i) = ((2 ^ i : Nat) : Int) := by push_cast; rfl
  rw [this, u64_id (Nat.pow_lt_pow_right (by omega) h)]
theorem of_nat64 {n : Nat} (h : n < 2 ^ 64) : (BitVec.ofInt 64 (n : Int)).toNat = n := by
  rw [BitVec.ofInt_natCast, BitVec.toNat_ofNat, Nat.mod_eq_of_lt h]
theorem or_mask {a b : Nat} (ha : a < 2 ^ 64) (hb : b < 2 ^ 64) : bits .or .u64 (a : Int) (b : Int) = ((a ||| b : Nat) : Int) := by
  show IntKind.u64.wrap ((BitVec.ofInt 64 (a : Int) ||| BitVec.ofInt 64 (b : Int)).toNat : Int) = _
  rw [BitVec.toNat_or, of_nat64 ha, of_nat64 hb, u64_id (Nat.or_lt_two_pow ha hb)]
theorem and_mask {a b : Nat} (ha : a < 2 ^ 64) (hb : b < 2 ^ 64) : bits .and .u64 (a : Int) (b : Int) = ((a &&& b : Nat) : Int) := by
  show IntKind.u64.wrap ((BitVec.ofInt 64 (a : Int) &&& BitVec.ofInt 64 (b : Int)).toNat : Int) = _
  rw [BitVec.toNat_and, of_nat64 ha, of_nat64 hb, u64_id (Nat.and_lt_two_pow _ hb)]
theorem bit_of64 {a i : Nat} (ha : a < 2 ^ 64) : (BitVec.ofInt 64 (a : Int)).getLsbD i = a.testBit i := by
  unfold BitVec.getLsbD; rw [of_nat64 ha]
/-- Is something of a not in b? -/
theorem andNot_zero {a b : Nat} (ha : a < 2 ^ 64) (hb : b < 2 ^ 64) : bits .andNot .u64 (a : Int) (b : Int) = 0 ↔ ∀ i, a.testBit i = true → b.testBit i = true := by
  have e : bits .andNot .u64 (a : Int) (b : Int) = ((BitVec.ofInt 64 (a : Int) &&& ~~~ BitVec.ofInt 64 (b : Int)).toNat : Int) := by
    show IntKind.u64.wrap ((BitVec.ofInt 64 (a : Int) &&& ~~~ BitVec.ofInt 64 (b : Int)).toNat : Int) = _
    rw [u64_id (BitVec.isLt _)]
  rw [e]
  constructor
  · intro h i hi
    have h0 : (BitVec.ofInt 64 (a : Int) &&& ~~~ BitVec.ofInt 64 (b : Int)) = 0#64 := BitVec.eq_of_toNat_eq (by simpa using h)
    have h1 := congrArg (fun v => BitVec.getLsbD v i) h0
    have hi64 : i < 64 := by
      by_cases hc : i < 64
      · exact hc
      · rw [Nat.testBit_lt_two_pow (Nat.lt_of_lt_of_le ha (Nat.pow_le_pow_right (by omega) (by omega)))] at hi; cases hi
    simp only [BitVec.getLsbD_and, BitVec.getLsbD_not, bit_of64 ha, bit_of64 hb, hi, BitVec.getLsbD_zero, decide_eq_true hi64] at h1
    simpa using h1
  · intro h
    have h0 : (BitVec.ofInt 64 (a : Int) &&& ~~~ BitVec.ofInt 64 (b : Int)) = 0#64 := by
      apply BitVec.eq_of_getLsbD_eq
      intro i hi
      rw [BitVec.getLsbD_and, BitVec.getLsbD_not, bit_of64 ha, bit_of64 hb, BitVec.getLsbD_zero]
      cases e : a.testBit i with
      | false => rfl
      | true => simp [h i e]
    rw [h0]; rfl
/-- Is i in a? -/
theorem and_bit_zero {a i : Nat} (ha : a < 2 ^ 64) (hi : i < 64) : bits .and .u64 (a : Int) (IntKind.u64.wrap ((2 : Int) ^ i)) = 0 ↔ a.testBit i = false := by
  rw [u64_pow hi, and_mask ha (Nat.pow_lt_pow_right (by omega) hi)]
  constructor
  · intro h
    have h0 : a &&& 2 ^ i = 0 := by omega
    have h1 := congrArg (fun n => Nat.testBit n i) h0
    simp only [Nat.testBit_and, Nat.testBit_two_pow_self, Bool.and_true, Nat.zero_testBit] at h1
    exact h1
  · intro h
    have h0 : a &&& 2 ^ i = 0 := by
      apply Nat.eq_of_testBit_eq
      intro j
      rw [Nat.testBit_and, Nat.testBit_two_pow, Nat.zero_testBit]
      by_cases e : i = j
      · subst e; rw [h]; rfl
      · simp [e]
    rw [h0]; rfl
theorem or_bit {a i : Nat} (ha : a < 2 ^ 64) (hi : i < 64) : bits .or .u64 (a : Int) (IntKind.u64.wrap ((2 : Int) ^ i)) = ((a ||| 2 ^ i : Nat) : Int) := by
  rw [u64_pow hi, or_mask ha (Nat.pow_lt_pow_right (by omega) hi)]
theorem mask64 (p : Nat → Bool) {n : Nat} (h : n ≤ 12) : maskOf p n < 2 ^ 64 := Nat.lt_of_lt_of_le (mask_lt p n) (Nat.pow_le_pow_right (by omega) (by omega))

theorem range_set {w : World} {b o : Nat} {cs : List Value} {a : Addr} (h : w.rangeAt b o cs) (hne : a.block ≠ b) (v : Value) : (w.setCell a v).rangeAt b o cs := fun j u hj => by
  rw [World.cell?_setCell_other (h := fun e => hne (by rw [e]))]; exact h j u hj
theorem range_drew {w : World} {b o : Nat} {cs : List Value} (h : w.rangeAt b o cs) : w.drew.rangeAt b o cs := h

theorem row_later {w w' : World} {n b : Nat} {t : TypeId} {m : Nat} {f : Nat → Value} (hb : Below n w w') (h : w.rowIs b t m f) (hn : b < n) : w'.rowIs b t m f := h.of_block (hb.block b hn)

def aheadB (l : List Ev) (i k : Nat) : Bool := evAhead (l.getD k ev0) (l.getD i ev0)
def overB (l : List Ev) (i : Nat) : Bool := (l.getD i ev0).over

theorem info95 : (Try.prog.info? 95).map (fun i => (i.zero, i.size, i.bytes)) = some (some (.int .u64 0), 1, 8) := by kernel_rfl

theorem make_masks (n : Nat) (hn : n ≤ 12) (w : World) :
    (Instr.makeSlice 94 (.int .i64 (n : Int)) (.int .i64 (n : Int))).run Try.prog w = .ok (.slice (some ⟨w.heap.size, 0, none⟩) n n) (w.alloc (.cells (madeCells #[U 0] n) 95)) := by
  cases hq : Try.prog.info? 95 with
  | none => have := info95; rw [hq] at this; cases this
  | some i =>
    have hi := info95
    rw [hq] at hi
    simp only [Option.map_some, Option.some.injEq, Prod.mk.injEq] at hi
    obtain ⟨hz, hs, hb⟩ := hi
    have := run_make (P := Try.prog) w 94 95 i _ Try.underlying94 hq hz .i64 .i64 (n : Int) (n : Int) (by omega) (by omega) (by rw [hb]; omega) (by omega)
    rw [hs] at this
    rw [this]
    simp [Value.cells]

set_option maxHeartbeats 4000000 in
set_option maxRecDepth 100000 in
theorem ranks_any (v : Value) (l : List Ev) (w : World) (h : Evs w v l) (h12 : l.length ≤ 12) :
    Calls Try.prog 44 #[v] w fun e w' => ∃ bk, e = .returned (.tuple #[.slice (some ⟨bk, 0, none⟩) l.length l.length, U (maskOf (overB l) l.length)]) ∧
      w.heap.size ≤ bk ∧ bk < w'.heap.size ∧ w'.rowIs bk 95 l.length (fun i => U (maskOf (aheadB l i) l.length)) ∧ Below w.heap.size w w' := by
  obtain ⟨p, cap, rfl, hc, hm, hE⟩ := h
  unfold maxLen at hm
  have hmk := make_masks l.length h12
  go_enter Try.func44, Try.ntmps44
  go_wp2
  clear hmk
  go_loopw [3, 13] (fun t i u => ∃ k : Nat, k ≤ l.length ∧ i = .int .i64 k ∧ t = U (maskOf (overB l) k) ∧ u.rowIs w.heap.size 95 l.length (fun i => if i < k then U (maskOf (aheadB l i) l.length) else U 0) ∧ Below w.heap.size w u) (fun _ i _ => l.length - (intOf i).toNat)
  case atStart =>
    refine ⟨0, Nat.zero_le _, rfl, rfl, ?_, below_alloc (Below.refl _ _) _⟩
    exact (World.rowIs_made w (U 0) l.length 95).congr fun i _ => by simp
  case round =>
    obtain ⟨k, hk, rfl, rfl, hrow, hb⟩ := hrel
    obtain ⟨wo, hwo⟩ : ∃ wo, wo = wr := ⟨wr, rfl⟩
    subst hwo
    by_cases hlt : k < l.length
    · obtain ⟨blk, off, rfl, hr⟩ := hE k hlt
      have hld := range_later hb hr (range_lt hr)
      have HB : Hid (Below w.heap.size w wo) := hb
      have HS : Hid (w.heap.size < wo.heap.size) := World.rowIs.lt hrow
      have HROW : Hid (wo.rowIs w.heap.size 95 l.length (fun i => if i < k then U (maskOf (aheadB l i) l.length) else U 0)) := hrow
      have HE : Hid (∀ i, i < l.length → ∃ blk' off', some (⟨blk, off, none⟩ : Addr) = some ⟨blk', off', none⟩ ∧ w.rangeAt blk' (off' + i * 8) (evC (l.getD i ev0)).toList) := hE
      generalize hx : l.getD k ev0 = x at hld hr
      have HL : Hid (wo.rangeAt blk (off + k * 8) (evC x).toList) := hld
      have HX : Hid (l.getD k ev0 = x) := hx
      have HBL : Hid (blk < w.heap.size) := range_lt hr
      have HEQ : Hid (∀ i, i < l.length → ∀ b o, some (⟨blk, off, none⟩ : Addr) = some ⟨b, o, none⟩ → b = blk ∧ o = off) := fun i _ b o h => by cases h; exact ⟨rfl, rfl⟩
      clear hb hrow hE hx hr hld
      have hws : w.heap.size < wo.heap.size := HS.out
      cases hov : x.over
      all_goals
        have HO : Hid (x.over = _) := hov
        clear hov
        go_wp2_with ((with_reducible refine wp_load33 (.tmp 16) ?_ ?_ blk (off + k * 8) ?_ x ?_ ?_); rfl; rfl; rfl; exact HL.out)
        refine (over_any x _).mono ?_
        rintro e w3 ⟨rfl, rfl⟩
        rw [HO.out]
        go_wp2_with fail
        go_loopw [26] (fun i u => ∃ j : Nat, j ≤ l.length ∧ i = .int .i64 j ∧ u.rowIs w.heap.size 95 l.length (fun i => if i < k then U (maskOf (aheadB l i) l.length) else if i = k then U (maskOf (aheadB l k) j) else U 0) ∧ u.rangeAt wo.heap.size 0 (evC x).toList ∧ wo.heap.size < u.heap.size ∧ Below w.heap.size w u) (fun i _ => l.length - (intOf i).toNat)
        case atStart =>
          refine ⟨0, Nat.zero_le _, rfl, ?_, ?_, ?_, below_alloc (below_alloc HB.out _) _⟩
          · exact (World.rowIs.alloc (World.rowIs.alloc HROW.out _) _).congr fun i _ => by
              by_cases e : i < k
              · simp [e]
              · by_cases e2 : i = k <;> simp [e, e2, maskOf]
          · exact range_later (below_alloc (Below.refl _ _) _) (range_new _ _ _ _ _ rfl rfl) (by simp)
          · simp; omega
        case round =>
          obtain ⟨j, hj, rfl, hrow, hbx, hsz, hb2⟩ := hrel
          by_cases hjk : j < l.length
          · obtain ⟨b', o', e', hry0⟩ := HE.out j (by omega)
            obtain ⟨rfl, rfl⟩ := HEQ.out j hjk _ _ e'
            have hry := range_later hb2 hry0 HBL.out
            generalize hy : l.getD j ev0 = y at hry hry0
            have HY : Hid (l.getD j ev0 = y) := hy
            have HB2 : Hid (Below w.heap.size w wr) := hb2
            have HRY : Hid (wr.rangeAt b' (o' + j * 8) (evC y).toList) := hry
            have HBX : Hid (wr.rangeAt wo.heap.size 0 (evC x).toList) := hbx
            have HRW : Hid (wr.rowIs w.heap.size 95 l.length (fun i => if i < k then U (maskOf (aheadB l i) l.length) else if i = k then U (maskOf (aheadB l k) j) else U 0)) := hrow
            obtain ⟨x0, x1, x2, x3, x4, x5, x6, x7⟩ := box8 hbx
            have hcu := World.rowIs.cell hrow hlt
            have hfu := World.rowIs.frozen hrow k
            have hws : w.heap.size < wr.heap.size := World.rowIs.lt hrow
            simp only [Nat.lt_irrefl, if_false, if_true] at hcu
            clear hy hb2 hry hry0 e' hbx hrow
            cases h1 : evAhead y x
            · have H1 : Hid (evAhead y x = false) := h1
              clear h1
              go_wp2_with ((with_reducible refine wp_load33 (.tmp 29) ?_ ?_ b' (o' + j * 8) ?_ y ?_ ?_); rfl; rfl; rfl; exact HRY.out)
              refine (ahead_any y x _).mono ?_
              rintro e w4 ⟨rfl, hb4⟩
              rw [H1.out]
              have HB4 : Hid (Below _ _ w4) := hb4
              have hsz4 : wr.heap.size + 1 ≤ w4.heap.size := by have := hb4.size; simpa using this
              clear hb4
              go_wp2_with fail
              go_roundw
              case rel =>
                have hbb := below_step (below_alloc (Below.refl _ wr) _) HB4.out
                refine ⟨j + 1, by omega, by go_num, ?_, range_later hbb HBX.out hsz, by omega, HB2.out.trans (hbb.mono (by omega))⟩
                rw [mask_no (show aheadB l k j = false by unfold aheadB; rw [HX.out, HY.out]; exact H1.out)]
                exact row_later hbb HRW.out hws
              case measure => simp [intOf]; omega
            · have H1 : Hid (evAhead y x = true) := h1
              clear h1
              go_wp2_with ((with_reducible refine wp_load33 (.tmp 29) ?_ ?_ b' (o' + j * 8) ?_ y ?_ ?_); rfl; rfl; rfl; exact HRY.out)
              refine (ahead_any y x _).mono ?_
              rintro e w4 ⟨rfl, hb4⟩
              rw [H1.out]
              obtain ⟨hc4, hf4⟩ := bcell hb4
              have HB4 : Hid (Below _ _ w4) := hb4
              have hsz4 : wr.heap.size + 1 ≤ w4.heap.size := by have := hb4.size; simpa using this
              clear hb4
              go_wp2_with fail
              go_region
              go_wp2_with fail
              go_roundw
              case rel =>
                have hbb := below_step (below_alloc (Below.refl _ wr) _) HB4.out
                have hst : bits .or .u64 (maskOf (aheadB l k) j : Int) (IntKind.u64.wrap ((2 : Int) ^ j)) = ((maskOf (aheadB l k) (j + 1) : Nat) : Int) := by
                  rw [or_bit (mask64 _ (by omega)) (by omega), mask_yes (show aheadB l k j = true by unfold aheadB; rw [HX.out, HY.out]; exact H1.out)]
                refine ⟨j + 1, by omega, by go_num, ?_, ?_, ?_, ?_⟩
                · rw [hst]
                  refine World.rowIs.drew ((World.rowIs.set (row_later hbb HRW.out hws) k _).congr fun i hi => ?_)
                  by_cases e : i = k
                  · subst e; simp
                  · simp [e]
                · exact range_drew (range_set (range_later hbb HBX.out hsz) (by simp; omega) _)
                · simp [World.setCell]; omega
                · exact ((HB2.out.trans (hbb.mono (by omega))).setCell (Nat.le_refl _) _).drew
              case measure => simp [intOf]; omega
          · have : j = l.length := by omega
            subst this
            have HB2 : Hid (Below w.heap.size w wr) := hb2
            have HRW : Hid (wr.rowIs w.heap.size 95 l.length (fun i => if i < k then U (maskOf (aheadB l i) l.length) else if i = k then U (maskOf (aheadB l k) l.length) else U 0)) := hrow
            clear hb2 hrow hbx
            go_wp2_with fail
            go_roundw
            case rel =>
              refine ⟨k + 1, by omega, by go_num, ?_, HRW.out.congr fun i hi => ?_, HB2.out⟩
              · have hov : overB l k = x.over := by unfold overB; rw [HX.out]
                first
                  | rw [mask_no (hov.trans HO.out)]
                  | rw [mask_yes (hov.trans HO.out), or_bit (mask64 _ (by omega)) (by omega)]
              · by_cases e : i < k
                · simp [e, show i < k + 1 by omega]
                · by_cases e2 : i = k
                  · subst e2; simp
                  · simp [e, e2, show ¬ i < k + 1 by omega]
            case measure => simp [intOf]; omega
    · have : k = l.length := by omega
      subst this
      go_wp2_with fail
      go_ret2
      refine ⟨w.heap.size, rfl, Nat.le_refl _, World.rowIs.lt hrow, hrow.congr fun i hi => ?_, hb⟩
      simp [hi]

end Go.Proofs.Yteniopbmkooomaa
