/-
  What the search of package history does, over a state that is a pile: it tells whether there is an order from here on.
-/
import Derived.Test.YteniopbmkooomaaPileA
import Derived.Test.YteniopbmkooomaaSearch
namespace Go.Proofs.Yteniopbmkooomaa
open Go.RowKit Hi Go.Deep Go.Maps

/-- No key of the map leads anywhere. -/
def KeyP (ways : Ways Pile) (l : List Ev) (key : Value) : Prop := ∀ (T : Nat) (s : Pile), GoodP s → key = .agg (posP T s) → ¬ GoesH ways l T s

set_option maxHeartbeats 8000000 in
set_option maxRecDepth 100000 in
theorem searchP (br : Nat) (l : List Ev) (h12 : l.length ≤ 12) (ways : Ways Pile) (Inv : Nat → Pile → Prop) (Cap : World → Prop) (hgood : ∀ T s, Inv T s → GoodP s)
    (hask : ∀ (T : Nat) (s : Pile) (i : Nat) (w : World), Inv T s → i < l.length → T.testBit i = false → Cap w → Calls Try.prog 50 #[.agg (stP s), evV (l.getD i ev0), P1 br] w fun e w' => ∃ v, e = .returned v ∧ Outs 10 encP w' v (ways s (l.getD i ev0)) ∧ Below w.heap.size w w')
    (hfit : ∀ T s i, Inv T s → i < l.length → T.testBit i = false → ∀ o ∈ ways s (l.getD i ev0), Inv (T ||| 2 ^ i) o.2) (hlen : ∀ s x, (ways s x).length ≤ 2)
    (bn bv bl bb ba bs bm bk : Nat) (hcap : ∀ w w', Frm bm w w' → Cap w → Cap w') (v : Value) : ∀ (m T : Nat) (s : Pile) (w : World) (cnt : Nat), T < 2 ^ l.length → left T l.length ≤ m → Inv T s → cnt + calls m ≤ 1000000000000000000 → Cap w →
    Env 47 (.func (.func 50) #[] #[P1 br]) l bn bv bl bb ba bs bm bk v w → Vain 111 (KeyP ways l) w bm cnt →
    Calls Try.prog 47 #[.agg (posP T s), P1 bn, P1 bv, P1 bl, P1 bb, P1 ba, P1 bs] w fun e w' => RetB e (GoesH ways l T s) ∧ Vain 111 (KeyP ways l) w' bm (cnt + calls m) ∧ Frm bm w w' := by
  have hcf := cf50
  intro m
  induction m with
  | zero =>
    intro T s w cnt hT hleft hs hcnt hC hE hV
    have hT64 : T < 2 ^ 64 := Nat.lt_of_lt_of_le hT (Nat.pow_le_pow_right (by omega) (by omega))
    have HT64 : Hid (T < 2 ^ 64) := hT64
    have hd : ∀ i, i < l.length → (l.getD i ev0).over = true → T.testBit i = true := fun i hi _ => left_zero (by omega) i hi
    obtain ⟨cn, cv, cl, cb, ca, cs, hev, hrow⟩ := hE
    have HV : Hid (Vain 111 (KeyP ways l) w bm cnt) := hV
    have ln := World.block_lt_of_cell? _ _ cn
    simp only [] at ln
    have hz := (needed_iff h12 HT64.out).2 hd
    have HD : Hid (∀ i, i < l.length → (l.getD i ev0).over = true → T.testBit i = true) := hd
    have hz' : (bits .andNot .u64 (maskOf (overB l) l.length : Int) (T : Int) == 0) = true := by rw [hz]; rfl
    have hp0 := posP0 T s
    clear hd hz hev hrow hV hT hT64 hgood hask hfit hlen hcap hC hs
    go_enter Try.func47, Try.ntmps47
    go_wp2_with fail
    go_ret
    exact ⟨retB_yes rfl (goesH_done HD.out), (HV.out.alloc _).mono (by omega), HV.out.frm.alloc _⟩
  | succ m ih =>
    intro T s w cnt hT hleft hs hcnt hC hE hV
    have hT64 : T < 2 ^ 64 := Nat.lt_of_lt_of_le hT (Nat.pow_le_pow_right (by omega) (by omega))
    have HT : Hid (T < 2 ^ l.length) := hT
    have HT64 : Hid (T < 2 ^ 64) := hT64
    have HGOOD : Hid (∀ T s, Inv T s → GoodP s) := hgood
    have HASK : Hid (∀ (T : Nat) (s : Pile) (i : Nat) (w : World), Inv T s → i < l.length → T.testBit i = false → Cap w → Calls Try.prog 50 #[.agg (stP s), evV (l.getD i ev0), P1 br] w fun e w' => ∃ v, e = .returned v ∧ Outs 10 encP w' v (ways s (l.getD i ev0)) ∧ Below w.heap.size w w') := hask
    have HFIT : Hid (∀ T s i, Inv T s → i < l.length → T.testBit i = false → ∀ o ∈ ways s (l.getD i ev0), Inv (T ||| 2 ^ i) o.2) := hfit
    have HLEN : Hid (∀ s x, (ways s x).length ≤ 2) := hlen
    have HCAP : Hid (∀ w w', Frm bm w w' → Cap w → Cap w') := hcap
    have HC : Hid (Cap w) := hC
    have HS : Hid (Inv T s) := hs
    have hp0 := posP0 T s
    clear hgood hask hfit hlen hcap hC hs
    obtain ⟨cn, cv, cl, cb, ca, cs, hev, hrow⟩ := hE
    have HE : Hid (Env 47 (.func (.func 50) #[] #[P1 br]) l bn bv bl bb ba bs bm bk v w) := ⟨cn, cv, cl, cb, ca, cs, hev, hrow⟩
    have HV : Hid (Vain 111 (KeyP ways l) w bm cnt) := hV
    have ln := World.block_lt_of_cell? _ _ cn
    have lv := World.block_lt_of_cell? _ _ cv
    have ll := World.block_lt_of_cell? _ _ cl
    have lb := World.block_lt_of_cell? _ _ cb
    have la := World.block_lt_of_cell? _ _ ca
    have ls := World.block_lt_of_cell? _ _ cs
    simp only [] at ln lv ll lb la ls
    clear hT hT64
    by_cases hd : ∀ i, i < l.length → (l.getD i ev0).over = true → T.testBit i = true
    · have hz := (needed_iff h12 HT64.out).2 hd
      have HD : Hid (∀ i, i < l.length → (l.getD i ev0).over = true → T.testBit i = true) := hd
      have hz' : (bits .andNot .u64 (maskOf (overB l) l.length : Int) (T : Int) == 0) = true := by rw [hz]; rfl
      clear hd hz hev hrow hV ih
      go_enter Try.func47, Try.ntmps47
      go_wp2_with fail
      go_ret
      exact ⟨retB_yes rfl (goesH_done HD.out), (HV.out.alloc _).mono (by omega), HV.out.frm.alloc _⟩
    · have hz : ¬ bits .andNot .u64 (maskOf (overB l) l.length : Int) (T : Int) = 0 := fun h => hd ((needed_iff h12 HT64.out).1 h)
      have hz' : (bits .andNot .u64 (maskOf (overB l) l.length : Int) (T : Int) == 0) = false := by simpa using hz
      have HD : Hid (¬ ∀ i, i < l.length → (l.getD i ev0).over = true → T.testBit i = true) := hd
      obtain ⟨D, hown, hQ⟩ := hV
      obtain ⟨kl, hkl⟩ := key111 HT64.out (HGOOD.out _ _ HS.out)
      have HKL : Hid (keyOf Try.prog 111 (.agg (posP T s)) = some kl) := hkl
      have HOWN : Hid ((w.alloc (.cells (posP T s) 111)).ownsMap Try.prog 111 unitElem bm cnt D) := hown.alloc _
      have HQ : Hid (∀ key kl, keyOf Try.prog 111 key = some kl → Maps.has D kl = true → KeyP ways l key) := hQ
      have HRP : Hid ((w.alloc (.cells (posP T s) 111)).rangeAt w.heap.size 0 (U T :: encP s)) := range_new _ _ _ _ _ (by simp [posP]) rfl
      clear hd hz hkl hown hQ
      cases hh : Maps.has D kl
      · have HH : Hid (Maps.has D kl = false) := hh
        clear hh
        obtain ⟨p, cap, rfl, hcap, hmax, hEv⟩ := hev
        unfold maxLen at hmax
        have HEV : Hid (∀ i, i < l.length → ∃ blk off, p = some ⟨blk, off, none⟩ ∧ w.rangeAt blk (off + i * 8) (evC (l.getD i ev0)).toList) := hEv
        have HIH : Hid (∀ (T : Nat) (s : Pile) (w : World) (cnt : Nat), T < 2 ^ l.length → left T l.length ≤ m → Inv T s → cnt + calls m ≤ 1000000000000000000 → Cap w →
            Env 47 (.func (.func 50) #[] #[P1 br]) l bn bv bl bb ba bs bm bk (.slice p l.length cap) w → Vain 111 (KeyP ways l) w bm cnt →
            Calls Try.prog 47 #[.agg (posP T s), P1 bn, P1 bv, P1 bl, P1 bb, P1 ba, P1 bs] w fun e w' => RetB e (GoesH ways l T s) ∧ Vain 111 (KeyP ways l) w' bm (cnt + calls m) ∧ Frm bm w w') := ih
        have HLEFT : Hid (left T l.length ≤ m + 1) := hleft
        have hcalls : calls (m + 1) = 1 + 12 * (2 * calls m) := rfl
        have HCNT : Hid (cnt + (1 + 12 * (2 * calls m)) ≤ 1000000000000000000) := by rw [hcalls] at hcnt; exact hcnt
        have HCALLS : Hid (calls (m + 1) = 1 + 12 * (2 * calls m)) := hcalls
        clear hEv ih hrow hleft hcnt hcalls
        go_enter Try.func47, Try.ntmps47
        go_wp2_with first
          | ((with_reducible refine wp_load111 ?_ (.tmp 7) ?_ w.heap.size 0 ?_ T s ?_ ?_); rfl; rfl; rfl; exact HRP.out)
          | (at_lookup; refine wpList_lookup_own_unit _ rfl _ _ 108 rfl 111 102 law111 Try.underlying108 (zero102 _) bm cnt D rfl HOWN.out _ kl rfl HKL.out ?_; rw [HH.out])
        go_loopw [30] (fun i u => ∃ k : Nat, k ≤ l.length ∧ i = .int .i64 k ∧ (∀ i, i < k → NoVia ways l T s i) ∧ Vain 111 (KeyP ways l) u bm (cnt + k * (2 * calls m)) ∧ u.rangeAt w.heap.size 0 (U T :: encP s) ∧ Frm bm w u) (fun i _ => l.length - (intOf i).toNat)
        case atStart =>
          refine ⟨0, Nat.zero_le _, rfl, fun i hi => absurd hi (Nat.not_lt_zero _), ?_, ?_, (HV.out.frm.alloc _).alloc _⟩
          · exact ((HV.out.alloc _).alloc _).mono (by omega)
          · exact range_old HRP.out (by simp) _
        case round =>
          obtain ⟨k, hk, rfl, hno, hV, hpr, hF⟩ := hrel
          obtain ⟨wo, hwo⟩ : ∃ wo, wo = wr := ⟨wr, rfl⟩
          subst hwo
          have HNO : Hid (∀ i, i < k → NoVia ways l T s i) := hno
          have HVO : Hid (Vain 111 (KeyP ways l) wo bm (cnt + k * (2 * calls m))) := hV
          have HPR : Hid (wo.rangeAt w.heap.size 0 (U T :: encP s)) := hpr
          have HF : Hid (Frm bm w wo) := hF
          have HEO : Hid (Env 47 (.func (.func 50) #[] #[P1 br]) l bn bv bl bb ba bs bm bk (.slice p l.length cap) wo) := HE.out.frm hF
          have HCO : Hid (Cap wo) := HCAP.out _ _ hF HC.out
          clear cn cv cl cb ca cs ln lv ll lb la ls hno hV hF
          obtain ⟨cn, cv, cl, cb, ca, cs, hev, hrow⟩ := HEO.out
          have ln := World.block_lt_of_cell? _ _ cn
          have lv := World.block_lt_of_cell? _ _ cv
          have ll := World.block_lt_of_cell? _ _ cl
          have lb := World.block_lt_of_cell? _ _ cb
          have la := World.block_lt_of_cell? _ _ ca
          have ls := World.block_lt_of_cell? _ _ cs
          have p0 : wo.cell? ⟨w.heap.size, 0, none⟩ = some (U T) := by simpa using hpr 0 _ rfl
          have lp := World.block_lt_of_cell? _ _ p0
          simp only [] at ln lv ll lb la ls lp
          by_cases hlt : k < l.length
          · obtain ⟨blk, off, rfl, hr⟩ := HEV.out k hlt
            have hld := HF.out.range hr
            have lk := hrow.lt
            have ck := hrow.cell hlt
            generalize hx : l.getD k ev0 = x at hld hr
            have HX : Hid (l.getD k ev0 = x) := hx
            have HL : Hid (wo.rangeAt blk (off + k * 8) (evC x).toList) := hld
            clear hx hr hld hev hrow hpr
            by_cases hb1 : T.testBit k = true
            · have HB1 : Hid (T.testBit k = true) := hb1
              have q1 : (bits .and .u64 (T : Int) (IntKind.u64.wrap ((2 : Int) ^ k)) != 0) = true := by
                have := mt (and_bit_zero (i := k) HT64.out (by omega)).1 (by rw [hb1]; decide)
                simpa using this
              clear hb1
              go_wp2_with ((with_reducible refine wp_load33 (.tmp 33) ?_ ?_ blk (off + k * 8) ?_ x ?_ ?_); rfl; rfl; rfl; exact HL.out)
              go_quiet (fail)
              go_wp2_with fail
              go_roundw
              case rel =>
                refine ⟨k + 1, by omega, by go_num, upto_succ HNO.out (noVia_taken HB1.out), ?_, ?_, (HF.out.alloc _).drewN _⟩
                · exact ((HVO.out.alloc _).drewN _).mono (Nat.add_le_add_left (Nat.mul_le_mul_right _ (Nat.le_succ _)) _)
                · exact range_later (below_drewN (below_alloc (Below.refl _ _) _) _) HPR.out lp
              case measure => simp [intOf]; omega
            · have HB1 : Hid (T.testBit k = false) := Bool.eq_false_iff.2 hb1
              have q1 : (bits .and .u64 (T : Int) (IntKind.u64.wrap ((2 : Int) ^ k)) != 0) = false := by
                have := (and_bit_zero (i := k) HT64.out (by omega)).2 (Bool.eq_false_iff.2 hb1)
                rw [this]; rfl
              clear hb1
              by_cases hb2 : ∀ i, i < l.length → evAhead (l.getD i ev0) (l.getD k ev0) = true → T.testBit i = true
              · have HB2 : Hid (∀ i, i < l.length → evAhead (l.getD i ev0) (l.getD k ev0) = true → T.testBit i = true) := hb2
                have q2 : (bits .andNot .u64 (maskOf (aheadB l k) l.length : Int) (T : Int) != 0) = false := by
                  rw [(behind_iff h12 HT64.out).2 hb2]; rfl
                clear hb2
                have HASKX : Hid (∀ W, Cap W → Calls Try.prog 50 #[.agg (stP s), evV x, P1 br] W fun e w' => ∃ v, e = .returned v ∧ Outs 10 encP w' v (ways s x) ∧ Below W.heap.size W w') := by
                  intro W hW
                  have := HASK.out T s k W HS.out hlt HB1.out hW
                  rw [HX.out] at this
                  exact this
                go_wp2_with ((with_reducible refine wp_load33 (.tmp 33) ?_ ?_ blk (off + k * 8) ?_ x ?_ ?_); rfl; rfl; rfl; exact HL.out)
                go_quiet (fail)
                go_wp2_with ((with_reducible refine wp_load68 ?_ (.tmp 53) ?_ w.heap.size 1 ?_ s ?_ ?_); rfl; rfl; rfl; exact range_later (below_drewN (below_alloc (Below.refl _ _) _) _) (range_tail HPR.out) lp)
                refine (HASKX.out _ (HCAP.out _ _ ((HVO.out.frm.alloc _).drewN _) HCO.out)).mono ?_
                rintro e w3 ⟨ov, rfl, ⟨q, rfl, hq⟩, hb3⟩
                have hfr3 : Frm bm wo w3 := ((HVO.out.frm.alloc _).drewN _).below hb3
                have HFR3 : Hid (Frm bm wo w3) := hfr3
                have HV3 : Hid (Vain 111 (KeyP ways l) w3 bm (cnt + k * (2 * calls m))) := ((HVO.out.alloc _).drewN _).below hb3
                have HBX3 : Hid (w3.rangeAt wo.heap.size 0 (evC x).toList) := by
                  refine range_later hb3 (range_later (below_drewN (Below.refl (wo.heap.size + 1) _) _) (range_new _ _ _ _ _ rfl rfl) (Nat.lt_succ_self _)) ?_
                  show wo.heap.size < (wo.alloc _).heap.size
                  simp
                have hl2 := HLEN.out s x
                have HFT : Hid (∀ o ∈ ways s x, Inv (T ||| 2 ^ k) o.2) := by have := HFIT.out T s k HS.out hlt HB1.out; rw [HX.out] at this; exact this
                generalize hos : ways s x = os at hq hl2 HFT
                have HOS' : Hid (ways s x = os) := hos
                have HQ3 : Hid (∀ (i : Nat) (o : (Int × Int) × Pile), os[i]? = some o → ∃ blk, q = some ⟨blk, 0, none⟩ ∧ w3.rangeAt blk (i * 10) ([I o.1.1, I o.1.2] ++ encP o.2)) := hq
                clear hos hq hb3 hfr3 cn cv cl cb ca cs ln lv ll lb la ls p0 lp lk ck
                go_wp2_with fail
                go_loopw [58] (fun i u => ∃ j : Nat, j ≤ os.length ∧ i = .int .i64 j ∧ (∀ i o, i < j → os[i]? = some o → Helps x s o → ¬ GoesH ways l (T ||| 2 ^ k) o.2) ∧ Vain 111 (KeyP ways l) u bm (cnt + k * (2 * calls m) + j * calls m) ∧ Frm bm w3 u) (fun i _ => os.length - (intOf i).toNat)
                case atStart =>
                  exact ⟨0, Nat.zero_le _, rfl, fun i _ hi => absurd hi (Nat.not_lt_zero _), HV3.out.mono (by omega), HV3.out.frm⟩
                case round =>
                  obtain ⟨j, hj, rfl, hno, hV, hF⟩ := hrel
                  have HNO2 : Hid (∀ i o, i < j → os[i]? = some o → Helps x s o → ¬ GoesH ways l (T ||| 2 ^ k) o.2) := hno
                  have HV : Hid (Vain 111 (KeyP ways l) wr bm (cnt + k * (2 * calls m) + j * calls m)) := hV
                  have HF2 : Hid (Frm bm wo wr) := HFR3.out.trans hF
                  have HF3 : Hid (Frm bm w3 wr) := hF
                  obtain ⟨cn, cv, cl, cb, ca, cs, hev, hrow⟩ := HEO.out.frm HF2.out
                  have ln := World.block_lt_of_cell? _ _ cn
                  have lv := World.block_lt_of_cell? _ _ cv
                  have ls := World.block_lt_of_cell? _ _ cs
                  have hpr := HF2.out.range HPR.out
                  have HPR2 : Hid (wr.rangeAt w.heap.size 0 (U T :: encP s)) := hpr
                  have p0 : wr.cell? ⟨w.heap.size, 0, none⟩ = some (U T) := by simpa using hpr 0 _ rfl
                  have lp := World.block_lt_of_cell? _ _ p0
                  have hbx := HF3.out.range HBX3.out
                  have HBX : Hid (wr.rangeAt wo.heap.size 0 (evC x).toList) := hbx
                  obtain ⟨x0, x1, x2, x3, x4, x5, x6, x7⟩ := box8 hbx
                  have lx := World.block_lt_of_cell? _ _ x0
                  simp only [] at ln lv ls lp lx
                  clear hno hV hF hev hrow hpr hbx
                  by_cases hjl : j < os.length
                  · obtain ⟨o, ho⟩ : ∃ o, os[j]? = some o := ⟨_, List.getElem?_eq_getElem hjl⟩
                    obtain ⟨blk2, rfl, hro⟩ := HQ3.out j o ho
                    have HO : Hid (os[j]? = some o) := ho
                    have HRO : Hid (wr.rangeAt blk2 (j * 10) (I o.1.1 :: I o.1.2 :: encP o.2)) := HF3.out.range hro
                    have HFO : Hid (Inv (T ||| 2 ^ k) o.2) := HFT.out o (List.mem_of_getElem? ho)
                    have HBO0 : Hid ((wr.alloc (.cells (outP o) 114)).rangeAt wr.heap.size 0 (I o.1.1 :: I o.1.2 :: encP o.2)) := range_new _ _ _ _ _ (by simp [outP]) rfl
                    have HONE : Hid ((outP o).all (·.oneCell') = true) := one114 (HGOOD.out _ _ HFO.out)
                    have HSZ : Hid ((outP o).size = 10) := siz114 (HGOOD.out _ _ HFO.out)
                    clear ho hro
                    go_wp2_with first
                      | ((with_reducible refine wp_load114 ?_ (.tmp 60) ?_ blk2 (j * 10) ?_ o ?_ ?_); rfl; rfl; rfl; exact HRO.out)
                      | ((with_reducible refine wpG_alloc ?_ 114 ?_ zero114A ?_ ?_); rfl; rfl; exact zero114 _)
                      | ((with_reducible refine wpG_store_new ?_ 114 (.tmp 15) (.tmp 61) ?_ zero114A (outP o) ?_ ?_ ?_ ?_ ?_ ?_); rfl; rfl; rfl; rfl; exact HSZ.out.symm; (rw [HSZ.out]; exact size114); exact HONE.out)
                      | ((with_reducible refine wp_load68 ?_ (.tmp 63) ?_ w.heap.size 1 ?_ s ?_ ?_); rfl; rfl; rfl; exact range_old (range_tail HPR2.out) lp _)
                      | ((with_reducible refine wp_load114 ?_ (.tmp 15) ?_ wr.heap.size 0 ?_ o ?_ ?_); rfl; rfl; rfl; exact HBO0.out)
                    refine (helpsP_any x s o (HGOOD.out _ _ HS.out) (HGOOD.out _ _ HFO.out) _).mono ?_
                    rintro e w4 ⟨b, rfl, hb, hb4⟩
                    have HF4 : Hid (Frm bm wr w4) := (HV.out.frm.alloc _).below hb4
                    have HV4 : Hid (Vain 111 (KeyP ways l) w4 bm (cnt + k * (2 * calls m) + j * calls m)) := (HV.out.alloc _).below hb4
                    have HH4 : Hid (b = true ↔ Helps x s o) := hb
                    have HBO : Hid (w4.rangeAt wr.heap.size 0 (I o.1.1 :: I o.1.2 :: encP o.2)) := range_later hb4 HBO0.out (by simp)
                    clear hb hb4 cn cv cl cb ca cs ln lv ls p0 lp x0 x1 x2 x3 x4 x5 x6 x7 lx
                    cases b
                    · go_wp2_with fail
                      go_roundw
                      case rel =>
                        refine ⟨j + 1, by omega, by go_num, fun i o' hi ho' hh => ?_, HV4.out.mono (by have e1 : (j + 1) * calls m = j * calls m + calls m := Nat.succ_mul _ _; omega), HF3.out.trans HF4.out⟩
                        by_cases e : i = j
                        · subst e
                          rw [HO.out] at ho'
                          cases ho'
                          exact absurd (HH4.out.2 hh) (by decide)
                        · exact HNO2.out i o' (by omega) ho' hh
                      case measure => simp [intOf]; omega
                    · obtain ⟨cn, cv, cl, cb, ca, cs, hev, hrow⟩ := HEO.out.frm (HF2.out.trans HF4.out)
                      have hpr := (HF2.out.trans HF4.out).range HPR.out
                      have p0 : w4.cell? ⟨w.heap.size, 0, none⟩ = some (U T) := by simpa using hpr 0 _ rfl
                      clear hev hrow hpr
                      go_wp2_with first
                        | ((with_reducible refine wp_load68 ?_ (.tmp 73) ?_ wr.heap.size 2 ?_ o.2 ?_ ?_); rfl; rfl; rfl; exact range_state HBO.out)
                        | ((with_reducible refine wp_build111 ?_ (.tmp 72) (.tmp 74) ?_ (bits .or .u64 (T : Int) (IntKind.u64.wrap ((2 : Int) ^ k))) o.2 (HGOOD.out _ _ HFO.out) ?_ ?_ ?_); rfl; rfl; rfl; rfl)
                      rw [or_bit HT64.out (by omega)]
                      refine (HIH.out (T ||| 2 ^ k) o.2 _ (cnt + k * (2 * calls m) + j * calls m) (or_lt HT.out hlt) (by have := left_or HB1.out hlt; have := HLEFT.out; omega) HFO.out (by
                        have h1 : k * (2 * calls m) ≤ 11 * (2 * calls m) := Nat.mul_le_mul_right _ (by omega)
                        have h2 : j * calls m ≤ 1 * calls m := Nat.mul_le_mul_right _ (by omega)
                        have := HCNT.out
                        omega) (HCAP.out _ _ (HF2.out.trans HF4.out) HCO.out) (HEO.out.frm (HF2.out.trans HF4.out)) HV4.out).mono ?_
                      rintro e w5 ⟨⟨b5, rfl, hb5⟩, hV5, hF5⟩
                      have HV5 : Hid (Vain 111 (KeyP ways l) w5 bm (cnt + k * (2 * calls m) + j * calls m + calls m)) := hV5
                      have HF5 : Hid (Frm bm w4 w5) := hF5
                      have HB5 : Hid (b5 = true ↔ GoesH ways l (T ||| 2 ^ k) o.2) := hb5
                      clear hV5 hF5 hb5 cn cv cl cb ca cs p0
                      cases b5
                      · go_wp2_with fail
                        go_roundw
                        case rel =>
                          refine ⟨j + 1, by omega, by go_num, fun i o' hi ho' hh => ?_, HV5.out.mono (by have e1 : (j + 1) * calls m = j * calls m + calls m := Nat.succ_mul _ _; omega), (HF3.out.trans HF4.out).trans HF5.out⟩
                          by_cases e : i = j
                          · subst e
                            rw [HO.out] at ho'
                            cases ho'
                            exact fun hg => absurd (HB5.out.2 hg) (by decide)
                          · exact HNO2.out i o' (by omega) ho' hh
                        case measure => simp [intOf]; omega
                      · go_wp2_with fail
                        go_ret
                        refine ⟨retB_yes rfl ?_, HV5.out.mono ?_, (HF.out.trans (HF2.out.trans HF4.out)).trans HF5.out⟩
                        · exact goesH_via hlt HB1.out HB2.out (o := o) (by rw [HX.out, HOS'.out]; exact List.mem_of_getElem? HO.out) (by rw [HX.out]; exact HH4.out.1 trivial) (HB5.out.1 trivial)
                        · rw [HCALLS.out]
                          have h1 : k * (2 * calls m) ≤ 11 * (2 * calls m) := Nat.mul_le_mul_right _ (by omega)
                          have h2 : j * calls m ≤ 1 * calls m := Nat.mul_le_mul_right _ (by omega)
                          omega
                  · have : j = os.length := by omega
                    subst this
                    clear cn cv cl cb ca cs ln lv ls p0 lp x0 x1 x2 x3 x4 x5 x6 x7 lx
                    go_wp2_with fail
                    go_roundw
                    case rel =>
                      refine ⟨k + 1, by omega, by go_num, upto_succ HNO.out (noVia_all HX.out HOS'.out HNO2.out), HV.out.mono ?_, HF2.out.range HPR.out, HF.out.trans HF2.out⟩
                      have h2 : os.length * calls m ≤ 2 * calls m := Nat.mul_le_mul_right _ hl2
                      have e1 : (k + 1) * (2 * calls m) = k * (2 * calls m) + 2 * calls m := Nat.succ_mul _ _
                      omega
                    case measure => simp [intOf]; omega
              · have HB2 : Hid (¬ ∀ i, i < l.length → evAhead (l.getD i ev0) (l.getD k ev0) = true → T.testBit i = true) := hb2
                have q2 : (bits .andNot .u64 (maskOf (aheadB l k) l.length : Int) (T : Int) != 0) = true := by
                  have := mt (behind_iff (i := k) h12 HT64.out).1 hb2
                  simpa using this
                clear hb2
                go_wp2_with ((with_reducible refine wp_load33 (.tmp 33) ?_ ?_ blk (off + k * 8) ?_ x ?_ ?_); rfl; rfl; rfl; exact HL.out)
                go_quiet (fail)
                go_wp2_with fail
                go_roundw
                case rel =>
                  refine ⟨k + 1, by omega, by go_num, upto_succ HNO.out (noVia_behind HB2.out), ?_, ?_, (HF.out.alloc _).drewN _⟩
                  · exact ((HVO.out.alloc _).drewN _).mono (Nat.add_le_add_left (Nat.mul_le_mul_right _ (Nat.le_succ _)) _)
                  · exact range_later (below_drewN (below_alloc (Below.refl _ _) _) _) HPR.out lp
                case measure => simp [intOf]; omega
          · have : k = l.length := by omega
            subst this
            have hng : ¬ GoesH ways l T s := goesH_no HD.out HNO.out
            have HNG : Hid (¬ GoesH ways l T s) := hng
            obtain ⟨D', hown', hQ'⟩ := HVO.out
            have HOWN' : Hid (wo.ownsMap Try.prog 111 unitElem bm (cnt + l.length * (2 * calls m)) D') := hown'
            have HQ' : Hid (∀ key kl, keyOf Try.prog 111 key = some kl → Maps.has D' kl = true → KeyP ways l key) := hQ'
            have hroom : cnt + l.length * (2 * calls m) < maxLen := by
              have h1 : l.length * (2 * calls m) ≤ 12 * (2 * calls m) := Nat.mul_le_mul_right _ h12
              have := HCNT.out
              unfold maxLen; omega
            clear hown' hQ' hng hev hrow hpr
            go_wp2_with first
              | ((with_reducible refine wp_load111 ?_ (.tmp 7) ?_ w.heap.size 0 ?_ T s ?_ ?_); rfl; rfl; rfl; exact HPR.out)
              | (at_mapUpdate; refine wpList_mapUpdate_own _ rfl _ _ _ 108 rfl 111 102 law111 Try.underlying108 _ bm (cnt + l.length * (2 * calls m)) D' rfl HOWN'.out hroom _ _ kl rfl rfl HKL.out (.agg []) [] unitElem_mk ?_)
            intro w6 hown6 hg6
            have HO6 : Hid (w6.ownsMap Try.prog 111 unitElem bm (cnt + l.length * (2 * calls m) + 1) (D'.put kl (.agg []))) := hown6
            have HG6 : Hid (wo.grownBy w6 (some bm)) := hg6
            clear hown6 hg6
            go_wp2_with fail
            go_ret
            refine ⟨retB_no rfl HNG.out, ?_, HF.out.trans ⟨HG6.out, HVO.out.frm.2⟩⟩
            have h1 : l.length * (2 * calls m) ≤ 12 * (2 * calls m) := Nat.mul_le_mul_right _ h12
            refine Vain.mono ⟨_, HO6.out, vain_put law111 HQ'.out HKL.out fun T' s' hg' e => ?_⟩ (by rw [HCALLS.out]; omega)
            obtain ⟨e1, e2⟩ := posP_inj (HGOOD.out _ _ HS.out) hg' e
            rw [← e1, ← e2]
            exact HNG.out
      · have HH : Hid (Maps.has D kl = true) := hh
        clear hh hev hrow ih
        go_enter Try.func47, Try.ntmps47
        go_wp2_with first
          | ((with_reducible refine wp_load111 ?_ (.tmp 7) ?_ w.heap.size 0 ?_ T s ?_ ?_); rfl; rfl; rfl; exact HRP.out)
          | (at_lookup; refine wpList_lookup_own_unit _ rfl _ _ 108 rfl 111 102 law111 Try.underlying108 (zero102 _) bm cnt D rfl HOWN.out _ kl rfl HKL.out ?_; rw [HH.out])
        go_ret
        exact ⟨retB_no rfl (HQ.out _ kl HKL.out HH.out T s (HGOOD.out _ _ HS.out) rfl), ((HV.out.alloc _).alloc _).mono (by omega), (HV.out.frm.alloc _).alloc _⟩

end Go.Proofs.Yteniopbmkooomaa
