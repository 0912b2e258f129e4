/-
  The statement HistoryWide: its walk.
-/
import Derived.Test.YteniopbmkooomaaWideF
namespace Go.Proofs.Yteniopbmkooomaa
open Go.RowKit Hi Go.Deep Go.Maps

theorem getD_mem {l : List Ev} {i : Nat} (h : i < l.length) : l.getD i ev0 ∈ l := by
  rw [List.getD_eq_getElem?_getD, List.getElem?_eq_getElem h]; exact List.getElem_mem h

set_option maxHeartbeats 8000000 in
set_option maxRecDepth 100000 in
theorem wide_any (ob st wh wi : Int) (hst : Fits st) (hwi : Fits wi) (v : Value) (l : List Ev) (w : World) (h : SL 8 evL w v l) (hf : ∀ x ∈ l, Fits x.a ∧ Fits x.b ∧ Fits x.beg ∧ Fits x.fin) :
    Calls Try.prog 6 #[I ob, I st, v, I wh, I wi] w fun e w' => e = .returned (.bool true) ∧ Below w.heap.size w w' := by
  have HSL : Hid (SL 8 evL w v l) := h
  have HF : Hid (∀ x ∈ l, Fits x.a ∧ Fits x.b ∧ Fits x.beg ∧ Fits x.fin) := hf
  have HST : Hid (Fits st) := hst
  have HWI : Hid (Fits wi) := hwi
  obtain ⟨p, cap, rfl, hc, hm, h3⟩ := h
  have HSL2 : Hid (∀ i, i < l.length → ∃ blk off, p = some ⟨blk, off, none⟩ ∧ blk < w.heap.size ∧ w.rangeAt blk (off + i * 8) (evC (l.getD i ev0)).toList) := fun i hi => h3 i _ (getD_some hi ev0)
  clear h3
  unfold maxLen at hm
  clear hf hst hwi
  go_enter Try.func6, Try.ntmps6
  go_wp2_with fail
  refine (awake_any _).mono ?_
  rintro e w1 ⟨rfl, hb1⟩
  have HB1 : Hid (Below w.heap.size w w1) := hb1
  clear hb1
  go_wp2_with fail
  refine (heavy_any _ l _ (sl_evs (HSL.out.later HB1.out))).mono ?_
  rintro e w2 ⟨⟨b, rfl⟩, hb2⟩
  have HB2 : Hid (Below w.heap.size w w2) := below_step HB1.out hb2
  clear hb2
  cases b
  · go_wp2_with fail
    refine (linear_any ob st HST.out _ l _ (sl_evs (HSL.out.later HB2.out)) (fun i hi => ⟨(HF.out _ (getD_mem hi)).1, (HF.out _ (getD_mem hi)).2.1⟩)).mono ?_
    rintro e w3 ⟨⟨b, c, rfl, hL⟩, hb3⟩
    have HB3 : Hid (Below w.heap.size w w3) := below_step HB2.out hb3
    have HL : Hid (LinOut ob st l b c) := hL
    clear hb3 hL
    by_cases hc0 : c = 0
    · subst hc0
      cases b
      · go_wp2_with fail
        go_ret
        exact ⟨rfl, HB3.out⟩
      · have hgood : Starts ob st ∧ l.length ≤ 12 ∧ Hist l ∧ Lin (refWays ob st) (firstOf ob st) l := by
          rcases HL.out with ⟨_, h, _⟩ | ⟨_, _, h, _⟩ | ⟨_, _, _, h, _⟩ | ⟨h1, h2, h3, _, h4⟩
          · cases h
          · cases h
          · cases h
          · exact ⟨h1, h2, h3, h4.1 rfl⟩
        obtain ⟨hs, h12, hh, hl⟩ := hgood
        have HS : Hid (Starts ob st) := hs
        have HH : Hid (Hist l) := hh
        have HLIN : Hid (Lin (refWays ob st) (firstOf ob st) l) := hl
        clear hs hh hl HL
        by_cases h0 : l.length = 0
        · have h0' : ((l.length : Int) == 0) = true := by simp [h0]
          go_wp2_with fail
          go_ret
          exact ⟨rfl, HB3.out⟩
        · have h0' : ((l.length : Int) == 0) = false := by simpa using h0
          go_wp2_with fail
          refine (rmodulo_any wh l.length (by omega) (by omega) _).mono ?_
          rintro e w' ⟨rfl, hw⟩
          have hw' := hw.symm
          subst hw'
          clear hw
          obtain ⟨k, hk, hke⟩ : ∃ k : Nat, k < l.length ∧ wh % (l.length : Int) = (k : Int) := by
            have h1 := Int.emod_nonneg wh (show (l.length : Int) ≠ 0 by omega)
            have h2 := Int.emod_lt_of_pos wh (show 0 < (l.length : Int) by omega)
            exact ⟨(wh % (l.length : Int)).toNat, by omega, by omega⟩
          rw [hke]
          clear hke h0
          go_wp2_with fail
          refine (lent_any _ l _ (HSL.out.later HB3.out) (by omega)).mono ?_
          rintro e w4 ⟨rfl, hmk, hb4⟩
          have HM : Hid (Marked evL markE 33 w4 w3.heap.size l) := hmk
          have HB4 : Hid (Below w.heap.size w w4) := below_step HB3.out hb4
          have hgw : w.heap.size ≤ w3.heap.size := HB3.out.size
          have hx := HF.out _ (getD_mem hk)
          have hT := (HH.out k hk).1
          have hr := marked_cells hmk hk
          have f4 := marked_frozen hmk (k * 8 + 4)
          have f5 := marked_frozen hmk (k * 8 + 5)
          generalize hxe : l.getD k ev0 = x at hx hT hr
          have HX : Hid (l.getD k ev0 = x) := hxe
          have c4 : w4.cell? ⟨w3.heap.size, k * 8 + 4, none⟩ = some (I x.beg) := hr 4 _ rfl
          have c5 : w4.cell? ⟨w3.heap.size, k * 8 + 5, none⟩ = some (I x.fin) := hr 5 _ rfl
          have lg := World.block_lt_of_cell? _ _ c4
          simp only [] at lg
          have hx1 := hx.2.2.1
          have hx2 := hx.2.2.2
          have hx3 := hT.1
          have hwi := HWI.out
          unfold Fits at hx1 hx2 hwi
          clear hmk hb4 hx hT hr hxe
          have hcase : (wi < 0 ∨ 1000 < wi) ∨ ((0 ≤ wi ∧ wi ≤ 1000) ∧ x.fin = -1) ∨ ((0 ≤ wi ∧ wi ≤ 1000) ∧ ¬ x.fin = -1) := by omega
          have HUL : Hid (Hist (l.set k (widen wi x)) → Lin (refWays ob st) (firstOf ob st) (l.set k (widen wi x))) := fun hu => by
            rw [← HX.out] at hu ⊢
            exact lin_widen (timeless_ref ob st) hk wi _ (fun i hi => (HF.out _ (getD_mem hi)).2.2.2) HH.out hu HLIN.out
          have HUF : Hid (∀ y ∈ l.set k (widen wi x), Fits y.a ∧ Fits y.b) := fun y hy => by
            rcases List.mem_or_eq_of_mem_set hy with hm | rfl
            · exact ⟨(HF.out y hm).1, (HF.out y hm).2.1⟩
            · have hl := widen_like wi x
              rw [hl.2.1, hl.2.2.1, ← HX.out]
              exact ⟨(HF.out _ (getD_mem hk)).1, (HF.out _ (getD_mem hk)).2.1⟩
          have HUN : Hid ((l.set k (widen wi x)).length = l.length) := by rw [Hid]; simp
          have key : ∀ W, (∃ f, W = w4.setCell ⟨w3.heap.size, k * 8 + 5, none⟩ (I f) ∧ widen wi x = { x with fin := f }) ∨ (∃ b, W = w4.setCell ⟨w3.heap.size, k * 8 + 4, none⟩ (I b) ∧ widen wi x = { x with beg := b }) ∨
              (∃ b f, W = (w4.setCell ⟨w3.heap.size, k * 8 + 4, none⟩ (I b)).setCell ⟨w3.heap.size, k * 8 + 5, none⟩ (I f) ∧ widen wi x = { x with beg := b, fin := f }) →
              Marked evL markE 33 W w3.heap.size (l.set k (widen wi x)) ∧ Below w.heap.size w W := by
            rintro W (⟨f, rfl, he⟩ | ⟨b, rfl, he⟩ | ⟨b, f, rfl, he⟩)
            · exact ⟨marked_fin HM.out hk HX.out f he, HB4.out.setCell (by simpa using hgw) _⟩
            · exact ⟨marked_beg HM.out hk HX.out b he, HB4.out.setCell (by simpa using hgw) _⟩
            · exact ⟨marked_both HM.out hk HX.out b f he, (HB4.out.setCell (by simpa using hgw) _).setCell (by simpa using hgw) _⟩
          have HKEY : Hid _ := key
          clear key
          generalize hU : l.set k (widen wi x) = U at HUL HUF HUN HKEY
          clear hU
          rcases hcase with hw | ⟨hw, hfin⟩ | ⟨hw, hfin⟩
          · go_wp2_with fail
            all_goals
              refine (show ∀ W, (Marked evL markE 33 W w3.heap.size U ∧ Below w.heap.size w W) → Calls Try.prog 8 _ W _ from fun W hW => ?_) _ (HKEY.out _ (.inl ⟨_, rfl, widen_out hw⟩))
              obtain ⟨hM, hB⟩ := hW
              have HM5 : Hid (Marked evL markE 33 W w3.heap.size U) := hM
              have HB5 : Hid (Below w.heap.size w W) := hB
              clear hM hB c4 c5 f4 f5 lg hx1 hx2 hx3 hwi hgw
              refine (heavy_any _ U _ (sl_evs (marked_sl3 HM5.out HUN.out (by omega)))).mono ?_
              rintro e w5 ⟨⟨b, rfl⟩, hb5⟩
              have HB6 : Hid (Below w.heap.size w w5) := below_step HB5.out hb5
              have HM6 : Hid (Marked evL markE 33 w5 w3.heap.size U) := HM5.out.later hb5
              clear hb5
              cases b
              · go_wp2_with fail
                refine (linear_any ob st HST.out _ U _ (sl_evs (marked_sl3 HM6.out HUN.out (by omega))) (fun i hi => HUF.out _ (getD_mem hi))).mono ?_
                rintro e w6 ⟨⟨b, c, rfl, hL⟩, hb6⟩
                have HB7 : Hid (Below w.heap.size w w6) := below_step HB6.out hb6
                have hbc : (b = true ∧ c = 0) ∨ (b = false ∧ c = 30) := by
                  rcases hL with ⟨h, _⟩ | ⟨_, h, _⟩ | ⟨_, _, _, h1, h2⟩ | ⟨_, _, h1, h2, h3⟩
                  · exact absurd HS.out h
                  · have := HUN.out; omega
                  · exact .inr ⟨h1, h2⟩
                  · exact .inl ⟨h3.2 (HUL.out h1), h2⟩
                clear hL hb6
                rcases hbc with ⟨rfl, rfl⟩ | ⟨rfl, rfl⟩
                all_goals
                  go_wp2_with fail
                  go_loopw [20, 21] (fun t i u => ∃ (j q : Nat), j ≤ l.length ∧ i = .int .i64 j ∧ t = I q ∧ q < l.length ∧ Below w.heap.size w u) (fun _ i _ => l.length - (intOf i).toNat)
                  case atStart => exact ⟨0, 0, Nat.zero_le _, rfl, rfl, by omega, HB7.out⟩
                  case round =>
                    obtain ⟨j, q, hj, rfl, rfl, hq, hb⟩ := hrel
                    have HBR : Hid (Below w.heap.size w wr) := hb
                    clear hb
                    by_cases hjl : j < l.length
                    · obtain ⟨blk, off, rfl, hlb, hr⟩ := HSL2.out j hjl
                      obtain ⟨blk', off', e', _, hr'⟩ := HSL2.out q hq
                      cases e'
                      obtain ⟨j4, _⟩ := beg_fin (range_later HBR.out hr hlb)
                      obtain ⟨q4, _⟩ := beg_fin (range_later HBR.out hr' hlb)
                      clear hr hr' hlb
                      generalize l.getD j ev0 = y at j4
                      generalize l.getD q ev0 = z at q4
                      go_wp2_with fail
                      go_quiet (fail)
                      go_wp2_with fail
                      all_goals
                        go_roundw
                        case rel =>
                          first
                            | exact ⟨j + 1, j, by omega, by go_num, rfl, by omega, below_drewN HBR.out _⟩
                            | exact ⟨j + 1, q, by omega, by go_num, rfl, by omega, below_drewN HBR.out _⟩
                        case measure => simp [intOf]; omega
                    · have : j = l.length := by omega
                      subst this
                      obtain ⟨wl, hwl⟩ : ∃ wl, wl = wr := ⟨wr, rfl⟩
                      subst hwl
                      have hlw : w.heap.size ≤ wl.heap.size := HBR.out.size
                      go_wp2_with fail
                      go_loopw [22, 23] (fun t i u => ∃ (j : Nat) (pl : Option Addr) (cpl : Nat), j ≤ l.length ∧ i = .int .i64 j ∧ t = .slice pl (restUp l q (l.getD q ev0).beg j).length cpl ∧
                        u.ownsRow w.heap.size 33 8 (.slice pl (restUp l q (l.getD q ev0).beg j).length cpl) (restUp l q (l.getD q ev0).beg j).length ((restUp l q (l.getD q ev0).beg j).flatMap evL) ∧ Below w.heap.size w u) (fun _ i _ => l.length - (intOf i).toNat)
                      case atStart => exact ⟨0, none, 0, Nat.zero_le _, rfl, rfl, ⟨rfl, .inl ⟨rfl, rfl⟩⟩, HBR.out⟩
                      case round =>
                        obtain ⟨j, pl, cpl, hj, rfl, rfl, hown, hb⟩ := hrel
                        have HBO : Hid (Below w.heap.size w wr) := hb
                        have HOWN : Hid (wr.ownsRow w.heap.size 33 8 (.slice pl (restUp l q (l.getD q ev0).beg j).length cpl) (restUp l q (l.getD q ev0).beg j).length ((restUp l q (l.getD q ev0).beg j).flatMap evL)) := hown
                        have hlr : w.heap.size ≤ wr.heap.size := HBO.out.size
                        have hrl := restUp_len l q (l.getD q ev0).beg j
                        clear hown hb
                        by_cases hjl : j < l.length
                        · by_cases hjq : j = q
                          · subst hjq
                            have he : restUp l j (l.getD j ev0).beg (j + 1) = restUp l j (l.getD j ev0).beg j := by show _ ++ _ = _; rw [if_pos rfl, List.append_nil]
                            have HE : Hid _ := he
                            clear he
                            go_wp2_with fail
                            go_roundw
                            case rel => exact ⟨j + 1, pl, cpl, by omega, by go_num, by rw [HE.out], by rw [HE.out]; exact HOWN.out, HBO.out⟩
                            case measure => simp [intOf]; omega
                          · have hne : ((j : Int) == (q : Int)) = false := by simp; omega
                            obtain ⟨blk, off, rfl, hlb, hr⟩ := HSL2.out j hjl
                            obtain ⟨blk', off', e', _, hr'⟩ := HSL2.out q hq
                            cases e'
                            obtain ⟨q4, _⟩ := beg_fin (range_later HBO.out hr' hlb)
                            have hlw : blk < wr.heap.size := by omega
                            have hne2 : ¬ blk = wr.heap.size := by omega
                            have hne3 : ¬ wr.heap.size = blk := by omega
                            have hlo := range_later HBO.out hr hlb
                            have he : restUp l q (l.getD q ev0).beg (j + 1) = restUp l q (l.getD q ev0).beg j ++ [cut (l.getD j ev0) (l.getD q ev0).beg] := by show _ ++ _ = _; rw [if_neg hjq]
                            have HE : Hid _ := he
                            generalize l.getD j ev0 = y at hlo HE
                            generalize hz : (l.getD q ev0).beg = tb at q4 HE HOWN hrl
                            have HZ : Hid ((l.getD q ev0).beg = tb) := hz
                            have HLD : Hid (wr.rangeAt blk (off + j * 8) (evC y).toList) := hlo
                            obtain ⟨j0, hj', hj0, hj1, hj2⟩ := info_parts info33
                            generalize hre : restUp l q tb j = R at HE HOWN hrl
                            have HRE : Hid (restUp l q tb j = R) := hre
                            have hgb := own_block HOWN.out
                            clear hr hr' hlb hlo he hz hre
                            have hcut : (decide (y.fin ≥ tb) = true ∧ cut y tb = { y with fin := -1 }) ∨ (decide (y.fin ≥ tb) = false ∧ cut y tb = y) := by
                              unfold cut
                              by_cases hge : y.fin ≥ tb
                              · exact .inl ⟨by simpa using hge, if_pos hge⟩
                              · exact .inr ⟨by simpa using hge, if_neg hge⟩
                            rcases hcut with ⟨hd, hce⟩ | ⟨hd, hce⟩
                            · have HCE : Hid (cut y tb = { y with fin := -1 }) := hce
                              clear hce
                              go_wp2_with ((with_reducible refine wp_load33 (.tmp 153) ?_ ?_ blk (off + j * 8) ?_ y ?_ ?_); rfl; rfl; rfl; exact HLD.out)
                              go_quiet (fail)
                              refine (show ∀ W2, (Box W2 wr.heap.size y ∧ Below wr.heap.size wr W2) → Exit.then _ _ Exit.normal _ W2 from fun W2 hW2 => ?_) _ ⟨box_drewN _ _ _, below_drewN (below_alloc (Below.refl _ _) _) _⟩
                              obtain ⟨hbx, hb2⟩ := hW2
                              have hb5 := hbx.set5 (-1)
                              have b5 : W2.cell? ⟨wr.heap.size, 5, none⟩ = some (I y.fin) := by simpa using hbx.range 5 _ rfl
                              have b5f := hbx.frozen 5
                              have hl2 : wr.heap.size < W2.heap.size := (Array.getElem?_eq_some_iff.1 hbx).1
                              have hBW : Below w.heap.size w (W2.setCell ⟨wr.heap.size, 5, none⟩ (I (-1))) := (HBO.out.trans (hb2.mono hlr)).setCell (by simpa using hlr) _
                              have hO2 : (W2.setCell ⟨wr.heap.size, 5, none⟩ (I (-1))).ownsRow w.heap.size 33 8 (.slice pl R.length cpl) R.length (R.flatMap evL) := own_other (own_later hb2 HOWN.out) (fun g hg => by have := (hgb g hg).2; simp; omega) _
                              generalize hW3 : W2.setCell ⟨wr.heap.size, 5, none⟩ (I (-1)) = W3 at hb5 hBW hO2
                              have hl3 : wr.heap.size < W3.heap.size := (Array.getElem?_eq_some_iff.1 hb5).1
                              have HBX : Hid (Box W3 wr.heap.size { y with fin := -1 }) := hb5
                              have HBW : Hid (Below w.heap.size w W3) := hBW
                              have HOW2 : Hid (W3.ownsRow w.heap.size 33 8 (.slice pl R.length cpl) R.length (R.flatMap evL)) := hO2
                              generalize hrn : R.length = nr at hrl HOW2 HOWN hgb
                              have HRN : Hid (R.length = nr) := hrn
                              generalize hye : ({ y with fin := -1 } : Ev) = y' at HBX HCE
                              clear hbx hb2 q4 hrn hb5 hBW hO2 hye
                              go_wp2_with (first
                                | ((with_reducible refine wp_load33 (.tmp 24) ?_ ?_ wr.heap.size 0 ?_ y' ?_ ?_); rfl; rfl; rfl; exact HBX.out.range)
                                | (at_builtin; refine wpList_append_lies _ rfl (.tmp 164) (.tmp 166) 22 rfl w.heap.size 33 j0 _ 8 64 Try.underlying22 hj' hj0 hj1 hj2 rfl (by decide) (.slice pl nr cpl) nr (R.flatMap evL) rfl
                                      (own_later (below_alloc (Below.refl _ _) _) HOW2.out) ⟨W3.heap.size, 0, none⟩ 1 1 (evL y') rfl rfl (news8 _ _ _) (one8 _) (by decide) (by unfold maxLen; omega) (by omega) (by simp; omega) _ rfl ?_; intro g cpg w8 hown8 hgrow8 hat8 hlt8))
                              have HO8 : Hid (w8.ownsRow w.heap.size 33 8 (.slice (some ⟨g, 0, none⟩) (nr + 1) cpg) (nr + 1) (R.flatMap evL ++ evL y')) := hown8
                              have HB8 : Hid (Below w.heap.size w w8) := (below_alloc HBW.out _).grown hgrow8 (by simp; omega) (fun g hg => by have := hgb g hg; omega)
                              clear hown8 hgrow8 hat8 hlt8 hgb
                              go_wp2_with fail
                              go_roundw
                              case rel =>
                                refine ⟨j + 1, some ⟨g, 0, none⟩, cpg, by omega, by go_num, ?_, ?_, HB8.out⟩
                                · rw [HE.out, List.length_append, HRN.out]; rfl
                                · rw [HE.out, List.length_append, HRN.out, List.flatMap_append, HCE.out]
                                  simpa using HO8.out
                              case measure => simp [intOf]; omega
                            · have HCE : Hid (cut y tb = y) := hce
                              clear hce
                              go_wp2_with ((with_reducible refine wp_load33 (.tmp 153) ?_ ?_ blk (off + j * 8) ?_ y ?_ ?_); rfl; rfl; rfl; exact HLD.out)
                              go_quiet (fail)
                              refine (show ∀ W2, (Box W2 wr.heap.size y ∧ Below wr.heap.size wr W2) → Exit.then _ _ Exit.normal _ W2 from fun W2 hW2 => ?_) _ ⟨box_drewN _ _ _, below_drewN (below_alloc (Below.refl _ _) _) _⟩
                              obtain ⟨hbx, hb2⟩ := hW2
                              have HBX : Hid (Box W2 wr.heap.size y) := hbx
                              have HBW : Hid (Below w.heap.size w W2) := HBO.out.trans (hb2.mono hlr)
                              have HOW2 : Hid (W2.ownsRow w.heap.size 33 8 (.slice pl R.length cpl) R.length (R.flatMap evL)) := own_later hb2 HOWN.out
                              have hl2 : wr.heap.size < W2.heap.size := (Array.getElem?_eq_some_iff.1 hbx).1
                              generalize hrn : R.length = nr at hrl HOW2 HOWN hgb
                              have HRN : Hid (R.length = nr) := hrn
                              clear hbx hb2 q4 hrn
                              go_wp2_with (first
                                | ((with_reducible refine wp_load33 (.tmp 24) ?_ ?_ wr.heap.size 0 ?_ y ?_ ?_); rfl; rfl; rfl; exact HBX.out.range)
                                | (at_builtin; refine wpList_append_lies _ rfl (.tmp 164) (.tmp 166) 22 rfl w.heap.size 33 j0 _ 8 64 Try.underlying22 hj' hj0 hj1 hj2 rfl (by decide) (.slice pl nr cpl) nr (R.flatMap evL) rfl
                                      (own_later (below_alloc (Below.refl _ _) _) HOW2.out) ⟨W2.heap.size, 0, none⟩ 1 1 (evL y) rfl rfl (news8 _ _ _) (one8 _) (by decide) (by unfold maxLen; omega) (by omega) (by simp; omega) _ rfl ?_; intro g cpg w8 hown8 hgrow8 hat8 hlt8))
                              have HO8 : Hid (w8.ownsRow w.heap.size 33 8 (.slice (some ⟨g, 0, none⟩) (nr + 1) cpg) (nr + 1) (R.flatMap evL ++ evL y)) := hown8
                              have HB8 : Hid (Below w.heap.size w w8) := (below_alloc HBW.out _).grown hgrow8 (by simp; omega) (fun g hg => by have := hgb g hg; omega)
                              clear hown8 hgrow8 hat8 hlt8 hgb
                              go_wp2_with fail
                              go_roundw
                              case rel =>
                                refine ⟨j + 1, some ⟨g, 0, none⟩, cpg, by omega, by go_num, ?_, ?_, HB8.out⟩
                                · rw [HE.out, List.length_append, HRN.out]; rfl
                                · rw [HE.out, List.length_append, HRN.out, List.flatMap_append, HCE.out]
                                  simpa using HO8.out
                              case measure => simp [intOf]; omega
                        · have : j = l.length := by omega
                          subst this
                          have hfits := rest_fits (l := l) (last := q) (fun x hx => ⟨(HF.out x hx).1, (HF.out x hx).2.1⟩)
                          have hlr2 : Lin (refWays ob st) (firstOf ob st) (restOf l q) := lin_rest (timeless_ref ob st) hq _ HLIN.out
                          rw [← restUp_all] at hfits hlr2
                          generalize restUp l q (l.getD q ev0).beg l.length = RR at HOWN hrl hfits hlr2 ⊢
                          have HLR : Hid (Lin (refWays ob st) (firstOf ob st) RR) := hlr2
                          have HFT : Hid (∀ i, i < RR.length → Fits (RR.getD i ev0).a ∧ Fits (RR.getD i ev0).b) := hfits
                          have HEV : Hid (SL 8 evL wr (.slice pl RR.length cpl) RR) := own_sl HOWN.out
                          clear hfits hlr2
                          go_wp2_with fail
                          refine (linear_any ob st HST.out (.slice pl RR.length cpl) RR wr (sl_evs HEV.out) HFT.out).mono ?_
                          rintro e w9 ⟨⟨b, c, rfl, hL⟩, hb9⟩
                          have HB9 : Hid (Below w.heap.size w w9) := below_step HBO.out hb9
                          have hbc : (b = true ∧ c = 0) ∨ (b = false ∧ c = 30) := by
                            rcases hL with ⟨h, _⟩ | ⟨_, h, _⟩ | ⟨_, _, _, h1, h2⟩ | ⟨_, _, h1, h2, h3⟩
                            · exact absurd HS.out h
                            · omega
                            · exact .inr ⟨h1, h2⟩
                            · exact .inl ⟨h3.2 HLR.out, h2⟩
                          clear hL hb9
                          rcases hbc with ⟨rfl, rfl⟩ | ⟨rfl, rfl⟩
                          all_goals
                            go_wp2_with fail
                            go_ret
                            exact ⟨rfl, HB9.out⟩
              · go_wp2_with fail
                go_ret
                exact ⟨rfl, HB6.out⟩
          · have hfb : (x.fin != -1) = false := by rw [hfin]; rfl
            go_wp2_with fail
            all_goals
              refine (show ∀ W, (Marked evL markE 33 W w3.heap.size U ∧ Below w.heap.size w W) → Calls Try.prog 8 _ W _ from fun W hW => ?_) _ (HKEY.out _ (.inr (.inl ⟨_, rfl, widen_open hw hfin (by omega)⟩)))
              obtain ⟨hM, hB⟩ := hW
              have HM5 : Hid (Marked evL markE 33 W w3.heap.size U) := hM
              have HB5 : Hid (Below w.heap.size w W) := hB
              clear hM hB c4 c5 f4 f5 lg hx1 hx2 hx3 hwi hgw
              refine (heavy_any _ U _ (sl_evs (marked_sl3 HM5.out HUN.out (by omega)))).mono ?_
              rintro e w5 ⟨⟨b, rfl⟩, hb5⟩
              have HB6 : Hid (Below w.heap.size w w5) := below_step HB5.out hb5
              have HM6 : Hid (Marked evL markE 33 w5 w3.heap.size U) := HM5.out.later hb5
              clear hb5
              cases b
              · go_wp2_with fail
                refine (linear_any ob st HST.out _ U _ (sl_evs (marked_sl3 HM6.out HUN.out (by omega))) (fun i hi => HUF.out _ (getD_mem hi))).mono ?_
                rintro e w6 ⟨⟨b, c, rfl, hL⟩, hb6⟩
                have HB7 : Hid (Below w.heap.size w w6) := below_step HB6.out hb6
                have hbc : (b = true ∧ c = 0) ∨ (b = false ∧ c = 30) := by
                  rcases hL with ⟨h, _⟩ | ⟨_, h, _⟩ | ⟨_, _, _, h1, h2⟩ | ⟨_, _, h1, h2, h3⟩
                  · exact absurd HS.out h
                  · have := HUN.out; omega
                  · exact .inr ⟨h1, h2⟩
                  · exact .inl ⟨h3.2 (HUL.out h1), h2⟩
                clear hL hb6
                rcases hbc with ⟨rfl, rfl⟩ | ⟨rfl, rfl⟩
                all_goals
                  go_wp2_with fail
                  go_loopw [20, 21] (fun t i u => ∃ (j q : Nat), j ≤ l.length ∧ i = .int .i64 j ∧ t = I q ∧ q < l.length ∧ Below w.heap.size w u) (fun _ i _ => l.length - (intOf i).toNat)
                  case atStart => exact ⟨0, 0, Nat.zero_le _, rfl, rfl, by omega, HB7.out⟩
                  case round =>
                    obtain ⟨j, q, hj, rfl, rfl, hq, hb⟩ := hrel
                    have HBR : Hid (Below w.heap.size w wr) := hb
                    clear hb
                    by_cases hjl : j < l.length
                    · obtain ⟨blk, off, rfl, hlb, hr⟩ := HSL2.out j hjl
                      obtain ⟨blk', off', e', _, hr'⟩ := HSL2.out q hq
                      cases e'
                      obtain ⟨j4, _⟩ := beg_fin (range_later HBR.out hr hlb)
                      obtain ⟨q4, _⟩ := beg_fin (range_later HBR.out hr' hlb)
                      clear hr hr' hlb
                      generalize l.getD j ev0 = y at j4
                      generalize l.getD q ev0 = z at q4
                      go_wp2_with fail
                      go_quiet (fail)
                      go_wp2_with fail
                      all_goals
                        go_roundw
                        case rel =>
                          first
                            | exact ⟨j + 1, j, by omega, by go_num, rfl, by omega, below_drewN HBR.out _⟩
                            | exact ⟨j + 1, q, by omega, by go_num, rfl, by omega, below_drewN HBR.out _⟩
                        case measure => simp [intOf]; omega
                    · have : j = l.length := by omega
                      subst this
                      obtain ⟨wl, hwl⟩ : ∃ wl, wl = wr := ⟨wr, rfl⟩
                      subst hwl
                      have hlw : w.heap.size ≤ wl.heap.size := HBR.out.size
                      go_wp2_with fail
                      go_loopw [22, 23] (fun t i u => ∃ (j : Nat) (pl : Option Addr) (cpl : Nat), j ≤ l.length ∧ i = .int .i64 j ∧ t = .slice pl (restUp l q (l.getD q ev0).beg j).length cpl ∧
                        u.ownsRow w.heap.size 33 8 (.slice pl (restUp l q (l.getD q ev0).beg j).length cpl) (restUp l q (l.getD q ev0).beg j).length ((restUp l q (l.getD q ev0).beg j).flatMap evL) ∧ Below w.heap.size w u) (fun _ i _ => l.length - (intOf i).toNat)
                      case atStart => exact ⟨0, none, 0, Nat.zero_le _, rfl, rfl, ⟨rfl, .inl ⟨rfl, rfl⟩⟩, HBR.out⟩
                      case round =>
                        obtain ⟨j, pl, cpl, hj, rfl, rfl, hown, hb⟩ := hrel
                        have HBO : Hid (Below w.heap.size w wr) := hb
                        have HOWN : Hid (wr.ownsRow w.heap.size 33 8 (.slice pl (restUp l q (l.getD q ev0).beg j).length cpl) (restUp l q (l.getD q ev0).beg j).length ((restUp l q (l.getD q ev0).beg j).flatMap evL)) := hown
                        have hlr : w.heap.size ≤ wr.heap.size := HBO.out.size
                        have hrl := restUp_len l q (l.getD q ev0).beg j
                        clear hown hb
                        by_cases hjl : j < l.length
                        · by_cases hjq : j = q
                          · subst hjq
                            have he : restUp l j (l.getD j ev0).beg (j + 1) = restUp l j (l.getD j ev0).beg j := by show _ ++ _ = _; rw [if_pos rfl, List.append_nil]
                            have HE : Hid _ := he
                            clear he
                            go_wp2_with fail
                            go_roundw
                            case rel => exact ⟨j + 1, pl, cpl, by omega, by go_num, by rw [HE.out], by rw [HE.out]; exact HOWN.out, HBO.out⟩
                            case measure => simp [intOf]; omega
                          · have hne : ((j : Int) == (q : Int)) = false := by simp; omega
                            obtain ⟨blk, off, rfl, hlb, hr⟩ := HSL2.out j hjl
                            obtain ⟨blk', off', e', _, hr'⟩ := HSL2.out q hq
                            cases e'
                            obtain ⟨q4, _⟩ := beg_fin (range_later HBO.out hr' hlb)
                            have hlw : blk < wr.heap.size := by omega
                            have hne2 : ¬ blk = wr.heap.size := by omega
                            have hne3 : ¬ wr.heap.size = blk := by omega
                            have hlo := range_later HBO.out hr hlb
                            have he : restUp l q (l.getD q ev0).beg (j + 1) = restUp l q (l.getD q ev0).beg j ++ [cut (l.getD j ev0) (l.getD q ev0).beg] := by show _ ++ _ = _; rw [if_neg hjq]
                            have HE : Hid _ := he
                            generalize l.getD j ev0 = y at hlo HE
                            generalize hz : (l.getD q ev0).beg = tb at q4 HE HOWN hrl
                            have HZ : Hid ((l.getD q ev0).beg = tb) := hz
                            have HLD : Hid (wr.rangeAt blk (off + j * 8) (evC y).toList) := hlo
                            obtain ⟨j0, hj', hj0, hj1, hj2⟩ := info_parts info33
                            generalize hre : restUp l q tb j = R at HE HOWN hrl
                            have HRE : Hid (restUp l q tb j = R) := hre
                            have hgb := own_block HOWN.out
                            clear hr hr' hlb hlo he hz hre
                            have hcut : (decide (y.fin ≥ tb) = true ∧ cut y tb = { y with fin := -1 }) ∨ (decide (y.fin ≥ tb) = false ∧ cut y tb = y) := by
                              unfold cut
                              by_cases hge : y.fin ≥ tb
                              · exact .inl ⟨by simpa using hge, if_pos hge⟩
                              · exact .inr ⟨by simpa using hge, if_neg hge⟩
                            rcases hcut with ⟨hd, hce⟩ | ⟨hd, hce⟩
                            · have HCE : Hid (cut y tb = { y with fin := -1 }) := hce
                              clear hce
                              go_wp2_with ((with_reducible refine wp_load33 (.tmp 153) ?_ ?_ blk (off + j * 8) ?_ y ?_ ?_); rfl; rfl; rfl; exact HLD.out)
                              go_quiet (fail)
                              refine (show ∀ W2, (Box W2 wr.heap.size y ∧ Below wr.heap.size wr W2) → Exit.then _ _ Exit.normal _ W2 from fun W2 hW2 => ?_) _ ⟨box_drewN _ _ _, below_drewN (below_alloc (Below.refl _ _) _) _⟩
                              obtain ⟨hbx, hb2⟩ := hW2
                              have hb5 := hbx.set5 (-1)
                              have b5 : W2.cell? ⟨wr.heap.size, 5, none⟩ = some (I y.fin) := by simpa using hbx.range 5 _ rfl
                              have b5f := hbx.frozen 5
                              have hl2 : wr.heap.size < W2.heap.size := (Array.getElem?_eq_some_iff.1 hbx).1
                              have hBW : Below w.heap.size w (W2.setCell ⟨wr.heap.size, 5, none⟩ (I (-1))) := (HBO.out.trans (hb2.mono hlr)).setCell (by simpa using hlr) _
                              have hO2 : (W2.setCell ⟨wr.heap.size, 5, none⟩ (I (-1))).ownsRow w.heap.size 33 8 (.slice pl R.length cpl) R.length (R.flatMap evL) := own_other (own_later hb2 HOWN.out) (fun g hg => by have := (hgb g hg).2; simp; omega) _
                              generalize hW3 : W2.setCell ⟨wr.heap.size, 5, none⟩ (I (-1)) = W3 at hb5 hBW hO2
                              have hl3 : wr.heap.size < W3.heap.size := (Array.getElem?_eq_some_iff.1 hb5).1
                              have HBX : Hid (Box W3 wr.heap.size { y with fin := -1 }) := hb5
                              have HBW : Hid (Below w.heap.size w W3) := hBW
                              have HOW2 : Hid (W3.ownsRow w.heap.size 33 8 (.slice pl R.length cpl) R.length (R.flatMap evL)) := hO2
                              generalize hrn : R.length = nr at hrl HOW2 HOWN hgb
                              have HRN : Hid (R.length = nr) := hrn
                              generalize hye : ({ y with fin := -1 } : Ev) = y' at HBX HCE
                              clear hbx hb2 q4 hrn hb5 hBW hO2 hye
                              go_wp2_with (first
                                | ((with_reducible refine wp_load33 (.tmp 24) ?_ ?_ wr.heap.size 0 ?_ y' ?_ ?_); rfl; rfl; rfl; exact HBX.out.range)
                                | (at_builtin; refine wpList_append_lies _ rfl (.tmp 164) (.tmp 166) 22 rfl w.heap.size 33 j0 _ 8 64 Try.underlying22 hj' hj0 hj1 hj2 rfl (by decide) (.slice pl nr cpl) nr (R.flatMap evL) rfl
                                      (own_later (below_alloc (Below.refl _ _) _) HOW2.out) ⟨W3.heap.size, 0, none⟩ 1 1 (evL y') rfl rfl (news8 _ _ _) (one8 _) (by decide) (by unfold maxLen; omega) (by omega) (by simp; omega) _ rfl ?_; intro g cpg w8 hown8 hgrow8 hat8 hlt8))
                              have HO8 : Hid (w8.ownsRow w.heap.size 33 8 (.slice (some ⟨g, 0, none⟩) (nr + 1) cpg) (nr + 1) (R.flatMap evL ++ evL y')) := hown8
                              have HB8 : Hid (Below w.heap.size w w8) := (below_alloc HBW.out _).grown hgrow8 (by simp; omega) (fun g hg => by have := hgb g hg; omega)
                              clear hown8 hgrow8 hat8 hlt8 hgb
                              go_wp2_with fail
                              go_roundw
                              case rel =>
                                refine ⟨j + 1, some ⟨g, 0, none⟩, cpg, by omega, by go_num, ?_, ?_, HB8.out⟩
                                · rw [HE.out, List.length_append, HRN.out]; rfl
                                · rw [HE.out, List.length_append, HRN.out, List.flatMap_append, HCE.out]
                                  simpa using HO8.out
                              case measure => simp [intOf]; omega
                            · have HCE : Hid (cut y tb = y) := hce
                              clear hce
                              go_wp2_with ((with_reducible refine wp_load33 (.tmp 153) ?_ ?_ blk (off + j * 8) ?_ y ?_ ?_); rfl; rfl; rfl; exact HLD.out)
                              go_quiet (fail)
                              refine (show ∀ W2, (Box W2 wr.heap.size y ∧ Below wr.heap.size wr W2) → Exit.then _ _ Exit.normal _ W2 from fun W2 hW2 => ?_) _ ⟨box_drewN _ _ _, below_drewN (below_alloc (Below.refl _ _) _) _⟩
                              obtain ⟨hbx, hb2⟩ := hW2
                              have HBX : Hid (Box W2 wr.heap.size y) := hbx
                              have HBW : Hid (Below w.heap.size w W2) := HBO.out.trans (hb2.mono hlr)
                              have HOW2 : Hid (W2.ownsRow w.heap.size 33 8 (.slice pl R.length cpl) R.length (R.flatMap evL)) := own_later hb2 HOWN.out
                              have hl2 : wr.heap.size < W2.heap.size := (Array.getElem?_eq_some_iff.1 hbx).1
                              generalize hrn : R.length = nr at hrl HOW2 HOWN hgb
                              have HRN : Hid (R.length = nr) := hrn
                              clear hbx hb2 q4 hrn
                              go_wp2_with (first
                                | ((with_reducible refine wp_load33 (.tmp 24) ?_ ?_ wr.heap.size 0 ?_ y ?_ ?_); rfl; rfl; rfl; exact HBX.out.range)
                                | (at_builtin; refine wpList_append_lies _ rfl (.tmp 164) (.tmp 166) 22 rfl w.heap.size 33 j0 _ 8 64 Try.underlying22 hj' hj0 hj1 hj2 rfl (by decide) (.slice pl nr cpl) nr (R.flatMap evL) rfl
                                      (own_later (below_alloc (Below.refl _ _) _) HOW2.out) ⟨W2.heap.size, 0, none⟩ 1 1 (evL y) rfl rfl (news8 _ _ _) (one8 _) (by decide) (by unfold maxLen; omega) (by omega) (by simp; omega) _ rfl ?_; intro g cpg w8 hown8 hgrow8 hat8 hlt8))
                              have HO8 : Hid (w8.ownsRow w.heap.size 33 8 (.slice (some ⟨g, 0, none⟩) (nr + 1) cpg) (nr + 1) (R.flatMap evL ++ evL y)) := hown8
                              have HB8 : Hid (Below w.heap.size w w8) := (below_alloc HBW.out _).grown hgrow8 (by simp; omega) (fun g hg => by have := hgb g hg; omega)
                              clear hown8 hgrow8 hat8 hlt8 hgb
                              go_wp2_with fail
                              go_roundw
                              case rel =>
                                refine ⟨j + 1, some ⟨g, 0, none⟩, cpg, by omega, by go_num, ?_, ?_, HB8.out⟩
                                · rw [HE.out, List.length_append, HRN.out]; rfl
                                · rw [HE.out, List.length_append, HRN.out, List.flatMap_append, HCE.out]
                                  simpa using HO8.out
                              case measure => simp [intOf]; omega
                        · have : j = l.length := by omega
                          subst this
                          have hfits := rest_fits (l := l) (last := q) (fun x hx => ⟨(HF.out x hx).1, (HF.out x hx).2.1⟩)
                          have hlr2 : Lin (refWays ob st) (firstOf ob st) (restOf l q) := lin_rest (timeless_ref ob st) hq _ HLIN.out
                          rw [← restUp_all] at hfits hlr2
                          generalize restUp l q (l.getD q ev0).beg l.length = RR at HOWN hrl hfits hlr2 ⊢
                          have HLR : Hid (Lin (refWays ob st) (firstOf ob st) RR) := hlr2
                          have HFT : Hid (∀ i, i < RR.length → Fits (RR.getD i ev0).a ∧ Fits (RR.getD i ev0).b) := hfits
                          have HEV : Hid (SL 8 evL wr (.slice pl RR.length cpl) RR) := own_sl HOWN.out
                          clear hfits hlr2
                          go_wp2_with fail
                          refine (linear_any ob st HST.out (.slice pl RR.length cpl) RR wr (sl_evs HEV.out) HFT.out).mono ?_
                          rintro e w9 ⟨⟨b, c, rfl, hL⟩, hb9⟩
                          have HB9 : Hid (Below w.heap.size w w9) := below_step HBO.out hb9
                          have hbc : (b = true ∧ c = 0) ∨ (b = false ∧ c = 30) := by
                            rcases hL with ⟨h, _⟩ | ⟨_, h, _⟩ | ⟨_, _, _, h1, h2⟩ | ⟨_, _, h1, h2, h3⟩
                            · exact absurd HS.out h
                            · omega
                            · exact .inr ⟨h1, h2⟩
                            · exact .inl ⟨h3.2 HLR.out, h2⟩
                          clear hL hb9
                          rcases hbc with ⟨rfl, rfl⟩ | ⟨rfl, rfl⟩
                          all_goals
                            go_wp2_with fail
                            go_ret
                            exact ⟨rfl, HB9.out⟩
              · go_wp2_with fail
                go_ret
                exact ⟨rfl, HB6.out⟩
          · have hfb : (x.fin != -1) = true := by simpa using hfin
            go_wp2_with fail
            all_goals
              refine (show ∀ W, (Marked evL markE 33 W w3.heap.size U ∧ Below w.heap.size w W) → Calls Try.prog 8 _ W _ from fun W hW => ?_) _ (HKEY.out _ (.inr (.inr ⟨_, _, rfl, widen_shut hw hfin (by omega)⟩)))
              obtain ⟨hM, hB⟩ := hW
              have HM5 : Hid (Marked evL markE 33 W w3.heap.size U) := hM
              have HB5 : Hid (Below w.heap.size w W) := hB
              clear hM hB c4 c5 f4 f5 lg hx1 hx2 hx3 hwi hgw
              refine (heavy_any _ U _ (sl_evs (marked_sl3 HM5.out HUN.out (by omega)))).mono ?_
              rintro e w5 ⟨⟨b, rfl⟩, hb5⟩
              have HB6 : Hid (Below w.heap.size w w5) := below_step HB5.out hb5
              have HM6 : Hid (Marked evL markE 33 w5 w3.heap.size U) := HM5.out.later hb5
              clear hb5
              cases b
              · go_wp2_with fail
                refine (linear_any ob st HST.out _ U _ (sl_evs (marked_sl3 HM6.out HUN.out (by omega))) (fun i hi => HUF.out _ (getD_mem hi))).mono ?_
                rintro e w6 ⟨⟨b, c, rfl, hL⟩, hb6⟩
                have HB7 : Hid (Below w.heap.size w w6) := below_step HB6.out hb6
                have hbc : (b = true ∧ c = 0) ∨ (b = false ∧ c = 30) := by
                  rcases hL with ⟨h, _⟩ | ⟨_, h, _⟩ | ⟨_, _, _, h1, h2⟩ | ⟨_, _, h1, h2, h3⟩
                  · exact absurd HS.out h
                  · have := HUN.out; omega
                  · exact .inr ⟨h1, h2⟩
                  · exact .inl ⟨h3.2 (HUL.out h1), h2⟩
                clear hL hb6
                rcases hbc with ⟨rfl, rfl⟩ | ⟨rfl, rfl⟩
                all_goals
                  go_wp2_with fail
                  go_loopw [20, 21] (fun t i u => ∃ (j q : Nat), j ≤ l.length ∧ i = .int .i64 j ∧ t = I q ∧ q < l.length ∧ Below w.heap.size w u) (fun _ i _ => l.length - (intOf i).toNat)
                  case atStart => exact ⟨0, 0, Nat.zero_le _, rfl, rfl, by omega, HB7.out⟩
                  case round =>
                    obtain ⟨j, q, hj, rfl, rfl, hq, hb⟩ := hrel
                    have HBR : Hid (Below w.heap.size w wr) := hb
                    clear hb
                    by_cases hjl : j < l.length
                    · obtain ⟨blk, off, rfl, hlb, hr⟩ := HSL2.out j hjl
                      obtain ⟨blk', off', e', _, hr'⟩ := HSL2.out q hq
                      cases e'
                      obtain ⟨j4, _⟩ := beg_fin (range_later HBR.out hr hlb)
                      obtain ⟨q4, _⟩ := beg_fin (range_later HBR.out hr' hlb)
                      clear hr hr' hlb
                      generalize l.getD j ev0 = y at j4
                      generalize l.getD q ev0 = z at q4
                      go_wp2_with fail
                      go_quiet (fail)
                      go_wp2_with fail
                      all_goals
                        go_roundw
                        case rel =>
                          first
                            | exact ⟨j + 1, j, by omega, by go_num, rfl, by omega, below_drewN HBR.out _⟩
                            | exact ⟨j + 1, q, by omega, by go_num, rfl, by omega, below_drewN HBR.out _⟩
                        case measure => simp [intOf]; omega
                    · have : j = l.length := by omega
                      subst this
                      obtain ⟨wl, hwl⟩ : ∃ wl, wl = wr := ⟨wr, rfl⟩
                      subst hwl
                      have hlw : w.heap.size ≤ wl.heap.size := HBR.out.size
                      go_wp2_with fail
                      go_loopw [22, 23] (fun t i u => ∃ (j : Nat) (pl : Option Addr) (cpl : Nat), j ≤ l.length ∧ i = .int .i64 j ∧ t = .slice pl (restUp l q (l.getD q ev0).beg j).length cpl ∧
                        u.ownsRow w.heap.size 33 8 (.slice pl (restUp l q (l.getD q ev0).beg j).length cpl) (restUp l q (l.getD q ev0).beg j).length ((restUp l q (l.getD q ev0).beg j).flatMap evL) ∧ Below w.heap.size w u) (fun _ i _ => l.length - (intOf i).toNat)
                      case atStart => exact ⟨0, none, 0, Nat.zero_le _, rfl, rfl, ⟨rfl, .inl ⟨rfl, rfl⟩⟩, HBR.out⟩
                      case round =>
                        obtain ⟨j, pl, cpl, hj, rfl, rfl, hown, hb⟩ := hrel
                        have HBO : Hid (Below w.heap.size w wr) := hb
                        have HOWN : Hid (wr.ownsRow w.heap.size 33 8 (.slice pl (restUp l q (l.getD q ev0).beg j).length cpl) (restUp l q (l.getD q ev0).beg j).length ((restUp l q (l.getD q ev0).beg j).flatMap evL)) := hown
                        have hlr : w.heap.size ≤ wr.heap.size := HBO.out.size
                        have hrl := restUp_len l q (l.getD q ev0).beg j
                        clear hown hb
                        by_cases hjl : j < l.length
                        · by_cases hjq : j = q
                          · subst hjq
                            have he : restUp l j (l.getD j ev0).beg (j + 1) = restUp l j (l.getD j ev0).beg j := by show _ ++ _ = _; rw [if_pos rfl, List.append_nil]
                            have HE : Hid _ := he
                            clear he
                            go_wp2_with fail
                            go_roundw
                            case rel => exact ⟨j + 1, pl, cpl, by omega, by go_num, by rw [HE.out], by rw [HE.out]; exact HOWN.out, HBO.out⟩
                            case measure => simp [intOf]; omega
                          · have hne : ((j : Int) == (q : Int)) = false := by simp; omega
                            obtain ⟨blk, off, rfl, hlb, hr⟩ := HSL2.out j hjl
                            obtain ⟨blk', off', e', _, hr'⟩ := HSL2.out q hq
                            cases e'
                            obtain ⟨q4, _⟩ := beg_fin (range_later HBO.out hr' hlb)
                            have hlw : blk < wr.heap.size := by omega
                            have hne2 : ¬ blk = wr.heap.size := by omega
                            have hne3 : ¬ wr.heap.size = blk := by omega
                            have hlo := range_later HBO.out hr hlb
                            have he : restUp l q (l.getD q ev0).beg (j + 1) = restUp l q (l.getD q ev0).beg j ++ [cut (l.getD j ev0) (l.getD q ev0).beg] := by show _ ++ _ = _; rw [if_neg hjq]
                            have HE : Hid _ := he
                            generalize l.getD j ev0 = y at hlo HE
                            generalize hz : (l.getD q ev0).beg = tb at q4 HE HOWN hrl
                            have HZ : Hid ((l.getD q ev0).beg = tb) := hz
                            have HLD : Hid (wr.rangeAt blk (off + j * 8) (evC y).toList) := hlo
                            obtain ⟨j0, hj', hj0, hj1, hj2⟩ := info_parts info33
                            generalize hre : restUp l q tb j = R at HE HOWN hrl
                            have HRE : Hid (restUp l q tb j = R) := hre
                            have hgb := own_block HOWN.out
                            clear hr hr' hlb hlo he hz hre
                            have hcut : (decide (y.fin ≥ tb) = true ∧ cut y tb = { y with fin := -1 }) ∨ (decide (y.fin ≥ tb) = false ∧ cut y tb = y) := by
                              unfold cut
                              by_cases hge : y.fin ≥ tb
                              · exact .inl ⟨by simpa using hge, if_pos hge⟩
                              · exact .inr ⟨by simpa using hge, if_neg hge⟩
                            rcases hcut with ⟨hd, hce⟩ | ⟨hd, hce⟩
                            · have HCE : Hid (cut y tb = { y with fin := -1 }) := hce
                              clear hce
                              go_wp2_with ((with_reducible refine wp_load33 (.tmp 153) ?_ ?_ blk (off + j * 8) ?_ y ?_ ?_); rfl; rfl; rfl; exact HLD.out)
                              go_quiet (fail)
                              refine (show ∀ W2, (Box W2 wr.heap.size y ∧ Below wr.heap.size wr W2) → Exit.then _ _ Exit.normal _ W2 from fun W2 hW2 => ?_) _ ⟨box_drewN _ _ _, below_drewN (below_alloc (Below.refl _ _) _) _⟩
                              obtain ⟨hbx, hb2⟩ := hW2
                              have hb5 := hbx.set5 (-1)
                              have b5 : W2.cell? ⟨wr.heap.size, 5, none⟩ = some (I y.fin) := by simpa using hbx.range 5 _ rfl
                              have b5f := hbx.frozen 5
                              have hl2 : wr.heap.size < W2.heap.size := (Array.getElem?_eq_some_iff.1 hbx).1
                              have hBW : Below w.heap.size w (W2.setCell ⟨wr.heap.size, 5, none⟩ (I (-1))) := (HBO.out.trans (hb2.mono hlr)).setCell (by simpa using hlr) _
                              have hO2 : (W2.setCell ⟨wr.heap.size, 5, none⟩ (I (-1))).ownsRow w.heap.size 33 8 (.slice pl R.length cpl) R.length (R.flatMap evL) := own_other (own_later hb2 HOWN.out) (fun g hg => by have := (hgb g hg).2; simp; omega) _
                              generalize hW3 : W2.setCell ⟨wr.heap.size, 5, none⟩ (I (-1)) = W3 at hb5 hBW hO2
                              have hl3 : wr.heap.size < W3.heap.size := (Array.getElem?_eq_some_iff.1 hb5).1
                              have HBX : Hid (Box W3 wr.heap.size { y with fin := -1 }) := hb5
                              have HBW : Hid (Below w.heap.size w W3) := hBW
                              have HOW2 : Hid (W3.ownsRow w.heap.size 33 8 (.slice pl R.length cpl) R.length (R.flatMap evL)) := hO2
                              generalize hrn : R.length = nr at hrl HOW2 HOWN hgb
                              have HRN : Hid (R.length = nr) := hrn
                              generalize hye : ({ y with fin := -1 } : Ev) = y' at HBX HCE
                              clear hbx hb2 q4 hrn hb5 hBW hO2 hye
                              go_wp2_with (first
                                | ((with_reducible refine wp_load33 (.tmp 24) ?_ ?_ wr.heap.size 0 ?_ y' ?_ ?_); rfl; rfl; rfl; exact HBX.out.range)
                                | (at_builtin; refine wpList_append_lies _ rfl (.tmp 164) (.tmp 166) 22 rfl w.heap.size 33 j0 _ 8 64 Try.underlying22 hj' hj0 hj1 hj2 rfl (by decide) (.slice pl nr cpl) nr (R.flatMap evL) rfl
                                      (own_later (below_alloc (Below.refl _ _) _) HOW2.out) ⟨W3.heap.size, 0, none⟩ 1 1 (evL y') rfl rfl (news8 _ _ _) (one8 _) (by decide) (by unfold maxLen; omega) (by omega) (by simp; omega) _ rfl ?_; intro g cpg w8 hown8 hgrow8 hat8 hlt8))
                              have HO8 : Hid (w8.ownsRow w.heap.size 33 8 (.slice (some ⟨g, 0, none⟩) (nr + 1) cpg) (nr + 1) (R.flatMap evL ++ evL y')) := hown8
                              have HB8 : Hid (Below w.heap.size w w8) := (below_alloc HBW.out _).grown hgrow8 (by simp; omega) (fun g hg => by have := hgb g hg; omega)
                              clear hown8 hgrow8 hat8 hlt8 hgb
                              go_wp2_with fail
                              go_roundw
                              case rel =>
                                refine ⟨j + 1, some ⟨g, 0, none⟩, cpg, by omega, by go_num, ?_, ?_, HB8.out⟩
                                · rw [HE.out, List.length_append, HRN.out]; rfl
                                · rw [HE.out, List.length_append, HRN.out, List.flatMap_append, HCE.out]
                                  simpa using HO8.out
                              case measure => simp [intOf]; omega
                            · have HCE : Hid (cut y tb = y) := hce
                              clear hce
                              go_wp2_with ((with_reducible refine wp_load33 (.tmp 153) ?_ ?_ blk (off + j * 8) ?_ y ?_ ?_); rfl; rfl; rfl; exact HLD.out)
                              go_quiet (fail)
                              refine (show ∀ W2, (Box W2 wr.heap.size y ∧ Below wr.heap.size wr W2) → Exit.then _ _ Exit.normal _ W2 from fun W2 hW2 => ?_) _ ⟨box_drewN _ _ _, below_drewN (below_alloc (Below.refl _ _) _) _⟩
                              obtain ⟨hbx, hb2⟩ := hW2
                              have HBX : Hid (Box W2 wr.heap.size y) := hbx
                              have HBW : Hid (Below w.heap.size w W2) := HBO.out.trans (hb2.mono hlr)
                              have HOW2 : Hid (W2.ownsRow w.heap.size 33 8 (.slice pl R.length cpl) R.length (R.flatMap evL)) := own_later hb2 HOWN.out
                              have hl2 : wr.heap.size < W2.heap.size := (Array.getElem?_eq_some_iff.1 hbx).1
                              generalize hrn : R.length = nr at hrl HOW2 HOWN hgb
                              have HRN : Hid (R.length = nr) := hrn
                              clear hbx hb2 q4 hrn
                              go_wp2_with (first
                                | ((with_reducible refine wp_load33 (.tmp 24) ?_ ?_ wr.heap.size 0 ?_ y ?_ ?_); rfl; rfl; rfl; exact HBX.out.range)
                                | (at_builtin; refine wpList_append_lies _ rfl (.tmp 164) (.tmp 166) 22 rfl w.heap.size 33 j0 _ 8 64 Try.underlying22 hj' hj0 hj1 hj2 rfl (by decide) (.slice pl nr cpl) nr (R.flatMap evL) rfl
                                      (own_later (below_alloc (Below.refl _ _) _) HOW2.out) ⟨W2.heap.size, 0, none⟩ 1 1 (evL y) rfl rfl (news8 _ _ _) (one8 _) (by decide) (by unfold maxLen; omega) (by omega) (by simp; omega) _ rfl ?_; intro g cpg w8 hown8 hgrow8 hat8 hlt8))
                              have HO8 : Hid (w8.ownsRow w.heap.size 33 8 (.slice (some ⟨g, 0, none⟩) (nr + 1) cpg) (nr + 1) (R.flatMap evL ++ evL y)) := hown8
                              have HB8 : Hid (Below w.heap.size w w8) := (below_alloc HBW.out _).grown hgrow8 (by simp; omega) (fun g hg => by have := hgb g hg; omega)
                              clear hown8 hgrow8 hat8 hlt8 hgb
                              go_wp2_with fail
                              go_roundw
                              case rel =>
                                refine ⟨j + 1, some ⟨g, 0, none⟩, cpg, by omega, by go_num, ?_, ?_, HB8.out⟩
                                · rw [HE.out, List.length_append, HRN.out]; rfl
                                · rw [HE.out, List.length_append, HRN.out, List.flatMap_append, HCE.out]
                                  simpa using HO8.out
                              case measure => simp [intOf]; omega
                        · have : j = l.length := by omega
                          subst this
                          have hfits := rest_fits (l := l) (last := q) (fun x hx => ⟨(HF.out x hx).1, (HF.out x hx).2.1⟩)
                          have hlr2 : Lin (refWays ob st) (firstOf ob st) (restOf l q) := lin_rest (timeless_ref ob st) hq _ HLIN.out
                          rw [← restUp_all] at hfits hlr2
                          generalize restUp l q (l.getD q ev0).beg l.length = RR at HOWN hrl hfits hlr2 ⊢
                          have HLR : Hid (Lin (refWays ob st) (firstOf ob st) RR) := hlr2
                          have HFT : Hid (∀ i, i < RR.length → Fits (RR.getD i ev0).a ∧ Fits (RR.getD i ev0).b) := hfits
                          have HEV : Hid (SL 8 evL wr (.slice pl RR.length cpl) RR) := own_sl HOWN.out
                          clear hfits hlr2
                          go_wp2_with fail
                          refine (linear_any ob st HST.out (.slice pl RR.length cpl) RR wr (sl_evs HEV.out) HFT.out).mono ?_
                          rintro e w9 ⟨⟨b, c, rfl, hL⟩, hb9⟩
                          have HB9 : Hid (Below w.heap.size w w9) := below_step HBO.out hb9
                          have hbc : (b = true ∧ c = 0) ∨ (b = false ∧ c = 30) := by
                            rcases hL with ⟨h, _⟩ | ⟨_, h, _⟩ | ⟨_, _, _, h1, h2⟩ | ⟨_, _, h1, h2, h3⟩
                            · exact absurd HS.out h
                            · omega
                            · exact .inr ⟨h1, h2⟩
                            · exact .inl ⟨h3.2 HLR.out, h2⟩
                          clear hL hb9
                          rcases hbc with ⟨rfl, rfl⟩ | ⟨rfl, rfl⟩
                          all_goals
                            go_wp2_with fail
                            go_ret
                            exact ⟨rfl, HB9.out⟩
              · go_wp2_with fail
                go_ret
                exact ⟨rfl, HB6.out⟩
    · have hc' : (c != 0) = true := by simpa using hc0
      go_wp2_with fail
      go_ret
      exact ⟨rfl, HB3.out⟩
  · go_wp2_with fail
    go_ret
    exact ⟨rfl, HB2.out⟩

end Go.Proofs.Yteniopbmkooomaa
