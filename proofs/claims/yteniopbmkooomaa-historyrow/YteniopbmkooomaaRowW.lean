/-
  The statement HistoryRow: its walk.
-/
import Derived.Test.YteniopbmkooomaaRowF
namespace Go.Proofs.Yteniopbmkooomaa
open Go.RowKit Hi Go.Deep Go.Maps

theorem refWays_len (ob n : Int) (s : List Int) (e : Ev) : (refWays ob n s e).length ≤ 2 := by
  unfold refWays wayStack wayThree
  repeat' split
  all_goals (try simp)
theorem range_new33 (w : World) (y : Ev) : (w.alloc (.cells (evC y) 33)).rangeAt w.heap.size 0 (evC y).toList := fun j v hv => by
  simpa [evC] using hv
theorem acc_nil {σ : Type} {ways : Ways σ} {s : σ} : Hi.Acc ways s [] := trivial

set_option maxHeartbeats 16000000 in
set_option maxRecDepth 100000 in
theorem rowlaw_any (ob st : Int) (hst : Fits st) (v tv : Value) (l : List Ev) (ts : List Int) (w : World) (h : SL 8 evL w v l) (hf : ∀ x ∈ l, Fits x.a ∧ Fits x.b) (ht : SI w tv ts) :
    Calls Try.prog 5 #[I ob, I st, v, tv] w fun e w' => e = .returned (.bool true) ∧ Below w.heap.size w w' := by
  have HSL : Hid (SL 8 evL w v l) := h
  have HST : Hid (Fits st) := hst
  have HTS : Hid (SI w tv ts) := ht
  have HRF : Hid (∀ i, i < (rowOf l).length → Fits ((rowOf l).getD i ev0).a ∧ Fits ((rowOf l).getD i ev0).b) := rowOf_fits hf
  have hR12 := rowOf_len12 l
  have HRH : Hid (Hist (rowOf l)) := row_hist rowOf_times
  have HOV : Hid (∀ i, i < (rowOf l).length → ((rowOf l).getD i ev0).over = true) := fun i hi => over_iff.2 (by rw [(rowOf_times i hi).2]; omega)
  have HLA : Hid (Lin (refWays ob st) (firstOf ob st) (rowOf l) ↔ Acc (refWays ob st) (firstOf ob st) (rowOf l)) := lin_row rowOf_times _
  obtain ⟨p, cap, rfl, hc, hm, _⟩ := h
  obtain ⟨tp, tcap, rfl, htc, htm, _⟩ := ht
  unfold maxLen at hm htm
  clear hf hst
  go_enter Try.func5, Try.ntmps5
  go_wp2_with fail
  refine (awake_any _).mono ?_
  rintro e w1 ⟨rfl, hb1⟩
  have HB1 : Hid (Below w.heap.size w w1) := hb1
  have hz1 : w.heap.size ≤ w1.heap.size := hb1.size
  clear hb1
  go_wp2_with fail
  refine (row_any _ l _ (HSL.out.later HB1.out)).mono ?_
  rintro e w2 ⟨rv, rfl, hown, hb2⟩
  generalize rowOf l = R at hown hR12 HRH HOV HLA HRF
  obtain ⟨rp, rc, hrv, hrc, hrm, _⟩ := own_sl hown
  subst hrv
  unfold maxLen at hrm
  have HOWN : Hid (w2.ownsRow w1.heap.size 33 8 (.slice rp R.length rc) R.length (R.flatMap evL)) := hown
  have HB2 : Hid (Below w.heap.size w w2) := below_step HB1.out hb2
  clear hown hb2
  go_wp2_with fail
  refine (linear_any ob st HST.out _ R _ (sl_evs (own_sl HOWN.out)) HRF.out).mono ?_
  rintro e w3 ⟨⟨ba, c, rfl, hL⟩, hb3⟩
  have HOW3 : Hid (w3.ownsRow w1.heap.size 33 8 (.slice rp R.length rc) R.length (R.flatMap evL)) := own_later hb3 HOWN.out
  have HB3 : Hid (Below w.heap.size w w3) := below_step HB2.out hb3
  clear hb3
  by_cases hS : Starts ob st
  · have hca : c = 0 ∧ (ba = true ↔ Acc (refWays ob st) (firstOf ob st) R) := by
      rcases hL with ⟨h, _⟩ | ⟨_, h, _⟩ | ⟨_, _, h, _⟩ | ⟨_, _, _, h1, h2⟩
      · exact absurd hS h
      · omega
      · exact absurd HRH.out h
      · exact ⟨h1, h2.trans HLA.out⟩
    obtain ⟨rfl, hba⟩ := hca
    have HBA : Hid (ba = true ↔ Acc (refWays ob st) (firstOf ob st) R) := hba
    have HS : Hid (Starts ob st) := hS
    clear hL hba hS
    go_wp2_with fail
    refine (first_any ob st HS.out _).mono ?_
    rintro e w4 ⟨sv0, rfl, hsi, hb4⟩
    have HOW4 : Hid (w4.ownsRow w1.heap.size 33 8 (.slice rp R.length rc) R.length (R.flatMap evL)) := own_later hb4 HOW3.out
    have HB4 : Hid (Below w.heap.size w w4) := below_step HB3.out hb4
    have HSI0 : Hid (SI w4 sv0 (firstOf ob st)) := hsi
    obtain ⟨sp0, sc0, hsv, _⟩ := hsi
    subst hsv
    clear hb4
    go_wp2_with fail
    go_loopw [13, 14, 15] (fun t gv i u => ∃ (k : Nat) (sp : Option Addr) (sc : Nat) (s : List Int) (gd : Bool), k ≤ R.length ∧ i = .int .i64 k ∧ t = .slice sp s.length sc ∧ gv = .bool gd ∧ SI u (.slice sp s.length sc) s ∧ (gd = true → StOk ob st k s) ∧
      (gd = true → ob ≠ 1 → (Acc (refWays ob st) (firstOf ob st) R ↔ Acc (refWays ob st) s (R.drop k))) ∧ (gd = false → ob ≠ 1 → ¬ Acc (refWays ob st) (firstOf ob st) R) ∧ Below w4.heap.size w4 u) (fun _ _ i _ => R.length - (intOf i).toNat)
    case atStart => exact ⟨0, sp0, sc0, firstOf ob st, true, Nat.zero_le _, rfl, rfl, rfl, HSI0.out, (fun _ => stOk_first ob st), (fun _ _ => by simp), (fun h => nomatch h), Below.refl _ _⟩
    case round =>
      obtain ⟨k, sp, sc, s, gd, hk, rfl, rfl, rfl, hsi, hok, hyes, hno, hb⟩ := hrel
      obtain ⟨wo, hwo⟩ : ∃ wo, wo = wr := ⟨wr, rfl⟩
      subst hwo
      have HSI : Hid (SI wo (.slice sp s.length sc) s) := hsi
      have HOK : Hid (gd = true → StOk ob st k s) := hok
      have HYES : Hid (gd = true → ob ≠ 1 → (Acc (refWays ob st) (firstOf ob st) R ↔ Acc (refWays ob st) s (R.drop k))) := hyes
      have HNO : Hid (gd = false → ob ≠ 1 → ¬ Acc (refWays ob st) (firstOf ob st) R) := hno
      have HBO : Hid (Below w4.heap.size w4 wo) := hb
      clear hsi hok hyes hno hb
      by_cases hlt : k < R.length
      · cases gd
        · have HOWT : Hid (wo.ownsRow w1.heap.size 33 8 (.slice rp R.length rc) R.length (R.flatMap evL)) := own_later HBO.out HOW4.out
          have HBT : Hid (Below w.heap.size w wo) := HB4.out.trans (HBO.out.mono HB4.out.size)
          by_cases h1 : ob = 1
          · have h1' : (ob == 1) = true := by simpa using h1
            have H1 : Hid (ob = 1) := h1
            clear h1
            go_wp2_with fail
            refine (adds_any st _ R _ (own_sl HOWT.out) hR12).mono ?_
            rintro e wt ⟨rfl, hbt⟩
            have HOWT2 : Hid (wt.ownsRow w1.heap.size 33 8 (.slice rp R.length rc) R.length (R.flatMap evL)) := own_later hbt HOWT.out
            have HBT2 : Hid (Below w.heap.size w wt) := below_step HBT.out hbt
            have hgf : decide (0 < (addsUp st R R.length).length) = true ↔ Acc (refWays ob st) (firstOf ob st) R := by
              rw [H1.out]
              have hf : firstOf 1 st = [st] := rfl
              rw [hf, adds_acc HOV.out]
              simp [List.length_pos_iff]
            clear HOWT HBT hbt
            have HOWT := HOWT2
            have HBT := HBT2
            clear HOWT2 HBT2
            generalize decide (0 < (addsUp st R R.length).length) = gf at hgf ⊢
            have HGF : Hid (gf = true ↔ Acc (refWays ob st) (firstOf ob st) R) := hgf
            clear hgf
            go_wp2_with fail
            go_loopw [18] (fun i u => ∃ (j : Nat) (R' : List Ev), j ≤ ts.length ∧ i = .int .i64 j ∧ R'.length = R.length ∧ u.ownsRow w1.heap.size 33 8 (.slice rp R.length rc) R.length (R'.flatMap evL) ∧ Hist R' ∧ (Lin (refWays ob st) (firstOf ob st) R' ↔ Lin (refWays ob st) (firstOf ob st) R) ∧ (∀ i, i < R'.length → Fits (R'.getD i ev0).a ∧ Fits (R'.getD i ev0).b) ∧ Below w.heap.size w u) (fun i _ => ts.length - (intOf i).toNat)
            case atStart => exact ⟨0, R, Nat.zero_le _, rfl, rfl, HOWT.out, HRH.out, Iff.rfl, HRF.out, HBT.out⟩
            case round =>
              obtain ⟨j, R', hj, rfl, hRl, hown, hH, hLin, hFt, hb⟩ := hrel
              have HOWR : Hid (wr.ownsRow w1.heap.size 33 8 (.slice rp R.length rc) R.length (R'.flatMap evL)) := hown
              have HHR : Hid (Hist R') := hH
              have HLR : Hid (Lin (refWays ob st) (firstOf ob st) R' ↔ Lin (refWays ob st) (firstOf ob st) R) := hLin
              have HFR : Hid (∀ i, i < R'.length → Fits (R'.getD i ev0).a ∧ Fits (R'.getD i ev0).b) := hFt
              have HBR : Hid (Below w.heap.size w wr) := hb
              have hszr : w.heap.size ≤ wr.heap.size := hb.size
              clear hown hH hLin hFt hb
              by_cases hgo : j < ts.length ∧ 0 < R.length
              · obtain ⟨hjl, hR0⟩ := hgo
                obtain ⟨tb, to, rfl, htb, htc⟩ := si_at HTS.out (by omega)
                have hzc := kcell' HBR.out htb (htc j hjl)
                generalize ts.getD j 0 = tj at hzc
                obtain ⟨g, rfl⟩ : ∃ g, rp = some ⟨g, 0, none⟩ := by
                  rcases HOWR.out.2 with ⟨h0, h1⟩ | ⟨g, cap', cur, hv, _⟩
                  · omega
                  · cases hv; exact ⟨g, rfl⟩
                have hgb := own_block HOWR.out g rfl
                have hR0' : decide ((R.length : Int) > 0) = true := by simpa using hR0
                obtain ⟨q, hq⟩ : ∃ q : Nat, tj % (R.length : Int) = q := ⟨(tj % (R.length : Int)).toNat, by have := Int.emod_nonneg tj (show (R.length : Int) ≠ 0 by omega); omega⟩
                have hqR : q < R.length := by have := Int.emod_lt_of_pos tj (show 0 < (R.length : Int) by omega); omega
                have hmod := fun W => rmodulo_any tj R.length (by omega) (by omega) W
                simp only [hq] at hmod
                have HMOD : Hid (∀ W, Calls Try.prog 22 #[I tj, I R.length] W fun e w' => e = .returned (I q) ∧ w' = W) := hmod
                have hg1 := hgb.1
                have hg2 := hgb.2
                clear htc hmod hgb hq
                go_wp2_with fail
                refine (HMOD.out _).mono ?_
                rintro e w' ⟨rfl, rfl⟩
                have he0 := own_ev HOWR.out hRl (k := 0) hR0
                have heq := own_ev HOWR.out hRl hqR
                have HSW : Hid (swapR R' q = (R'.set 0 (R'.getD q ev0)).set q (R'.getD 0 ev0)) := rfl
                generalize R'.getD 0 ev0 = y0 at he0 HSW
                generalize R'.getD q ev0 = yq at heq HSW
                have HEV0 : Hid (w'.rangeAt g (0 * 8) (evC y0).toList) := he0
                have HEVQ : Hid (w'.rangeAt g (q * 8) (evC yq).toList) := heq
                clear he0 heq hzc
                go_wp2_with (first
                  | ((with_reducible refine wp_load33 (.tmp 118) ?_ ?_ g (0 * 8) ?_ y0 ?_ ?_); rfl; rfl; rfl; exact HEV0.out)
                  | ((with_reducible refine wp_load33 (.tmp 123) ?_ ?_ g (q * 8) ?_ yq ?_ ?_); rfl; rfl; rfl; exact range_later (below_alloc (Below.refl _ _) _) HEVQ.out hg2)
                  | ((with_reducible refine wp_store33 ?_ (.tmp 125) (.tmp 124) ?_ g (0 * 8) yq ?_ ?_ ?_ ?_); rfl; rfl; rfl; rfl; exact own_there (own_later (below_alloc (Below.refl _ _) _) HOWR.out) hR0)
                  | ((with_reducible refine wp_load33 (.tmp 20) ?_ ?_ w'.heap.size 0 ?_ y0 ?_ ?_); rfl; rfl; rfl; exact World.rangeAt_setCells_apart (range_new33 w' y0) g _ _ (.inl (by omega)))
                  | ((with_reducible refine wp_store33 ?_ (.tmp 129) (.tmp 128) ?_ g (q * 8) y0 ?_ ?_ ?_ ?_); rfl; rfl; rfl; rfl; exact World.there_setCells (own_there (own_later (below_alloc (Below.refl _ _) _) HOWR.out) hqR) _ _ _))
                go_roundw
                case rel =>
                  refine ⟨j + 1, swapR R' q, by omega, by go_num, by rw [swapR_len]; exact hRl, ?_, swapR_hist (by omega) HHR.out, ?_, swapR_fits (by omega) HFR.out, ?_⟩
                  · rw [HSW.out]
                    exact own_put (own_put (own_later (below_alloc (Below.refl _ _) _) HOWR.out) hRl hR0 yq) (by rw [List.length_set]; exact hRl) hqR y0
                  · rw [swapR_lin (timeless_ref ob st) (by omega)]
                    exact HLR.out
                  · rw [setCells_many, setCells_many]
                    exact below_many (by omega) _ _ _ (below_many (by omega) _ _ _ (below_alloc HBR.out _))
                case measure => simp [intOf]; omega
              · by_cases hjl : j < ts.length
                · exact absurd ⟨hjl, Nat.lt_of_le_of_lt (Nat.zero_le _) hlt⟩ hgo
                · go_wp2_with fail
                  have hevs := sl_evs (own_sl (evs := R') (by rw [hRl]; exact HOWR.out))
                  refine (linear_any ob st HST.out _ R' _ hevs HFR.out).mono ?_
                  rintro e w6 ⟨⟨bb, c6, rfl, hL6⟩, hb6⟩
                  have hc6 : c6 = 0 ∧ (bb = true ↔ Acc (refWays ob st) (firstOf ob st) R) := by
                    rcases hL6 with ⟨h, _⟩ | ⟨_, h, _⟩ | ⟨_, _, h, _⟩ | ⟨_, _, _, h1, h2⟩
                    · exact absurd HS.out h
                    · omega
                    · exact absurd HHR.out h
                    · exact ⟨h1, (h2.trans HLR.out).trans HLA.out⟩
                  obtain ⟨rfl, hbb⟩ := hc6
                  have e1 : ba = gf := Bool.eq_iff_iff.2 (HBA.out.trans HGF.out.symm)
                  have e2 : bb = gf := Bool.eq_iff_iff.2 (hbb.trans HGF.out.symm)
                  have HB6 : Hid (Below w.heap.size w w6) := below_step HBR.out hb6
                  clear hL6 hb6 hbb HBA HGF
                  subst e1 e2
                  go_wp2_with fail
                  go_ret
                  exact ⟨by simp, HB6.out⟩
          · have h1' : (ob == 1) = false := by simpa using h1
            have hgf : false = true ↔ Acc (refWays ob st) (firstOf ob st) R := ⟨fun h => (nomatch h), fun h => absurd h (HNO.out rfl h1)⟩
            clear h1
            have HGF : Hid (false = true ↔ Acc (refWays ob st) (firstOf ob st) R) := hgf
            clear hgf
            go_wp2_with fail
            go_loopw [18] (fun i u => ∃ (j : Nat) (R' : List Ev), j ≤ ts.length ∧ i = .int .i64 j ∧ R'.length = R.length ∧ u.ownsRow w1.heap.size 33 8 (.slice rp R.length rc) R.length (R'.flatMap evL) ∧ Hist R' ∧ (Lin (refWays ob st) (firstOf ob st) R' ↔ Lin (refWays ob st) (firstOf ob st) R) ∧ (∀ i, i < R'.length → Fits (R'.getD i ev0).a ∧ Fits (R'.getD i ev0).b) ∧ Below w.heap.size w u) (fun i _ => ts.length - (intOf i).toNat)
            case atStart => exact ⟨0, R, Nat.zero_le _, rfl, rfl, HOWT.out, HRH.out, Iff.rfl, HRF.out, HBT.out⟩
            case round =>
              obtain ⟨j, R', hj, rfl, hRl, hown, hH, hLin, hFt, hb⟩ := hrel
              have HOWR : Hid (wr.ownsRow w1.heap.size 33 8 (.slice rp R.length rc) R.length (R'.flatMap evL)) := hown
              have HHR : Hid (Hist R') := hH
              have HLR : Hid (Lin (refWays ob st) (firstOf ob st) R' ↔ Lin (refWays ob st) (firstOf ob st) R) := hLin
              have HFR : Hid (∀ i, i < R'.length → Fits (R'.getD i ev0).a ∧ Fits (R'.getD i ev0).b) := hFt
              have HBR : Hid (Below w.heap.size w wr) := hb
              have hszr : w.heap.size ≤ wr.heap.size := hb.size
              clear hown hH hLin hFt hb
              by_cases hgo : j < ts.length ∧ 0 < R.length
              · obtain ⟨hjl, hR0⟩ := hgo
                obtain ⟨tb, to, rfl, htb, htc⟩ := si_at HTS.out (by omega)
                have hzc := kcell' HBR.out htb (htc j hjl)
                generalize ts.getD j 0 = tj at hzc
                obtain ⟨g, rfl⟩ : ∃ g, rp = some ⟨g, 0, none⟩ := by
                  rcases HOWR.out.2 with ⟨h0, h1⟩ | ⟨g, cap', cur, hv, _⟩
                  · omega
                  · cases hv; exact ⟨g, rfl⟩
                have hgb := own_block HOWR.out g rfl
                have hR0' : decide ((R.length : Int) > 0) = true := by simpa using hR0
                obtain ⟨q, hq⟩ : ∃ q : Nat, tj % (R.length : Int) = q := ⟨(tj % (R.length : Int)).toNat, by have := Int.emod_nonneg tj (show (R.length : Int) ≠ 0 by omega); omega⟩
                have hqR : q < R.length := by have := Int.emod_lt_of_pos tj (show 0 < (R.length : Int) by omega); omega
                have hmod := fun W => rmodulo_any tj R.length (by omega) (by omega) W
                simp only [hq] at hmod
                have HMOD : Hid (∀ W, Calls Try.prog 22 #[I tj, I R.length] W fun e w' => e = .returned (I q) ∧ w' = W) := hmod
                have hg1 := hgb.1
                have hg2 := hgb.2
                clear htc hmod hgb hq
                go_wp2_with fail
                refine (HMOD.out _).mono ?_
                rintro e w' ⟨rfl, rfl⟩
                have he0 := own_ev HOWR.out hRl (k := 0) hR0
                have heq := own_ev HOWR.out hRl hqR
                have HSW : Hid (swapR R' q = (R'.set 0 (R'.getD q ev0)).set q (R'.getD 0 ev0)) := rfl
                generalize R'.getD 0 ev0 = y0 at he0 HSW
                generalize R'.getD q ev0 = yq at heq HSW
                have HEV0 : Hid (w'.rangeAt g (0 * 8) (evC y0).toList) := he0
                have HEVQ : Hid (w'.rangeAt g (q * 8) (evC yq).toList) := heq
                clear he0 heq hzc
                go_wp2_with (first
                  | ((with_reducible refine wp_load33 (.tmp 118) ?_ ?_ g (0 * 8) ?_ y0 ?_ ?_); rfl; rfl; rfl; exact HEV0.out)
                  | ((with_reducible refine wp_load33 (.tmp 123) ?_ ?_ g (q * 8) ?_ yq ?_ ?_); rfl; rfl; rfl; exact range_later (below_alloc (Below.refl _ _) _) HEVQ.out hg2)
                  | ((with_reducible refine wp_store33 ?_ (.tmp 125) (.tmp 124) ?_ g (0 * 8) yq ?_ ?_ ?_ ?_); rfl; rfl; rfl; rfl; exact own_there (own_later (below_alloc (Below.refl _ _) _) HOWR.out) hR0)
                  | ((with_reducible refine wp_load33 (.tmp 20) ?_ ?_ w'.heap.size 0 ?_ y0 ?_ ?_); rfl; rfl; rfl; exact World.rangeAt_setCells_apart (range_new33 w' y0) g _ _ (.inl (by omega)))
                  | ((with_reducible refine wp_store33 ?_ (.tmp 129) (.tmp 128) ?_ g (q * 8) y0 ?_ ?_ ?_ ?_); rfl; rfl; rfl; rfl; exact World.there_setCells (own_there (own_later (below_alloc (Below.refl _ _) _) HOWR.out) hqR) _ _ _))
                go_roundw
                case rel =>
                  refine ⟨j + 1, swapR R' q, by omega, by go_num, by rw [swapR_len]; exact hRl, ?_, swapR_hist (by omega) HHR.out, ?_, swapR_fits (by omega) HFR.out, ?_⟩
                  · rw [HSW.out]
                    exact own_put (own_put (own_later (below_alloc (Below.refl _ _) _) HOWR.out) hRl hR0 yq) (by rw [List.length_set]; exact hRl) hqR y0
                  · rw [swapR_lin (timeless_ref ob st) (by omega)]
                    exact HLR.out
                  · rw [setCells_many, setCells_many]
                    exact below_many (by omega) _ _ _ (below_many (by omega) _ _ _ (below_alloc HBR.out _))
                case measure => simp [intOf]; omega
              · by_cases hjl : j < ts.length
                · exact absurd ⟨hjl, Nat.lt_of_le_of_lt (Nat.zero_le _) hlt⟩ hgo
                · go_wp2_with fail
                  have hevs := sl_evs (own_sl (evs := R') (by rw [hRl]; exact HOWR.out))
                  refine (linear_any ob st HST.out _ R' _ hevs HFR.out).mono ?_
                  rintro e w6 ⟨⟨bb, c6, rfl, hL6⟩, hb6⟩
                  have hc6 : c6 = 0 ∧ (bb = true ↔ Acc (refWays ob st) (firstOf ob st) R) := by
                    rcases hL6 with ⟨h, _⟩ | ⟨_, h, _⟩ | ⟨_, _, h, _⟩ | ⟨_, _, _, h1, h2⟩
                    · exact absurd HS.out h
                    · omega
                    · exact absurd HHR.out h
                    · exact ⟨h1, (h2.trans HLR.out).trans HLA.out⟩
                  obtain ⟨rfl, hbb⟩ := hc6
                  have e1 : ba = false := Bool.eq_iff_iff.2 (HBA.out.trans HGF.out.symm)
                  have e2 : bb = false := Bool.eq_iff_iff.2 (hbb.trans HGF.out.symm)
                  have HB6 : Hid (Below w.heap.size w w6) := below_step HBR.out hb6
                  clear hL6 hb6 hbb HBA HGF
                  subst e1 e2
                  go_wp2_with fail
                  go_ret
                  exact ⟨by simp, HB6.out⟩
        · have HOK2 : Hid (StOk ob st k s) := HOK.out rfl
          have HYES2 : Hid (ob ≠ 1 → (Acc (refWays ob st) (firstOf ob st) R ↔ Acc (refWays ob st) s (R.drop k))) := HYES.out rfl
          clear HOK HYES HNO
          obtain ⟨_, _, e', _, _, h3⟩ := own_sl (own_later HBO.out HOW4.out)
          cases e'
          obtain ⟨blk, off, rfl, hlb, hr⟩ := h3 k _ (getD_some hlt ev0)
          have HOVK := HOV.out k hlt
          have HAD : Hid (∀ s', Acc (refWays ob st) s' (R.drop k) ↔ ∃ o, o ∈ refWays ob st s' (R.getD k ev0) ∧ o.1 = (R.getD k ev0).ans ∧ Acc (refWays ob st) o.2 (R.drop (k + 1))) := acc_drop hlt HOVK
          generalize R.getD k ev0 = x at hr HAD
          have HEV : Hid (wo.rangeAt blk (off + k * 8) (evC x).toList) := hr
          clear h3 hr HOVK
          go_wp2_with ((with_reducible refine wp_load33 (.tmp 65) ?_ ?_ blk (off + k * 8) ?_ x ?_ ?_); rfl; rfl; rfl; exact HEV.out)
          refine (ways_any ob st HS.out k (by omega) s HOK2.out x _ _ HSI.out).mono ?_
          rintro e w5 ⟨wv, rfl, ⟨wp, hwv, hwc⟩, hb5⟩
          subst hwv
          have hosl : ∀ o ∈ refWays ob st s x, StOk ob st (k + 1) o.2 := fun o ho => stOk_next HOK2.out ho
          have hosu : ob ≠ 1 → ∀ o o', o ∈ refWays ob st s x → o' ∈ refWays ob st s x → o.1 = x.ans → o'.1 = x.ans → o = o' := fun h1 o o' h2 h3 h4 h5 => refWays_one ob st h1 s x o o' h2 h3 h4 h5
          have HAS : Hid (Acc (refWays ob st) s (R.drop k) ↔ ∃ o, o ∈ refWays ob st s x ∧ o.1 = x.ans ∧ Acc (refWays ob st) o.2 (R.drop (k + 1))) := HAD.out s
          have hol := refWays_len ob st s x
          generalize refWays ob st s x = os at hwc hosl hosu HAS hol
          have HWC : Hid (∀ i o, os[i]? = some o → ∃ blk sv, wp = some ⟨blk, 0, none⟩ ∧ w5.rangeAt blk (i * 3) [I o.1.1, I o.1.2, sv] ∧ SI w5 sv o.2) := hwc
          have HOSL : Hid (∀ o ∈ os, StOk ob st (k + 1) o.2) := hosl
          have HOSU : Hid (ob ≠ 1 → ∀ o o', o ∈ os → o' ∈ os → o.1 = x.ans → o'.1 = x.ans → o = o') := hosu
          have HB5 : Hid (Below wo.heap.size wo w5) := hb5
          have hz5 : wo.heap.size ≤ w5.heap.size := hb5.size
          clear hwc hosl hosu hb5 HAD
          go_wp2_with fail
          go_loopw [13, 14, 17] (fun t gv i u => ∃ (j : Nat) (sp' : Option Addr) (sc' : Nat) (s' : List Int) (gd' : Bool), j ≤ os.length ∧ i = .int .i64 j ∧ t = .slice sp' s'.length sc' ∧ gv = .bool gd' ∧ SI u (.slice sp' s'.length sc') s' ∧ (gd' = false → ∀ o ∈ os.take j, o.1 ≠ x.ans) ∧ (gd' = true → ∃ o ∈ os, o.1 = x.ans ∧ s' = o.2) ∧ Below w5.heap.size w5 u) (fun _ _ i _ => os.length - (intOf i).toNat)
          case atStart => exact ⟨0, sp, sc, s, false, Nat.zero_le _, rfl, rfl, rfl, HSI.out.later HB5.out, (fun _ o ho => by simp at ho), (fun h => nomatch h), Below.refl _ _⟩
          case round =>
            obtain ⟨j, sp', sc', s', gd', hj, rfl, rfl, rfl, hsi', hno', hyes', hb'⟩ := hrel
            have HSI' : Hid (SI wr (.slice sp' s'.length sc') s') := hsi'
            have HNO' : Hid (gd' = false → ∀ o ∈ os.take j, o.1 ≠ x.ans) := hno'
            have HYES' : Hid (gd' = true → ∃ o ∈ os, o.1 = x.ans ∧ s' = o.2) := hyes'
            have HBI : Hid (Below w5.heap.size w5 wr) := hb'
            have hszi : w5.heap.size ≤ wr.heap.size := hb'.size
            clear hsi' hno' hyes'
            by_cases hjl : j < os.length
            · obtain ⟨wb, sv, hwp, hrng, hsv⟩ := HWC.out j (os[j]) (List.getElem?_eq_getElem hjl)
              have hmem : os[j] ∈ os := List.getElem_mem _
              have htk : ∀ o ∈ os.take (j + 1), o ∈ os.take j ∨ o = os[j] := by
                intro o ho
                rw [List.take_add_one, List.getElem?_eq_getElem hjl, List.mem_append] at ho
                rcases ho with h | h
                · exact .inl h
                · exact .inr (by simpa using h)
              generalize os[j] = o at hrng hsv hmem htk
              have HMEM : Hid (o ∈ os) := hmem
              have HTK : Hid (∀ o' ∈ os.take (j + 1), o' ∈ os.take j ∨ o' = o) := htk
              subst hwp
              have hl2 : wb < w5.heap.size := range_lt hrng
              have c0 : wr.cell? ⟨wb, j * 3, none⟩ = some (I o.1.1) := kcell' hb' hl2 (hrng 0 _ rfl)
              have c1 : wr.cell? ⟨wb, j * 3 + 1, none⟩ = some (I o.1.2) := kcell' hb' hl2 (hrng 1 _ rfl)
              have hsv' := hsv.later hb'
              obtain ⟨sp2, sc2, hsve, hs1, hs2, _⟩ := hsv
              subst hsve
              have HSV : Hid (SI wr (.slice sp2 o.2.length sc2) o.2) := hsv'
              have c2 : wr.cell? ⟨wb, j * 3 + 2, none⟩ = some (.slice sp2 o.2.length sc2) := kcell' hb' hl2 (hrng 2 _ rfl)
              have hev := range_later (HB5.out.trans (HBI.out.mono hz5)) HEV.out hlb
              have v6 : wr.cell? ⟨blk, off + k * 8 + 6, none⟩ = some (I x.code) := hev 6 _ rfl
              have v7 : wr.cell? ⟨blk, off + k * 8 + 6 + 1, none⟩ = some (I x.val) := hev 7 _ rfl
              clear hrng hsv' hev hb' hmem htk
              by_cases ha : o.1.1 = x.code
              · have ha' : (o.1.1 == x.code) = true := by simpa using ha
                by_cases hb2 : o.1.2 = x.val
                · have hb2' : (o.1.2 == x.val) = true := by simpa using hb2
                  have HANS : Hid (o.1 = x.ans) := Prod.ext ha hb2
                  cases gd'
                  · go_wp2_with fail
                    go_quiet (fail)
                    refine (show ∀ W, (Below wr.heap.size wr W) → Exit.then _ _ Exit.normal _ W from fun W hW => ?_) _ (below_drewN (Below.refl _ _) _)
                    have HBW : Hid (Below wr.heap.size wr W) := hW
                    have u2 := kcell' hW (by omega) c2
                    clear c0 c1 c2 v6 v7 hW
                    go_wp2_with fail
                    go_roundw
                    case rel =>
                      exact ⟨j + 1, sp2, sc2, o.2, true, by omega, by go_num, rfl, rfl, HSV.out.later HBW.out, (fun h => nomatch h), (fun _ => ⟨o, HMEM.out, HANS.out, rfl⟩), HBI.out.trans (HBW.out.mono hszi)⟩
                    case measure => simp [intOf]; omega
                  · have HY2 : Hid (∃ o ∈ os, o.1 = x.ans ∧ s' = o.2) := HYES'.out rfl
                    clear HYES' HNO'
                    go_wp2_with fail
                    go_quiet (fail)
                    refine (show ∀ W, (Below wr.heap.size wr W) → Exit.then _ _ Exit.normal _ W from fun W hW => ?_) _ (below_drewN (Below.refl _ _) _)
                    have HBW : Hid (Below wr.heap.size wr W) := hW
                    clear c0 c1 c2 v6 v7 hW
                    go_wp2_with fail
                    go_roundw
                    case rel =>
                      exact ⟨j + 1, sp', sc', s', true, by omega, by go_num, rfl, rfl, HSI'.out.later HBW.out, (fun h => nomatch h), (fun _ => HY2.out), HBI.out.trans (HBW.out.mono hszi)⟩
                    case measure => simp [intOf]; omega
                · have hb2' : (o.1.2 == x.val) = false := by simpa using hb2
                  have HANS : Hid (o.1 ≠ x.ans) := fun h => hb2 (congrArg Prod.snd h)
                  go_wp2_with fail
                  go_quiet (fail)
                  refine (show ∀ W, (Below wr.heap.size wr W) → Exit.then _ _ Exit.normal _ W from fun W hW => ?_) _ (below_drewN (Below.refl _ _) _)
                  have HBW : Hid (Below wr.heap.size wr W) := hW
                  clear c0 c1 c2 v6 v7 hW
                  go_wp2_with fail
                  go_roundw
                  case rel =>
                    refine ⟨j + 1, sp', sc', s', gd', by omega, by go_num, rfl, rfl, HSI'.out.later HBW.out, (fun h o' ho' => ?_), HYES'.out, HBI.out.trans (HBW.out.mono hszi)⟩
                    rcases HTK.out o' ho' with h1 | rfl
                    · exact HNO'.out h o' h1
                    · exact HANS.out
                  case measure => simp [intOf]; omega
              · have ha' : (o.1.1 == x.code) = false := by simpa using ha
                have HANS : Hid (o.1 ≠ x.ans) := fun h => ha (congrArg Prod.fst h)
                go_wp2_with fail
                go_quiet (fail)
                refine (show ∀ W, (Below wr.heap.size wr W) → Exit.then _ _ Exit.normal _ W from fun W hW => ?_) _ (below_drewN (Below.refl _ _) _)
                have HBW : Hid (Below wr.heap.size wr W) := hW
                clear c0 c1 c2 v6 v7 hW
                go_wp2_with fail
                go_roundw
                case rel =>
                  refine ⟨j + 1, sp', sc', s', gd', by omega, by go_num, rfl, rfl, HSI'.out.later HBW.out, (fun h o' ho' => ?_), HYES'.out, HBI.out.trans (HBW.out.mono hszi)⟩
                  rcases HTK.out o' ho' with h1 | rfl
                  · exact HNO'.out h o' h1
                  · exact HANS.out
                case measure => simp [intOf]; omega
            · have hjo : j = os.length := by omega
              subst hjo
              clear hb'
              go_wp2_with fail
              go_roundw
              case rel =>
                have hB : Below w4.heap.size w4 wr := HBO.out.trans ((HB5.out.trans (HBI.out.mono hz5)).mono HBO.out.size)
                refine ⟨k + 1, sp', sc', s', gd', by omega, by go_num, rfl, rfl, HSI'.out, (fun h => ?_), (fun h h1 => ?_), (fun h h1 => ?_), hB⟩
                · obtain ⟨o, ho, _, rfl⟩ := HYES'.out h
                  exact HOSL.out o ho
                · obtain ⟨o, ho, ha, rfl⟩ := HYES'.out h
                  rw [HYES2.out h1, HAS.out]
                  constructor
                  · rintro ⟨o', ho', ha', hacc⟩
                    rw [HOSU.out h1 o o' ho ho' ha ha']
                    exact hacc
                  · intro hacc
                    exact ⟨o, ho, ha, hacc⟩
                · rw [HYES2.out h1, HAS.out]
                  rintro ⟨o', ho', ha', _⟩
                  exact HNO'.out h o' (by rwa [List.take_length]) ha'
              case measure => simp [intOf]; omega
      · have hkR : k = R.length := by omega
        subst hkR
        have hdrop : ob ≠ 1 → (gd = true ↔ Acc (refWays ob st) (firstOf ob st) R) := fun h1 => by
          cases gd with
          | false => exact ⟨fun h => (nomatch h), fun h => absurd h (HNO.out rfl h1)⟩
          | true => rw [HYES.out rfl h1, List.drop_length]; exact ⟨fun _ => acc_nil, fun _ => rfl⟩
        have HDROP : Hid (ob ≠ 1 → (gd = true ↔ Acc (refWays ob st) (firstOf ob st) R)) := hdrop
        clear hdrop HOK HYES HNO
        have HOWT : Hid (wo.ownsRow w1.heap.size 33 8 (.slice rp R.length rc) R.length (R.flatMap evL)) := own_later HBO.out HOW4.out
        have HBT : Hid (Below w.heap.size w wo) := HB4.out.trans (HBO.out.mono HB4.out.size)
        by_cases h1 : ob = 1
        · have h1' : (ob == 1) = true := by simpa using h1
          have H1 : Hid (ob = 1) := h1
          clear h1
          go_wp2_with fail
          refine (adds_any st _ R _ (own_sl HOWT.out) hR12).mono ?_
          rintro e wt ⟨rfl, hbt⟩
          have HOWT2 : Hid (wt.ownsRow w1.heap.size 33 8 (.slice rp R.length rc) R.length (R.flatMap evL)) := own_later hbt HOWT.out
          have HBT2 : Hid (Below w.heap.size w wt) := below_step HBT.out hbt
          have hgf : decide (0 < (addsUp st R R.length).length) = true ↔ Acc (refWays ob st) (firstOf ob st) R := by
            rw [H1.out]
            have hf : firstOf 1 st = [st] := rfl
            rw [hf, adds_acc HOV.out]
            simp [List.length_pos_iff]
          clear HOWT HBT hbt
          have HOWT := HOWT2
          have HBT := HBT2
          clear HOWT2 HBT2
          generalize decide (0 < (addsUp st R R.length).length) = gf at hgf ⊢
          have HGF : Hid (gf = true ↔ Acc (refWays ob st) (firstOf ob st) R) := hgf
          clear hgf
          go_wp2_with fail
          go_loopw [18] (fun i u => ∃ (j : Nat) (R' : List Ev), j ≤ ts.length ∧ i = .int .i64 j ∧ R'.length = R.length ∧ u.ownsRow w1.heap.size 33 8 (.slice rp R.length rc) R.length (R'.flatMap evL) ∧ Hist R' ∧ (Lin (refWays ob st) (firstOf ob st) R' ↔ Lin (refWays ob st) (firstOf ob st) R) ∧ (∀ i, i < R'.length → Fits (R'.getD i ev0).a ∧ Fits (R'.getD i ev0).b) ∧ Below w.heap.size w u) (fun i _ => ts.length - (intOf i).toNat)
          case atStart => exact ⟨0, R, Nat.zero_le _, rfl, rfl, HOWT.out, HRH.out, Iff.rfl, HRF.out, HBT.out⟩
          case round =>
            obtain ⟨j, R', hj, rfl, hRl, hown, hH, hLin, hFt, hb⟩ := hrel
            have HOWR : Hid (wr.ownsRow w1.heap.size 33 8 (.slice rp R.length rc) R.length (R'.flatMap evL)) := hown
            have HHR : Hid (Hist R') := hH
            have HLR : Hid (Lin (refWays ob st) (firstOf ob st) R' ↔ Lin (refWays ob st) (firstOf ob st) R) := hLin
            have HFR : Hid (∀ i, i < R'.length → Fits (R'.getD i ev0).a ∧ Fits (R'.getD i ev0).b) := hFt
            have HBR : Hid (Below w.heap.size w wr) := hb
            have hszr : w.heap.size ≤ wr.heap.size := hb.size
            clear hown hH hLin hFt hb
            by_cases hgo : j < ts.length ∧ 0 < R.length
            · obtain ⟨hjl, hR0⟩ := hgo
              obtain ⟨tb, to, rfl, htb, htc⟩ := si_at HTS.out (by omega)
              have hzc := kcell' HBR.out htb (htc j hjl)
              generalize ts.getD j 0 = tj at hzc
              obtain ⟨g, rfl⟩ : ∃ g, rp = some ⟨g, 0, none⟩ := by
                rcases HOWR.out.2 with ⟨h0, h1⟩ | ⟨g, cap', cur, hv, _⟩
                · omega
                · cases hv; exact ⟨g, rfl⟩
              have hgb := own_block HOWR.out g rfl
              have hR0' : decide ((R.length : Int) > 0) = true := by simpa using hR0
              obtain ⟨q, hq⟩ : ∃ q : Nat, tj % (R.length : Int) = q := ⟨(tj % (R.length : Int)).toNat, by have := Int.emod_nonneg tj (show (R.length : Int) ≠ 0 by omega); omega⟩
              have hqR : q < R.length := by have := Int.emod_lt_of_pos tj (show 0 < (R.length : Int) by omega); omega
              have hmod := fun W => rmodulo_any tj R.length (by omega) (by omega) W
              simp only [hq] at hmod
              have HMOD : Hid (∀ W, Calls Try.prog 22 #[I tj, I R.length] W fun e w' => e = .returned (I q) ∧ w' = W) := hmod
              have hg1 := hgb.1
              have hg2 := hgb.2
              clear htc hmod hgb hq
              go_wp2_with fail
              refine (HMOD.out _).mono ?_
              rintro e w' ⟨rfl, rfl⟩
              have he0 := own_ev HOWR.out hRl (k := 0) hR0
              have heq := own_ev HOWR.out hRl hqR
              have HSW : Hid (swapR R' q = (R'.set 0 (R'.getD q ev0)).set q (R'.getD 0 ev0)) := rfl
              generalize R'.getD 0 ev0 = y0 at he0 HSW
              generalize R'.getD q ev0 = yq at heq HSW
              have HEV0 : Hid (w'.rangeAt g (0 * 8) (evC y0).toList) := he0
              have HEVQ : Hid (w'.rangeAt g (q * 8) (evC yq).toList) := heq
              clear he0 heq hzc
              go_wp2_with (first
                | ((with_reducible refine wp_load33 (.tmp 118) ?_ ?_ g (0 * 8) ?_ y0 ?_ ?_); rfl; rfl; rfl; exact HEV0.out)
                | ((with_reducible refine wp_load33 (.tmp 123) ?_ ?_ g (q * 8) ?_ yq ?_ ?_); rfl; rfl; rfl; exact range_later (below_alloc (Below.refl _ _) _) HEVQ.out hg2)
                | ((with_reducible refine wp_store33 ?_ (.tmp 125) (.tmp 124) ?_ g (0 * 8) yq ?_ ?_ ?_ ?_); rfl; rfl; rfl; rfl; exact own_there (own_later (below_alloc (Below.refl _ _) _) HOWR.out) hR0)
                | ((with_reducible refine wp_load33 (.tmp 20) ?_ ?_ w'.heap.size 0 ?_ y0 ?_ ?_); rfl; rfl; rfl; exact World.rangeAt_setCells_apart (range_new33 w' y0) g _ _ (.inl (by omega)))
                | ((with_reducible refine wp_store33 ?_ (.tmp 129) (.tmp 128) ?_ g (q * 8) y0 ?_ ?_ ?_ ?_); rfl; rfl; rfl; rfl; exact World.there_setCells (own_there (own_later (below_alloc (Below.refl _ _) _) HOWR.out) hqR) _ _ _))
              go_roundw
              case rel =>
                refine ⟨j + 1, swapR R' q, by omega, by go_num, by rw [swapR_len]; exact hRl, ?_, swapR_hist (by omega) HHR.out, ?_, swapR_fits (by omega) HFR.out, ?_⟩
                · rw [HSW.out]
                  exact own_put (own_put (own_later (below_alloc (Below.refl _ _) _) HOWR.out) hRl hR0 yq) (by rw [List.length_set]; exact hRl) hqR y0
                · rw [swapR_lin (timeless_ref ob st) (by omega)]
                  exact HLR.out
                · rw [setCells_many, setCells_many]
                  exact below_many (by omega) _ _ _ (below_many (by omega) _ _ _ (below_alloc HBR.out _))
              case measure => simp [intOf]; omega
            · by_cases hjl : j < ts.length
              · obtain rfl : R = [] := by
                  have : ¬ 0 < R.length := fun h => hgo ⟨hjl, h⟩
                  exact List.length_eq_zero_iff.1 (by omega)
                clear hgo
                go_wp2_with fail
                have hevs := sl_evs (own_sl (evs := R') (by rw [hRl]; exact HOWR.out))
                refine (linear_any ob st HST.out _ R' _ hevs HFR.out).mono ?_
                rintro e w6 ⟨⟨bb, c6, rfl, hL6⟩, hb6⟩
                have hc6 : c6 = 0 ∧ (bb = true ↔ Acc (refWays ob st) (firstOf ob st) ([] : List Ev)) := by
                  rcases hL6 with ⟨h, _⟩ | ⟨_, h, _⟩ | ⟨_, _, h, _⟩ | ⟨_, _, _, h1, h2⟩
                  · exact absurd HS.out h
                  · omega
                  · exact absurd HHR.out h
                  · exact ⟨h1, (h2.trans HLR.out).trans HLA.out⟩
                obtain ⟨rfl, hbb⟩ := hc6
                have e1 : ba = gf := Bool.eq_iff_iff.2 (HBA.out.trans HGF.out.symm)
                have e2 : bb = gf := Bool.eq_iff_iff.2 (hbb.trans HGF.out.symm)
                have HB6 : Hid (Below w.heap.size w w6) := below_step HBR.out hb6
                clear hL6 hb6 hbb HBA HGF
                subst e1 e2
                go_wp2_with fail
                go_ret
                exact ⟨by simp, HB6.out⟩
              · go_wp2_with fail
                have hevs := sl_evs (own_sl (evs := R') (by rw [hRl]; exact HOWR.out))
                refine (linear_any ob st HST.out _ R' _ hevs HFR.out).mono ?_
                rintro e w6 ⟨⟨bb, c6, rfl, hL6⟩, hb6⟩
                have hc6 : c6 = 0 ∧ (bb = true ↔ Acc (refWays ob st) (firstOf ob st) R) := by
                  rcases hL6 with ⟨h, _⟩ | ⟨_, h, _⟩ | ⟨_, _, h, _⟩ | ⟨_, _, _, h1, h2⟩
                  · exact absurd HS.out h
                  · omega
                  · exact absurd HHR.out h
                  · exact ⟨h1, (h2.trans HLR.out).trans HLA.out⟩
                obtain ⟨rfl, hbb⟩ := hc6
                have e1 : ba = gf := Bool.eq_iff_iff.2 (HBA.out.trans HGF.out.symm)
                have e2 : bb = gf := Bool.eq_iff_iff.2 (hbb.trans HGF.out.symm)
                have HB6 : Hid (Below w.heap.size w w6) := below_step HBR.out hb6
                clear hL6 hb6 hbb HBA HGF
                subst e1 e2
                go_wp2_with fail
                go_ret
                exact ⟨by simp, HB6.out⟩
        · have h1' : (ob == 1) = false := by simpa using h1
          have hgf : gd = true ↔ Acc (refWays ob st) (firstOf ob st) R := HDROP.out h1
          clear h1
          have HGF : Hid (gd = true ↔ Acc (refWays ob st) (firstOf ob st) R) := hgf
          clear hgf
          go_wp2_with fail
          go_loopw [18] (fun i u => ∃ (j : Nat) (R' : List Ev), j ≤ ts.length ∧ i = .int .i64 j ∧ R'.length = R.length ∧ u.ownsRow w1.heap.size 33 8 (.slice rp R.length rc) R.length (R'.flatMap evL) ∧ Hist R' ∧ (Lin (refWays ob st) (firstOf ob st) R' ↔ Lin (refWays ob st) (firstOf ob st) R) ∧ (∀ i, i < R'.length → Fits (R'.getD i ev0).a ∧ Fits (R'.getD i ev0).b) ∧ Below w.heap.size w u) (fun i _ => ts.length - (intOf i).toNat)
          case atStart => exact ⟨0, R, Nat.zero_le _, rfl, rfl, HOWT.out, HRH.out, Iff.rfl, HRF.out, HBT.out⟩
          case round =>
            obtain ⟨j, R', hj, rfl, hRl, hown, hH, hLin, hFt, hb⟩ := hrel
            have HOWR : Hid (wr.ownsRow w1.heap.size 33 8 (.slice rp R.length rc) R.length (R'.flatMap evL)) := hown
            have HHR : Hid (Hist R') := hH
            have HLR : Hid (Lin (refWays ob st) (firstOf ob st) R' ↔ Lin (refWays ob st) (firstOf ob st) R) := hLin
            have HFR : Hid (∀ i, i < R'.length → Fits (R'.getD i ev0).a ∧ Fits (R'.getD i ev0).b) := hFt
            have HBR : Hid (Below w.heap.size w wr) := hb
            have hszr : w.heap.size ≤ wr.heap.size := hb.size
            clear hown hH hLin hFt hb
            by_cases hgo : j < ts.length ∧ 0 < R.length
            · obtain ⟨hjl, hR0⟩ := hgo
              obtain ⟨tb, to, rfl, htb, htc⟩ := si_at HTS.out (by omega)
              have hzc := kcell' HBR.out htb (htc j hjl)
              generalize ts.getD j 0 = tj at hzc
              obtain ⟨g, rfl⟩ : ∃ g, rp = some ⟨g, 0, none⟩ := by
                rcases HOWR.out.2 with ⟨h0, h1⟩ | ⟨g, cap', cur, hv, _⟩
                · omega
                · cases hv; exact ⟨g, rfl⟩
              have hgb := own_block HOWR.out g rfl
              have hR0' : decide ((R.length : Int) > 0) = true := by simpa using hR0
              obtain ⟨q, hq⟩ : ∃ q : Nat, tj % (R.length : Int) = q := ⟨(tj % (R.length : Int)).toNat, by have := Int.emod_nonneg tj (show (R.length : Int) ≠ 0 by omega); omega⟩
              have hqR : q < R.length := by have := Int.emod_lt_of_pos tj (show 0 < (R.length : Int) by omega); omega
              have hmod := fun W => rmodulo_any tj R.length (by omega) (by omega) W
              simp only [hq] at hmod
              have HMOD : Hid (∀ W, Calls Try.prog 22 #[I tj, I R.length] W fun e w' => e = .returned (I q) ∧ w' = W) := hmod
              have hg1 := hgb.1
              have hg2 := hgb.2
              clear htc hmod hgb hq
              go_wp2_with fail
              refine (HMOD.out _).mono ?_
              rintro e w' ⟨rfl, rfl⟩
              have he0 := own_ev HOWR.out hRl (k := 0) hR0
              have heq := own_ev HOWR.out hRl hqR
              have HSW : Hid (swapR R' q = (R'.set 0 (R'.getD q ev0)).set q (R'.getD 0 ev0)) := rfl
              generalize R'.getD 0 ev0 = y0 at he0 HSW
              generalize R'.getD q ev0 = yq at heq HSW
              have HEV0 : Hid (w'.rangeAt g (0 * 8) (evC y0).toList) := he0
              have HEVQ : Hid (w'.rangeAt g (q * 8) (evC yq).toList) := heq
              clear he0 heq hzc
              go_wp2_with (first
                | ((with_reducible refine wp_load33 (.tmp 118) ?_ ?_ g (0 * 8) ?_ y0 ?_ ?_); rfl; rfl; rfl; exact HEV0.out)
                | ((with_reducible refine wp_load33 (.tmp 123) ?_ ?_ g (q * 8) ?_ yq ?_ ?_); rfl; rfl; rfl; exact range_later (below_alloc (Below.refl _ _) _) HEVQ.out hg2)
                | ((with_reducible refine wp_store33 ?_ (.tmp 125) (.tmp 124) ?_ g (0 * 8) yq ?_ ?_ ?_ ?_); rfl; rfl; rfl; rfl; exact own_there (own_later (below_alloc (Below.refl _ _) _) HOWR.out) hR0)
                | ((with_reducible refine wp_load33 (.tmp 20) ?_ ?_ w'.heap.size 0 ?_ y0 ?_ ?_); rfl; rfl; rfl; exact World.rangeAt_setCells_apart (range_new33 w' y0) g _ _ (.inl (by omega)))
                | ((with_reducible refine wp_store33 ?_ (.tmp 129) (.tmp 128) ?_ g (q * 8) y0 ?_ ?_ ?_ ?_); rfl; rfl; rfl; rfl; exact World.there_setCells (own_there (own_later (below_alloc (Below.refl _ _) _) HOWR.out) hqR) _ _ _))
              go_roundw
              case rel =>
                refine ⟨j + 1, swapR R' q, by omega, by go_num, by rw [swapR_len]; exact hRl, ?_, swapR_hist (by omega) HHR.out, ?_, swapR_fits (by omega) HFR.out, ?_⟩
                · rw [HSW.out]
                  exact own_put (own_put (own_later (below_alloc (Below.refl _ _) _) HOWR.out) hRl hR0 yq) (by rw [List.length_set]; exact hRl) hqR y0
                · rw [swapR_lin (timeless_ref ob st) (by omega)]
                  exact HLR.out
                · rw [setCells_many, setCells_many]
                  exact below_many (by omega) _ _ _ (below_many (by omega) _ _ _ (below_alloc HBR.out _))
              case measure => simp [intOf]; omega
            · by_cases hjl : j < ts.length
              · obtain rfl : R = [] := by
                  have : ¬ 0 < R.length := fun h => hgo ⟨hjl, h⟩
                  exact List.length_eq_zero_iff.1 (by omega)
                clear hgo
                go_wp2_with fail
                have hevs := sl_evs (own_sl (evs := R') (by rw [hRl]; exact HOWR.out))
                refine (linear_any ob st HST.out _ R' _ hevs HFR.out).mono ?_
                rintro e w6 ⟨⟨bb, c6, rfl, hL6⟩, hb6⟩
                have hc6 : c6 = 0 ∧ (bb = true ↔ Acc (refWays ob st) (firstOf ob st) ([] : List Ev)) := by
                  rcases hL6 with ⟨h, _⟩ | ⟨_, h, _⟩ | ⟨_, _, h, _⟩ | ⟨_, _, _, h1, h2⟩
                  · exact absurd HS.out h
                  · omega
                  · exact absurd HHR.out h
                  · exact ⟨h1, (h2.trans HLR.out).trans HLA.out⟩
                obtain ⟨rfl, hbb⟩ := hc6
                have e1 : ba = gd := Bool.eq_iff_iff.2 (HBA.out.trans HGF.out.symm)
                have e2 : bb = gd := Bool.eq_iff_iff.2 (hbb.trans HGF.out.symm)
                have HB6 : Hid (Below w.heap.size w w6) := below_step HBR.out hb6
                clear hL6 hb6 hbb HBA HGF
                subst e1 e2
                go_wp2_with fail
                go_ret
                exact ⟨by simp, HB6.out⟩
              · go_wp2_with fail
                have hevs := sl_evs (own_sl (evs := R') (by rw [hRl]; exact HOWR.out))
                refine (linear_any ob st HST.out _ R' _ hevs HFR.out).mono ?_
                rintro e w6 ⟨⟨bb, c6, rfl, hL6⟩, hb6⟩
                have hc6 : c6 = 0 ∧ (bb = true ↔ Acc (refWays ob st) (firstOf ob st) R) := by
                  rcases hL6 with ⟨h, _⟩ | ⟨_, h, _⟩ | ⟨_, _, h, _⟩ | ⟨_, _, _, h1, h2⟩
                  · exact absurd HS.out h
                  · omega
                  · exact absurd HHR.out h
                  · exact ⟨h1, (h2.trans HLR.out).trans HLA.out⟩
                obtain ⟨rfl, hbb⟩ := hc6
                have e1 : ba = gd := Bool.eq_iff_iff.2 (HBA.out.trans HGF.out.symm)
                have e2 : bb = gd := Bool.eq_iff_iff.2 (hbb.trans HGF.out.symm)
                have HB6 : Hid (Below w.heap.size w w6) := below_step HBR.out hb6
                clear hL6 hb6 hbb HBA HGF
                subst e1 e2
                go_wp2_with fail
                go_ret
                exact ⟨by simp, HB6.out⟩
  · have hca : ba = false ∧ c = 1 := by
      rcases hL with ⟨_, h1, h2⟩ | ⟨h, _⟩ | ⟨h, _⟩ | ⟨h, _⟩
      · exact ⟨h1, h2⟩
      · exact absurd h hS
      · exact absurd h hS
      · exact absurd h hS
    obtain ⟨rfl, rfl⟩ := hca
    clear hL
    go_wp2_with fail
    go_ret
    exact ⟨rfl, HB3.out⟩

end Go.Proofs.Yteniopbmkooomaa
