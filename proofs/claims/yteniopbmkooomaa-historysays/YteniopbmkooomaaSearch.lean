/-
  What the search of package history does, over a state that is an int: it tells whether there is an order from here on.
-/
import Derived.Test.YteniopbmkooomaaEnv
import Derived.Deep.LoopGhost
namespace Go.Proofs.Yteniopbmkooomaa
open Go.RowKit Hi Go.Deep Go.Maps

theorem size106 : (Try.prog.info? 106).map (·.size) = some 3 := by kernel_rfl
/-- The load of an outcome, at the operation. -/
theorem wp_load106 {ops : Array Oper} {rest : List Oper} {op : Oper} {a : Act} {w : World} {Q : Exit → Act → World → Prop} (x : Operand) (ho : op.op = .load 106 x) (hgd : op.guard = none)
    (b o : Nat) (hx : a.eval x = .pointer (some ⟨b, o, none⟩)) (e : (Int × Int) × Int) (hc : w.rangeAt b o (oiC e).toList)
    (h : wpList Try.prog ops Q rest (a.put op.dst (.agg (oiC e))) w) : wpList Try.prog ops Q (op :: rest) a w :=
  wpList_load_mid (P := Try.prog) hgd 106 x ho b o hx _ _ hc Try.underlying106 rfl size106 h

/-- No key of the map leads anywhere. -/
def KeyV (ways : Ways Int) (l : List Ev) (key : Value) : Prop := ∀ (T : Nat) (s : Int), key = .agg #[U T, I s] → ¬ GoesH ways l T s

theorem left_zero {T : Nat} : ∀ {n : Nat}, left T n = 0 → ∀ i, i < n → T.testBit i = true
  | 0, _, i, hi => by omega
  | n + 1, h, i, hi => by
    unfold left at h
    by_cases e : i = n
    · subst e
      cases hb : T.testBit i with
      | true => rfl
      | false => rw [hb] at h; simp at h
    · exact left_zero (n := n) (by omega) i (by omega)

theorem noVia_taken {σ : Type} {ways : Ways σ} {l : List Ev} {T : Nat} {s : σ} {i : Nat} (h : T.testBit i = true) : NoVia ways l T s i := fun h' => by rw [h] at h'; cases h'
theorem noVia_behind {σ : Type} {ways : Ways σ} {l : List Ev} {T : Nat} {s : σ} {i : Nat} (h : ¬ ∀ k, k < l.length → evAhead (l.getD k ev0) (l.getD i ev0) = true → T.testBit k = true) : NoVia ways l T s i := fun _ h' => absurd h' h
theorem noVia_all {σ : Type} {ways : Ways σ} {l : List Ev} {T : Nat} {s : σ} {i : Nat} {x : Ev} (hx : l.getD i ev0 = x) {os : List ((Int × Int) × σ)} (ho : ways s x = os)
    (h : ∀ j o, j < os.length → os[j]? = some o → Helps x s o → ¬ GoesH ways l (T ||| 2 ^ i) o.2) : NoVia ways l T s i := fun _ _ o hm hh => by
  rw [hx] at hm hh
  rw [ho] at hm
  obtain ⟨j, hj, he⟩ := List.mem_iff_getElem.1 hm
  exact h j o hj (by rw [List.getElem?_eq_getElem hj, he]) hh

set_option maxHeartbeats 8000000 in
set_option maxRecDepth 100000 in
theorem searchI (f : Nat) (hcf : ∀ args w, (callFunc f args).run Try.prog w = .ok (.enter f args) w) (ways : Ways Int) (hask : ∀ (s : Int) (x : Ev) (w : World), Fits s → Calls Try.prog f #[I s, evV x] w fun e w' => ∃ v, e = .returned v ∧ Outs 3 encI w' v (ways s x) ∧ Below w.heap.size w w')
    (hfit : ∀ s x, Fits s → ∀ o ∈ ways s x, Fits o.2) (hlen : ∀ s x, (ways s x).length ≤ 2)
    (l : List Ev) (h12 : l.length ≤ 12) (bn bv bl bb ba bs bm bk : Nat) (v : Value) : ∀ (m T : Nat) (s : Int) (w : World) (cnt : Nat), T < 2 ^ l.length → left T l.length ≤ m → Fits s → cnt + calls m ≤ 1000000000000000000 →
    Env 45 (.func (.func f) #[] #[]) l bn bv bl bb ba bs bm bk v w → Vain 101 (KeyV ways l) w bm cnt →
    Calls Try.prog 45 #[.agg #[U T, I s], P1 bn, P1 bv, P1 bl, P1 bb, P1 ba, P1 bs] w fun e w' => RetB e (GoesH ways l T s) ∧ Vain 101 (KeyV ways l) w' bm (cnt + calls m) ∧ Frm bm w w' := by
  intro m
  induction m with
  | zero =>
    intro T s w cnt hT hleft hs hcnt hE hV
    have hT64 : T < 2 ^ 64 := Nat.lt_of_lt_of_le hT (Nat.pow_le_pow_right (by omega) (by omega))
    have HT64 : Hid (T < 2 ^ 64) := hT64
    have hd : ∀ i, i < l.length → (l.getD i ev0).over = true → T.testBit i = true := fun i hi _ => left_zero (by omega) i hi
    obtain ⟨cn, cv, cl, cb, ca, cs, hev, hrow⟩ := hE
    have HV : Hid (Vain 101 (KeyV ways l) w bm cnt) := hV
    have ln := World.block_lt_of_cell? _ _ cn
    simp only [] at ln
    have hz := (needed_iff h12 HT64.out).2 hd
    have HD : Hid (∀ i, i < l.length → (l.getD i ev0).over = true → T.testBit i = true) := hd
    have hz' : (bits .andNot .u64 (maskOf (overB l) l.length : Int) (T : Int) == 0) = true := by rw [hz]; rfl
    clear hd hz hev hrow hV hT hT64
    go_enter Try.func45, Try.ntmps45
    go_wp2_with fail
    go_ret
    exact ⟨retB_yes rfl (goesH_done HD.out), (HV.out.alloc _).mono (by omega), HV.out.frm.alloc _⟩
  | succ m ih =>
    intro T s w cnt hT hleft hs hcnt hE hV
    have hT64 : T < 2 ^ 64 := Nat.lt_of_lt_of_le hT (Nat.pow_le_pow_right (by omega) (by omega))
    have HT : Hid (T < 2 ^ l.length) := hT
    have HT64 : Hid (T < 2 ^ 64) := hT64
    obtain ⟨cn, cv, cl, cb, ca, cs, hev, hrow⟩ := hE
    have HE : Hid (Env 45 (.func (.func f) #[] #[]) l bn bv bl bb ba bs bm bk v w) := ⟨cn, cv, cl, cb, ca, cs, hev, hrow⟩
    have HV : Hid (Vain 101 (KeyV ways l) w bm cnt) := hV
    have ln := World.block_lt_of_cell? _ _ cn
    have lv := World.block_lt_of_cell? _ _ cv
    have ll := World.block_lt_of_cell? _ _ cl
    have lb := World.block_lt_of_cell? _ _ cb
    have la := World.block_lt_of_cell? _ _ ca
    have ls := World.block_lt_of_cell? _ _ cs
    simp only [] at ln lv ll lb la ls
    clear hT hT64
    by_cases hd : ∀ i, i < l.length → (l.getD i ev0).over = true → T.testBit i = true
    · have hz := (needed_iff h12 HT64.out).2 hd
      have HD : Hid (∀ i, i < l.length → (l.getD i ev0).over = true → T.testBit i = true) := hd
      have hz' : (bits .andNot .u64 (maskOf (overB l) l.length : Int) (T : Int) == 0) = true := by rw [hz]; rfl
      clear hd hz hev hrow hV ih
      go_enter Try.func45, Try.ntmps45
      go_wp2_with fail
      go_ret
      exact ⟨retB_yes rfl (goesH_done HD.out), (HV.out.alloc _).mono (by omega), HV.out.frm.alloc _⟩
    · have hz : ¬ bits .andNot .u64 (maskOf (overB l) l.length : Int) (T : Int) = 0 := fun h => hd ((needed_iff h12 HT64.out).1 h)
      have hz' : (bits .andNot .u64 (maskOf (overB l) l.length : Int) (T : Int) == 0) = false := by simpa using hz
      have HD : Hid (¬ ∀ i, i < l.length → (l.getD i ev0).over = true → T.testBit i = true) := hd
      obtain ⟨D, hown, hQ⟩ := hV
      obtain ⟨kl, hkl⟩ := key101 T s HT64.out hs
      have HKL : Hid (keyOf Try.prog 101 (.agg #[U T, I s]) = some kl) := hkl
      have HOWN : Hid ((w.alloc (.cells #[U T, I s] 101)).ownsMap Try.prog 101 unitElem bm cnt D) := hown.alloc _
      have HQ : Hid (∀ key kl, keyOf Try.prog 101 key = some kl → Maps.has D kl = true → KeyV ways l key) := hQ
      clear hd hz hkl hown hQ
      cases hh : Maps.has D kl
      · have HH : Hid (Maps.has D kl = false) := hh
        clear hh
        obtain ⟨p, cap, rfl, hcap, hmax, hEv⟩ := hev
        unfold maxLen at hmax
        have HEV : Hid (∀ i, i < l.length → ∃ blk off, p = some ⟨blk, off, none⟩ ∧ w.rangeAt blk (off + i * 8) (evC (l.getD i ev0)).toList) := hEv
        have HIH : Hid (∀ (T : Nat) (s : Int) (w : World) (cnt : Nat), T < 2 ^ l.length → left T l.length ≤ m → Fits s → cnt + calls m ≤ 1000000000000000000 →
            Env 45 (.func (.func f) #[] #[]) l bn bv bl bb ba bs bm bk (.slice p l.length cap) w → Vain 101 (KeyV ways l) w bm cnt →
            Calls Try.prog 45 #[.agg #[U T, I s], P1 bn, P1 bv, P1 bl, P1 bb, P1 ba, P1 bs] w fun e w' => RetB e (GoesH ways l T s) ∧ Vain 101 (KeyV ways l) w' bm (cnt + calls m) ∧ Frm bm w w') := ih
        have HS : Hid (Fits s) := hs
        have HLEFT : Hid (left T l.length ≤ m + 1) := hleft
        have hcalls : calls (m + 1) = 1 + 12 * (2 * calls m) := rfl
        have HCNT : Hid (cnt + (1 + 12 * (2 * calls m)) ≤ 1000000000000000000) := by rw [hcalls] at hcnt; exact hcnt
        have HCALLS : Hid (calls (m + 1) = 1 + 12 * (2 * calls m)) := hcalls
        clear hEv ih hrow hs hleft hcnt hcalls
        go_enter Try.func45, Try.ntmps45
        go_wp2_with (at_lookup; refine wpList_lookup_own_unit _ rfl _ _ 98 rfl 101 102 law101 Try.underlying98 (zero102 _) bm cnt D rfl HOWN.out _ kl rfl HKL.out ?_; rw [HH.out])
        go_loopw [30] (fun i u => ∃ k : Nat, k ≤ l.length ∧ i = .int .i64 k ∧ (∀ i, i < k → NoVia ways l T s i) ∧ Vain 101 (KeyV ways l) u bm (cnt + k * (2 * calls m)) ∧ u.rangeAt w.heap.size 0 [U T, I s] ∧ Frm bm w u) (fun i _ => l.length - (intOf i).toNat)
        case atStart =>
          refine ⟨0, Nat.zero_le _, rfl, fun i hi => absurd hi (Nat.not_lt_zero _), ?_, ?_, (HV.out.frm.alloc _).alloc _⟩
          · exact ((HV.out.alloc _).alloc _).mono (by omega)
          · exact range_later (below_alloc (Below.refl _ _) _) (range_new _ _ _ _ _ rfl rfl) (by simp)
        case round =>
          obtain ⟨k, hk, rfl, hno, hV, hpr, hF⟩ := hrel
          obtain ⟨wo, hwo⟩ : ∃ wo, wo = wr := ⟨wr, rfl⟩
          subst hwo
          have HNO : Hid (∀ i, i < k → NoVia ways l T s i) := hno
          have HVO : Hid (Vain 101 (KeyV ways l) wo bm (cnt + k * (2 * calls m))) := hV
          have HPR : Hid (wo.rangeAt w.heap.size 0 [U T, I s]) := hpr
          have HF : Hid (Frm bm w wo) := hF
          have HEO : Hid (Env 45 (.func (.func f) #[] #[]) l bn bv bl bb ba bs bm bk (.slice p l.length cap) wo) := HE.out.frm hF
          clear cn cv cl cb ca cs ln lv ll lb la ls hno hV hF
          obtain ⟨cn, cv, cl, cb, ca, cs, hev, hrow⟩ := HEO.out
          have ln := World.block_lt_of_cell? _ _ cn
          have lv := World.block_lt_of_cell? _ _ cv
          have ll := World.block_lt_of_cell? _ _ cl
          have lb := World.block_lt_of_cell? _ _ cb
          have la := World.block_lt_of_cell? _ _ ca
          have ls := World.block_lt_of_cell? _ _ cs
          have p0 : wo.cell? ⟨w.heap.size, 0, none⟩ = some (U T) := by simpa using hpr 0 _ rfl
          have p1 : wo.cell? ⟨w.heap.size, 1, none⟩ = some (I s) := by simpa using hpr 1 _ rfl
          have lp := World.block_lt_of_cell? _ _ p0
          simp only [] at ln lv ll lb la ls lp
          by_cases hlt : k < l.length
          · obtain ⟨blk, off, rfl, hr⟩ := HEV.out k hlt
            have hld := HF.out.range hr
            have lk := hrow.lt
            have ck := hrow.cell hlt
            generalize hx : l.getD k ev0 = x at hld hr
            have HX : Hid (l.getD k ev0 = x) := hx
            have HL : Hid (wo.rangeAt blk (off + k * 8) (evC x).toList) := hld
            clear hx hr hld hev hrow hpr
            by_cases hb1 : T.testBit k = true
            · have HB1 : Hid (T.testBit k = true) := hb1
              have q1 : (bits .and .u64 (T : Int) (IntKind.u64.wrap ((2 : Int) ^ k)) != 0) = true := by
                have := mt (and_bit_zero (i := k) HT64.out (by omega)).1 (by rw [hb1]; decide)
                simpa using this
              clear hb1
              go_wp2_with ((with_reducible refine wp_load33 (.tmp 33) ?_ ?_ blk (off + k * 8) ?_ x ?_ ?_); rfl; rfl; rfl; exact HL.out)
              go_quiet (fail)
              go_wp2_with fail
              go_roundw
              case rel =>
                refine ⟨k + 1, by omega, by go_num, upto_succ HNO.out (noVia_taken HB1.out), ?_, ?_, (HF.out.alloc _).drewN _⟩
                · exact ((HVO.out.alloc _).drewN _).mono (Nat.add_le_add_left (Nat.mul_le_mul_right _ (Nat.le_succ _)) _)
                · exact range_later (below_drewN (below_alloc (Below.refl _ _) _) _) HPR.out lp
              case measure => simp [intOf]; omega
            · have HB1 : Hid (T.testBit k = false) := Bool.eq_false_iff.2 hb1
              have q1 : (bits .and .u64 (T : Int) (IntKind.u64.wrap ((2 : Int) ^ k)) != 0) = false := by
                have := (and_bit_zero (i := k) HT64.out (by omega)).2 (Bool.eq_false_iff.2 hb1)
                rw [this]; rfl
              clear hb1
              by_cases hb2 : ∀ i, i < l.length → evAhead (l.getD i ev0) (l.getD k ev0) = true → T.testBit i = true
              · have HB2 : Hid (∀ i, i < l.length → evAhead (l.getD i ev0) (l.getD k ev0) = true → T.testBit i = true) := hb2
                have q2 : (bits .andNot .u64 (maskOf (aheadB l k) l.length : Int) (T : Int) != 0) = false := by
                  rw [(behind_iff h12 HT64.out).2 hb2]; rfl
                clear hb2
                go_wp2_with ((with_reducible refine wp_load33 (.tmp 33) ?_ ?_ blk (off + k * 8) ?_ x ?_ ?_); rfl; rfl; rfl; exact HL.out)
                go_quiet (fail)
                go_wp2_with fail
                refine (hask s x _ HS.out).mono ?_
                rintro e w3 ⟨ov, rfl, ⟨q, rfl, hq⟩, hb3⟩
                have hfr3 : Frm bm wo w3 := ((HVO.out.frm.alloc _).drewN _).below hb3
                have HFR3 : Hid (Frm bm wo w3) := hfr3
                have HV3 : Hid (Vain 101 (KeyV ways l) w3 bm (cnt + k * (2 * calls m))) := ((HVO.out.alloc _).drewN _).below hb3
                have HBX3 : Hid (w3.rangeAt wo.heap.size 0 (evC x).toList) := by
                  refine range_later hb3 (range_later (below_drewN (Below.refl (wo.heap.size + 1) _) _) (range_new _ _ _ _ _ rfl rfl) (Nat.lt_succ_self _)) ?_
                  show wo.heap.size < (wo.alloc _).heap.size
                  simp
                have HOS : Hid (ways s x = ways s x) := rfl
                have hl2 := hlen s x
                have HFT : Hid (∀ o ∈ ways s x, Fits o.2) := hfit s x HS.out
                generalize hos : ways s x = os at hq hl2 HOS HFT
                have HOS' : Hid (ways s x = os) := hos
                have HQ3 : Hid (∀ (i : Nat) (o : (Int × Int) × Int), os[i]? = some o → ∃ blk, q = some ⟨blk, 0, none⟩ ∧ w3.rangeAt blk (i * 3) ([I o.1.1, I o.1.2] ++ encI o.2)) := hq
                clear HOS hos hq hb3 hfr3 cn cv cl cb ca cs ln lv ll lb la ls p0 p1 lp lk ck
                go_wp2_with fail
                go_loopw [58] (fun i u => ∃ j : Nat, j ≤ os.length ∧ i = .int .i64 j ∧ (∀ i o, i < j → os[i]? = some o → Helps x s o → ¬ GoesH ways l (T ||| 2 ^ k) o.2) ∧ Vain 101 (KeyV ways l) u bm (cnt + k * (2 * calls m) + j * calls m) ∧ Frm bm w3 u) (fun i _ => os.length - (intOf i).toNat)
                case atStart =>
                  exact ⟨0, Nat.zero_le _, rfl, fun i _ hi => absurd hi (Nat.not_lt_zero _), HV3.out.mono (by omega), HV3.out.frm⟩
                case round =>
                  obtain ⟨j, hj, rfl, hno, hV, hF⟩ := hrel
                  have HNO2 : Hid (∀ i o, i < j → os[i]? = some o → Helps x s o → ¬ GoesH ways l (T ||| 2 ^ k) o.2) := hno
                  have HV : Hid (Vain 101 (KeyV ways l) wr bm (cnt + k * (2 * calls m) + j * calls m)) := hV
                  have HF2 : Hid (Frm bm wo wr) := HFR3.out.trans hF
                  have HF3 : Hid (Frm bm w3 wr) := hF
                  obtain ⟨cn, cv, cl, cb, ca, cs, hev, hrow⟩ := HEO.out.frm HF2.out
                  have ln := World.block_lt_of_cell? _ _ cn
                  have lv := World.block_lt_of_cell? _ _ cv
                  have ls := World.block_lt_of_cell? _ _ cs
                  have hpr := HF2.out.range HPR.out
                  have p0 : wr.cell? ⟨w.heap.size, 0, none⟩ = some (U T) := by simpa using hpr 0 _ rfl
                  have p1 : wr.cell? ⟨w.heap.size, 1, none⟩ = some (I s) := by simpa using hpr 1 _ rfl
                  have lp := World.block_lt_of_cell? _ _ p0
                  have hbx := HF3.out.range HBX3.out
                  have HBX : Hid (wr.rangeAt wo.heap.size 0 (evC x).toList) := hbx
                  obtain ⟨x0, x1, x2, x3, x4, x5, x6, x7⟩ := box8 hbx
                  have lx := World.block_lt_of_cell? _ _ x0
                  simp only [] at ln lv ls lp lx
                  clear hno hV hF hev hrow hpr hbx
                  by_cases hjl : j < os.length
                  · obtain ⟨o, ho⟩ : ∃ o, os[j]? = some o := ⟨_, List.getElem?_eq_getElem hjl⟩
                    obtain ⟨blk2, rfl, hro⟩ := HQ3.out j o ho
                    have HO : Hid (os[j]? = some o) := ho
                    have HRO : Hid (wr.rangeAt blk2 (j * 3) (oiC o).toList) := HF3.out.range hro
                    have hfo : Fits o.2 := HFT.out o (List.mem_of_getElem? ho)
                    have HFO : Hid (Fits o.2) := hfo
                    clear ho hro hfo
                    go_wp2_with ((with_reducible refine wp_load106 (.tmp 60) ?_ ?_ blk2 (j * 3) ?_ o ?_ ?_); rfl; rfl; rfl; exact HRO.out)
                    refine (helpsI_any x s o _).mono ?_
                    rintro e w4 ⟨b, rfl, hb, hb4⟩
                    have HF4 : Hid (Frm bm wr w4) := (HV.out.frm.alloc _).below hb4
                    have HV4 : Hid (Vain 101 (KeyV ways l) w4 bm (cnt + k * (2 * calls m) + j * calls m)) := (HV.out.alloc _).below hb4
                    have HH4 : Hid (b = true ↔ Helps x s o) := hb
                    have HBO : Hid (w4.rangeAt wr.heap.size 0 (oiC o).toList) := range_later hb4 (range_new _ _ _ _ _ rfl rfl) (by simp)
                    clear hb hb4 cn cv cl cb ca cs ln lv ls p0 p1 lp x0 x1 x2 x3 x4 x5 x6 x7 lx
                    cases b
                    · go_wp2_with fail
                      go_roundw
                      case rel =>
                        refine ⟨j + 1, by omega, by go_num, fun i o' hi ho' hh => ?_, HV4.out.mono (by have e1 : (j + 1) * calls m = j * calls m + calls m := Nat.succ_mul _ _; omega), HF3.out.trans HF4.out⟩
                        by_cases e : i = j
                        · subst e
                          rw [HO.out] at ho'
                          cases ho'
                          exact absurd (HH4.out.2 hh) (by decide)
                        · exact HNO2.out i o' (by omega) ho' hh
                      case measure => simp [intOf]; omega
                    · obtain ⟨cn, cv, cl, cb, ca, cs, hev, hrow⟩ := HEO.out.frm (HF2.out.trans HF4.out)
                      have hpr := (HF2.out.trans HF4.out).range HPR.out
                      have p0 : w4.cell? ⟨w.heap.size, 0, none⟩ = some (U T) := by simpa using hpr 0 _ rfl
                      have o2 : w4.cell? ⟨wr.heap.size, 2, none⟩ = some (I o.2) := by simpa using HBO.out 2 _ rfl
                      clear hev hrow hpr
                      go_wp2_with fail
                      rw [or_bit HT64.out (by omega)]
                      refine (HIH.out (T ||| 2 ^ k) o.2 _ (cnt + k * (2 * calls m) + j * calls m) (or_lt HT.out hlt) (by have := left_or HB1.out hlt; have := HLEFT.out; omega) HFO.out (by
                        have h1 : k * (2 * calls m) ≤ 11 * (2 * calls m) := Nat.mul_le_mul_right _ (by omega)
                        have h2 : j * calls m ≤ 1 * calls m := Nat.mul_le_mul_right _ (by omega)
                        have := HCNT.out
                        omega) (HEO.out.frm (HF2.out.trans HF4.out)) HV4.out).mono ?_
                      rintro e w5 ⟨⟨b5, rfl, hb5⟩, hV5, hF5⟩
                      have HV5 : Hid (Vain 101 (KeyV ways l) w5 bm (cnt + k * (2 * calls m) + j * calls m + calls m)) := hV5
                      have HF5 : Hid (Frm bm w4 w5) := hF5
                      have HB5 : Hid (b5 = true ↔ GoesH ways l (T ||| 2 ^ k) o.2) := hb5
                      clear hV5 hF5 hb5 cn cv cl cb ca cs p0 o2
                      cases b5
                      · go_wp2_with fail
                        go_roundw
                        case rel =>
                          refine ⟨j + 1, by omega, by go_num, fun i o' hi ho' hh => ?_, HV5.out.mono (by have e1 : (j + 1) * calls m = j * calls m + calls m := Nat.succ_mul _ _; omega), (HF3.out.trans HF4.out).trans HF5.out⟩
                          by_cases e : i = j
                          · subst e
                            rw [HO.out] at ho'
                            cases ho'
                            exact fun hg => absurd (HB5.out.2 hg) (by decide)
                          · exact HNO2.out i o' (by omega) ho' hh
                        case measure => simp [intOf]; omega
                      · go_wp2_with fail
                        go_ret
                        refine ⟨retB_yes rfl ?_, HV5.out.mono ?_, (HF.out.trans (HF2.out.trans HF4.out)).trans HF5.out⟩
                        · exact goesH_via hlt HB1.out HB2.out (o := o) (by rw [HX.out, HOS'.out]; exact List.mem_of_getElem? HO.out) (by rw [HX.out]; exact HH4.out.1 trivial) (HB5.out.1 trivial)
                        · rw [HCALLS.out]
                          have h1 : k * (2 * calls m) ≤ 11 * (2 * calls m) := Nat.mul_le_mul_right _ (by omega)
                          have h2 : j * calls m ≤ 1 * calls m := Nat.mul_le_mul_right _ (by omega)
                          omega
                  · have : j = os.length := by omega
                    subst this
                    clear cn cv cl cb ca cs ln lv ls p0 p1 lp x0 x1 x2 x3 x4 x5 x6 x7 lx
                    go_wp2_with fail
                    go_roundw
                    case rel =>
                      refine ⟨k + 1, by omega, by go_num, upto_succ HNO.out (noVia_all HX.out HOS'.out HNO2.out), HV.out.mono ?_, HF2.out.range HPR.out, HF.out.trans HF2.out⟩
                      have h2 : os.length * calls m ≤ 2 * calls m := Nat.mul_le_mul_right _ hl2
                      have e1 : (k + 1) * (2 * calls m) = k * (2 * calls m) + 2 * calls m := Nat.succ_mul _ _
                      omega
                    case measure => simp [intOf]; omega
              · have HB2 : Hid (¬ ∀ i, i < l.length → evAhead (l.getD i ev0) (l.getD k ev0) = true → T.testBit i = true) := hb2
                have q2 : (bits .andNot .u64 (maskOf (aheadB l k) l.length : Int) (T : Int) != 0) = true := by
                  have := mt (behind_iff (i := k) h12 HT64.out).1 hb2
                  simpa using this
                clear hb2
                go_wp2_with ((with_reducible refine wp_load33 (.tmp 33) ?_ ?_ blk (off + k * 8) ?_ x ?_ ?_); rfl; rfl; rfl; exact HL.out)
                go_quiet (fail)
                go_wp2_with fail
                go_roundw
                case rel =>
                  refine ⟨k + 1, by omega, by go_num, upto_succ HNO.out (noVia_behind HB2.out), ?_, ?_, (HF.out.alloc _).drewN _⟩
                  · exact ((HVO.out.alloc _).drewN _).mono (Nat.add_le_add_left (Nat.mul_le_mul_right _ (Nat.le_succ _)) _)
                  · exact range_later (below_drewN (below_alloc (Below.refl _ _) _) _) HPR.out lp
                case measure => simp [intOf]; omega
          · have : k = l.length := by omega
            subst this
            have hng : ¬ GoesH ways l T s := goesH_no HD.out HNO.out
            have HNG : Hid (¬ GoesH ways l T s) := hng
            obtain ⟨D', hown', hQ'⟩ := HVO.out
            have HOWN' : Hid (wo.ownsMap Try.prog 101 unitElem bm (cnt + l.length * (2 * calls m)) D') := hown'
            have HQ' : Hid (∀ key kl, keyOf Try.prog 101 key = some kl → Maps.has D' kl = true → KeyV ways l key) := hQ'
            have hroom : cnt + l.length * (2 * calls m) < maxLen := by
              have h1 : l.length * (2 * calls m) ≤ 12 * (2 * calls m) := Nat.mul_le_mul_right _ h12
              have := HCNT.out
              unfold maxLen; omega
            clear hown' hQ' hng hev hrow hpr
            go_wp2_with (at_mapUpdate; refine wpList_mapUpdate_own _ rfl _ _ _ 98 rfl 101 102 law101 Try.underlying98 _ bm (cnt + l.length * (2 * calls m)) D' rfl HOWN'.out hroom _ _ kl rfl rfl HKL.out (.agg []) [] unitElem_mk ?_)
            intro w6 hown6 hg6
            have HO6 : Hid (w6.ownsMap Try.prog 101 unitElem bm (cnt + l.length * (2 * calls m) + 1) (D'.put kl (.agg []))) := hown6
            have HG6 : Hid (wo.grownBy w6 (some bm)) := hg6
            clear hown6 hg6
            go_wp2_with fail
            go_ret
            refine ⟨retB_no rfl HNG.out, ?_, HF.out.trans ⟨HG6.out, HVO.out.frm.2⟩⟩
            have h1 : l.length * (2 * calls m) ≤ 12 * (2 * calls m) := Nat.mul_le_mul_right _ h12
            refine Vain.mono ⟨_, HO6.out, vain_put law101 HQ'.out HKL.out fun T' s' e => ?_⟩ (by rw [HCALLS.out]; omega)
            have e1 : T = T' ∧ s = s' := by
              simp at e
              exact ⟨by omega, e.2⟩
            rw [← e1.1, ← e1.2]
            exact HNG.out
      · have HH : Hid (Maps.has D kl = true) := hh
        clear hh hev hrow ih
        go_enter Try.func45, Try.ntmps45
        go_wp2_with (at_lookup; refine wpList_lookup_own_unit _ rfl _ _ 98 rfl 101 102 law101 Try.underlying98 (zero102 _) bm cnt D rfl HOWN.out _ kl rfl HKL.out ?_; rw [HH.out])
        go_ret
        exact ⟨retB_no rfl (HQ.out _ kl HKL.out HH.out T s rfl), ((HV.out.alloc _).alloc _).mono (by omega), (HV.out.frm.alloc _).alloc _⟩

end Go.Proofs.Yteniopbmkooomaa
