/- What reachesItself and Rings of package recipe do. -/
import Derived.Test.YtgohfdgkihoilaaRing
set_option linter.unusedSimpArgs false
set_option linter.unusedVariables false
namespace Go.Proofs.Ytgohfdgkihoilaa.Rcp
open Go Go.RowKit Go.Deep Go.Maps

theorem short100 {l : List Rc} (hR : RIGHT l) : l.length ≤ 100 := by have := hR.short; unfold Long at this; omega

set_option maxHeartbeats 2000000 in
theorem itself_any {Z : Nat → Prop} {w : World} {v : Value} {l : List Rc} (hl : RL Z w v l) (hZ : ∀ i, Z i → i < w.heap.size) (hR : RIGHT l) {k : Nat} (hk : k < l.length) :
    Calls Try.prog 30 #[v, I k] w (Ret fun x w' => (∃ b, x = Bl b ∧ (b = true ↔ Rch (nd l) k k)) ∧ Kp (fun i => i < w.heap.size) w w') := by
  have hcf := cf40
  have h100 := short100 hR
  have HL : Hid (RL Z w v l) := hl
  obtain ⟨p, cap, rfl, h1, _⟩ := hl
  have HKB : Hid (Kp (fun i => i < w.heap.size) w (w.alloc (.cells #[.slice p l.length cap] 25))) := Kp.alloc (fun _ h => h) _
  have HAK : Hid (Calls Try.prog 39 #[.slice p l.length cap] (w.alloc (.cells #[.slice p l.length cap] 25)) _) := allKeys_any (HL.out.kp (HKB.out.mono hZ)) h100
  have hst : ∀ (a : Addr) (fn : Fn) (x y : Array Value) (w : World), (store a (.func fn x y)).run Try.prog w = stored Try.prog w a (.func fn x y) .plain := fun a fn x y w => run_store _ w a _ _ rfl
  go_enter Try.func30, Try.ntmps30
  go_wp2_with (first
    | (go_at_call 39; refine HAK.out.mono ?_; rintro e w1 ⟨_, rfl, rfl, hS, hk1⟩; have HS : Hid (SetM w1 _ _ _) := hS; have HK1 : Hid (Kp _ _ w1) := hk1; clear hS hk1))
  have e1 : (w.alloc (.cells #[.slice p l.length cap] 25)).heap.size = w.heap.size + 1 := by simp
  rw [e1] at HS HK1
  have hs1 := HK1.out.size
  rw [e1] at hs1
  have hl2 := HS.out.lt
  have kA : Kp (fun i => i < w.heap.size) w w1 := HKB.out.trans (HK1.out.mono fun i hi => by omega)
  have kW : ∀ o1 o2, Kp (fun i => i < w1.heap.size) w1 ((w1.alloc o1).alloc o2) := fun o1 o2 => (Kp.alloc (fun _ h => h) _).trans (Kp.alloc (fun i hi => by simp; omega) _)
  have cl1 : w1.cell? ⟨w.heap.size, 0, none⟩ = some (.slice p l.length cap) := HK1.out.cell (by simp) (by simp [World.cell?_alloc_at])
  refine (reach_any (B := w1.heap.size + 2) (bm := w.heap.size + 1) (bl := w.heap.size) (bu := w1.heap.size) (br := w1.heap.size + 1) (n := l.length) (lv := .slice p l.length cap) hR _ (fun _ => False) k _ hk (Nat.le_refl _) ?_ ?_).mono ?_
  · refine ⟨?_, ?_, ?_, ?_, ⟨by omega, by omega⟩, ⟨by omega, by omega⟩, ⟨by omega, by omega⟩, by simp⟩
    · exact ((HL.out.kp (kA.mono hZ)).kp ((kW _ _).mono fun i hi => by have := hZ i hi; omega)).mono fun i hi => ⟨by have := hZ i hi; omega, by have := hZ i hi; omega⟩
    · exact (kW _ _).cell (by show w.heap.size < _; omega) cl1
    · rw [World.cell?_alloc_past _ _ _ (by simp), World.cell?_alloc_at _ _ _ _ rfl]; rfl
    · rw [World.cell?_alloc_at _ _ _ _ (by simp)]; rfl
  · exact (HS.out.block ((kW _ _).block _ (by omega))).congr fun i => by simp
  · rintro e w3 ⟨_, rfl, rfl, M2, hS3, hr3, hj3, hk3⟩
    have hM : M2 k ↔ Rch (nd l) k k := by
      constructor
      · intro h
        rcases hr3.new k h with h | h
        · exact h.elim
        · exact h
      · have hall : ∀ a b, Rch (nd l) a b → (∀ j ∈ nd l a, M2 j) → M2 b := by
          intro a b h
          induction h with
          | one h => exact fun hj => hj _ h
          | step h _ ih => exact fun hj => ih (by rcases hr3.clo _ (hj _ h) with h' | h'; exact h'.elim; exact h')
        exact fun h => hall k k h hj3
    have cu3 : w3.cell? ⟨w1.heap.size, 0, none⟩ = some (.map (some (w.heap.size + 1))) := hk3.cell (show w1.heap.size < _ ∧ w1.heap.size ≠ w.heap.size + 1 from ⟨by simp; omega, by omega⟩) (by rw [World.cell?_alloc_past _ _ _ (by simp), World.cell?_alloc_at _ _ _ _ rfl]; rfl)
    have kB : Kp (fun i => i < w.heap.size) w w3 := kA.trans (((kW _ _).mono fun i hi => by omega).trans (hk3.mono fun i hi => ⟨by simp; omega, by omega⟩))
    have HM : Hid (M2 k ↔ Rch (nd l) k k) := hM
    have HKB3 : Hid (Kp (fun i => i < w.heap.size) w w3) := kB
    have HTK : Hid (Calls Try.prog 41 #[.map (some (w.heap.size + 1)), I (k : Int)] w3 _) := take_any hS3 ⟨by omega, by omega⟩
    have HSZ : Hid (w.heap.size ≤ w3.heap.size) := kB.size
    have HK : Hid (k < l.length) := hk
    clear hM kB hk3 hj3 hr3 hS3 kA kW cl1 hl2 hs1 e1 hcf hst
    go_wp2_with (first
      | (go_at_call 41; refine HTK.out.mono ?_; rintro e w4 ⟨_, rfl, ⟨c, rfl, hc⟩, hS4, hk4⟩; have HC : Hid (c = true ↔ unS l M2 (k : Int)) := hc; have HK4 : Hid (Kp (fun i => i < w3.heap.size ∧ i ≠ w.heap.size + 1) w3 w4) := hk4; clear hc hS4 hk4))
    go_ret
    refine ⟨_, rfl, ⟨_, rfl, ?_⟩, HKB3.out.trans (HK4.out.mono fun i hi => ⟨Nat.lt_of_lt_of_le hi HSZ.out, by omega⟩)⟩
    rw [← HM.out]
    have hc := HC.out
    have hkk := HK.out
    cases c with
    | true =>
      simp
      exact (hc.1 rfl).2.2
    | false =>
      simp
      by_cases h : M2 k
      · exact h
      · exact absurd (hc.2 ⟨by omega, by omega, h⟩) (by simp)

/-- The keys below k that are in a ring. -/
noncomputable def ringsTo (l : List Rc) (k : Nat) : List Int := ((List.range k).filter (fun k => @decide (Rch (nd l) k k) (Classical.propDecidable _))).map Int.ofNat
theorem ringsTo_yes {l : List Rc} {k : Nat} (h : Rch (nd l) k k) : ringsTo l (k + 1) = ringsTo l k ++ [(k : Int)] := by
  unfold ringsTo; rw [List.range_succ, List.filter_append, List.map_append]; simp [h]
theorem ringsTo_no {l : List Rc} {k : Nat} (h : ¬ Rch (nd l) k k) : ringsTo l (k + 1) = ringsTo l k := by
  unfold ringsTo; rw [List.range_succ, List.filter_append, List.map_append]; simp [h]
theorem ringsTo_len (l : List Rc) (k : Nat) : (ringsTo l k).length ≤ k := by
  unfold ringsTo
  rw [List.length_map]
  exact Nat.le_trans (List.length_filter_le _ _) (by simp)

set_option maxHeartbeats 2000000 in
theorem rings_any {Z : Nat → Prop} {w : World} {v : Value} {l : List Rc} (hl : RL Z w v l) (hZ : ∀ i, Z i → i < w.heap.size) :
    Calls Try.prog 12 #[v] w (Ret fun x w' => ∃ rs : List Int, OwnI (fun i => i < w.heap.size) w' x rs ∧ rs.length ≤ 100 ∧ (¬ RIGHT l → rs = []) ∧ (RIGHT l → rs = ringsTo l l.length) ∧ Kp (fun i => i < w.heap.size) w w') := by
  have HL : Hid (RL Z w v l) := hl
  have HRT : Hid (Calls Try.prog 11 #[v] w _) := right_any hl hZ
  obtain ⟨p, cap, rfl, h1, _⟩ := hl
  by_cases hR : RIGHT l
  · have h0 : rightS l = 0 := (rightS_iff l).2 hR
    have H0 : Hid (rightS l = 0) := h0
    have HR : Hid (RIGHT l) := hR
    have h100 := short100 hR
    clear h0 hR
    go_enter Try.func12, Try.ntmps12
    go_wp2_with (first
      | (go_at_call 11; refine HRT.out.mono ?_; rintro e w1 ⟨_, rfl, rfl, hk1⟩; rw [H0.out]; have HK1 : Hid (Kp (fun i => i < w.heap.size) w w1) := hk1; clear hk1))
    go_loopw [3, 10] (fun tv i u => ∃ k : Nat, k ≤ l.length ∧ i = .int .i64 k ∧ OwnI (fun i => i < w.heap.size) u tv (ringsTo l k) ∧ Kp (fun i => i < w.heap.size) w u) (fun _ i _ => l.length - (intOf i).toNat)
    case atStart => exact ⟨0, Nat.zero_le _, rfl, OwnI.nil _ _, HK1.out⟩
    case round =>
      obtain ⟨k, hk, rfl, hO, hbl⟩ := hrel
      have HO : Hid (OwnI (fun i => i < w.heap.size) wr u3 (ringsTo l k)) := hO
      have HB : Hid (Kp (fun i => i < w.heap.size) w wr) := hbl
      have hZr : ∀ i, Z i → i < wr.heap.size := fun i hi => Nat.lt_of_lt_of_le (hZ i hi) hbl.size
      have HLr : Hid (RL Z wr (.slice p l.length cap) l) := HL.out.kp (hbl.mono hZ)
      clear hO hbl
      by_cases hlt : k < l.length
      · have HIT : Hid (Calls Try.prog 30 #[.slice p l.length cap, I k] wr _) := itself_any HLr.out hZr HR.out hlt
        by_cases hr : Rch (nd l) k k
        · have HRR : Hid (Rch (nd l) k k) := hr
          clear hr
          go_wp2_with (first
            | (go_at_call 30; refine HIT.out.mono ?_; rintro e w2 ⟨_, rfl, ⟨b, rfl, hb⟩, hk2⟩; obtain rfl := hb.2 HRR.out; clear hb; have HK2 : Hid (Kp (fun i => i < wr.heap.size) wr w2) := hk2; clear hk2)
            | (at_builtin; refine wp_app (n := (k : Int)) rfl (.tmp 16) (.tmp 18) rfl rfl rfl (HO.out.stay fun g hg => HK2.out.block g (HO.out.lt g hg)) (fun i hi => Nat.lt_of_lt_of_le hi (HB.out.after HK2.out).size) (Nat.le_trans (ringsTo_len l k) (by omega)) ?_; intro g4 c4 w4 hO4 hk4 hbk hloc hsz4))
          go_roundw
          case rel => exact ⟨k + 1, by omega, by go_num, by rw [ringsTo_yes HRR.out]; exact hO4, (HB.out.after HK2.out).trans hk4⟩
          case measure => simp [intOf]; omega
        · have HRR : Hid (¬ Rch (nd l) k k) := hr
          clear hr
          go_wp2_with (first
            | (go_at_call 30; refine HIT.out.mono ?_; rintro e w2 ⟨_, rfl, ⟨b, rfl, hb⟩, hk2⟩; have hbf := Bool.eq_false_iff.2 (fun h => HRR.out (hb.1 h)); subst hbf; clear hb; have HK2 : Hid (Kp (fun i => i < wr.heap.size) wr w2) := hk2; clear hk2))
          go_roundw
          case rel => exact ⟨k + 1, by omega, by go_num, by rw [ringsTo_no HRR.out]; exact HO.out.stay fun g hg => HK2.out.block g (HO.out.lt g hg), HB.out.after HK2.out⟩
          case measure => simp [intOf]; omega
      · have : k = l.length := by omega
        subst this
        go_wp2_with fail
        go_ret
        exact ⟨_, rfl, _, HO.out, Nat.le_trans (ringsTo_len l _) h100, fun h => absurd HR.out h, fun _ => rfl, HB.out⟩
  · have hne : (rightS l != 0) = true := by
      simp; exact fun h => hR ((rightS_iff l).1 h)
    have HR : Hid (¬ RIGHT l) := hR
    clear hR
    go_enter Try.func12, Try.ntmps12
    go_wp2_with (first
      | (go_at_call 11; refine HRT.out.mono ?_; rintro e w1 ⟨_, rfl, rfl, hk1⟩; have HK1 : Hid (Kp (fun i => i < w.heap.size) w w1) := hk1; clear hk1))
    go_ret
    exact ⟨_, rfl, [], OwnI.nil _ _, by simp, fun _ => rfl, fun h => absurd h HR.out, HK1.out⟩
end Go.Proofs.Ytgohfdgkihoilaa.Rcp
