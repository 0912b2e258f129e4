/-
  What the statement WordWhole does, for every int and list of ints: it answers true; of memory that was there nothing changes.
-/
import Derived.Test.YtaoahnpdhkdebaaAwake
import Derived.Test.YtaoahnpdhkdebaaWholeFacts
import Derived.Deep.RegionHeld3
namespace Go.Proofs.Ytaoahnpdhkdebaa
open Go.RowKit Pl

/-- The cells of a list of fields, one behind the other. -/
def flat (l : List (Int × Int)) : List Value := l.flatMap fun p => [I p.1, I p.2]

/-- That slice holds these ints. -/
def HoldsI (w : World) (sp : Option Addr) (zs : List Int) : Prop :=
  0 < zs.length → ∃ blk off, sp = some ⟨blk, off, none⟩ ∧ ∀ i, i < zs.length → w.cell? ⟨blk, off + i, none⟩ = some (I (zs.getD i 0))

theorem info26' : (Try.prog.info? 26).map (fun i => (i.zero, i.size, i.bytes)) = some (some (.agg #[.int .i64 0, .int .i64 0]), 2, 16) := by kernel_rfl

theorem flat_len (l : List (Int × Int)) : (flat l).length = l.length * 2 := by
  unfold flat
  induction l with
  | nil => rfl
  | cons p r ih => simp only [List.flatMap_cons, List.length_append, List.length_cons, List.length_nil, ih]; omega

theorem flat_snoc (l : List (Int × Int)) (a b : Int) : flat (l ++ [(a, b)]) = flat l ++ [I a, I b] := by
  unfold flat; simp

theorem flat_get : ∀ (l : List (Int × Int)) (i : Nat), i < l.length → (flat l)[i * 2]? = some (I (l.getD i (0, 0)).1) ∧ (flat l)[i * 2 + 1]? = some (I (l.getD i (0, 0)).2)
  | [], i, h => absurd h (Nat.not_lt_zero _)
  | p :: r, 0, _ => ⟨rfl, rfl⟩
  | p :: r, i + 1, h => by
    have := flat_get r i (by simpa using h)
    have e : flat (p :: r) = I p.1 :: I p.2 :: flat r := rfl
    rw [e, show (i + 1) * 2 = i * 2 + 2 by omega, List.getD_cons_succ]
    exact this

theorem owns_holds {u : World} {B : Nat} {v : Value} {l : List (Int × Int)} (h : u.ownsRow B 26 2 v l.length (flat l)) : ∃ sp cap, v = .slice sp l.length cap ∧ Holds u v l := by
  rcases h.2 with ⟨rfl, h0⟩ | ⟨g, cap, cur, rfl, _, _, hc, hm, _, _⟩
  · rw [h0]
    exact ⟨none, 0, rfl, .inl ⟨List.eq_nil_of_length_eq_zero h0, none, 0, rfl⟩⟩
  · refine ⟨_, cap, rfl, .inr ⟨g, 0, cap, rfl, Nat.le_trans hc hm, fun i hi => ?_⟩⟩
    have hf := flat_get l i hi
    rw [← hf.1, ← hf.2, Nat.zero_add]
    exact ⟨World.ownsRow.cellAt h (i * 2) (by omega), World.ownsRow.cellAt h (i * 2 + 1) (by omega)⟩

theorem keep4 {w u u' : World} {g off : Nat} {a b : Int} {v : Value} {l : List (Int × Int)} (hb : Below u.heap.size u u') (h0 : u.cell? ⟨g, off, none⟩ = some (I a)) (h1 : u.cell? ⟨g, off + 1, none⟩ = some (I b))
    (h2 : Holds u v l) (h3 : Below w.heap.size w u) : u'.cell? ⟨g, off, none⟩ = some (I a) ∧ u'.cell? ⟨g, off + 1, none⟩ = some (I b) ∧ Holds u' v l ∧ Below w.heap.size w u' :=
  ⟨cell_later hb h0, cell_later hb h1, h2.later hb, h3.trans (hb.mono h3.size)⟩

theorem field_may (q d : Nat) (h1 : 1 ≤ d) (h2 : d ≤ 16) (h3 : q + d ≤ 63) : mayB (q : Int) (d : Int) = true := decide_eq_true ⟨by omega, by omega, by omega, by omega⟩
theorem field_get (X : Int) (q d : Nat) (h1 : 1 ≤ d) (h2 : d ≤ 16) (h3 : q + d ≤ 63) : getW X q d = getI X q d := by
  unfold getW; rw [field_may q d h1 h2 h3, if_pos rfl, Int.toNat_natCast, Int.toNat_natCast]
theorem field_putB (X : Int) (q d : Nat) (h1 : 1 ≤ d) (h2 : d ≤ 16) (h3 : q + d ≤ 63) : putB q d (getI X q d) = true := by
  unfold putB; rw [field_may q d h1 h2 h3, Int.toNat_natCast, decide_eq_true ⟨getI_nonneg _ _ _, getI_lt _ _ _⟩]; rfl
theorem field_put (X : Int) (q d : Nat) (h1 : 1 ≤ d) (h2 : d ≤ 16) (h3 : q + d ≤ 63) : putW (lowI X q) q d (getI X q d) = lowI X (q + d) := by
  unfold putW; rw [field_putB X q d h1 h2 h3, if_pos rfl, Int.toNat_natCast, Int.toNat_natCast, low_put X q d (by omega) h3]
theorem field_ok (X : Int) (q d : Nat) (h1 : 1 ≤ d) (h2 : d ≤ 16) (h3 : q + d ≤ 63) : putE q d (getI X q d) = 0 := by
  unfold putE; rw [field_putB X q d h1 h2 h3]; rfl

set_option maxHeartbeats 2000000 in
theorem whole_any (x : Int) (sp : Option Addr) (cap : Nat) (zs : List Int) (w : World) (hn : zs.length ≤ maxLen) (hz : HoldsI w sp zs) :
    Calls Try.prog 7 #[I x, .slice sp zs.length cap] w fun e u => e = .returned (.bool true) ∧ Below w.heap.size w u := by
  unfold maxLen at hn
  have hn2 : (zs.length : Int) ≤ 9223372036854775807 := by omega
  have HZ : Hid (HoldsI w sp zs) := hz
  clear hz
  obtain ⟨i0, hi, hz0, hz1, hz2⟩ := info_parts info26'
  go_enter Try.func7, Try.ntmps7
  go_wp2_with fail
  refine (awake_any _).mono ?_
  rintro e w1 ⟨rfl, hb1⟩
  have HB1 : Hid (Below w.heap.size w w1) := hb1
  clear hb1
  go_wp2_with fail
  go_loopw [6, 7, 8] (fun lv atv iv u => ∃ (k n : Nat) (l : List (Int × Int)) (o : Nat → Nat), k ≤ zs.length ∧ iv = .int .i64 k ∧ atv = .int .i64 n ∧ n ≤ 63 ∧ Chain l o n ∧
    u.ownsRow w.heap.size 26 2 lv l.length (flat l) ∧ Below w.heap.size w u) (fun _ _ iv _ => zs.length - (intOf iv).toNat)
  case atStart => exact ⟨0, 0, [], _, Nat.zero_le _, rfl, rfl, by omega, Chain.nil, World.ownsRow_nil _ _ _ _, HB1.out⟩
  case round =>
    obtain ⟨k, n, l, o, hk, rfl, rfl, hn63, hch, hown, hb⟩ := hrel
    obtain ⟨sp2, cap2, hv, hH⟩ := owns_holds hown
    have HCH : Hid (Chain l o n) := hch
    have HB : Hid (Below w.heap.size w wr) := hb
    have HH : Hid (Holds wr (.slice sp2 l.length cap2) l) := by rw [← hv]; exact hH
    have hll := hch.length
    subst hv
    clear hH hch
    by_cases hlt : k < zs.length
    · obtain ⟨blk, off, rfl, hF⟩ := HZ.out (by omega)
      have hc := cell_later hb (hF k hlt)
      generalize zs.getD k 0 = y at hc
      obtain ⟨m, hm⟩ : ∃ m : Nat, y % 16 = m := ⟨(y % 16).toNat, by omega⟩
      have hm1 : m ≤ 15 := by omega
      have h15 : bits .and .i64 y 15 = (m : Int) := by rw [and_15, hm]
      have hkl : (k : Int) < zs.length := by omega
      clear hF hb hm
      by_cases hfit : n + (1 + m) ≤ 63
      · have hle : (n : Int) + (1 + m) ≤ 63 := by omega
        have HOWN : Hid (wr.ownsRow w.heap.size 26 2 (.slice sp2 l.length cap2) l.length (flat l)) := hown
        clear hown
        go_wp2_with (at_builtin; refine wpList_append_own _ rfl _ _ 27 rfl w.heap.size 26 i0 (.agg #[.int .i64 0, .int .i64 0]) 2 16 Try.underlying27 hi hz0 hz1 hz2 rfl (by decide) _ _ _ rfl (HOWN.out.alloc _) ⟨wr.heap.size, 0, none⟩ 1 1 [I n, I (1 + m)] rfl rfl ?c1 ?c2 ?c3 ?c4 ?c5 ?_; rotate_right; intro v' w3 hown3 hgrow3 _)
        case c1 => exact cell_two_new wr _ _ 26
        case c2 => intro u hu; simp only [List.mem_cons, List.mem_nil_iff, or_false] at hu; rcases hu with rfl | rfl <;> rfl
        case c3 => unfold maxLen; omega
        case c4 => omega
        case c5 => have := HB.out.size; simp; omega
        have hsz := HB.out.size
        refine ⟨⟨k + 1, n + (1 + m), l ++ [((n : Int), ((1 + m : Nat) : Int))], _, by omega, by go_num, by go_num, hfit, HCH.out.snoc (by omega) (by omega), ?_, ?_⟩, by simp [intOf]; omega⟩
        · rw [flat_snoc, List.length_append]
          exact hown3
        · exact (HB.out.alloc hsz _).grown hgrow3 (by simp; omega) (fun q hq => (HOWN.out.lt q hq).1)
      · have hle : ¬ (n : Int) + (1 + m) ≤ 63 := by omega
        clear hown
        go_wp2_with fail
        refine (right_any _ l _ HH.out).mono ?_
        rintro e w2 ⟨rfl, hb2⟩
        rw [right_whole HCH.out hn63]
        have HH2 : Hid (Holds w2 (.slice sp2 l.length cap2) l) := HH.out.later hb2
        have HB2 : Hid (Below w.heap.size w w2) := HB.out.trans (hb2.mono HB.out.size)
        clear hb2
        have hmask := masked x n hn63
        go_wp2_with fail
        clear hmask
        generalize hX : lowI x n = X
        have HX : Hid (lowI x n = X) := hX
        clear hX
        go_loopw [11, 12] (fun yv iv u => ∃ j : Nat, j ≤ l.length ∧ iv = .int .i64 j ∧ yv = .int .i64 (lowI X (o j)) ∧ Holds u (.slice sp2 l.length cap2) l ∧ Below w.heap.size w u) (fun _ iv _ => l.length - (intOf iv).toNat)
        case atStart => exact ⟨0, Nat.zero_le _, rfl, by rw [HCH.out.first, lowI_zero], HH2.out, HB2.out⟩
        case round =>
          obtain ⟨j, hj, rfl, rfl, hh, hb3⟩ := hrel
          by_cases hjl : j < l.length
          · obtain ⟨he1, he2⟩ := HCH.out.up j hjl
            have hle := HCH.out.below (j := j + 1) (by omega)
            rcases hh with ⟨h0, _⟩ | ⟨blk2, off2, cap3, hv2, hm2, hF2⟩
            · rw [h0] at hjl; exact absurd hjl (Nat.not_lt_zero _)
            · simp only [Value.slice.injEq] at hv2
              obtain ⟨rfl, _, rfl⟩ := hv2
              have hc0 := (hF2 j hjl).1
              have hc1 := (hF2 j hjl).2
              rw [HCH.out.each j hjl] at hc0 hc1
              obtain ⟨d, hd⟩ : ∃ d, o (j + 1) - o j = d := ⟨_, rfl⟩
              rw [hd] at hc0 hc1
              have HD : Hid (o (j + 1) = o j + d) := by show _ = _; omega
              have hd1 : 1 ≤ d := by omega
              have hd2 : d ≤ 16 := by omega
              have hod : o j + d ≤ 63 := by omega
              clear hd he1 he2 hle
              generalize o j = q at hc0 hc1 HD hod ⊢
              simp only [] at hc0 hc1
              have G1 : Hid (getW X q d = getI X q d) := field_get X q d hd1 hd2 hod
              have G2 : Hid (putW (lowI X q) q d (getI X q d) = lowI X (q + d)) := field_put X q d hd1 hd2 hod
              have G3 : Hid (putE q d (getI X q d) = 0) := field_ok X q d hd1 hd2 hod
              have HH3 : Hid (Holds _ (.slice (some ⟨blk2, off2, none⟩) l.length cap2) l) := .inr ⟨blk2, off2, cap2, rfl, hm2, hF2⟩
              have bl3 := hb3.drew
              have hjl2 : (j : Int) < l.length := by omega
              clear hF2 hb3
              go_wp2_with fail
              have hh3 := HH3.out.later (Below.refl _ _).drew
              clear HH3
              go_region_held3 (fun u => u.cell? ⟨blk2, off2 + j * 2, none⟩ = some (I q) ∧ u.cell? ⟨blk2, off2 + j * 2 + 1, none⟩ = some (I d) ∧ Holds u (.slice (some ⟨blk2, off2, none⟩) l.length cap2) l ∧ Below w.heap.size w u)
                (first | (exact keep4 ‹_› ‹_› ‹_› ‹_› ‹_›) | (go_split_ands; exact keep4 ‹_› ‹_› ‹_› ‹_› ‹_›) | (exact ⟨by simpa using hc0, by simpa using hc1, hh3, bl3⟩))
                (first
                  | (go_at_call 11; refine (get_any X q d _).mono ?_; rintro e w5 ⟨rfl, hb5⟩; rw [G1.out])
                  | (go_at_call 12; clear hb5; refine (put_any (lowI X q) q d (getI X q d) _ (lowI_fits _ _)).mono ?_; rintro e w6 ⟨rfl, hb6⟩; rw [G2.out, G3.out]))
              rename_i hH
              have HS : Hid (Holds w6 (.slice (some ⟨blk2, off2, none⟩) l.length cap2) l) := hH.2.2.1
              have HB6 : Hid (Below w.heap.size w w6) := hH.2.2.2
              clear hH hb6 bl3 hc0 hc1 hh3
              go_wp2_with fail
              exact ⟨⟨j + 1, by omega, by go_num, by rw [HD.out], HS.out, HB6.out⟩, by simp [intOf]; omega⟩
          · have hje : j = l.length := by omega
            subst hje
            have HY : Hid (lowI X (o l.length) = X) := by rw [HCH.out.last, ← HX.out]; exact low_low x n hn63
            have HB3 : Hid (Below w.heap.size w _) := hb3
            clear hb3 hh
            rw [HY.out]
            go_wp2
            go_ret
            exact ⟨rfl, HB3.out⟩
    · clear hown hb
      go_wp2_with fail
      refine (right_any _ l _ HH.out).mono ?_
      rintro e w2 ⟨rfl, hb2⟩
      rw [right_whole HCH.out hn63]
      have HH2 : Hid (Holds w2 (.slice sp2 l.length cap2) l) := HH.out.later hb2
      have HB2 : Hid (Below w.heap.size w w2) := HB.out.trans (hb2.mono HB.out.size)
      clear hb2
      have hmask := masked x n hn63
      go_wp2_with fail
      clear hmask
      generalize hX : lowI x n = X
      have HX : Hid (lowI x n = X) := hX
      clear hX
      go_loopw [11, 12] (fun yv iv u => ∃ j : Nat, j ≤ l.length ∧ iv = .int .i64 j ∧ yv = .int .i64 (lowI X (o j)) ∧ Holds u (.slice sp2 l.length cap2) l ∧ Below w.heap.size w u) (fun _ iv _ => l.length - (intOf iv).toNat)
      case atStart => exact ⟨0, Nat.zero_le _, rfl, by rw [HCH.out.first, lowI_zero], HH2.out, HB2.out⟩
      case round =>
        obtain ⟨j, hj, rfl, rfl, hh, hb3⟩ := hrel
        by_cases hjl : j < l.length
        · obtain ⟨he1, he2⟩ := HCH.out.up j hjl
          have hle := HCH.out.below (j := j + 1) (by omega)
          rcases hh with ⟨h0, _⟩ | ⟨blk2, off2, cap3, hv2, hm2, hF2⟩
          · rw [h0] at hjl; exact absurd hjl (Nat.not_lt_zero _)
          · simp only [Value.slice.injEq] at hv2
            obtain ⟨rfl, _, rfl⟩ := hv2
            have hc0 := (hF2 j hjl).1
            have hc1 := (hF2 j hjl).2
            rw [HCH.out.each j hjl] at hc0 hc1
            obtain ⟨d, hd⟩ : ∃ d, o (j + 1) - o j = d := ⟨_, rfl⟩
            rw [hd] at hc0 hc1
            have HD : Hid (o (j + 1) = o j + d) := by show _ = _; omega
            have hd1 : 1 ≤ d := by omega
            have hd2 : d ≤ 16 := by omega
            have hod : o j + d ≤ 63 := by omega
            clear hd he1 he2 hle
            generalize o j = q at hc0 hc1 HD hod ⊢
            simp only [] at hc0 hc1
            have G1 : Hid (getW X q d = getI X q d) := field_get X q d hd1 hd2 hod
            have G2 : Hid (putW (lowI X q) q d (getI X q d) = lowI X (q + d)) := field_put X q d hd1 hd2 hod
            have G3 : Hid (putE q d (getI X q d) = 0) := field_ok X q d hd1 hd2 hod
            have HH3 : Hid (Holds _ (.slice (some ⟨blk2, off2, none⟩) l.length cap2) l) := .inr ⟨blk2, off2, cap2, rfl, hm2, hF2⟩
            have bl3 := hb3.drew
            have hjl2 : (j : Int) < l.length := by omega
            clear hF2 hb3
            go_wp2_with fail
            have hh3 := HH3.out.later (Below.refl _ _).drew
            clear HH3
            go_region_held3 (fun u => u.cell? ⟨blk2, off2 + j * 2, none⟩ = some (I q) ∧ u.cell? ⟨blk2, off2 + j * 2 + 1, none⟩ = some (I d) ∧ Holds u (.slice (some ⟨blk2, off2, none⟩) l.length cap2) l ∧ Below w.heap.size w u)
              (first | (exact keep4 ‹_› ‹_› ‹_› ‹_› ‹_›) | (go_split_ands; exact keep4 ‹_› ‹_› ‹_› ‹_› ‹_›) | (exact ⟨by simpa using hc0, by simpa using hc1, hh3, bl3⟩))
              (first
                | (go_at_call 11; refine (get_any X q d _).mono ?_; rintro e w5 ⟨rfl, hb5⟩; rw [G1.out])
                | (go_at_call 12; clear hb5; refine (put_any (lowI X q) q d (getI X q d) _ (lowI_fits _ _)).mono ?_; rintro e w6 ⟨rfl, hb6⟩; rw [G2.out, G3.out]))
            rename_i hH
            have HS : Hid (Holds w6 (.slice (some ⟨blk2, off2, none⟩) l.length cap2) l) := hH.2.2.1
            have HB6 : Hid (Below w.heap.size w w6) := hH.2.2.2
            clear hH hb6 bl3 hc0 hc1 hh3
            go_wp2_with fail
            exact ⟨⟨j + 1, by omega, by go_num, by rw [HD.out], HS.out, HB6.out⟩, by simp [intOf]; omega⟩
        · have hje : j = l.length := by omega
          subst hje
          have HY : Hid (lowI X (o l.length) = X) := by rw [HCH.out.last, ← HX.out]; exact low_low x n hn63
          have HB3 : Hid (Below w.heap.size w _) := hb3
          clear hb3 hh
          rw [HY.out]
          go_wp2
          go_ret
          exact ⟨rfl, HB3.out⟩

end Go.Proofs.Ytaoahnpdhkdebaa
