/-
  What onces do when they are asked.
-/
import Derived.Test.YteniopbmkooomaaPlc
import Derived.Test.YteniopbmkooomaaSearchS
namespace Go.Proofs.Yteniopbmkooomaa
open Go.RowKit Hi Go.Deep Go.Maps

theorem build125 (c v : Int) (s : Shelf) (w : World) : (Instr.build 125 #[(0, .agg #[I c, I v]), (1, .agg (stS s))]).run Try.prog w = .ok (.agg (outS ((c, v), s))) w := by
  unfold stS outS encS; kernel_rfl
theorem slice123 (c v : Int) (s : Shelf) (w : World) : (Instr.buildSlice 123 1 #[(0, .agg (outS ((c, v), s)))]).run Try.prog w = .ok (.slice (some ⟨w.heap.size, 0, none⟩) 1 1) (w.alloc (.cells (outS ((c, v), s)) 125)) := by
  unfold outS encS; kernel_rfl

section
variable {ops : Array Oper} {o : Oper} {a : Act} {w : World} {K : Act → World → Prop} {Q : Exit → Act → World → Prop} {E : Prop}
theorem step_build125 (hgd : o.guard = none) (x y : Operand) (ho : o.op = .build 125 #[(0, x), (1, y)]) (c v : Int) (s : Shelf) (hx : a.eval x = .agg #[I c, I v]) (hy : a.eval y = .agg (stS s))
    (h : K (a.put o.dst (.agg (outS ((c, v), s)))) w) : if Region.wanted o (yielded ops a.tmps) = true then Oper.wp Try.prog o a w K Q else E := by
  have hw : Region.wanted o (yielded ops a.tmps) = true := by simp [Region.wanted, hgd]
  rw [if_pos hw]
  have hr : (execOp a.eval o).run Try.prog w = .ok (.value (.agg (outS ((c, v), s)))) w := by
    unfold execOp; simp only [ho, Sem.run_bind]; simp [hx, hy, build125]
  unfold Oper.wp
  rw [hr]; exact h
theorem step_slice123 (hgd : o.guard = none) (x : Operand) (ho : o.op = .buildSlice 123 1 #[(0, x)]) (c v : Int) (s : Shelf) (hx : a.eval x = .agg (outS ((c, v), s)))
    (h : K (a.put o.dst (.slice (some ⟨w.heap.size, 0, none⟩) 1 1)) (w.alloc (.cells (outS ((c, v), s)) 125))) : if Region.wanted o (yielded ops a.tmps) = true then Oper.wp Try.prog o a w K Q else E := by
  have hw : Region.wanted o (yielded ops a.tmps) = true := by simp [Region.wanted, hgd]
  rw [if_pos hw]
  have hr : (execOp a.eval o).run Try.prog w = .ok (.value (.slice (some ⟨w.heap.size, 0, none⟩) 1 1)) (w.alloc (.cells (outS ((c, v), s)) 125)) := by
    unfold execOp; simp only [ho, Sem.run_bind]; simp [hx, slice123]
  unfold Oper.wp
  rw [hr]; exact h
end

/-- A block holds a shelf. -/
def ShBox (u : World) (b : Nat) (s : Shelf) : Prop := u.heap[b]? = some (.cells (stS s) 74 (0, 0))

theorem ShBox.lt {u : World} {b : Nat} {s : Shelf} (h : ShBox u b s) : b < u.heap.size := (Array.getElem?_eq_some_iff.1 h).1
theorem ShBox.cell {u : World} {b : Nat} {s : Shelf} (h : ShBox u b s) (j : Nat) : u.cell? ⟨b, j, none⟩ = (encS s)[j]? := by
  simp only [World.cell?]
  rw [show u.heap[b]? = _ from h]
  simp [stS]
theorem ShBox.frozen {u : World} {b : Nat} {s : Shelf} (h : ShBox u b s) (j : Nat) : u.frozen? ⟨b, j, none⟩ = false := by
  simp only [World.frozen?]
  rw [show u.heap[b]? = _ from h]
  simp
theorem ShBox.range {u : World} {b : Nat} {s : Shelf} (h : ShBox u b s) : u.rangeAt b 0 (encS s) := fun j v hj => by
  rw [h.cell, Nat.zero_add]; exact hj
theorem ShBox.later {u u' : World} {b n : Nat} {s : Shelf} (h : ShBox u b s) (hb : Below n u u') (hn : b < n) : ShBox u' b s := (hb.block b hn).trans h

theorem len36 (s : Shelf) : (encS s).length = 36 := rfl
theorem flat3 (f : Nat → Option (Int × Int)) : ∀ (l : List Nat) (i p : Nat), l[i]? = some p → ∀ (j : Nat) (v : Value), (encO (f p))[j]? = some v → (l.flatMap fun i => encO (f i))[i * 3 + j]? = some v
  | [], i, p, h, _, _, _ => by simp at h
  | x :: r, 0, p, h, j, v, hj => by
    simp at h; subst h
    rw [List.flatMap_cons, Nat.zero_mul, Nat.zero_add, List.getElem?_append_left (List.getElem?_eq_some_iff.1 hj).1]
    exact hj
  | x :: r, i + 1, p, h, j, v, hj => by
    have h' : r[i]? = some p := by simpa using h
    have e : (i + 1) * 3 + j = 3 + (i * 3 + j) := by omega
    rw [List.flatMap_cons, e, List.getElem?_append_right (by simp [encO])]
    have e2 : 3 + (i * 3 + j) - (encO (f x)).length = i * 3 + j := by simp [encO]
    rw [e2]
    exact flat3 f r i p h' j v hj
theorem places_get {p : Nat} (h : p < 12) : places12[p]? = some p := by
  match p, h with
  | 0, _ | 1, _ | 2, _ | 3, _ | 4, _ | 5, _ | 6, _ | 7, _ | 8, _ | 9, _ | 10, _ | 11, _ => rfl
  | p + 12, h => omega
theorem encS_at (s : Shelf) {p : Nat} (h : p < 12) (j : Nat) (v : Value) (hj : (encO (s.getD p none))[j]? = some v) : (encS s)[p * 3 + j]? = some v :=
  flat3 (fun i => s.getD i none) places12 p p (places_get h) j v hj

theorem kcell' {B : Nat} {u u' : World} (hb : Below B u u') {b o : Nat} (hn : b < B) {v : Value} (h : u.cell? ⟨b, o, none⟩ = some v) : u'.cell? ⟨b, o, none⟩ = some v := by rw [hb.cell (p := ⟨b, o, none⟩) hn]; exact h

/-- One once is written. -/
theorem ShBox.set {u : World} {b : Nat} {s : Shelf} (h : ShBox u b s) (hs : s.length = 12) {p : Nat} (hp : p < 12) (g : Int × Int) :
    ShBox (((u.setCell ⟨b, p * 3, none⟩ (.bool true)).setCell ⟨b, p * 3 + 1, none⟩ (I g.1)).setCell ⟨b, p * 3 + 2, none⟩ (I g.2)) b (s.set p (some g)) := by
  have h' : u.heap[b]? = some (.cells (stS s) 74 (0, 0)) := h
  have key : (((stS s).setIfInBounds (p * 3) (.bool true)).setIfInBounds (p * 3 + 1) (I g.1)).setIfInBounds (p * 3 + 2) (I g.2) = stS (s.set p (some g)) := by
    apply Array.ext_getElem?
    intro q
    have hsz : (stS s).size = 36 := rfl
    have hsz2 : (stS (s.set p (some g))).size = 36 := rfl
    by_cases hq : q < 36
    · have hqp : q / 3 < 12 := by omega
      have hqe : q = q / 3 * 3 + q % 3 := by omega
      have hm : q % 3 < 3 := by omega
      have e2 : (stS (s.set p (some g)))[q]? = (encO ((s.set p (some g)).getD (q / 3) none))[q % 3]? := by
        have hv := List.getElem?_eq_getElem (l := encO ((s.set p (some g)).getD (q / 3) none)) (i := q % 3) (by simp [encO]; omega)
        rw [hv]
        have := encS_at (s.set p (some g)) hqp (q % 3) _ hv
        rw [← hqe] at this
        simpa [stS] using this
      have e1 : (stS s)[q]? = (encO (s.getD (q / 3) none))[q % 3]? := by
        have hv := List.getElem?_eq_getElem (l := encO (s.getD (q / 3) none)) (i := q % 3) (by simp [encO]; omega)
        rw [hv]
        have := encS_at s hqp (q % 3) _ hv
        rw [← hqe] at this
        simpa [stS] using this
      rw [e2, Array.getElem?_setIfInBounds, Array.getElem?_setIfInBounds, Array.getElem?_setIfInBounds, getD_set _ _ _ _ _ (by omega)]
      simp only [Array.size_setIfInBounds, hsz]
      by_cases hpq : q / 3 = p
      · rw [if_pos hpq]
        have : q % 3 = 0 ∨ q % 3 = 1 ∨ q % 3 = 2 := by omega
        rcases this with h0 | h0 | h0
        · rw [if_neg (by omega), if_neg (by omega), if_pos (by omega), if_pos (by omega), h0]; rfl
        · rw [if_neg (by omega), if_pos (by omega), if_pos (by omega), h0]; rfl
        · rw [if_pos (by omega), if_pos (by omega), h0]; rfl
      · rw [if_neg hpq, if_neg (by omega), if_neg (by omega), if_neg (by omega)]
        exact e1
    · rw [Array.getElem?_eq_none (by simp [hsz]; omega), Array.getElem?_eq_none (by omega)]
  unfold ShBox
  rw [← key]
  unfold World.setCell
  simp [Array.getElem?_modify, h']

theorem encO_some (a : Int × Int) : encO (some a) = [.bool true, I a.1, I a.2] := rfl

theorem keepS {u u' : World} {b o : Nat} {cs : List Value} {a1 a2 : Addr} {v1 v2 : Value} (h : u.rangeAt b o cs ∧ u.cell? a1 = some v1 ∧ u.cell? a2 = some v2) (hb : Below u.heap.size u u') : u'.rangeAt b o cs ∧ u'.cell? a1 = some v1 ∧ u'.cell? a2 = some v2 :=
  ⟨fun j v hj => kcell hb (h.1 j v hj), kcell hb h.2.1, kcell hb h.2.2⟩

theorem modulo_q (a n : Int) (h1 : 1 ≤ n) (h2 : n ≤ 1000) (w : World) : Calls Try.prog 55 #[I a, I n] w fun e w' => e = .returned (I (a % n)) ∧ ∃ m, w' = w.drewN m := by
  refine (modulo_any a n h1 h2 w).mono ?_
  rintro e w' ⟨rfl, rfl⟩
  exact ⟨rfl, 0, rfl⟩

set_option maxHeartbeats 4000000 in
set_option maxRecDepth 100000 in
theorem askS_any (ks : List Int) (n : Int) (h1 : 1 ≤ n) (h2 : n ≤ 1000) (place : Int → Nat) (s : Shelf) (hs : GoodS s) (x : Ev) (hpl : ks[place (x.a % n)]? = some (x.a % n)) (hp12 : place (x.a % n) < 12) (br bt bp : Nat) (w : World)
    (cr : w.cell? ⟨br, 0, none⟩ = some (.map (some bp))) (ct : w.cell? ⟨bt, 0, none⟩ = some (I n)) (hp : Plc w bp ks) :
    Calls Try.prog 56 #[.agg (stS s), evV x, P1 br, P1 bt] w fun e w' => ∃ v, e = .returned v ∧ Outs 38 encS w' v (wayShelf place n s x) ∧ Below w.heap.size w w' := by
  have hmf : Fits (x.a % n) := by
    have hb1 := Int.emod_nonneg x.a (show n ≠ 0 by omega)
    have hb2 := Int.emod_lt_of_pos x.a (show 0 < n by omega)
    unfold Fits; omega
  cases ha : actOf x with
  | none =>
    have e1 : wayShelf place n s x = [] := by unfold wayShelf; rw [ha]
    rw [e1]
    have HA : Hid (actOf x = none) := ha
    clear hs hpl hp12 cr ct hp hmf e1 ha
    go_enter Try.func56, Try.ntmps56
    go_wp2_with (go_at_call 57; refine (act_any x _).mono ?_; rintro e w1 ⟨rfl, hb1⟩; rw [HA.out])
    go_ret
    refine ⟨_, rfl, outs_nil _ _ _, ?_⟩
    exact below_alloc (below_step (below_alloc (below_alloc (Below.refl _ _) _) _) hb1) _
  | some g =>
    have HA : Hid (actOf x = some g) := ha
    have hg : gives x = g := by unfold gives; rw [ha]; rfl
    have HG : Hid (gives x = g) := hg
    have lr := World.block_lt_of_cell? _ _ cr
    have lt := World.block_lt_of_cell? _ _ ct
    simp only [] at lr lt
    have HCR : Hid _ := cr
    have HCT : Hid _ := ct
    have HPL : Hid (Plc w bp ks) := hp
    clear hg ha cr ct hp
    go_enter Try.func56, Try.ntmps56
    go_wp2_with (go_at_call 57; refine (act_any x _).mono ?_; rintro e w1 ⟨rfl, hb1⟩; rw [HA.out, HG.out])
    have hz1 : w.heap.size + 1 < w1.heap.size := by have := hb1.size; simp at this; omega
    have hbw : Below w.heap.size w w1 := below_step (below_alloc (below_alloc (Below.refl _ _) _) _) hb1
    have hsb : ShBox w1 w.heap.size s := by
      have : ShBox ((w.alloc (.cells (stS s) 74)).alloc (.cells (evC x) 33)) w.heap.size s := by
        unfold ShBox
        rw [heap_alloc_old _ _ (by simp)]
        exact heap_alloc_new _ _
      exact this.later hb1 (by simp; omega)
    have hxa : w1.cell? ⟨w.heap.size + 1, 2, none⟩ = some (I x.a) := by
      have := range_later hb1 (range_new (w.alloc (.cells (stS s) 74)) (evC x) 33 0 (evC x).toList rfl rfl) (by simp) 2 _ rfl
      simpa using this
    refine (show ∀ W, (ShBox W w.heap.size s ∧ W.cell? ⟨w.heap.size + 1, 2, none⟩ = some (I x.a) ∧ W.cell? ⟨br, 0, none⟩ = some (.map (some bp)) ∧ W.cell? ⟨bt, 0, none⟩ = some (I n) ∧ Plc W bp ks ∧
      W.cell? ⟨w1.heap.size, 0, none⟩ = some (I g.1) ∧ W.cell? ⟨w1.heap.size, 1, none⟩ = some (I g.2) ∧ Below w.heap.size w W) → Code.wp Try.prog _ _ _ W from fun W hW => ?_) _
      ⟨hsb.later (below_alloc (Below.refl _ _) _) (by omega), one_old hxa _, one_old (kcell' hbw lr HCR.out) _, one_old (kcell' hbw lt HCT.out) _, (HPL.out.later hbw HPL.out.lt).later (below_alloc (Below.refl _ _) _) (HPL.out.later hbw HPL.out.lt).lt,
        World.cell?_alloc_at _ _ _ _ rfl, World.cell?_alloc_at _ _ _ _ rfl, below_alloc hbw _⟩
    have hne1 : ¬ w1.heap.size = w.heap.size := by omega
    have hne2 : ¬ w.heap.size = w1.heap.size := by omega
    clear hz1 hbw hsb hxa hb1 HCR HCT HPL lr lt
    obtain ⟨hsb, hxa, cr, ct, hp, g0, g1, hbW⟩ := hW
    have lb := hsb.lt
    have lr := World.block_lt_of_cell? _ _ cr
    have lt := World.block_lt_of_cell? _ _ ct
    have lx := World.block_lt_of_cell? _ _ hxa
    have lg := World.block_lt_of_cell? _ _ g0
    simp only [] at lr lt lx lg
    have hfind : ∀ k, (Instr.lookup 127 (.map (some bp)) (I (x.a % n)) false).run Try.prog (W.drewN k) = .ok (I (place (x.a % n))) (W.drewN k) := fun k => (hp.later (below_drewN (Below.refl _ _) _) hp.lt).find hmf hpl
    have hfind1 : (Instr.lookup 127 (.map (some bp)) (I (x.a % n)) false).run Try.prog W.drew = .ok (I (place (x.a % n))) W.drew := (hp.later (below_drew (Below.refl _ _)) hp.lt).find hmf hpl
    have hway : wayShelf place n s x = (match s.getD (place (x.a % n)) none with | some a => [(a, s)] | none => [(g, s.set (place (x.a % n)) (some g))]) := by
      unfold wayShelf; rw [HA.out]; rfl
    generalize place (x.a % n) = q at *
    have HWAY : Hid _ := hway
    have HSB : Hid (ShBox W w.heap.size s) := hsb
    have HBW : Hid (Below w.heap.size w W) := hbW
    have HS : Hid (GoodS s) := hs
    have hf0 := hsb.frozen (q * 3)
    have hf1 := hsb.frozen (q * 3 + 1)
    have hf2 := hsb.frozen (q * 3 + 2)
    have k0 : W.cell? ⟨w.heap.size, q * 3, none⟩ = some (.bool (s.getD q none).isSome) := by rw [hsb.cell]; exact encS_at s hp12 0 _ rfl
    have k1 : W.cell? ⟨w.heap.size, q * 3 + 1, none⟩ = some (I ((s.getD q none).getD (0, 0)).1) := by rw [hsb.cell]; exact encS_at s hp12 1 _ rfl
    have k2 : W.cell? ⟨w.heap.size, q * 3 + 2, none⟩ = some (I ((s.getD q none).getD (0, 0)).2) := by rw [hsb.cell]; exact encS_at s hp12 2 _ rfl
    generalize hsq : s.getD q none = so at *
    have HSQ : Hid (s.getD q none = so) := hsq
    clear hway hsb hbW hs hp hpl hmf hsq
    go_quiet (first | (go_at_call 55; exact Calls.quiet_of (modulo_q x.a n h1 h2 _)))
    cases so with
    | some a =>
      go_wp2_with fail
      obtain ⟨c0, c1, c2, c3, c4, c5, c6, c7, c8, c9, c10, c11, c12, c13, c14, c15, c16, c17, c18, c19, c20, c21, c22, c23, c24, c25, c26, c27, c28, c29, c30, c31, c32, c33, c34, c35, hcs⟩ : ∃ c0 c1 c2 c3 c4 c5 c6 c7 c8 c9 c10 c11 c12 c13 c14 c15 c16 c17 c18 c19 c20 c21 c22 c23 c24 c25 c26 c27 c28 c29 c30 c31 c32 c33 c34 c35, encS s = [c0, c1, c2, c3, c4, c5, c6, c7, c8, c9, c10, c11, c12, c13, c14, c15, c16, c17, c18, c19, c20, c21, c22, c23, c24, c25, c26, c27, c28, c29, c30, c31, c32, c33, c34, c35] := ⟨_, _, _, _, _, _, _, _, _, _, _, _, _, _, _, _, _, _, _, _, _, _, _, _, _, _, _, _, _, _, _, _, _, _, _, _, rfl⟩
      have HCS : Hid (encS s = [c0, c1, c2, c3, c4, c5, c6, c7, c8, c9, c10, c11, c12, c13, c14, c15, c16, c17, c18, c19, c20, c21, c22, c23, c24, c25, c26, c27, c28, c29, c30, c31, c32, c33, c34, c35]) := hcs
      refine (show ∀ W2, (W2.rangeAt w.heap.size 0 [c0, c1, c2, c3, c4, c5, c6, c7, c8, c9, c10, c11, c12, c13, c14, c15, c16, c17, c18, c19, c20, c21, c22, c23, c24, c25, c26, c27, c28, c29, c30, c31, c32, c33, c34, c35] ∧ W2.cell? ⟨w.heap.size, q * 3 + 1, none⟩ = some (I a.1) ∧ W2.cell? ⟨w.heap.size, q * 3 + 2, none⟩ = some (I a.2) ∧ Below w.heap.size w W2) → Code.wp Try.prog _ _ _ W2 from fun W2 hW2 => ?_) _ ⟨by rw [← hcs]; exact HSB.out.range, k1, k2, below_drewN HBW.out _⟩
      obtain ⟨hr, d1, d2, hb2⟩ := hW2
      have HB2 : Hid (Below w.heap.size w W2) := hb2
      have hi74 : (Try.prog.info? 74).map (·.size) = some [c0, c1, c2, c3, c4, c5, c6, c7, c8, c9, c10, c11, c12, c13, c14, c15, c16, c17, c18, c19, c20, c21, c22, c23, c24, c25, c26, c27, c28, c29, c30, c31, c32, c33, c34, c35].length := size74
      have hu74 := Try.underlying74
      have l2 := World.block_lt_of_cell? _ _ d1
      simp only [] at l2
      clear hb2 k0 k1 k2 hf0 hf1 hf2 hxa cr ct g0 g1 lr lt lx lg lb hfind hfind1 hcs
      go_region_held3 (fun u => u.rangeAt w.heap.size 0 [c0, c1, c2, c3, c4, c5, c6, c7, c8, c9, c10, c11, c12, c13, c14, c15, c16, c17, c18, c19, c20, c21, c22, c23, c24, c25, c26, c27, c28, c29, c30, c31, c32, c33, c34, c35] ∧ u.cell? ⟨w.heap.size, q * 3 + 1, none⟩ = some (I a.1) ∧ u.cell? ⟨w.heap.size, q * 3 + 2, none⟩ = some (I a.2))
        (first | (exact ⟨hr, d1, d2⟩) | (exact keepS ‹_› (below_alloc (Below.refl _ _) _)) | (simp [go_sem, *]; done))
        (fail)
      rename_i hH
      clear hH
      go_wp2_with fail
      go_ret
      rw [show wayShelf place n s x = [(a, s)] from HWAY.out]
      refine ⟨_, rfl, outs_one (o := (a, s)) (by rw [HCS.out]; exact range_new _ _ _ _ _ rfl rfl), ?_⟩
      exact below_alloc (below_drew HB2.out) _
    | none =>
      go_wp2_with fail
      go_region
      go_wp2_with fail
      have hb6 := ShBox.set (HSB.out.later (below_drewN (Below.refl _ _) (nq + 1)) lb) HS.out.1 hp12 g
      have hgd : (s.set q (some g)).getD q none = some g := by rw [getD_set _ _ _ _ _ (by rw [HS.out.1]; exact hp12), if_pos rfl]
      have hd1 := (hb6.cell (q * 3 + 1)).trans (encS_at (s.set q (some g)) hp12 1 (I g.1) (by rw [hgd]; rfl))
      have hd2 := (hb6.cell (q * 3 + 2)).trans (encS_at (s.set q (some g)) hp12 2 (I g.2) (by rw [hgd]; rfl))
      clear hgd
      obtain ⟨c0, c1, c2, c3, c4, c5, c6, c7, c8, c9, c10, c11, c12, c13, c14, c15, c16, c17, c18, c19, c20, c21, c22, c23, c24, c25, c26, c27, c28, c29, c30, c31, c32, c33, c34, c35, hcs⟩ : ∃ c0 c1 c2 c3 c4 c5 c6 c7 c8 c9 c10 c11 c12 c13 c14 c15 c16 c17 c18 c19 c20 c21 c22 c23 c24 c25 c26 c27 c28 c29 c30 c31 c32 c33 c34 c35, encS (s.set q (some g)) = [c0, c1, c2, c3, c4, c5, c6, c7, c8, c9, c10, c11, c12, c13, c14, c15, c16, c17, c18, c19, c20, c21, c22, c23, c24, c25, c26, c27, c28, c29, c30, c31, c32, c33, c34, c35] := ⟨_, _, _, _, _, _, _, _, _, _, _, _, _, _, _, _, _, _, _, _, _, _, _, _, _, _, _, _, _, _, _, _, _, _, _, _, rfl⟩
      have HCS : Hid (encS (s.set q (some g)) = [c0, c1, c2, c3, c4, c5, c6, c7, c8, c9, c10, c11, c12, c13, c14, c15, c16, c17, c18, c19, c20, c21, c22, c23, c24, c25, c26, c27, c28, c29, c30, c31, c32, c33, c34, c35]) := hcs
      refine (show ∀ W2, (W2.rangeAt w.heap.size 0 [c0, c1, c2, c3, c4, c5, c6, c7, c8, c9, c10, c11, c12, c13, c14, c15, c16, c17, c18, c19, c20, c21, c22, c23, c24, c25, c26, c27, c28, c29, c30, c31, c32, c33, c34, c35] ∧ W2.cell? ⟨w.heap.size, q * 3 + 1, none⟩ = some (I g.1) ∧ W2.cell? ⟨w.heap.size, q * 3 + 2, none⟩ = some (I g.2) ∧ Below w.heap.size w W2) → Code.wp Try.prog _ _ _ W2 from fun W2 hW2 => ?_) _ ⟨by rw [← hcs]; exact hb6.range, hd1, hd2, (((below_drewN HBW.out _).setCell (Nat.le_refl _) _).setCell (Nat.le_refl _) _).setCell (Nat.le_refl _) _⟩
      obtain ⟨hr, d1, d2, hb2⟩ := hW2
      have HB2 : Hid (Below w.heap.size w W2) := hb2
      have hi74 : (Try.prog.info? 74).map (·.size) = some [c0, c1, c2, c3, c4, c5, c6, c7, c8, c9, c10, c11, c12, c13, c14, c15, c16, c17, c18, c19, c20, c21, c22, c23, c24, c25, c26, c27, c28, c29, c30, c31, c32, c33, c34, c35].length := size74
      have hu74 := Try.underlying74
      have l2 := World.block_lt_of_cell? _ _ d1
      simp only [] at l2
      clear hb2 k0 k1 k2 hf0 hf1 hf2 hxa cr ct g0 g1 lr lt lx lg lb hfind hfind1 hcs hb6 hd1 hd2
      go_region_held3 (fun u => u.rangeAt w.heap.size 0 [c0, c1, c2, c3, c4, c5, c6, c7, c8, c9, c10, c11, c12, c13, c14, c15, c16, c17, c18, c19, c20, c21, c22, c23, c24, c25, c26, c27, c28, c29, c30, c31, c32, c33, c34, c35] ∧ u.cell? ⟨w.heap.size, q * 3 + 1, none⟩ = some (I g.1) ∧ u.cell? ⟨w.heap.size, q * 3 + 2, none⟩ = some (I g.2))
        (first | (exact ⟨hr, d1, d2⟩) | (exact keepS ‹_› (below_alloc (Below.refl _ _) _)) | (simp [go_sem, *]; done))
        (fail)
      rename_i hH
      clear hH
      go_wp2_with fail
      go_ret
      rw [show wayShelf place n s x = [(g, s.set q (some g))] from HWAY.out]
      refine ⟨_, rfl, outs_one (o := (g, s.set q (some g))) (by rw [HCS.out]; exact range_new _ _ _ _ _ rfl rfl), ?_⟩
      exact below_alloc (below_drew HB2.out) _

end Go.Proofs.Yteniopbmkooomaa
