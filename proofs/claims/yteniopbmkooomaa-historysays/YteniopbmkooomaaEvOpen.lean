/-
  A list of events, and a list of numbers, that came in as arguments.
-/
import Derived.Test.YteniopbmkooomaaRows
import Derived.Test.YteniopbmkooomaaWith
import Derived.ProofKit
import Derived.OpenShut
import Derived.ChangeOld
import Derived.Lib.SmallJoins
import Derived.Deep.SlicePairs
namespace Go.Proofs.Yteniopbmkooomaa
open Go.ChangeShapes Go.WideShapes Go.ChangeAt Go.RowKit Go.Joins Go.Deep Hi

theorem wr_knob : ownKnob Try.prog.godebug = none := by kernel_rfl
theorem wr_cells3 : Try.prog.cellsOf 3 = 1 := by kernel_rfl
theorem wr_cells26 : Try.prog.cellsOf 26 = 1 := by kernel_rfl
theorem wr_cells31 : Try.prog.cellsOf 31 = 2 := by kernel_rfl
theorem wr_cells33 : Try.prog.cellsOf 33 = 8 := by kernel_rfl

theorem wf_fits {n : Int} (h : (Lit.int .i64 n).wf = true) : Fits n := by
  have e1 : IntKind.min .i64 = -9223372036854775808 := by decide
  have e2 : IntKind.max .i64 = 9223372036854775807 := by decide
  simp only [Lit.wf, e1, e2, Bool.and_eq_true, decide_eq_true_eq] at h
  unfold Fits
  omega

/-- An event of numbers that fit. -/
def FitsE (x : Ev) : Prop := Fits x.thr ∧ Fits x.op ∧ Fits x.a ∧ Fits x.b ∧ Fits x.beg ∧ Fits x.fin ∧ Fits x.code ∧ Fits x.val

section
variable {H : Type} {enc : TypeId × Value → H} {w : World} {held : Bool}

set_option maxRecDepth 100000 in
theorem ev_open : ∀ fuel cs (y : DataW H × List MemPlace), cs.length = 8 → DataW.trod enc Try.prog w 0 (fun _ => true) held fuel 33 cs = some y → ∃ a, cs = evL a ∧ FitsE a := by
  intro fuel cs y hl h
  obtain ⟨xs, k, hk, hxy, _, hxl, hf⟩ := DataW.trod_struct Try.underlying33 h
  match xs, hxl, cs, hl with
  | [y0, y1, y2, y3, y4, y5, y6], _, [c0, c1, c2, c3, c4, c5, c6, c7], _ =>
    have g0 := hf 0 _ rfl
    have g1 := hf 1 _ rfl
    have g2 := hf 2 _ rfl
    have g3 := hf 3 _ rfl
    have g4 := hf 4 _ rfl
    have g5 := hf 5 _ rfl
    have g6 := hf 6 _ rfl
    simp [wr_cells3, wr_cells31] at g0 g1 g2 g3 g4 g5 g6
    obtain ⟨a0, e0, _, f0⟩ := DataW.trod_int Try.underlying3 g0
    obtain ⟨a1, e1, _, f1⟩ := DataW.trod_int Try.underlying3 g1
    obtain ⟨a2, e2, _, f2⟩ := DataW.trod_int Try.underlying3 g2
    obtain ⟨a3, e3, _, f3⟩ := DataW.trod_int Try.underlying3 g3
    obtain ⟨a4, e4, _, f4⟩ := DataW.trod_int Try.underlying3 g4
    obtain ⟨a5, e5, _, f5⟩ := DataW.trod_int Try.underlying3 g5
    simp at e0 e1 e2 e3 e4 e5
    subst e0 e1 e2 e3 e4 e5
    obtain ⟨zs, k2, _, _, _, hzl, hg⟩ := DataW.trod_struct Try.underlying31 g6
    match zs, hzl with
    | [z0, z1], _ =>
      have q0 := hg 0 _ rfl
      have q1 := hg 1 _ rfl
      simp [wr_cells3, wr_cells26] at q0 q1
      obtain ⟨a6, e6, _, f6⟩ := DataW.trod_int Try.underlying26 q0
      obtain ⟨a7, e7, _, f7⟩ := DataW.trod_int Try.underlying3 q1
      simp at e6 e7
      subst e6 e7
      exact ⟨⟨a0, a1, a2, a3, a4, a5, a6, a7⟩, rfl, wf_fits f0, wf_fits f1, wf_fits f2, wf_fits f3, wf_fits f4, wf_fits f5, wf_fits f6, wf_fits f7⟩

set_option maxRecDepth 100000 in
/-- A list of events that came in. -/
theorem evs_open {r : Reach} {b0 : Nat} {v : Value} {d : DataW H} {p : List MemPlace} (hv : Value.okWide Try.prog w r b0 22 v) (h : DataW.Trod enc Try.prog w 0 (fun _ => true) held 22 v d p) :
    ∃ l : List Ev, SL 8 evL w v l ∧ ∀ x ∈ l, FitsE x := by
  obtain ⟨a0, len0, cap0, rfl⟩ := okWide_slice Try.underlying22 hv
  obtain ⟨fuel, hf⟩ := h
  rcases open_slice Try.underlying22 hf with ⟨hcs, hx⟩ | ⟨ad, len, cap, m, k, D, Pl, hcs, _, hl, hm, hmm, hxe, hx⟩
  · simp [Value.cells] at hcs
    obtain ⟨rfl, rfl, rfl⟩ := hcs
    exact ⟨[], ⟨none, 0, rfl, Nat.le_refl _, Nat.zero_le _, fun i a h => by simp at h⟩, by simp⟩
  · simp [Value.cells] at hcs
    obtain ⟨rfl, rfl, rfl⟩ := hcs
    simp only [if_true] at hmm
    subst hmm
    have each : ∀ i, i < len0 → ∃ a : Ev, FitsE a ∧ ∀ j, j < 8 → w.cell? ((ad.add (i * 8)).add j) = (evL a)[j]? := by
      intro i hi
      obtain ⟨cs', h1, h2⟩ := hx i (by omega)
      rw [wr_cells33] at h1
      obtain ⟨_, hlen, hc⟩ := World.cells?_some h1
      obtain ⟨a, rfl, ha⟩ := ev_open _ _ _ hlen h2
      exact ⟨a, ha, hc⟩
    have ie : Inhabited Ev := ⟨ev0⟩
    obtain ⟨q, hq⟩ := choose_lt each
    refine ⟨(List.range len0).map q, ⟨some ad, m, by simp, by simpa using hl, hm, fun i a hi => ?_⟩, fun x hx => ?_⟩
    · have hil : i < len0 := by simpa using (List.getElem?_eq_some_iff.1 hi).1
      have ha : a = q i := by simp [hil] at hi; exact hi.symm
      subst ha
      obtain ⟨b, off, spot⟩ := ad
      have c00 := ((hq 0 (by omega)).2 0 (by omega)).trans (List.getElem?_eq_getElem (by rw [len_ev]; decide))
      have hspot : spot = none := by
        have := World.cell?_spot c00
        simpa [Addr.add] using this
      subst hspot
      have hadd : ∀ (o j : Nat), (⟨b, o, none⟩ : Addr).add j = ⟨b, o + j, none⟩ := by intro o j; unfold Addr.add; split <;> simp_all
      rw [hadd, hadd] at c00
      refine ⟨b, off, rfl, World.block_lt_of_cell? _ _ c00, fun j u hj => ?_⟩
      have hjn : j < 8 := by have := (List.getElem?_eq_some_iff.1 hj).1; rwa [len_ev] at this
      have := (hq i hil).2 j hjn
      rw [hadd, hadd] at this
      exact this.trans hj
    · obtain ⟨i, hi, rfl⟩ := List.mem_map.1 hx
      exact (hq i (List.mem_range.1 hi)).1
end


set_option maxRecDepth 100000 in
/-- A list of numbers that came in. -/
theorem ints_open {H : Type} {enc : TypeId × Value → H} {w : World} {r : Reach} {b0 : Nat} {v : Value} {d : DataW H} {p : List MemPlace}
    (hv : Value.okWide Try.prog w r b0 47 v) (h : DataW.Trod enc Try.prog w 0 (fun _ => true) true 47 v d p) : ∃ zs : List Int, SI w v zs := by
  obtain ⟨a0, len, cap, rfl⟩ := okWide_slice Try.underlying47 hv
  obtain ⟨fuel, hf⟩ := h
  rcases open_ints Try.underlying47 Try.underlying3 (by kernel_rfl) hf with ⟨hcs, _⟩ | ⟨x, l, c, zs, hcs, _, hl, hm, hz, _, hcell, _⟩
  · simp [Value.cells] at hcs
    obtain ⟨rfl, rfl, rfl⟩ := hcs
    exact ⟨[], none, 0, rfl, Nat.le_refl _, Nat.zero_le _, fun i a hi => by simp at hi⟩
  · simp [Value.cells] at hcs
    obtain ⟨rfl, rfl, rfl⟩ := hcs
    have hz' : zs.length = cap := by simpa using hz
    have ht : (zs.take len).length = len := by rw [List.length_take]; omega
    refine ⟨zs.take len, some x, cap, by rw [ht], by rw [ht]; exact hl, hm, fun i a hi => ?_⟩
    have hil : i < len := by have := (List.getElem?_eq_some_iff.1 hi).1; omega
    obtain ⟨b, off, spot⟩ := x
    have hspot : spot = none := by simpa [Addr.add] using World.cell?_spot (hcell 0 (by omega))
    subst hspot
    have hc := hcell i (by omega)
    have hadd : (⟨b, off, none⟩ : Addr).add i = ⟨b, off + i, none⟩ := by unfold Addr.add; split <;> simp_all
    rw [hadd] at hc
    have ha : zs.getD i 0 = a := by
      rw [List.getElem?_take_of_lt hil] at hi
      rw [List.getD_eq_getElem?_getD, hi]; rfl
    rw [ha] at hc
    refine ⟨b, off, rfl, World.block_lt_of_cell? _ _ hc, fun j u hj => ?_⟩
    have hj0 : j = 0 := by have := (List.getElem?_eq_some_iff.1 hj).1; simp [encI] at this; omega
    subst hj0
    simp [encI] at hj
    subst hj
    simpa using hc

end Go.Proofs.Yteniopbmkooomaa
