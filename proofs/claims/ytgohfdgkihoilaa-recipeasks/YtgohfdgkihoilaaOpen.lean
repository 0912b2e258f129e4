/- Recipes and numbers that came in are opened. -/
import Derived.Test.YtgohfdgkihoilaaLib
import Derived.ProofKit
import Derived.OpenShut
import Derived.ChangeOld
import Derived.Lib.SmallJoins
set_option linter.unusedSimpArgs false
set_option linter.unusedVariables false
namespace Go.Proofs.Ytgohfdgkihoilaa.Rcp
open Go.ChangeShapes Go.WideShapes Go.ChangeAt Go.RowKit Go.Joins Go.Deep

theorem wr_knob : ownKnob Try.prog.godebug = none := by kernel_rfl
theorem laidOut : laidOutB Try.prog = true := by kernel_rfl
theorem cells3 : Try.prog.cellsOf 3 = 1 := by kernel_rfl
theorem cells26 : Try.prog.cellsOf 26 = 1 := by kernel_rfl
theorem cells43 : Try.prog.cellsOf 43 = 5 := by kernel_rfl
theorem wf_of {n : Int} (h : (Lit.int .i64 n).wf = true) : wfI n := by
  have e1 : IntKind.min .i64 = -9223372036854775808 := by decide
  have e2 : IntKind.max .i64 = 9223372036854775807 := by decide
  simp only [Lit.wf, e1, e2, Bool.and_eq_true, decide_eq_true_eq] at h
  exact h
def wfR (r : Rc) : Prop := wfI r.level ∧ wfI r.act ∧ wfI r.value ∧ wfI r.fin ∧ ∀ x ∈ r.needs, wfI x
section
variable {H : Type} {enc : TypeId × Value → H} {w : World}

set_option maxRecDepth 100000 in
theorem needs_in {fuel : Nat} {cs : List Value} {y : DataW H × List MemPlace} (h : DataW.trod enc Try.prog w 0 (fun _ => true) true fuel 26 cs = some y) : ∃ v ns, cs = [v] ∧ IL (fun i => i < w.heap.size) w v ns ∧ ∀ x ∈ ns, wfI x := by
  rcases open_ints Try.underlying26 Try.underlying3 cells3 h with ⟨hcs, _⟩ | ⟨x, l, c, zs, hcs, _, hl, hm, hz, hx, hcell, hwf⟩
  · exact ⟨_, [], hcs, ⟨none, 0, rfl, by simp, fun i x hi => by simp at hi⟩, fun x hx => by cases hx⟩
  · have hz' : zs.length = c := by simpa using hz
    have ht : (zs.take l).length = l := by rw [List.length_take]; omega
    refine ⟨_, zs.take l, hcs, ⟨some x, c, by rw [ht], by rw [ht]; have : c ≤ maxLen := hm; unfold maxLen at this; omega, fun k a hk => ?_⟩, fun a ha => wf_of (hwf a (List.mem_of_mem_take ha))⟩
    have hkl : k < l := by have := (List.getElem?_eq_some_iff.1 hk).1; omega
    obtain ⟨b, off, spot⟩ := x
    have hc := hcell k (by omega)
    have hspot : spot = none := by simpa [Addr.add] using World.cell?_spot (hcell 0 (by omega))
    subst hspot
    have hadd : (⟨b, off, none⟩ : Addr).add k = ⟨b, off + k, none⟩ := by unfold Addr.add; split <;> simp_all
    rw [hadd] at hc
    have ha : zs.getD k 0 = a := by
      rw [List.getElem?_take_of_lt hkl] at hk
      rw [List.getD_eq_getElem?_getD, hk]
      rfl
    rw [ha] at hc
    exact ⟨b, off, rfl, World.block_lt_of_cell? _ _ hc, hc⟩

set_option maxRecDepth 100000 in
theorem rc_in {fuel : Nat} {cs : List Value} {y : DataW H × List MemPlace} (hl : cs.length = 5) (h : DataW.trod enc Try.prog w 0 (fun _ => true) true fuel 43 cs = some y) : ∃ nv r, cs = rcL nv r ∧ IL (fun i => i < w.heap.size) w nv r.needs ∧ wfR r := by
  obtain ⟨xs, k, hk, hxy, _, hxl, hf⟩ := DataW.trod_struct Try.underlying43 h
  match xs, hxl, cs, hl with
  | [y0, y1, y2, y3, y4], _, [c0, c1, c2, c3, c4], _ =>
    have g0 := hf 0 _ rfl
    have g1 := hf 1 _ rfl
    have g2 := hf 2 _ rfl
    have g3 := hf 3 _ rfl
    have g4 := hf 4 _ rfl
    simp [cells3, cells26] at g0 g1 g2 g3 g4
    obtain ⟨a1, e1, _, f1⟩ := DataW.trod_int Try.underlying3 g1
    obtain ⟨a2, e2, _, f2⟩ := DataW.trod_int Try.underlying3 g2
    obtain ⟨a3, e3, _, f3⟩ := DataW.trod_int Try.underlying3 g3
    obtain ⟨a4, e4, _, f4⟩ := DataW.trod_int Try.underlying3 g4
    simp at e1 e2 e3 e4
    subst e1 e2 e3 e4
    obtain ⟨v, ns, e0, hn, hw⟩ := needs_in g0
    cases e0
    exact ⟨_, ⟨ns, a1, a2, a3, a4⟩, rfl, hn, wf_of f1, wf_of f2, wf_of f3, wf_of f4, hw⟩

set_option maxRecDepth 100000 in
/-- Recipes that came in. -/
theorem rcs_open {r : Reach} {b0 : Nat} {v : Value} {d : DataW H} {p : List MemPlace} (hv : Value.okWide Try.prog w r b0 25 v) (h : DataW.Trod enc Try.prog w 0 (fun _ => true) true 25 v d p) :
    ∃ l : List Rc, RL (fun i => i < w.heap.size) w v l ∧ ∀ x ∈ l, wfR x := by
  obtain ⟨a0, len0, cap0, rfl⟩ := okWide_slice Try.underlying25 hv
  obtain ⟨fuel, hf⟩ := h
  rcases open_slice Try.underlying25 hf with ⟨hcs, hx⟩ | ⟨ad, len, cap, m, k, D, Pl, hcs, _, hl, hm, hmm, hxe, hx⟩
  · simp [Value.cells] at hcs
    obtain ⟨rfl, rfl, rfl⟩ := hcs
    exact ⟨[], ⟨none, 0, rfl, by simp, fun i a h => by simp at h⟩, by simp⟩
  · simp [Value.cells] at hcs
    obtain ⟨rfl, rfl, rfl⟩ := hcs
    simp only [if_true] at hmm
    subst hmm
    have each : ∀ i, i < len0 → ∃ a : Rc, ∃ nv, IL (fun i => i < w.heap.size) w nv a.needs ∧ wfR a ∧ ∀ j, j < 5 → w.cell? ((ad.add (i * 5)).add j) = (rcL nv a)[j]? := by
      intro i hi
      obtain ⟨cs', h1, h2⟩ := hx i (by omega)
      rw [cells43] at h1
      obtain ⟨_, hlen, hc⟩ := World.cells?_some h1
      obtain ⟨nv, a, rfl, h3, h4⟩ := rc_in hlen h2
      exact ⟨a, nv, h3, h4, hc⟩
    have ie : Inhabited Rc := ⟨r0⟩
    obtain ⟨q, hq⟩ := choose_lt each
    have hlr : ((List.range len0).map q).length = len0 := by simp
    refine ⟨(List.range len0).map q, ⟨some ad, m, by rw [hlr], by rw [hlr]; unfold maxLen at hm; omega, fun i a hi => ?_⟩, fun x hx => ?_⟩
    · have hil : i < len0 := by simpa using (List.getElem?_eq_some_iff.1 hi).1
      have ha : a = q i := by simp [hil] at hi; exact hi.symm
      subst ha
      obtain ⟨nv, h1, h2, h3⟩ := hq i hil
      obtain ⟨b, off, spot⟩ := ad
      have c00 := h3 0 (by omega)
      have hspot : spot = none := by
        obtain ⟨nv', _, _, h3'⟩ := hq 0 (by omega)
        have := World.cell?_spot ((h3' 0 (by omega)).trans (show (rcL nv' (q 0))[0]? = some nv' from rfl))
        simpa [Addr.add] using this
      subst hspot
      have hadd : ∀ (o j : Nat), (⟨b, o, none⟩ : Addr).add j = ⟨b, o + j, none⟩ := by intro o j; unfold Addr.add; split <;> simp_all
      rw [hadd, hadd] at c00
      refine ⟨b, off, nv, rfl, World.block_lt_of_cell? _ _ (c00.trans (show (rcL nv (q i))[0]? = some nv from rfl)), fun j u hj => ?_, h1⟩
      have hjn : j < 5 := (List.getElem?_eq_some_iff.1 hj).1
      have := h3 j hjn
      rw [hadd, hadd] at this
      exact this.trans hj
    · obtain ⟨i, hi, rfl⟩ := List.mem_map.1 hx
      obtain ⟨nv, h1, h2, h3⟩ := hq i (List.mem_range.1 hi)
      exact h2
/-- Numbers that came in. -/
theorem ints_open {r : Reach} {b0 : Nat} {v : Value} {d : DataW H} {p : List MemPlace} (hv : Value.okWide Try.prog w r b0 26 v) (h : DataW.Trod enc Try.prog w 0 (fun _ => true) true 26 v d p) :
    ∃ ns : List Int, IL (fun i => i < w.heap.size) w v ns ∧ ∀ x ∈ ns, wfI x := by
  obtain ⟨a0, len0, cap0, rfl⟩ := okWide_slice Try.underlying26 hv
  obtain ⟨fuel, hf⟩ := h
  obtain ⟨v', ns, e, h1, h2⟩ := needs_in hf
  simp [Value.cells] at e
  subst e
  exact ⟨ns, h1, h2⟩
end
end Go.Proofs.Ytgohfdgkihoilaa.Rcp
