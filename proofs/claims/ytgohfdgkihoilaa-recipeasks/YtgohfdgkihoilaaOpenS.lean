/- Recipes and numbers that came in are opened, with bounds of their lengths by bytes. -/
import Derived.Test.YtgohfdgkihoilaaOpen
import Derived.SizedLaws
set_option linter.unusedSimpArgs false
set_option linter.unusedVariables false
namespace Go.Proofs.Ytgohfdgkihoilaa.Rcp
open Go.ChangeShapes Go.WideShapes Go.ChangeAt Go.RowKit Go.Joins Go.Deep
section
variable {H : Type} {enc : TypeId × Value → H} {w : World}
theorem bytes3 : Try.prog.bytesOf 3 = 8 := by kernel_rfl
theorem bytes43 : Try.prog.bytesOf 43 = 56 := by kernel_rfl
theorem weightsAll_mem {e : TypeId} {x : DataW H} {n : Nat} : ∀ {l : List (DataW H)}, x ∈ l → n ∈ x.weights Try.prog e → n ∈ DataW.weightsAll Try.prog e l
  | y :: r, h, hn => by
    simp only [DataW.weightsAll]
    rcases List.mem_cons.1 h with rfl | h
    · exact List.mem_append_left _ hn
    · exact List.mem_append_right _ (weightsAll_mem h hn)
theorem slice_S {t e : TypeId} (ht : Try.prog.underlying t = some (.slice e)) {fuel : Nat} {p : Option Addr} {len cap : Nat} {x : DataW H × List MemPlace} (h : DataW.trod enc Try.prog w 0 (fun _ => true) true fuel t [.slice p len cap] = some x) (hwt : ∀ n ∈ DataW.weights Try.prog t x.1, n ≤ reachBytes) : len * Try.prog.bytesOf e ≤ reachBytes := by
  rcases open_slice ht h with ⟨e1, rfl⟩ | ⟨ad, len', cap', m, k, D, Pl, e1, _, hl, hm, hmm, rfl, hx⟩
  · simp at e1
    obtain ⟨rfl, rfl, rfl⟩ := e1
    simp
  · simp at e1
    obtain ⟨rfl, rfl, rfl⟩ := e1
    refine Nat.le_trans ?_ (hwt _ (by simp only [DataW.weights, ht]; exact List.mem_cons_self))
    exact Nat.mul_le_mul_right _ (by simp)
set_option maxRecDepth 100000 in
theorem rc_inS {fuel : Nat} {cs : List Value} {y : DataW H × List MemPlace} (hl : cs.length = 5) (h : DataW.trod enc Try.prog w 0 (fun _ => true) true fuel 43 cs = some y) (hwt : ∀ n ∈ DataW.weights Try.prog 43 y.1, n ≤ reachBytes) : ∃ nv r, cs = rcL nv r ∧ IL (fun i => i < w.heap.size) w nv r.needs ∧ wfR r ∧ r.needs.length ≤ 17592186044416 := by
  obtain ⟨xs, k, hk, hxy, _, hxl, hf⟩ := DataW.trod_struct Try.underlying43 h
  match xs, hxl, cs, hl with
  | [y0, y1, y2, y3, y4], _, [c0, c1, c2, c3, c4], _ =>
    have g0 := hf 0 _ rfl
    have g1 := hf 1 _ rfl
    have g2 := hf 2 _ rfl
    have g3 := hf 3 _ rfl
    have g4 := hf 4 _ rfl
    simp [cells3, cells26] at g0 g1 g2 g3 g4
    obtain ⟨a1, e1, _, f1⟩ := DataW.trod_int Try.underlying3 g1
    obtain ⟨a2, e2, _, f2⟩ := DataW.trod_int Try.underlying3 g2
    obtain ⟨a3, e3, _, f3⟩ := DataW.trod_int Try.underlying3 g3
    obtain ⟨a4, e4, _, f4⟩ := DataW.trod_int Try.underlying3 g4
    simp at e1 e2 e3 e4
    subst e1 e2 e3 e4
    obtain ⟨v, ns, e0, hn, hw⟩ := needs_in g0
    cases e0
    refine ⟨_, ⟨ns, a1, a2, a3, a4⟩, rfl, hn, ⟨wf_of f1, wf_of f2, wf_of f3, wf_of f4, hw⟩, ?_⟩
    obtain ⟨pp, pc, e, -, -⟩ := hn
    subst e
    have hb := slice_S Try.underlying26 g0 (fun n hn => hwt n (by
      rw [hxy]
      simp only [DataW.weights, Try.underlying43, List.map]
      simp [DataW.weightsEach, hn]))
    rw [bytes3] at hb
    show ns.length ≤ _
    unfold reachBytes at hb
    omega

set_option maxRecDepth 100000 in
/-- Recipes that came in. -/
theorem rcs_openS {r : Reach} {b0 : Nat} {v : Value} {d : DataW H} {p : List MemPlace} (hv : Value.okWide Try.prog w r b0 25 v) (h : DataW.Trod enc Try.prog w 0 (fun _ => true) true 25 v d p) (hwt : ∀ n ∈ DataW.weights Try.prog 25 d, n ≤ reachBytes) :
    ∃ l : List Rc, RL (fun i => i < w.heap.size) w v l ∧ (∀ x ∈ l, wfR x) ∧ l.length ≤ 2600000000000 ∧ ∀ x ∈ l, x.needs.length ≤ 17592186044416 := by
  obtain ⟨a0, len0, cap0, rfl⟩ := okWide_slice Try.underlying25 hv
  obtain ⟨fuel, hf⟩ := h
  rcases open_slice Try.underlying25 hf with ⟨hcs, hx⟩ | ⟨ad, len, cap, m, k, D, Pl, hcs, _, hl, hm, hmm, hxe, hx0⟩
  · simp [Value.cells] at hcs
    obtain ⟨rfl, rfl, rfl⟩ := hcs
    exact ⟨[], ⟨none, 0, rfl, by simp, fun i a h => by simp at h⟩, by simp, by simp, by simp⟩
  · simp [Value.cells] at hcs
    obtain ⟨rfl, rfl, rfl⟩ := hcs
    simp only [if_true] at hmm
    subst hmm
    have each : ∀ i, i < len0 → ∃ a : Rc, ∃ nv, IL (fun i => i < w.heap.size) w nv a.needs ∧ wfR a ∧ a.needs.length ≤ 17592186044416 ∧ ∀ j, j < 5 → w.cell? ((ad.add (i * 5)).add j) = (rcL nv a)[j]? := by
      intro i hi
      obtain ⟨cs', h1, h2⟩ := hx0 i (by omega)
      rw [cells43] at h1
      obtain ⟨_, hlen, hc⟩ := World.cells?_some h1
      obtain ⟨nv, a, rfl, h3, h4, h5⟩ := rc_inS hlen h2 (fun n hn => hwt n (by
        injection hxe with hxe _
        rw [hxe]
        simp only [DataW.weights, Try.underlying25]
        exact List.mem_cons_of_mem _ (List.mem_append_left _ (weightsAll_mem (List.mem_map.2 ⟨i, List.mem_range.2 (by omega), rfl⟩) hn))))
      exact ⟨a, nv, h3, h4, h5, hc⟩
    have ie : Inhabited Rc := ⟨r0⟩
    obtain ⟨q, hq⟩ := choose_lt each
    have hlr : ((List.range len0).map q).length = len0 := by simp
    refine ⟨(List.range len0).map q, ⟨some ad, m, by rw [hlr], by rw [hlr]; unfold maxLen at hm; omega, fun i a hi => ?_⟩, fun x hx => ?_, ?_, fun x hx => ?_⟩
    · have hil : i < len0 := by simpa using (List.getElem?_eq_some_iff.1 hi).1
      have ha : a = q i := by simp [hil] at hi; exact hi.symm
      subst ha
      obtain ⟨nv, h1, h2, hB, h3⟩ := hq i hil
      obtain ⟨b, off, spot⟩ := ad
      have c00 := h3 0 (by omega)
      have hspot : spot = none := by
        obtain ⟨nv', _, _, _, h3'⟩ := hq 0 (by omega)
        have := World.cell?_spot ((h3' 0 (by omega)).trans (show (rcL nv' (q 0))[0]? = some nv' from rfl))
        simpa [Addr.add] using this
      subst hspot
      have hadd : ∀ (o j : Nat), (⟨b, o, none⟩ : Addr).add j = ⟨b, o + j, none⟩ := by intro o j; unfold Addr.add; split <;> simp_all
      rw [hadd, hadd] at c00
      refine ⟨b, off, nv, rfl, World.block_lt_of_cell? _ _ (c00.trans (show (rcL nv (q i))[0]? = some nv from rfl)), fun j u hj => ?_, h1⟩
      have hjn : j < 5 := (List.getElem?_eq_some_iff.1 hj).1
      have := h3 j hjn
      rw [hadd, hadd] at this
      exact this.trans hj
    · obtain ⟨i, hi, rfl⟩ := List.mem_map.1 hx
      obtain ⟨nv, h1, h2, hB, h3⟩ := hq i (List.mem_range.1 hi)
      exact h2
    · rw [hlr]
      have hb := slice_S Try.underlying25 (x := (d, p)) (by simpa [Value.cells] using hf) hwt
      rw [bytes43] at hb
      unfold reachBytes at hb
      omega
    · obtain ⟨i, hi, rfl⟩ := List.mem_map.1 hx
      obtain ⟨nv, h1, h2, hB, h3⟩ := hq i (List.mem_range.1 hi)
      exact hB
theorem ints_openS {r : Reach} {b0 : Nat} {v : Value} {d : DataW H} {p : List MemPlace} (hv : Value.okWide Try.prog w r b0 26 v) (h : DataW.Trod enc Try.prog w 0 (fun _ => true) true 26 v d p) (hwt : ∀ n ∈ DataW.weights Try.prog 26 d, n ≤ reachBytes) :
    ∃ ns : List Int, IL (fun i => i < w.heap.size) w v ns ∧ (∀ x ∈ ns, wfI x) ∧ ns.length ≤ 17592186044416 := by
  obtain ⟨ns, h1, h2⟩ := ints_open hv h
  refine ⟨ns, h1, h2, ?_⟩
  obtain ⟨pp, pc, rfl, -, -⟩ := h1
  obtain ⟨fuel, hf⟩ := h
  have hb := slice_S Try.underlying26 (x := (d, p)) (by simpa [Value.cells] using hf) hwt
  rw [bytes3] at hb
  unfold reachBytes at hb
  omega
end
end Go.Proofs.Ytgohfdgkihoilaa.Rcp
