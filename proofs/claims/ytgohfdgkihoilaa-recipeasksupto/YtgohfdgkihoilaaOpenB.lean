/- Recipes and numbers that came in are opened, with bounds of their lengths. -/
import Derived.Test.YtgohfdgkihoilaaOpen
import Derived.JoinedCond
set_option linter.unusedSimpArgs false
set_option linter.unusedVariables false
namespace Go.Proofs.Ytgohfdgkihoilaa.Rcp
open Go.ChangeShapes Go.WideShapes Go.ChangeAt Go.RowKit Go.Joins Go.Deep
section
variable {H : Type} {enc : TypeId × Value → H} {w : World}
theorem bulk_pos (d : DataW H) : 0 < Rows.uptoBulk d := by
  cases d with
  | lit l => cases l <;> simp [Rows.uptoBulk]
  | _ => simp [Rows.uptoBulk]
theorem bulk_in : ∀ (l : List (DataW H)) (d : DataW H), d ∈ l → Rows.uptoBulk d ≤ Rows.uptoBulkAll l
  | x :: r, d, h => by
    simp only [Rows.uptoBulkAll]
    rcases List.mem_cons.1 h with rfl | h
    · omega
    · have := bulk_in r d h; omega
theorem bulk_len : ∀ l : List (DataW H), l.length ≤ Rows.uptoBulkAll l
  | [] => Nat.zero_le _
  | x :: r => by
    have := bulk_len r
    have := bulk_pos x
    simp only [Rows.uptoBulkAll, List.length_cons]
    omega

theorem slice_bulk {t e : TypeId} (ht : Try.prog.underlying t = some (.slice e)) {fuel : Nat} {p : Option Addr} {len cap : Nat} {x : DataW H × List MemPlace} (h : DataW.trod enc Try.prog w 0 (fun _ => true) true fuel t [.slice p len cap] = some x) : len ≤ Rows.uptoBulk x.1 := by
  rcases open_slice ht h with ⟨e1, rfl⟩ | ⟨ad, len', cap', m, k, D, Pl, e1, _, hl, hm, hmm, rfl, hx⟩
  · simp at e1
    obtain ⟨rfl, rfl, rfl⟩ := e1
    exact Nat.zero_le _
  · simp at e1
    obtain ⟨rfl, rfl, rfl⟩ := e1
    have := bulk_len ((List.range len).map D)
    simp only [List.length_map, List.length_range] at this
    simp only [Rows.uptoBulk]
    omega
set_option maxRecDepth 100000 in
theorem rc_inB {fuel : Nat} {cs : List Value} {y : DataW H × List MemPlace} (hl : cs.length = 5) (h : DataW.trod enc Try.prog w 0 (fun _ => true) true fuel 43 cs = some y) : ∃ nv r, cs = rcL nv r ∧ IL (fun i => i < w.heap.size) w nv r.needs ∧ wfR r ∧ r.needs.length ≤ Rows.uptoBulk y.1 := by
  obtain ⟨xs, k, hk, hxy, _, hxl, hf⟩ := DataW.trod_struct Try.underlying43 h
  match xs, hxl, cs, hl with
  | [y0, y1, y2, y3, y4], _, [c0, c1, c2, c3, c4], _ =>
    have g0 := hf 0 _ rfl
    have g1 := hf 1 _ rfl
    have g2 := hf 2 _ rfl
    have g3 := hf 3 _ rfl
    have g4 := hf 4 _ rfl
    simp [cells3, cells26] at g0 g1 g2 g3 g4
    obtain ⟨a1, e1, _, f1⟩ := DataW.trod_int Try.underlying3 g1
    obtain ⟨a2, e2, _, f2⟩ := DataW.trod_int Try.underlying3 g2
    obtain ⟨a3, e3, _, f3⟩ := DataW.trod_int Try.underlying3 g3
    obtain ⟨a4, e4, _, f4⟩ := DataW.trod_int Try.underlying3 g4
    simp at e1 e2 e3 e4
    subst e1 e2 e3 e4
    obtain ⟨v, ns, e0, hn, hw⟩ := needs_in g0
    cases e0
    refine ⟨_, ⟨ns, a1, a2, a3, a4⟩, rfl, hn, ⟨wf_of f1, wf_of f2, wf_of f3, wf_of f4, hw⟩, ?_⟩
    obtain ⟨pp, pc, e, -, -⟩ := hn
    subst e
    have hb := slice_bulk Try.underlying26 g0
    rw [hxy]
    simp only [Rows.uptoBulk, Rows.uptoBulkAll, List.map]
    show ns.length ≤ _
    omega

set_option maxRecDepth 100000 in
/-- Recipes that came in. -/
theorem rcs_openB {r : Reach} {b0 : Nat} {v : Value} {d : DataW H} {p : List MemPlace} (hv : Value.okWide Try.prog w r b0 25 v) (h : DataW.Trod enc Try.prog w 0 (fun _ => true) true 25 v d p) :
    ∃ l : List Rc, RL (fun i => i < w.heap.size) w v l ∧ (∀ x ∈ l, wfR x) ∧ l.length ≤ Rows.uptoBulk d ∧ ∀ x ∈ l, x.needs.length ≤ Rows.uptoBulk d := by
  obtain ⟨a0, len0, cap0, rfl⟩ := okWide_slice Try.underlying25 hv
  obtain ⟨fuel, hf⟩ := h
  rcases open_slice Try.underlying25 hf with ⟨hcs, hx⟩ | ⟨ad, len, cap, m, k, D, Pl, hcs, _, hl, hm, hmm, hxe, hx0⟩
  · simp [Value.cells] at hcs
    obtain ⟨rfl, rfl, rfl⟩ := hcs
    exact ⟨[], ⟨none, 0, rfl, by simp, fun i a h => by simp at h⟩, by simp, by simp, by simp⟩
  · simp [Value.cells] at hcs
    obtain ⟨rfl, rfl, rfl⟩ := hcs
    simp only [if_true] at hmm
    subst hmm
    have each : ∀ i, i < len0 → ∃ a : Rc, ∃ nv, IL (fun i => i < w.heap.size) w nv a.needs ∧ wfR a ∧ a.needs.length ≤ Rows.uptoBulk (D i) ∧ ∀ j, j < 5 → w.cell? ((ad.add (i * 5)).add j) = (rcL nv a)[j]? := by
      intro i hi
      obtain ⟨cs', h1, h2⟩ := hx0 i (by omega)
      rw [cells43] at h1
      obtain ⟨_, hlen, hc⟩ := World.cells?_some h1
      obtain ⟨nv, a, rfl, h3, h4, h5⟩ := rc_inB hlen h2
      exact ⟨a, nv, h3, h4, h5, hc⟩
    have ie : Inhabited Rc := ⟨r0⟩
    obtain ⟨q, hq⟩ := choose_lt each
    have hlr : ((List.range len0).map q).length = len0 := by simp
    refine ⟨(List.range len0).map q, ⟨some ad, m, by rw [hlr], by rw [hlr]; unfold maxLen at hm; omega, fun i a hi => ?_⟩, fun x hx => ?_, ?_, fun x hx => ?_⟩
    · have hil : i < len0 := by simpa using (List.getElem?_eq_some_iff.1 hi).1
      have ha : a = q i := by simp [hil] at hi; exact hi.symm
      subst ha
      obtain ⟨nv, h1, h2, hB, h3⟩ := hq i hil
      obtain ⟨b, off, spot⟩ := ad
      have c00 := h3 0 (by omega)
      have hspot : spot = none := by
        obtain ⟨nv', _, _, _, h3'⟩ := hq 0 (by omega)
        have := World.cell?_spot ((h3' 0 (by omega)).trans (show (rcL nv' (q 0))[0]? = some nv' from rfl))
        simpa [Addr.add] using this
      subst hspot
      have hadd : ∀ (o j : Nat), (⟨b, o, none⟩ : Addr).add j = ⟨b, o + j, none⟩ := by intro o j; unfold Addr.add; split <;> simp_all
      rw [hadd, hadd] at c00
      refine ⟨b, off, nv, rfl, World.block_lt_of_cell? _ _ (c00.trans (show (rcL nv (q i))[0]? = some nv from rfl)), fun j u hj => ?_, h1⟩
      have hjn : j < 5 := (List.getElem?_eq_some_iff.1 hj).1
      have := h3 j hjn
      rw [hadd, hadd] at this
      exact this.trans hj
    · obtain ⟨i, hi, rfl⟩ := List.mem_map.1 hx
      obtain ⟨nv, h1, h2, hB, h3⟩ := hq i (List.mem_range.1 hi)
      exact h2
    · rw [hlr]
      exact slice_bulk Try.underlying25 (by simpa [Value.cells] using hf)
    · obtain ⟨i, hi, rfl⟩ := List.mem_map.1 hx
      obtain ⟨nv, h1, h2, hB, h3⟩ := hq i (List.mem_range.1 hi)
      have hD := bulk_in ((List.range len0).map D) (D i) (List.mem_map.2 ⟨i, hi, rfl⟩)
      have hd : Rows.uptoBulkAll ((List.range len0).map D) ≤ Rows.uptoBulk d := by
        injection hxe with hxe _
        rw [hxe]
        simp only [Rows.uptoBulk]
        omega
      omega
theorem ints_openB {r : Reach} {b0 : Nat} {v : Value} {d : DataW H} {p : List MemPlace} (hv : Value.okWide Try.prog w r b0 26 v) (h : DataW.Trod enc Try.prog w 0 (fun _ => true) true 26 v d p) :
    ∃ ns : List Int, IL (fun i => i < w.heap.size) w v ns ∧ (∀ x ∈ ns, wfI x) ∧ ns.length ≤ Rows.uptoBulk d := by
  obtain ⟨ns, h1, h2⟩ := ints_open hv h
  refine ⟨ns, h1, h2, ?_⟩
  obtain ⟨pp, pc, rfl, -, -⟩ := h1
  obtain ⟨fuel, hf⟩ := h
  exact slice_bulk Try.underlying26 (x := (d, p)) (by simpa [Value.cells] using hf)
end
end Go.Proofs.Ytgohfdgkihoilaa.Rcp
