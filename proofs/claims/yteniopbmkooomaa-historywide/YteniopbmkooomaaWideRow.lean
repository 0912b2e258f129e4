/-
  Proved: the statement HistoryWide answers true for every object, start, list of events and numbers, and each argument reads behind the call as it read before; no conditions.
-/
import Derived.Test.YteniopbmkooomaaRows
import Derived.Test.YteniopbmkooomaaWideW
import Derived.ProofKit
import Derived.OpenShut
import Derived.ChangeOld
import Derived.Lib.SmallJoins
import Derived.Deep.SlicePairs
namespace Go.Proofs.Yteniopbmkooomaa
open Go.ChangeShapes Go.WideShapes Go.ChangeAt Go.RowKit Go.Joins Go.Deep Hi

theorem wr_knob : ownKnob Try.prog.godebug = none := by kernel_rfl
theorem wr_cells3 : Try.prog.cellsOf 3 = 1 := by kernel_rfl
theorem wr_cells26 : Try.prog.cellsOf 26 = 1 := by kernel_rfl
theorem wr_cells31 : Try.prog.cellsOf 31 = 2 := by kernel_rfl
theorem wr_cells33 : Try.prog.cellsOf 33 = 8 := by kernel_rfl

theorem wf_fits {n : Int} (h : (Lit.int .i64 n).wf = true) : Fits n := by
  have e1 : IntKind.min .i64 = -9223372036854775808 := by decide
  have e2 : IntKind.max .i64 = 9223372036854775807 := by decide
  simp only [Lit.wf, e1, e2, Bool.and_eq_true, decide_eq_true_eq] at h
  unfold Fits
  omega

/-- An event of numbers that fit. -/
def FitsE (x : Ev) : Prop := Fits x.thr ∧ Fits x.op ∧ Fits x.a ∧ Fits x.b ∧ Fits x.beg ∧ Fits x.fin ∧ Fits x.code ∧ Fits x.val

section
variable {H : Type} {enc : TypeId × Value → H} {w : World} {held : Bool}

set_option maxRecDepth 100000 in
theorem ev_open : ∀ fuel cs (y : DataW H × List MemPlace), cs.length = 8 → DataW.trod enc Try.prog w 0 (fun _ => true) held fuel 33 cs = some y → ∃ a, cs = evL a ∧ FitsE a := by
  intro fuel cs y hl h
  obtain ⟨xs, k, hk, hxy, _, hxl, hf⟩ := DataW.trod_struct Try.underlying33 h
  match xs, hxl, cs, hl with
  | [y0, y1, y2, y3, y4, y5, y6], _, [c0, c1, c2, c3, c4, c5, c6, c7], _ =>
    have g0 := hf 0 _ rfl
    have g1 := hf 1 _ rfl
    have g2 := hf 2 _ rfl
    have g3 := hf 3 _ rfl
    have g4 := hf 4 _ rfl
    have g5 := hf 5 _ rfl
    have g6 := hf 6 _ rfl
    simp [wr_cells3, wr_cells31] at g0 g1 g2 g3 g4 g5 g6
    obtain ⟨a0, e0, _, f0⟩ := DataW.trod_int Try.underlying3 g0
    obtain ⟨a1, e1, _, f1⟩ := DataW.trod_int Try.underlying3 g1
    obtain ⟨a2, e2, _, f2⟩ := DataW.trod_int Try.underlying3 g2
    obtain ⟨a3, e3, _, f3⟩ := DataW.trod_int Try.underlying3 g3
    obtain ⟨a4, e4, _, f4⟩ := DataW.trod_int Try.underlying3 g4
    obtain ⟨a5, e5, _, f5⟩ := DataW.trod_int Try.underlying3 g5
    simp at e0 e1 e2 e3 e4 e5
    subst e0 e1 e2 e3 e4 e5
    obtain ⟨zs, k2, _, _, _, hzl, hg⟩ := DataW.trod_struct Try.underlying31 g6
    match zs, hzl with
    | [z0, z1], _ =>
      have q0 := hg 0 _ rfl
      have q1 := hg 1 _ rfl
      simp [wr_cells3, wr_cells26] at q0 q1
      obtain ⟨a6, e6, _, f6⟩ := DataW.trod_int Try.underlying26 q0
      obtain ⟨a7, e7, _, f7⟩ := DataW.trod_int Try.underlying3 q1
      simp at e6 e7
      subst e6 e7
      exact ⟨⟨a0, a1, a2, a3, a4, a5, a6, a7⟩, rfl, wf_fits f0, wf_fits f1, wf_fits f2, wf_fits f3, wf_fits f4, wf_fits f5, wf_fits f6, wf_fits f7⟩

set_option maxRecDepth 100000 in
/-- A list of events that came in. -/
theorem evs_open {r : Reach} {b0 : Nat} {v : Value} {d : DataW H} {p : List MemPlace} (hv : Value.okWide Try.prog w r b0 22 v) (h : DataW.Trod enc Try.prog w 0 (fun _ => true) held 22 v d p) :
    ∃ l : List Ev, SL 8 evL w v l ∧ ∀ x ∈ l, FitsE x := by
  obtain ⟨a0, len0, cap0, rfl⟩ := okWide_slice Try.underlying22 hv
  obtain ⟨fuel, hf⟩ := h
  rcases open_slice Try.underlying22 hf with ⟨hcs, hx⟩ | ⟨ad, len, cap, m, k, D, Pl, hcs, _, hl, hm, hmm, hxe, hx⟩
  · simp [Value.cells] at hcs
    obtain ⟨rfl, rfl, rfl⟩ := hcs
    exact ⟨[], ⟨none, 0, rfl, Nat.le_refl _, Nat.zero_le _, fun i a h => by simp at h⟩, by simp⟩
  · simp [Value.cells] at hcs
    obtain ⟨rfl, rfl, rfl⟩ := hcs
    simp only [if_true] at hmm
    subst hmm
    have each : ∀ i, i < len0 → ∃ a : Ev, FitsE a ∧ ∀ j, j < 8 → w.cell? ((ad.add (i * 8)).add j) = (evL a)[j]? := by
      intro i hi
      obtain ⟨cs', h1, h2⟩ := hx i (by omega)
      rw [wr_cells33] at h1
      obtain ⟨_, hlen, hc⟩ := World.cells?_some h1
      obtain ⟨a, rfl, ha⟩ := ev_open _ _ _ hlen h2
      exact ⟨a, ha, hc⟩
    have ie : Inhabited Ev := ⟨ev0⟩
    obtain ⟨q, hq⟩ := choose_lt each
    refine ⟨(List.range len0).map q, ⟨some ad, m, by simp, by simpa using hl, hm, fun i a hi => ?_⟩, fun x hx => ?_⟩
    · have hil : i < len0 := by simpa using (List.getElem?_eq_some_iff.1 hi).1
      have ha : a = q i := by simp [hil] at hi; exact hi.symm
      subst ha
      obtain ⟨b, off, spot⟩ := ad
      have c00 := ((hq 0 (by omega)).2 0 (by omega)).trans (List.getElem?_eq_getElem (by rw [len_ev]; decide))
      have hspot : spot = none := by
        have := World.cell?_spot c00
        simpa [Addr.add] using this
      subst hspot
      have hadd : ∀ (o j : Nat), (⟨b, o, none⟩ : Addr).add j = ⟨b, o + j, none⟩ := by intro o j; unfold Addr.add; split <;> simp_all
      rw [hadd, hadd] at c00
      refine ⟨b, off, rfl, World.block_lt_of_cell? _ _ c00, fun j u hj => ?_⟩
      have hjn : j < 8 := by have := (List.getElem?_eq_some_iff.1 hj).1; rwa [len_ev] at this
      have := (hq i hil).2 j hjn
      rw [hadd, hadd] at this
      exact this.trans hj
    · obtain ⟨i, hi, rfl⟩ := List.mem_map.1 hx
      exact (hq i (List.mem_range.1 hi)).1
end

set_option maxRecDepth 100000 in
theorem wide_lifted (os : Os) (started : os.Started) (H : Type) (enc : TypeId × Value → H) :
    ReturnsInHanded {} Try.checked os 6 .any (Rows.historyWideSpec.pre6 enc Try.prog Try.f6 Rows.historyWideRow.domain false) (Rows.historyWideSpec.post enc Try.prog Try.f6 false true false false) := by
  refine returnsInHanded_of_change (C := Try.checked) wr_knob started (by kernel_rfl) Try.func6
    (ChangeSpec.witness6 (enc := enc) (C := Try.checked) false ⟨#[], #[.int .i64 0, .int .i64 0, .slice none 0 0, .int .i64 0, .int .i64 0], []⟩ 8 (by kernel_rfl) (by kernel_rfl) (by kernel_rfl) (by kernel_rfl)) ?_
  intro W base args ds gs before hval0 hW hcnd _
  have hval : ∀ (j : Nat) t v, Try.f6.params[j]? = some t → args[j]? = some v → Value.okWide Try.prog W .any base t v := hval0
  have hW' := hW
  obtain ⟨p, q, hA0, hV, rfl, hfz, hnd⟩ := hW
  have hA : DataW.TrodAll enc Try.prog W 0 (fun _ => true) true Try.f6.params.toList args.toList ds p := hA0
  rw [Try.params6] at hA hval
  obtain ⟨v0, vs0, d0, ds0, p0, q0, hargs, rfl, rfl, h0, r0⟩ := trodAll_cons hA
  obtain ⟨v1, vs1, d1, ds1, p1, q1, rfl, rfl, rfl, h1, r1⟩ := trodAll_cons r0
  obtain ⟨v2, vs2, d2, ds2, p2, q2, rfl, rfl, rfl, h2, r2⟩ := trodAll_cons r1
  obtain ⟨v3, vs3, d3, ds3, p3, q3, rfl, rfl, rfl, h3, r3⟩ := trodAll_cons r2
  obtain ⟨v4, vs4, d4, ds4, p4, q4, rfl, rfl, rfl, h4, r4⟩ := trodAll_cons r3
  obtain ⟨rfl, rfl, rfl⟩ := trodAll_nil r4
  obtain rfl : args = #[v0, v1, v2, v3, v4] := by cases args; simp_all
  obtain ⟨rfl, rfl⟩ := trodVars_none hV
  have k0 := h0
  have k1 := h1
  have k2 := h2
  have k3 := h3
  have k4 := h4
  have lt0 : ∀ x ∈ p0, x.block < W.heap.size := by obtain ⟨m, hm⟩ := k0; exact DataW.trod_lt m _ _ _ hm
  have lt1 : ∀ x ∈ p1, x.block < W.heap.size := by obtain ⟨m, hm⟩ := k1; exact DataW.trod_lt m _ _ _ hm
  have lt2 : ∀ x ∈ p2, x.block < W.heap.size := by obtain ⟨m, hm⟩ := k2; exact DataW.trod_lt m _ _ _ hm
  have lt3 : ∀ x ∈ p3, x.block < W.heap.size := by obtain ⟨m, hm⟩ := k3; exact DataW.trod_lt m _ _ _ hm
  have lt4 : ∀ x ∈ p4, x.block < W.heap.size := by obtain ⟨m, hm⟩ := k4; exact DataW.trod_lt m _ _ _ hm
  obtain ⟨ob, hx0, _, _, _⟩ := open_int Try.underlying3 (hval 0 3 v0 rfl rfl) h0
  obtain ⟨st, hx1, _, _, f1⟩ := open_int Try.underlying3 (hval 1 3 v1 rfl rfl) h1
  obtain ⟨l, hsl, hfl⟩ := evs_open (hval 2 22 v2 rfl rfl) h2
  obtain ⟨wh, hx3, _, _, _⟩ := open_int Try.underlying3 (hval 3 3 v3 rfl rfl) h3
  obtain ⟨wi, hx4, _, _, f4⟩ := open_int Try.underlying3 (hval 4 3 v4 rfl rfl) h4
  clear hA0 hval0
  subst hx0 hx1 hx3 hx4
  refine (wide_any ob st wh wi (wf_fits f1) (wf_fits f4) v2 l W hsl (fun x hx => ⟨(hfl x hx).2.2.1, (hfl x hx).2.2.2.1, (hfl x hx).2.2.2.2.1, (hfl x hx).2.2.2.2.2.1⟩)).mono fun e W' ⟨he, bel⟩ => ?_
  subst he
  simp only [List.append_nil] at hW'
  exact ⟨_, rfl, _, _, _, [], _, [], hW', trodAll_mk1 (shut_bool Try.underlying4 _),
    (trodAll_cons_mk (Below.trod laidOut (by kernel_rfl) (of_decide_eq_true (by kernel_rfl)) k0 bel lt0)
    (trodAll_cons_mk (Below.trod laidOut (by kernel_rfl) (of_decide_eq_true (by kernel_rfl)) k1 bel lt1)
    (trodAll_cons_mk (Below.trod laidOut (by kernel_rfl) (of_decide_eq_true (by kernel_rfl)) k2 bel lt2)
    (trodAll_cons_mk (Below.trod laidOut (by kernel_rfl) (of_decide_eq_true (by kernel_rfl)) k3 bel lt3)
    (trodAll_cons_mk (Below.trod laidOut (by kernel_rfl) (of_decide_eq_true (by kernel_rfl)) k4 bel lt4) trodAll_mk0))))), rfl, bel.frame _, fun h => by cases h⟩

theorem historyWide_holds : Rows.HistoryWideSaid :=
  OpenClaim.holds_of_wide 6 Try.f6 rfl rfl rfl rfl rfl rfl rfl ⟨rfl, rfl, rfl, rfl, rfl⟩ rfl rfl rfl rfl rfl (by kernel_rfl) Try.func6 (by kernel_rfl)
    (of_decide_eq_true (by kernel_rfl)) (by unfold Func.isWrapper; first | (rw [if_pos (by decide +kernel)]; kernel_rfl) | (rw [if_neg (by decide +kernel)]; exact ⟨rfl, rfl⟩))
    (fun os started H enc _ => wide_lifted os started H enc)

#print axioms historyWide_holds
end Go.Proofs.Yteniopbmkooomaa
