/- LatchCounts: whatever the schedule, the number and the scripts, what the calls are told and what the trace says of the number is as the law asks. Part 35 of 35. (Joined, by program, of: GOpens, La10Row.) -/
import Derived.Test.YtfjjoohflcchnaaLatchCounts27
import Derived.Test.YtfjjoohflcchnaaLatchCounts34
import Derived.Conc.LeavingOf
import Derived.ProofKit
import Derived.OpenShut
import Derived.ChangeOld
import Derived.SizedLaws
import Derived.Lib.SmallJoins
import Derived.Deep.SlicePairs
import Derived.Test.YtfjjoohflcchnaaRows
set_option linter.unusedSimpArgs false
set_option linter.unusedVariables false
namespace Go.Proofs.Ytfjjoohflcchnaa.Gen
open Go Go.Lift Go.Conc
open Go.ChangeShapes Go.WideShapes Go.ChangeAt Go.RowKit Go.Joins Go.Deep

theorem op_knob : ownKnob Try.prog.godebug = none := by kernel_rfl
theorem op_cells3 : Try.prog.cellsOf 3 = 1 := by kernel_rfl
theorem op_cells39 : Try.prog.cellsOf 39 = 4 := by kernel_rfl
theorem op_cells37 : Try.prog.cellsOf 37 = 1 := by kernel_rfl
theorem op_bytes3 : Try.prog.bytesOf 3 = 8 := by kernel_rfl
theorem op_bytes37 : Try.prog.bytesOf 37 = 24 := by kernel_rfl
def clV (c : Cl) : List Value := [I c.po, I c.ca, I c.cb, I c.cc]
theorem inr_of {n : Int} (h : (Lit.int .i64 n).wf = true) : InR n := by
  have := bounds_i64 h
  unfold InR
  omega

section
variable {H : Type} {enc : TypeId × Value → H} {w : World}
set_option maxRecDepth 100000 in
/-- A list of numbers that came in. -/
theorem ints_in {r : Reach} {b0 : Nat} {v : Value} {d : DataW H} {ps : List MemPlace} (hv : Value.okWide Try.prog w r b0 22 v) (h : DataW.Trod enc Try.prog w 0 (fun _ => true) true 22 v d ps) (hsz : ∀ elems spare, d = .slice elems spare → (elems.length + spare.length) * Try.prog.bytesOf 3 ≤ reachBytes) :
    ∃ (p : Option Addr) (cap b o : Nat) (xs : List Int), v = .slice p xs.length cap ∧ InI w p b o xs := by
  obtain ⟨a0, len0, cap0, rfl⟩ := okWide_slice Try.underlying22 hv
  obtain ⟨fuel, hf⟩ := h
  rcases open_ints Try.underlying22 Try.underlying3 op_cells3 hf with ⟨hcs, _⟩ | ⟨x, l, c, zs, hcs, _, hl, hm, hz, hx, hcell, hwf⟩
  · simp [Value.cells] at hcs
    obtain ⟨rfl, rfl, rfl⟩ := hcs
    exact ⟨none, 0, 0, 0, [], rfl, ⟨fun h => by simp at h, fun k x hk => by simp at hk, fun x hx => by simp at hx, Nat.zero_le _⟩⟩
  · simp [Value.cells] at hcs
    obtain ⟨rfl, rfl, rfl⟩ := hcs
    have hz' : zs.length = cap0 := by simpa using hz
    have ht : (zs.take len0).length = len0 := by rw [List.length_take]; omega
    have hb := hsz _ _ (congrArg Prod.fst hx)
    have hlz : ∀ (k : IntKind) (l : List Int), (ChangeShapes.lits (H := H) k l).length = l.length := fun k l => by simp [ChangeShapes.lits]
    rw [op_bytes3, hlz, hlz, ht] at hb
    have hlen : len0 ≤ 17592186043904 := by unfold reachBytes at hb; omega
    obtain ⟨b, off, spot⟩ := x
    by_cases h0 : len0 = 0
    · subst h0
      exact ⟨_, _, 0, 0, [], rfl, ⟨fun h => by simp at h, fun k x hk => by simp at hk, fun x hx => by simp at hx, Nat.zero_le _⟩⟩
    · have hspot : spot = none := by simpa [Addr.add] using World.cell?_spot (hcell 0 (by omega))
      subst hspot
      refine ⟨_, _, b, off, zs.take len0, by rw [ht], ⟨fun _ => rfl, fun i a hi => ?_, fun x hx => inr_of (hwf x (List.mem_of_mem_take hx)), by rw [ht]; exact hlen⟩⟩
      have hil : i < len0 := by have := (List.getElem?_eq_some_iff.1 hi).1; omega
      have hc := hcell i (by omega)
      have hadd : (⟨b, off, none⟩ : Addr).add i = ⟨b, off + i, none⟩ := by unfold Addr.add; split <;> simp_all
      rw [hadd] at hc
      have ha : zs.getD i 0 = a := by
        rw [List.getElem?_take_of_lt hil] at hi
        rw [List.getD_eq_getElem?_getD, hi]
        rfl
      rw [ha] at hc
      exact hc

set_option maxRecDepth 100000 in
theorem clV_open : ∀ fuel cs (y : DataW H × List MemPlace), cs.length = 4 → DataW.trod enc Try.prog w 0 (fun _ => true) true fuel 39 cs = some y → ∃ a, cs = clV a ∧ InR a.ca ∧ a.ok := by
  intro fuel cs y hl h
  obtain ⟨xs, k, hk, hxy, _, hxl, hf⟩ := DataW.trod_struct Try.underlying39 h
  match xs, hxl, cs, hl with
  | [y0, y1, y2, y3], _, [c0, c1, c2, c3], _ =>
    have g0 := hf 0 _ rfl
    have g1 := hf 1 _ rfl
    have g2 := hf 2 _ rfl
    have g3 := hf 3 _ rfl
    simp [op_cells3] at g0 g1 g2 g3
    obtain ⟨a0, e0, _, f0⟩ := DataW.trod_int Try.underlying3 g0
    obtain ⟨a1, e1, _, f1⟩ := DataW.trod_int Try.underlying3 g1
    obtain ⟨a2, e2, _, f2⟩ := DataW.trod_int Try.underlying3 g2
    obtain ⟨a3, e3, _, f3⟩ := DataW.trod_int Try.underlying3 g3
    simp at e0 e1 e2 e3
    subst e0 e1 e2 e3
    exact ⟨⟨a0, a1, a2, a3⟩, rfl, inr_of f1, inr_of f2, inr_of f3⟩

/-- A script that came in. -/
def Sc (w : World) (v : Value) (q : Option Addr × Nat × Nat × List Cl) : Prop :=
  v = .slice q.1 q.2.2.2.length q.2.1 ∧ (0 < q.2.2.2.length → q.1 = some ⟨q.2.2.1, roOf q.1, none⟩) ∧ (∀ (k : Nat) (c : Cl), q.2.2.2[k]? = some c → w.cell? ⟨q.2.2.1, roOf q.1 + k * 4, none⟩ = some (I c.po) ∧ w.cell? ⟨q.2.2.1, roOf q.1 + k * 4 + 1, none⟩ = some (I c.ca) ∧ w.cell? ⟨q.2.2.1, roOf q.1 + k * 4 + 2, none⟩ = some (I c.cb) ∧ w.cell? ⟨q.2.2.1, roOf q.1 + k * 4 + 3, none⟩ = some (I c.cc)) ∧ ∀ c ∈ q.2.2.2, InR c.ca ∧ c.ok
set_option maxRecDepth 100000 in
theorem script_in {fuel : Nat} {cs : List Value} {y : DataW H × List MemPlace} (h : DataW.trod enc Try.prog w 0 (fun _ => true) true fuel 37 cs = some y) : ∃ v q, cs = [v] ∧ Sc w v q := by
  rcases open_slice Try.underlying37 h with ⟨hcs, hx⟩ | ⟨ad, len, cap, m, k, D, Pl, hcs, _, hl, hm, hmm, hxe, hx⟩
  · exact ⟨_, (none, 0, 0, []), hcs, rfl, fun h => by simp at h, fun k c h => by simp at h, fun c hc => by simp at hc⟩
  · simp only [if_true] at hmm
    subst hmm
    have each : ∀ i, i < len → ∃ a : Cl, (∀ j, j < 4 → w.cell? ((ad.add (i * 4)).add j) = (clV a)[j]?) ∧ InR a.ca ∧ a.ok := by
      intro i hi
      obtain ⟨cs', h1, h2⟩ := hx i (by omega)
      rw [op_cells39] at h1
      obtain ⟨_, hlen, hc⟩ := World.cells?_some h1
      obtain ⟨a, rfl, ha⟩ := clV_open _ _ _ hlen h2
      exact ⟨a, hc, ha⟩
    have ie : Inhabited Cl := ⟨⟨0, 0, 0, 0⟩⟩
    obtain ⟨q, hq⟩ := choose_lt each
    obtain ⟨b, off, spot⟩ := ad
    by_cases h0 : len = 0
    · subst h0
      exact ⟨_, (some ⟨b, off, spot⟩, m, 0, []), hcs, rfl, fun h => by simp at h, fun k c h => by simp at h, fun c hc => by simp at hc⟩
    · have c01 : w.cell? (((⟨b, off, spot⟩ : Addr).add (0 * 4)).add 0) = some (I (q 0).po) := (hq 0 (by omega)).1 0 (by omega)
      have hspot : spot = none := by
        have := World.cell?_spot c01
        simpa [Addr.add] using this
      subst hspot
      have hadd : ∀ (o j : Nat), (⟨b, o, none⟩ : Addr).add j = ⟨b, o + j, none⟩ := by intro o j; unfold Addr.add; split <;> simp_all
      refine ⟨_, (some ⟨b, off, none⟩, m, b, (List.range len).map q), hcs, ?_, fun _ => rfl, fun i a hi => ?_, fun c hc => ?_⟩
      · simp
      · have hil : i < len := by simpa using (List.getElem?_eq_some_iff.1 hi).1
        have ha : a = q i := by simp [hil] at hi; exact hi.symm
        subst ha
        have k0 := (hq i hil).1 0 (by omega)
        have k1 := (hq i hil).1 1 (by omega)
        have k2 := (hq i hil).1 2 (by omega)
        have k3 := (hq i hil).1 3 (by omega)
        rw [hadd, hadd] at k0 k1 k2 k3
        exact ⟨k0, k1, k2, k3⟩
      · obtain ⟨i, hi, rfl⟩ := List.mem_map.1 hc
        exact (hq i (List.mem_range.1 hi)).2
set_option maxRecDepth 100000 in
/-- Scripts that came in. -/
theorem scripts_in {r : Reach} {b0 : Nat} {v : Value} {d : DataW H} {ps : List MemPlace} (hv : Value.okWide Try.prog w r b0 23 v) (h : DataW.Trod enc Try.prog w 0 (fun _ => true) true 23 v d ps) (hsz : ∀ elems spare, d = .slice elems spare → (elems.length + spare.length) * Try.prog.bytesOf 37 ≤ reachBytes) :
    ∃ (p : Option Addr) (b o n cap : Nat) (pc : Nat → Option Addr) (ln cp rb : Nat → Nat) (cl : Nat → List Cl), v = .slice p n cap ∧ InS w p b o n pc ln cp rb cl := by
  obtain ⟨a0, len0, cap0, rfl⟩ := okWide_slice Try.underlying23 hv
  obtain ⟨fuel, hf⟩ := h
  have nothing : ∀ p cap, ∃ (p' : Option Addr) (b o n cap' : Nat) (pc : Nat → Option Addr) (ln cp rb : Nat → Nat) (cl : Nat → List Cl), (Value.slice p 0 cap) = .slice p' n cap' ∧ InS w p' b o n pc ln cp rb cl := fun p cap =>
    ⟨p, 0, 0, 0, cap, fun _ => none, fun _ => 0, fun _ => 0, fun _ => 0, fun _ => [], rfl, ⟨fun h => by omega, fun k hk => by omega, fun k hk => by omega, fun k hk => by omega, fun k hk => by omega, fun k hk => by omega, Nat.zero_le _⟩⟩
  rcases open_slice Try.underlying23 hf with ⟨hcs, _⟩ | ⟨ad, len, cap, m, k, D, Pl, hcs, _, hl, hm, hmm, hxe, hx⟩
  · simp [Value.cells] at hcs
    obtain ⟨rfl, rfl, rfl⟩ := hcs
    exact nothing _ _
  · simp [Value.cells] at hcs
    obtain ⟨rfl, rfl, rfl⟩ := hcs
    simp only [if_true] at hmm
    subst hmm
    have hb := hsz _ _ (congrArg Prod.fst hxe)
    rw [op_bytes37] at hb
    simp only [List.length_map, List.length_range] at hb
    have hlen : len0 ≤ 17592186043904 := by unfold reachBytes at hb; omega
    have each : ∀ i, i < len0 → ∃ q : Option Addr × Nat × Nat × List Cl, ∃ v, w.cell? ((ad.add (i * 1)).add 0) = some v ∧ Sc w v q := by
      intro i hi
      obtain ⟨cs', h1, h2⟩ := hx i (by omega)
      rw [op_cells37] at h1
      obtain ⟨_, hlen, hc⟩ := World.cells?_some h1
      obtain ⟨v, q, rfl, hq⟩ := script_in h2
      exact ⟨q, v, hc 0 (by omega), hq⟩
    have ie : Inhabited (Option Addr × Nat × Nat × List Cl) := ⟨(none, 0, 0, [])⟩
    obtain ⟨q, hq⟩ := choose_lt each
    obtain ⟨b, off, spot⟩ := ad
    by_cases h0 : len0 = 0
    · subst h0
      exact nothing _ _
    · obtain ⟨v0, hv0, _⟩ := hq 0 (by omega)
      have hspot : spot = none := by
        have := World.cell?_spot hv0
        simpa [Addr.add] using this
      subst hspot
      have hadd : ∀ (o j : Nat), (⟨b, o, none⟩ : Addr).add j = ⟨b, o + j, none⟩ := by intro o j; unfold Addr.add; split <;> simp_all
      refine ⟨some ⟨b, off, none⟩, b, off, len0, _, fun i => (q i).1, fun i => (q i).2.2.2.length, fun i => (q i).2.1, fun i => (q i).2.2.1, fun i => (q i).2.2.2, rfl, ⟨fun _ => rfl, fun i hi => ?_, fun _ _ => rfl, fun i hi h => ?_, fun i hi k c hc => ?_, fun i hi c hc => ?_, hlen⟩⟩
      · obtain ⟨v, h1, h2⟩ := hq i hi
        rw [hadd, hadd, Nat.mul_one, h2.1] at h1
        exact h1
      · obtain ⟨v, h1, h2⟩ := hq i hi
        exact h2.2.1 h
      · obtain ⟨v, h1, h2⟩ := hq i hi
        exact h2.2.2.1 k c hc
      · obtain ⟨v, h1, h2⟩ := hq i hi
        exact h2.2.2.2 c hc
end

theorem grows_frame {W w' : World} (h : Grows W w') (may : MemPlace → Prop) : W.keptBut w' may := by
  refine ⟨h.os, h.output, fun i hi => ?_⟩
  rw [h.old i hi]
  split <;> simp_all
theorem grows_same {W w' : World} (h : Grows W w') {p : MemPlace} (hp : p.block < W.heap.size) : W.sameAt w' p := by
  cases p with
  | cell b o => exact World.cell?_of_block (w := W) (h.old b hp)
  | map b => exact h.old b hp
theorem op_laid : laidOutB Try.prog = true := by kernel_rfl
theorem grows_trod {H : Type} {enc : TypeId × Value → H} {t : TypeId} (hr : Try.prog.readableRec t = true) (hrow : t < Try.prog.types.size) {W W' : World} {v : Value} {d : DataW H} {ps : List MemPlace}
    (h : DataW.Trod enc Try.prog W 0 (fun _ => true) true t v d ps) (hb : Grows W W') (hlt : ∀ x ∈ ps, x.block < W.heap.size) :
    DataW.Trod enc Try.prog W' 0 (fun b => decide (b < W.heap.size)) true t v d ps :=
  WideElems.Trod_stays op_laid hr hrow h (fun x hx => grows_same hb (hlt x hx)) (fun x hx => by simpa using hlt x hx)
end Go.Proofs.Ytfjjoohflcchnaa.Gen

namespace Go.Proofs.Ytfjjoohflcchnaa
open Go Go.Lift Go.Conc
open Go.ChangeShapes Go.WideShapes Go.ChangeAt Go.RowKit Go.Joins Go.Deep
open Gen

set_option maxRecDepth 100000 in
theorem latchCounts_lifted (os : Os) (started : os.Started) (H : Type) (enc : TypeId × Value → H) :
    ReturnsInLeavingWide {} Try.checked os 10 .any (Rows.latchCountsSpec.pre6 enc Try.prog Try.f10 Rows.latchCountsRow.domain false) (Rows.latchCountsSpec.post enc Try.prog Try.f10 false true false false) := by
  refine returnsInLeavingWide_of_change_sized (C := Try.checked) op_knob started Try.func10
    (ChangeSpec.witness6 (enc := enc) (C := Try.checked) false ⟨#[], #[.slice none 0 0, .int .i64 0, .slice none 0 0], []⟩ 8 (by kernel_rfl) (by kernel_rfl) (by kernel_rfl) (by kernel_rfl)) ?_
  intro W base args ds gs before hval0 hW _ hsz0 _
  have hval : ∀ (j : Nat) t v, Try.f10.params[j]? = some t → args[j]? = some v → Value.okWide Try.prog W .any base t v := hval0
  have hW' := hW
  obtain ⟨p, q, hA0, hV, rfl, _, _⟩ := hW
  have hA : DataW.TrodAll enc Try.prog W 0 (fun _ => true) true Try.f10.params.toList args.toList ds p := hA0
  have hsz : (DataW.weightsEach Try.prog (Try.f10.params.toList ++ Rows.latchCountsSpec.plain.varTypes Try.prog) (ds ++ gs)).all (· ≤ reachBytes) = true := hsz0
  rw [Try.params10] at hA hval hsz
  obtain ⟨v0, vs0, d0, ds0, p0, q0, hargs, rfl, rfl, h0, r0⟩ := trodAll_cons hA
  obtain ⟨v1, vs1, d1, ds1, p1, q1, rfl, rfl, rfl, h1, r1⟩ := trodAll_cons r0
  obtain ⟨v2, vs2, d2, ds2, p2, q2, rfl, rfl, rfl, h2, r2⟩ := trodAll_cons r1
  obtain ⟨rfl, rfl, rfl⟩ := trodAll_nil r2
  obtain rfl : args = #[v0, v1, v2] := by cases args; simp_all
  obtain ⟨rfl, rfl⟩ := trodVars_none hV
  have k0 := h0
  have k1 := h1
  have k2 := h2
  have lt0 : ∀ x ∈ p0, x.block < W.heap.size := by obtain ⟨m, hm⟩ := k0; exact DataW.trod_lt m _ _ _ hm
  have lt1 : ∀ x ∈ p1, x.block < W.heap.size := by obtain ⟨m, hm⟩ := k1; exact DataW.trod_lt m _ _ _ hm
  have lt2 : ∀ x ∈ p2, x.block < W.heap.size := by obtain ⟨m, hm⟩ := k2; exact DataW.trod_lt m _ _ _ hm
  obtain ⟨sp, scap, sb, so, sched, e0, hS⟩ := ints_in (hval 0 22 v0 rfl rfl) h0 (fun el sp e => sized_slice hsz (j := 0) rfl (by rw [e]; rfl) Try.underlying22)
  obtain ⟨x0, hx0, j1, j2, j3⟩ := open_int Try.underlying3 (hval 1 3 v1 rfl rfl) h1
  obtain ⟨cp0, b, o, n, cap, pc, ln, cp, rb, cl, e2, hC⟩ := scripts_in (hval 2 23 v2 rfl rfl) h2 (fun el sp e => sized_slice hsz (j := 2) rfl (by rw [e]; rfl) Try.underlying23)
  clear hA0 hval0 hsz0
  subst e0 hx0 e2
  simp only [List.append_nil] at hW'
  obtain ⟨M, last, o', w', t', g1, g2, g3, g4⟩ := run10 (scap := scap) (cap := cap) W x0 (by have := inr_of j3; unfold InR at this; omega) hS hC
  refine ⟨M, last, o', w', t', g1, g2, g3, g4.mono fun v hF => ?_⟩
  obtain ⟨rfl, bel⟩ : PostT W v w' := hF
  exact ⟨_, _, _, [], _, [], hW', trodAll_mk1 (shut_bool Try.underlying4 _),
    (trodAll_cons_mk (grows_trod (by kernel_rfl) (of_decide_eq_true (by kernel_rfl)) k0 bel lt0)
    (trodAll_cons_mk (grows_trod (by kernel_rfl) (of_decide_eq_true (by kernel_rfl)) k1 bel lt1)
    (trodAll_cons_mk (grows_trod (by kernel_rfl) (of_decide_eq_true (by kernel_rfl)) k2 bel lt2) trodAll_mk0))), rfl, grows_frame bel _, fun h => by cases h⟩

theorem latchCounts_holds : Rows.LatchCountsSaid :=
  OpenClaim.holds_of_wide_leaving 10 Try.f10 rfl rfl rfl rfl rfl rfl rfl ⟨rfl, rfl, rfl, rfl, rfl⟩ rfl rfl rfl rfl rfl (by kernel_rfl) Try.func10 (by kernel_rfl)
    (of_decide_eq_true (by kernel_rfl)) (by unfold Func.isWrapper; first | (rw [if_pos (by decide +kernel)]; kernel_rfl) | (rw [if_neg (by decide +kernel)]; exact ⟨rfl, rfl⟩))
    (fun os started H enc _ => latchCounts_lifted os started H enc)

#print axioms latchCounts_holds
end Go.Proofs.Ytfjjoohflcchnaa
