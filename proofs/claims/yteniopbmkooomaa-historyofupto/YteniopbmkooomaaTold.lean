/-
  Proved: the statement HistoryOf (where what it reads is of bulk at most 1048576) answers true, and its argument reads behind the call as it read before.
-/
import Derived.Test.YteniopbmkooomaaRows
import Derived.Test.YteniopbmkooomaaOfLaw
import Derived.ProofKit
import Derived.OpenShut
import Derived.JoinedCond
import Derived.ChangeOld
import Derived.Lib.SmallJoins
import Derived.Deep.SlicePairs
namespace Go.Proofs.Yteniopbmkooomaa
open Go.ChangeShapes Go.WideShapes Go.ChangeAt Go.RowKit Go.Joins Go.Deep Hi

theorem own_knob : ownKnob Try.prog.godebug = none := by kernel_rfl
theorem laid_out : laidOutB Try.prog = true := by kernel_rfl
theorem cells3t : Try.prog.cellsOf 3 = 1 := by kernel_rfl
theorem cells26t : Try.prog.cellsOf 26 = 1 := by kernel_rfl
theorem cells39t : Try.prog.cellsOf 39 = 3 := by kernel_rfl
theorem cells59t : Try.prog.cellsOf 59 = 4 := by kernel_rfl
theorem cells31t : Try.prog.cellsOf 31 = 2 := by kernel_rfl
theorem cells45t : Try.prog.cellsOf 45 = 5 := by kernel_rfl
theorem cells60t : Try.prog.cellsOf 60 = 1 := by kernel_rfl
theorem cells61t : Try.prog.cellsOf 61 = 1 := by kernel_rfl

section
variable {H : Type} {enc : TypeId × Value → H} {w : World} {held : Bool}

theorem bulk_pos (d : DataW H) : 0 < Rows.uptoBulk d := by
  cases d with
  | lit l => cases l <;> simp [Rows.uptoBulk]
  | _ => simp [Rows.uptoBulk]
theorem bulk_in : ∀ (l : List (DataW H)) (d : DataW H), d ∈ l → Rows.uptoBulk d ≤ Rows.uptoBulkAll l
  | x :: r, d, h => by
    simp only [Rows.uptoBulkAll]
    rcases List.mem_cons.1 h with rfl | h
    · omega
    · have := bulk_in r d h; omega
theorem bulk_len : ∀ l : List (DataW H), l.length ≤ Rows.uptoBulkAll l
  | [] => Nat.zero_le _
  | x :: r => by
    have := bulk_len r
    have := bulk_pos x
    simp only [Rows.uptoBulkAll, List.length_cons]
    omega

theorem seq_open {α : Type} [Inhabited α] {t e : TypeId} {n : Nat} (R : List Value → α → Prop) (ht : Try.prog.underlying t = some (.slice e)) (ce : Try.prog.cellsOf e = n)
    (hel : ∀ fuel cs y, cs.length = n → DataW.trod enc Try.prog w 0 (fun _ => true) held fuel e cs = some y → Rows.uptoBulk y.1 ≤ 1048576 → ∃ a, R cs a)
    {fuel : Nat} {cs : List Value} {x : DataW H × List MemPlace} (h : DataW.trod enc Try.prog w 0 (fun _ => true) held fuel t cs = some x) (hb : Rows.uptoBulk x.1 ≤ 1048576) :
    ∃ (p : Option Addr) (cap : Nat) (l : List α), cs = [.slice p l.length cap] ∧ l.length ≤ cap ∧ cap ≤ maxLen ∧ l.length ≤ 1048576 ∧
      ∀ i a, l[i]? = some a → ∃ ad cs', p = some ad ∧ R cs' a ∧ cs'.length = n ∧ ∀ j, j < n → w.cell? ((ad.add (i * n)).add j) = cs'[j]? := by
  rcases open_slice ht h with ⟨rfl, rfl⟩ | ⟨ad, len, cap, m, k, D, Pl, rfl, _, hl, hm, hmm, rfl, hx⟩
  · exact ⟨none, 0, [], rfl, Nat.le_refl _, Nat.zero_le _, Nat.zero_le _, fun i a h => by simp at h⟩
  · simp only [if_true] at hmm
    subst hmm
    have hb' : Rows.uptoBulkAll ((List.range len).map D) + 1 ≤ 1048576 := by
      simp only [Rows.uptoBulk] at hb
      omega
    have each : ∀ i, i < len → ∃ a : α, ∃ cs', R cs' a ∧ cs'.length = n ∧ ∀ j, j < n → w.cell? ((ad.add (i * n)).add j) = cs'[j]? := by
      intro i hi
      obtain ⟨cs', h1, h2⟩ := hx i (by omega)
      rw [ce] at h1
      obtain ⟨_, hlen, hc⟩ := World.cells?_some h1
      have hD := bulk_in ((List.range len).map D) (D i) (List.mem_map.2 ⟨i, List.mem_range.2 hi, rfl⟩)
      obtain ⟨a, ha⟩ := hel _ _ _ hlen h2 (by show Rows.uptoBulk (D i) ≤ _; omega)
      exact ⟨a, cs', ha, hlen, hc⟩
    obtain ⟨q, hq⟩ := choose_lt each
    have hlb := bulk_len ((List.range len).map D)
    simp only [List.length_map, List.length_range] at hlb
    refine ⟨some ad, m, (List.range len).map q, by simp, by simpa using hl, hm, by simp; omega, fun i a hi => ?_⟩
    have hil : i < len := by simpa using (List.getElem?_eq_some_iff.1 hi).1
    have ha : a = q i := by simp [hil] at hi; exact hi.symm
    subst ha
    obtain ⟨cs', h1, h2, h3⟩ := hq i hil
    exact ⟨ad, cs', rfl, h1, h2, h3⟩

theorem sl_open {α : Type} [Inhabited α] {t e : TypeId} {n : Nat} {encA : α → List Value} (hn : 0 < n) (ht : Try.prog.underlying t = some (.slice e)) (ce : Try.prog.cellsOf e = n)
    (hel : ∀ fuel cs y, cs.length = n → DataW.trod enc Try.prog w 0 (fun _ => true) held fuel e cs = some y → ∃ a, cs = encA a)
    {fuel : Nat} {cs : List Value} {x : DataW H × List MemPlace} (h : DataW.trod enc Try.prog w 0 (fun _ => true) held fuel t cs = some x) (hb : Rows.uptoBulk x.1 ≤ 1048576) :
    ∃ v l, cs = [v] ∧ SL n encA w v l ∧ l.length ≤ 1048576 := by
  obtain ⟨p, cap, l, rfl, h1, h2, h3, h4⟩ := seq_open (fun cs a => cs = encA a) ht ce (fun f cs y hl hy _ => hel f cs y hl hy) h hb
  refine ⟨_, l, rfl, ⟨p, cap, rfl, h1, h2, fun i a hi => ?_⟩, h3⟩
  obtain ⟨ad, cs', rfl, rfl, hlen, hc⟩ := h4 i a hi
  obtain ⟨b, off, spot⟩ := ad
  have c0 := (hc 0 hn).trans (List.getElem?_eq_getElem (by omega))
  have hspot : spot = none := by
    have hi0 : 0 < l.length := by have := (List.getElem?_eq_some_iff.1 hi).1; omega
    obtain ⟨ad0, cs0, e0, _, hl0, hc0⟩ := h4 0 _ (List.getElem?_eq_getElem hi0)
    cases e0
    have := World.cell?_spot ((hc0 0 hn).trans (List.getElem?_eq_getElem (by omega)))
    simpa [Addr.add] using this
  subst hspot
  have hadd : ∀ (o j : Nat), (⟨b, o, none⟩ : Addr).add j = ⟨b, o + j, none⟩ := by intro o j; unfold Addr.add; split <;> simp_all
  rw [hadd, hadd] at c0
  refine ⟨b, off, rfl, World.block_lt_of_cell? _ _ c0, fun j u hj => ?_⟩
  have hjn : j < n := by rw [← hlen]; exact (List.getElem?_eq_some_iff.1 hj).1
  have := hc j hjn
  rw [hadd, hadd] at this
  exact this.trans hj

theorem ss_open {α : Type} [Inhabited α] {t t1 e : TypeId} {n : Nat} {encA : α → List Value} (hn : 0 < n) (ht0 : Try.prog.underlying t = some (.slice t1)) (ce1 : Try.prog.cellsOf t1 = 1) (ht : Try.prog.underlying t1 = some (.slice e)) (ce : Try.prog.cellsOf e = n)
    (hel : ∀ fuel cs y, cs.length = n → DataW.trod enc Try.prog w 0 (fun _ => true) held fuel e cs = some y → ∃ a, cs = encA a)
    {fuel : Nat} {cs : List Value} {x : DataW H × List MemPlace} (h : DataW.trod enc Try.prog w 0 (fun _ => true) held fuel t cs = some x) (hb : Rows.uptoBulk x.1 ≤ 1048576) :
    ∃ v ll, cs = [v] ∧ SS n encA w v ll ∧ ll.length ≤ 1048576 ∧ ∀ i, (ll.getD i []).length ≤ 1048576 := by
  obtain ⟨p, cap, l, rfl, h1, h2, h3, h4⟩ := seq_open (fun cs (l : List α) => ∃ v, cs = [v] ∧ SL n encA w v l ∧ l.length ≤ 1048576) ht0 ce1 (fun f cs y _ hy hbb => by
    obtain ⟨v, l, e1, e2, e3⟩ := sl_open hn ht ce hel hy hbb
    exact ⟨l, v, e1, e2, e3⟩) h hb
  refine ⟨_, l, rfl, ⟨p, cap, rfl, h1, h2, fun i a hi => ?_⟩, h3, fun i => ?_⟩
  · obtain ⟨ad, cs', rfl, ⟨v, rfl, hs, _⟩, hlen, hc⟩ := h4 i a hi
    obtain ⟨b, off, spot⟩ := ad
    have c0 : w.cell? (((⟨b, off, spot⟩ : Addr).add (i * 1)).add 0) = some v := hc 0 (by omega)
    have hspot : spot = none := by
      have hi0 : 0 < l.length := by have := (List.getElem?_eq_some_iff.1 hi).1; omega
      obtain ⟨ad0, cs0, e0, _, hl0, hc0⟩ := h4 0 _ (List.getElem?_eq_getElem hi0)
      cases e0
      have := World.cell?_spot ((hc0 0 (by omega)).trans (List.getElem?_eq_getElem (by omega)))
      simpa [Addr.add] using this
    subst hspot
    have hadd : ∀ (o j : Nat), (⟨b, o, none⟩ : Addr).add j = ⟨b, o + j, none⟩ := by intro o j; unfold Addr.add; split <;> simp_all
    rw [hadd, hadd, Nat.mul_one] at c0
    exact ⟨b, off, v, rfl, c0, hs⟩
  · rw [List.getD_eq_getElem?_getD]
    cases hi : l[i]? with
    | none => exact Nat.zero_le _
    | some a =>
      obtain ⟨_, _, _, ⟨_, _, _, h⟩, _⟩ := h4 i a hi
      exact h

set_option maxRecDepth 100000 in
theorem call_open : ∀ fuel cs (y : DataW H × List MemPlace), cs.length = 4 → DataW.trod enc Try.prog w 0 (fun _ => true) held fuel 59 cs = some y → ∃ a, cs = callL a := by
  intro fuel cs y hl h
  obtain ⟨xs, k, hk, hxy, _, hxl, hf⟩ := DataW.trod_struct Try.underlying59 h
  match xs, hxl, cs, hl with
  | [y0, y1, y2, y3], _, [c0, c1, c2, c3], _ =>
    have g0 := hf 0 _ rfl
    have g1 := hf 1 _ rfl
    have g2 := hf 2 _ rfl
    have g3 := hf 3 _ rfl
    simp [cells3t] at g0 g1 g2 g3
    obtain ⟨a0, e0, _, _⟩ := DataW.trod_int Try.underlying3 g0
    obtain ⟨a1, e1, _, _⟩ := DataW.trod_int Try.underlying3 g1
    obtain ⟨a2, e2, _, _⟩ := DataW.trod_int Try.underlying3 g2
    obtain ⟨a3, e3, _, _⟩ := DataW.trod_int Try.underlying3 g3
    simp at e0 e1 e2 e3
    subst e0 e1 e2 e3
    exact ⟨⟨a0, a1, a2, a3⟩, rfl⟩
set_option maxRecDepth 100000 in
theorem ans_open : ∀ fuel cs (y : DataW H × List MemPlace), cs.length = 2 → DataW.trod enc Try.prog w 0 (fun _ => true) held fuel 31 cs = some y → ∃ a, cs = ansL a := by
  intro fuel cs y hl h
  obtain ⟨xs, k, hk, hxy, _, hxl, hf⟩ := DataW.trod_struct Try.underlying31 h
  match xs, hxl, cs, hl with
  | [y0, y1], _, [c0, c1], _ =>
    have g0 := hf 0 _ rfl
    have g1 := hf 1 _ rfl
    simp [cells3t, cells26t] at g0 g1
    obtain ⟨a0, e0, _, _⟩ := DataW.trod_int Try.underlying26 g0
    obtain ⟨a1, e1, _, _⟩ := DataW.trod_int Try.underlying3 g1
    simp at e0 e1
    subst e0 e1
    exact ⟨(a0, a1), rfl⟩
set_option maxRecDepth 100000 in
theorem step_open : ∀ fuel cs (y : DataW H × List MemPlace), cs.length = 5 → DataW.trod enc Try.prog w 0 (fun _ => true) held fuel 45 cs = some y → ∃ a, cs = stepL a := by
  intro fuel cs y hl h
  obtain ⟨xs, k, hk, hxy, _, hxl, hf⟩ := DataW.trod_struct Try.underlying45 h
  match xs, hxl, cs, hl with
  | [y0, y1, y2, y3, y4], _, [c0, c1, c2, c3, c4], _ =>
    have g0 := hf 0 _ rfl
    have g1 := hf 1 _ rfl
    have g2 := hf 2 _ rfl
    have g3 := hf 3 _ rfl
    have g4 := hf 4 _ rfl
    simp [cells3t] at g0 g1 g2 g3 g4
    obtain ⟨a0, e0, _, _⟩ := DataW.trod_int Try.underlying3 g0
    obtain ⟨a1, e1, _, _⟩ := DataW.trod_int Try.underlying3 g1
    obtain ⟨a2, e2, _, _⟩ := DataW.trod_int Try.underlying3 g2
    obtain ⟨a3, e3, _, _⟩ := DataW.trod_int Try.underlying3 g3
    obtain ⟨a4, e4, _, _⟩ := DataW.trod_int Try.underlying3 g4
    simp at e0 e1 e2 e3 e4
    subst e0 e1 e2 e3 e4
    exact ⟨⟨a0, a1, a2, a3, a4⟩, rfl⟩
end

set_option maxRecDepth 100000 in
theorem of_contract (H : Type) (enc : TypeId × Value → H) (W : World) (base : Nat) (args : Array Value) (ds gs : List (DataW H)) (before : List MemPlace)
    (hval : ∀ (j : Nat) t v, Try.f4.params[j]? = some t → args[j]? = some v → Value.okWide Try.prog W .any base t v)
    (hW : DataW.Whole enc Try.prog Try.f4.params.toList Rows.historyOfSpec.vars false W args.toList ds gs before) (hk : Rows.uptoSmall H (ds ++ gs) = true) :
    Calls Try.prog 4 args W fun e W' => ∃ v, e = .returned v ∧ Rows.historyOfSpec.post enc Try.prog Try.f4 false true false false W args v W' := by
  have hW' := hW
  obtain ⟨p, q, hA0, hV, rfl, hfz, hnd⟩ := hW
  have hA : DataW.TrodAll enc Try.prog W 0 (fun _ => true) true Try.f4.params.toList args.toList ds p := hA0
  rw [Try.params4] at hA hval
  obtain ⟨v0, vs0, d0, ds0, p0, q0, hargs, rfl, rfl, h0, r0⟩ := trodAll_cons hA
  obtain ⟨rfl, rfl, rfl⟩ := trodAll_nil r0
  obtain rfl : args = #[v0] := by cases args; simp_all
  obtain ⟨rfl, rfl⟩ := trodVars_none hV
  have k0 := h0
  have lt0 : ∀ x ∈ p0, x.block < W.heap.size := by obtain ⟨m, hm⟩ := k0; exact DataW.trod_lt m _ _ _ hm
  have hbd : Rows.uptoBulkAll ([d0] ++ []) ≤ 1048576 := of_decide_eq_true hk
  obtain ⟨c0, c1, c2, y0, y1, y2, n, rfl, rfl, _, g0, g1, g2⟩ := open_agg3 Try.underlying39 (by kernel_rfl) cells39t (hval 0 39 v0 rfl rfl) h0
  simp only [List.append_nil, Rows.uptoBulkAll, Rows.uptoBulk] at hbd
  have ic : Inhabited Call := ⟨⟨0, 0, 0, 0⟩⟩
  have it : Inhabited Step := ⟨⟨0, 0, 0, 0, 0⟩⟩
  obtain ⟨sv, sc, es, hs, bn, bs⟩ := ss_open (encA := callL) (by decide) Try.underlying35 cells60t Try.underlying60 cells59t call_open g0 (by omega)
  obtain ⟨av, an, ea, ha, bm, ba⟩ := ss_open (encA := ansL) (by decide) Try.underlying36 cells61t Try.underlying61 cells31t ans_open g1 (by omega)
  obtain ⟨tv, tr, et, ht, bt⟩ := sl_open (encA := stepL) (by decide) Try.underlying37 cells45t step_open g2 (by omega)
  simp at es ea et
  subst es ea et
  clear hA0
  simp only [List.append_nil] at hW'
  refine (ofLaw_any _ _ _ sc an tr W hs ha ht bn bm bs ba bt).mono fun e W' ⟨he, bel⟩ => ?_
  subst he
  exact ⟨_, rfl, _, _, _, [], _, [], hW', trodAll_mk1 (shut_bool Try.underlying4 _),
    (trodAll_cons_mk (Below.trod laid_out (by kernel_rfl) (of_decide_eq_true (by kernel_rfl)) k0 bel lt0) trodAll_mk0), rfl, bel.frame _, fun h => by cases h⟩

set_option maxRecDepth 100000 in
theorem of_lifted (os : Os) (started : os.Started) (H : Type) (enc : TypeId × Value → H) (F : Stop.Interp) :
    ReturnsInHanded {} Try.checked os 4 .any ((Rows.OpenSpec.upto Rows.historyOfSpec).pre6 enc Try.prog Try.f4 Rows.historyOfUptoRow.domain false) (((Rows.OpenSpec.upto Rows.historyOfSpec).at F).post enc Try.prog Try.f4 false true false false) := by
  refine returnsInHanded_of_cond (C := Try.checked) (s := Rows.OpenSpec.upto Rows.historyOfSpec) (k := Rows.uptoSmall) rfl own_knob started (by kernel_rfl) Try.func4
    (OpenSpec.witness (enc := enc) (C := Try.checked) (s := Rows.OpenSpec.upto Rows.historyOfSpec) (k := Rows.uptoSmall) rfl false ⟨#[], #[.agg #[.slice none 0 0, .slice none 0 0, .slice none 0 0]], []⟩ 8 (by kernel_rfl) (by kernel_rfl) (by kernel_rfl)
      (x := ([.agg [.nil, .nil, .nil]], [], [])) (by kernel_rfl) rfl (by kernel_rfl)) ?_
  intro W base args ds gs before hval hW _ hk _
  exact of_contract H enc W base args ds gs before hval hW hk

theorem historyOf_holds : Rows.HistoryOfUptoSaid :=
  OpenClaim.holds_of_cond 4 Try.f4 rfl rfl rfl rfl rfl rfl rfl ⟨rfl, rfl, rfl, rfl, rfl⟩ rfl rfl rfl rfl rfl (by kernel_rfl) Try.func4 (by kernel_rfl)
    (of_decide_eq_true (by kernel_rfl)) (by unfold Func.isWrapper; first | (rw [if_pos (by decide +kernel)]; kernel_rfl) | (rw [if_neg (by decide +kernel)]; exact ⟨rfl, rfl⟩))
    (fun os started H enc _ F => of_lifted os started H enc F)

#print axioms historyOf_holds
end Go.Proofs.Yteniopbmkooomaa
