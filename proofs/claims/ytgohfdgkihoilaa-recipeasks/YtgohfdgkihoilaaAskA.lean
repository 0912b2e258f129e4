/- What stands in memory while keys are asked for: how it turns. -/
import Derived.Test.YtgohfdgkihoilaaRing2
set_option linter.unusedSimpArgs false
set_option linter.unusedVariables false
namespace Go.Proofs.Ytgohfdgkihoilaa.Rcp
open Go Go.RowKit Go.Deep Go.Maps

abbrev CC (l : List Rc) : Nat → Prop := Can (nd l) (gives l) (vl l)
noncomputable abbrev VV (l : List Rc) : Nat → Int := val (nd l) (gives l) (vl l)
/-- How many keys are not begun. -/
noncomputable def left (l : List Rc) (s : St) : Nat := cnt l.length (fun i => s.bg i = false)
theorem left_beg {l : List Rc} {s : St} {k : Nat} (hk : k < l.length) (hb : s.bg k = false) : left l (s.beg k) < left l s :=
  cnt_lt (fun i _ h => by simp [St.beg] at h; exact h.2) hk (by simp [St.beg]) hb

section
variable {Z Z' : Nat → Prop} {l : List Rc} {lv : Value} {bb bu bg : Nat} {s s' : St} {w w' : World}
theorem MapM.congr {b n : Nat} {T T' : Int → Prop} {V V' : Int → Int} (h : MapM w b n T V) (e : ∀ k, T k ↔ T' k) (e2 : ∀ k, T' k → V k = V' k) : MapM w b n T' V' := by
  obtain ⟨D, hD, hU⟩ := h
  refine ⟨D, hD, fun k hk => ⟨(hU k hk).1.trans (e k), fun h => ?_, fun h => (hU k hk).2.2 (fun h' => h ((e k).1 h'))⟩⟩
  rw [← e2 k h]; exact (hU k hk).2.1 ((e k).2 h)
theorem BM.stay (h : BM Z l lv bb bu bg s w) (hb : ∀ i, i < w.heap.size → w'.heap[i]? = w.heap[i]?) (hs : w.heap.size ≤ w'.heap.size) : BM Z l lv bb bu bg s w' := by
  obtain ⟨⟨tv, hx, hO⟩, h1, h2, z1, z2, z3, n1, n2, n3, hl⟩ := h
  exact ⟨⟨tv, (hb _ hl).trans hx, hO.stay fun g hg => hb g (hO.lt g hg)⟩, h1.block (hb _ h1.lt), h2.block (hb _ h2.lt), z1, z2, z3, n1, n2, n3, Nat.lt_of_lt_of_le hl hs⟩
theorem BM.sub (h : BM Z' l lv bb bu bg s w) (hZ : ∀ i, Z i → Z' i) : BM Z l lv bb bu bg s w := by
  obtain ⟨⟨tv, hx, hO⟩, h1, h2, z1, z2, z3, n1, n2, n3, hl⟩ := h
  exact ⟨⟨tv, hx, hO.mono fun i hi => hi.elim (fun h => .inl (hZ i h)) .inr⟩, h1, h2, fun h => z1 (hZ _ h), fun h => z2 (hZ _ h), fun h => z3 (hZ _ h), n1, n2, n3, hl⟩
/-- A new block is kept besides. -/
theorem BM.more (h : BM Z l lv bb bu bg s w) (o : Obj) : BM (fun i => Z i ∨ i = w.heap.size) l lv bb bu bg s (w.alloc o) := by
  have hlt := h.lt
  have h' := h.stay (w' := w.alloc o) (fun i hi => Below.heap_alloc _ _ _ hi) (by simp)
  have l1 := h.un.lt
  have l2 := h.gi.lt
  obtain ⟨⟨tv, hx, hO⟩, h1, h2, z1, z2, z3, n1, n2, n3, hl⟩ := h
  obtain ⟨⟨tv', hx', hO'⟩, h1', h2', _, _, _, _, _, _, hl'⟩ := h'
  refine ⟨⟨tv, (Below.heap_alloc _ _ _ hlt).trans hx, ⟨(hO.stay fun g hg => Below.heap_alloc _ _ _ (hO.lt g hg)).1, fun g hg hz => ?_⟩⟩, h1', h2', fun h => h.elim z1 (by omega), fun h => h.elim z2 (by omega), fun h => h.elim z3 (by omega), n1, n2, n3, hl'⟩
  have := hO.lt g hg
  rcases hz with (hz | hz) | hz
  · exact hO.2 g hg (.inl hz)
  · omega
  · exact hO.2 g hg (.inr hz)
/-- Behind a take. -/
theorem BM.took (h : BM Z l lv bb bu bg s w) {key : Int} (hS : SetM w' bu l.length (fun k => (0 ≤ k ∧ k < l.length ∧ s.bg k.toNat = false) ∧ k ≠ key)) (hk : Kp (fun i => i < w.heap.size ∧ i ≠ bu) w w') (hbg : ∀ k : Int, 0 ≤ k → k < l.length → (s'.bg k.toNat = false ↔ s.bg k.toNat = false ∧ k ≠ key)) (htd : s'.td = s.td) : BM Z l lv bb bu bg s' w' := by
  have l2 := h.gi.lt
  obtain ⟨⟨tv, hx, hO⟩, h1, h2, z1, z2, z3, n1, n2, n3, hl⟩ := h
  refine ⟨⟨tv, (hk.block _ ⟨hl, n1⟩).trans hx, ?_⟩, hS.congr fun k => ?_, ?_, z1, z2, z3, n1, n2, n3, Nat.lt_of_lt_of_le hl hk.size⟩
  · rw [htd]; exact hO.stay fun g hg => hk.block g ⟨hO.lt g hg, fun e => hO.2 g hg (.inr (.inr (.inl e)))⟩
  · constructor
    · rintro ⟨⟨a, b, c⟩, d⟩; exact ⟨a, b, (hbg k a b).2 ⟨c, d⟩⟩
    · rintro ⟨a, b, c⟩; have := (hbg k a b).1 c; exact ⟨⟨a, b, this.1⟩, this.2⟩
  · rw [htd]; exact h2.block (hk.block _ ⟨l2, fun e => n3 e.symm⟩)
theorem took_kp (hZ : ∀ i, Z i → i < w.heap.size) (z2 : ¬ Z bu) (hk : Kp (fun i => i < w.heap.size ∧ i ≠ bu) w w') : Kp Z w w' := hk.mono fun i hi => ⟨hZ i hi, fun e => z2 (e ▸ hi)⟩
/-- The cells of the box. -/
theorem BM.cells (h : BM Z l lv bb bu bg s w) : ∃ tv, w.cell? ⟨bb, 0, none⟩ = some lv ∧ w.cell? ⟨bb, 1, none⟩ = some (.map (some bu)) ∧ w.cell? ⟨bb, 2, none⟩ = some (.map (some bg)) ∧ w.cell? ⟨bb, 3, none⟩ = some tv ∧ w.frozen? ⟨bb, 3, none⟩ = false ∧ w.heap[bb]? = some (.cells #[lv, .map (some bu), .map (some bg), tv] 60 (0, 0)) ∧ OwnI (fun i => Z i ∨ i = bb ∨ i = bu ∨ i = bg) w tv (s.td.map Int.ofNat) := by
  obtain ⟨⟨tv, hx, hO⟩, -⟩ := h
  refine ⟨tv, ?_, ?_, ?_, ?_, ?_, hx, hO⟩
  · simp [World.cell?, hx]
  · simp [World.cell?, hx]
  · simp [World.cell?, hx]
  · simp [World.cell?, hx]
  · simp [World.frozen?, hx]
theorem heap_set3 {v tv : Value} {c0 c1 c2 : Value} (hx : w.heap[bb]? = some (.cells #[c0, c1, c2, tv] 60 (0, 0))) : (w.setCell ⟨bb, 3, none⟩ v).heap[bb]? = some (.cells #[c0, c1, c2, v] 60 (0, 0)) := by
  simp [World.setCell, Array.getElem?_modify, hx]
/-- A key is told. -/
theorem BM.told {k : Nat} {w2 w4 : World} {v' tv : Value} (h : BM Z l lv bb bu bg s w) (hC : CC l k) (hM : MapM w2 bg (s.td.length + 1) (fun x => (0 ≤ x ∧ x.toNat ∈ s.td) ∨ x = k) (fun x => VV l x.toNat)) (hg : w.grownBy w2 (some bg))
    (hx2 : w2.heap[bb]? = some (.cells #[lv, .map (some bu), .map (some bg), tv] 60 (0, 0))) (hO2 : OwnI (fun i => Z i ∨ i = bb ∨ i = bu ∨ i = bg) w2 tv (s.td.map Int.ofNat)) (hO4 : OwnI (fun i => Z i ∨ i = bb ∨ i = bu ∨ i = bg) w4 v' (s.td.map Int.ofNat ++ [(k : Int)]))
    (hb4 : ∀ i, i < w2.heap.size → tv.ownBlock ≠ some i → w4.heap[i]? = w2.heap[i]?) (hs : w2.heap.size ≤ w4.heap.size) : BM Z l lv bb bu bg (s.tell (CC l) k) (w4.setCell ⟨bb, 3, none⟩ v') := by
  have l1 := h.un.lt
  have l2 := h.gi.lt
  obtain ⟨-, h1, h2, z1, z2, z3, n1, n2, n3, hl⟩ := h
  have hsz := hg.size
  have e4 : w4.heap[bb]? = some (.cells #[lv, .map (some bu), .map (some bg), tv] 60 (0, 0)) := (hb4 bb (by omega) (fun e => hO2.2 bb e (.inr (.inl rfl)))).trans hx2
  have ht : s.tell (CC l) k = ⟨s.bg, s.td ++ [k]⟩ := if_pos hC
  rw [ht]
  have bu4 : (w4.setCell ⟨bb, 3, none⟩ v').heap[bu]? = w.heap[bu]? := by
    rw [Below.heap_setCell _ _ _ _ (show bu ≠ bb from fun e => n1 e.symm), hb4 bu (by omega) (fun e => hO2.2 bu e (.inr (.inr (.inl rfl)))), hg.block bu (by omega) (fun e => n3 (Option.some.inj e))]
  have bg4 : (w4.setCell ⟨bb, 3, none⟩ v').heap[bg]? = w2.heap[bg]? := by
    rw [Below.heap_setCell _ _ _ _ (show bg ≠ bb from fun e => n2 e.symm), hb4 bg (by omega) (fun e => hO2.2 bg e (.inr (.inr (.inr rfl))))]
  refine ⟨⟨v', heap_set3 e4, ?_⟩, h1.block bu4, ?_, z1, z2, z3, n1, n2, n3, by simp [World.setCell]; omega⟩
  · have : (s.td ++ [k]).map Int.ofNat = s.td.map Int.ofNat ++ [(k : Int)] := by simp
    rw [show (⟨s.bg, s.td ++ [k]⟩ : St).td = s.td ++ [k] from rfl, this]
    exact hO4.stay fun g hg => Below.heap_setCell _ _ _ _ (fun e => hO4.2 g hg (.inr (.inl e)))
  · have hM' := (hM.block bg4)
    rw [show s.td.length + 1 = (s.td ++ [k]).length by simp] at hM'
    refine hM'.congr (fun x => ?_) (fun _ _ => rfl)
    show _ ↔ 0 ≤ x ∧ x.toNat ∈ s.td ++ [k]
    rw [List.mem_append, List.mem_singleton]
    constructor
    · rintro (⟨a, b⟩ | rfl)
      · exact ⟨a, .inl b⟩
      · exact ⟨by omega, .inr (by omega)⟩
    · rintro ⟨a, b | b⟩
      · exact .inl ⟨a, b⟩
      · exact .inr (by omega)
theorem MapM.put {b n : Nat} {T : Int → Prop} {V : Int → Int} {key c : Int} {D : DataW Unit} (hU : ∀ k, wfI k → (Maps.has D (kI k) = true ↔ T k) ∧ (T k → D.atKey (kI k) (.lit (.int .i64 0)) = .lit (.int .i64 (V k))) ∧ (¬ T k → D.atKey (kI k) (.lit (.int .i64 0)) = .lit (.int .i64 0)))
    (hk : wfI key) (hD : w.ownsMap Try.prog 3 (plainElem Try.prog 3) b n (D.put (kI key) (.lit (.int .i64 c)))) (hM : IsMap D) (hc : V key = c) : MapM w b n (fun x => T x ∨ x = key) V := by
  refine ⟨_, hD, fun x hx => ?_⟩
  by_cases e : x = key
  · subst e
    refine ⟨by rw [has_put_same hM (isKeyI hk)]; simp, fun _ => by rw [atKey_put_same hM (isKeyI hk), hc], fun h => absurd (.inr rfl) h⟩
  · refine ⟨by rw [has_put_other (kI_ne e), (hU x hx).1]; simp [e], fun h => by rw [atKey_put_other (kI_ne e)]; exact (hU x hx).2.1 (h.resolve_right e), fun h => by rw [atKey_put_other (kI_ne e)]; exact (hU x hx).2.2 (fun h' => h (.inl h'))⟩
end
end Go.Proofs.Ytgohfdgkihoilaa.Rcp
