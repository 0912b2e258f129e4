/- What allKeys, take and newBuild of package recipe do. -/
import Derived.Test.YtgohfdgkihoilaaRt2
set_option linter.unusedSimpArgs false
set_option linter.unusedVariables false
namespace Go.Proofs.Ytgohfdgkihoilaa.Rcp
open Go Go.RowKit Go.Deep Go.Maps

theorem isKeyI {k : Int} (h : wfI k) : WideAt.IsKeyLit (kI k) := by
  first | exact (WalkArith.wf_i64 h) | (unfold WideAt.IsKeyLit; simp) | trivial | simp [WideAt.IsKeyLit]
theorem kI_ne {a b : Int} (h : a ≠ b) : kI a ≠ kI b := fun e => h (by injection e)

theorem SetM.block {w w' : World} {b n : Nat} {U : Int → Prop} (h : SetM w b n U) (he : w'.heap[b]? = w.heap[b]?) : SetM w' b n U := by
  obtain ⟨D, ⟨es, c, hb, r⟩, hU⟩ := h
  exact ⟨D, ⟨es, c, he.trans hb, r⟩, hU⟩
theorem SetM.lt {w : World} {b n : Nat} {U : Int → Prop} (h : SetM w b n U) : b < w.heap.size := by
  obtain ⟨D, ⟨es, c, hb, r⟩, hU⟩ := h
  exact (Array.getElem?_eq_some_iff.1 hb).1
theorem MapM.block {w w' : World} {b n : Nat} {T : Int → Prop} {V : Int → Int} (h : MapM w b n T V) (he : w'.heap[b]? = w.heap[b]?) : MapM w' b n T V := by
  obtain ⟨D, ⟨es, c, hb, r⟩, hU⟩ := h
  exact ⟨D, ⟨es, c, he.trans hb, r⟩, hU⟩
theorem MapM.lt {w : World} {b n : Nat} {T : Int → Prop} {V : Int → Int} (h : MapM w b n T V) : b < w.heap.size := by
  obtain ⟨D, ⟨es, c, hb, r⟩, hU⟩ := h
  exact (Array.getElem?_eq_some_iff.1 hb).1

theorem run_makeMapHint (w : World) (n : Nat) (h : (n : Int) ≤ 9223372036854775807) : (Instr.makeMap 57 (some (.int .i64 (n : Int)))).run Try.prog w = .ok (.map (some w.heap.size)) (w.alloc (.map #[] 0)) := by
  simp [Instr.makeMap, run_underlying Try.underlying57, asInt, asIntOf, Result.andThen, go_sem]

set_option maxHeartbeats 1000000 in
theorem take_any {w : World} {b n : Nat} {U : Int → Prop} (h : SetM w b n U) {x : Int} (hx : wfI x) :
    Calls Try.prog 41 #[.map (some b), I x] w (Ret fun v w' => (∃ c, v = Bl c ∧ (c = true ↔ U x)) ∧ SetM w' b n (fun k => U k ∧ k ≠ x) ∧ Kp (fun i => i < w.heap.size ∧ i ≠ b) w w') := by
  obtain ⟨D, hD, hU⟩ := h
  have HD : Hid (w.ownsMap Try.prog 3 unitElem b n D) := hD
  have HU : Hid (∀ k, wfI k → (Maps.has D (kI k) = true ↔ U k)) := hU
  have HX : Hid (wfI x) := hx
  clear hD hU hx
  go_enter Try.func41, Try.ntmps41
  go_wp2_with first
    | (at_lookup; refine wpList_lookup_own_unit _ rfl _ _ 57 rfl 3 72 lawI Try.underlying57 (zero72 _) b n D rfl HD.out _ _ rfl (keyI HX.out) ?_)
    | (at_delete; refine wpList_delete_own _ rfl _ _ 57 3 rfl 72 lawI Try.underlying57 _ b n D rfl (HD.out.alloc _) _ _ rfl (keyI HX.out) ?_; intro w1 hown1 hturn1)
  go_ret
  refine ⟨_, rfl, ⟨_, rfl, HU.out x HX.out⟩, ⟨_, hown1, fun k hk => ?_⟩, ?_⟩
  · by_cases e : k = x
    · subst e
      rw [has_del_same]
      simp
    · rw [has_del_other (kI_ne e), HU.out k hk]
      simp [e]
  · exact (Kp.alloc (fun i hi => hi.1) _).trans (Kp.grown hturn1.grown (fun i hi => by simp; omega) (fun k hk h2 => h2.2 (Option.some.inj hk).symm))

set_option maxHeartbeats 1000000 in
theorem allKeys_any {Z : Nat → Prop} {w : World} {v : Value} {l : List Rc} (hl : RL Z w v l) (h100 : l.length ≤ 100) :
    Calls Try.prog 39 #[v] w (Ret fun r w' => r = .map (some w.heap.size) ∧ SetM w' w.heap.size l.length (fun k => 0 ≤ k ∧ k < l.length) ∧ Kp (fun i => i < w.heap.size) w w') := by
  obtain ⟨p, cap, rfl, h1, _⟩ := hl
  have hmm := run_makeMapHint w l.length (by omega)
  go_enter Try.func39, Try.ntmps39
  go_wp2_with fail
  go_loopw [10] (fun i u => ∃ k : Nat, k ≤ l.length ∧ i = .int .i64 k ∧ SetM u w.heap.size k (fun x => 0 ≤ x ∧ x < k) ∧ Kp (fun i => i < w.heap.size) w u) (fun i _ => l.length - (intOf i).toNat)
  case atStart => exact ⟨0, Nat.zero_le _, rfl, ⟨.map [], World.ownsMap_made w _ _ _, fun k _ => by simp [Maps.has]⟩, Kp.alloc (fun _ h => h) _⟩
  case round =>
    obtain ⟨k, hk, rfl, hS, hbl⟩ := hrel
    have HB : Hid (Kp (fun i => i < w.heap.size) w wr) := hbl
    have HS : Hid (SetM wr w.heap.size k (fun x => 0 ≤ x ∧ x < k)) := hS
    obtain ⟨D, hD, hU⟩ := hS
    have HD : Hid (wr.ownsMap Try.prog 3 unitElem w.heap.size k D) := hD
    have HU : Hid (∀ x, wfI x → (Maps.has D (kI x) = true ↔ 0 ≤ x ∧ x < (k : Int))) := hU
    clear hbl hD hU
    by_cases hlt : k < l.length
    · have hwf : wfI (k : Int) := ⟨by omega, by omega⟩
      have HW : Hid (wfI (k : Int)) := hwf
      clear hwf
      go_wp2_with first
        | (at_mapUpdate; refine wpList_mapUpdate_own _ rfl _ _ _ 57 rfl 3 72 lawI Try.underlying57 _ w.heap.size k D rfl HD.out (by unfold maxLen; omega) _ _ _ rfl rfl (keyI HW.out) _ [] unitElem_mk ?_; intro w1 hown1 hgrow1)
      go_roundw
      case rel =>
        refine ⟨k + 1, by omega, by go_num, ⟨_, hown1, fun x hx => ?_⟩, HB.out.trans (Kp.grown hgrow1 (fun i hi => Nat.lt_of_lt_of_le hi HB.out.size) (fun j hj h2 => by cases hj; exact Nat.lt_irrefl _ h2))⟩
        by_cases e : x = (k : Int)
        · subst e
          rw [has_put_same HD.out.isMap (isKeyI HW.out)]
          simp; omega
        · rw [has_put_other (kI_ne e), HU.out x hx]
          omega
      case measure => simp [intOf]; omega
    · have : k = l.length := by omega
      subst this
      go_wp2_with fail
      go_ret
      exact ⟨_, rfl, rfl, HS.out, HB.out⟩

/-- A slice of ints that was built here, outside Z. -/
def OwnI (Z : Nat → Prop) (w : World) (v : Value) (xs : List Int) : Prop := w.ownsRow 0 3 1 v xs.length (xs.map I) ∧ ∀ g, v.ownBlock = some g → ¬ Z g
theorem OwnI.stay {Z : Nat → Prop} {w w' : World} {v : Value} {xs : List Int} (h : OwnI Z w v xs) (hb : ∀ g, v.ownBlock = some g → w'.heap[g]? = w.heap[g]?) : OwnI Z w' v xs := by
  obtain ⟨⟨h1, h2⟩, h3⟩ := h
  refine ⟨⟨h1, ?_⟩, h3⟩
  rcases h2 with h2 | ⟨g, cap, cur, rfl, r1, r2, r3⟩
  · exact .inl h2
  · exact .inr ⟨g, cap, cur, rfl, r1, (hb g rfl).trans r2, r3⟩
theorem OwnI.lt {Z : Nat → Prop} {w : World} {v : Value} {xs : List Int} (h : OwnI Z w v xs) : ∀ g, v.ownBlock = some g → g < w.heap.size := by
  obtain ⟨⟨h1, h2⟩, h3⟩ := h
  intro g hg
  rcases h2 with ⟨rfl, _⟩ | ⟨g', cap, cur, rfl, r1, r2, r3⟩
  · cases hg
  · cases hg; exact (Array.getElem?_eq_some_iff.1 r2).1
theorem OwnI.mono {Z Z' : Nat → Prop} {w : World} {v : Value} {xs : List Int} (h : OwnI Z w v xs) (hZ : ∀ i, Z' i → Z i) : OwnI Z' w v xs := ⟨h.1, fun g hg hz => h.2 g hg (hZ g hz)⟩
theorem OwnI.nil (Z : Nat → Prop) (w : World) : OwnI Z w (.slice none 0 0) [] := ⟨World.ownsRow_nil _ _ _ _, fun g hg => by cases hg⟩
/-- .. may be read as a slice. -/
theorem OwnI.il {Z : Nat → Prop} {w : World} {v : Value} {xs : List Int} (h : OwnI Z w v xs) (hl : xs.length ≤ 9223372036854775807) : IL (fun i => v.ownBlock = some i) w v xs := by
  obtain ⟨⟨h1, h2⟩, h3⟩ := h
  rcases h2 with ⟨rfl, h0⟩ | ⟨g, cap, cur, rfl, r1, r2, r3, r4, r5, r6⟩
  · have : xs = [] := List.eq_nil_of_length_eq_zero h0
    subst this
    exact ⟨none, 0, rfl, by simp, fun i x hi => by simp at hi⟩
  · refine ⟨_, cap, rfl, hl, fun i x hi => ⟨g, 0, rfl, rfl, ?_⟩⟩
    have hil : i < xs.length := (List.getElem?_eq_some_iff.1 hi).1
    have e := congrArg (fun l => l[i]?) r6
    simp only [Nat.mul_one, List.getElem?_take, if_pos hil, List.getElem?_map, hi, Option.map_some] at e
    simp [World.cell?, r2]
    simpa using e

theorem info3 : (Try.prog.info? 3).map (fun i => (i.zero, i.size, i.bytes)) = some (some (.int .i64 0), 1, 8) := by kernel_rfl
/-- An int is appended. -/
theorem wp_app {ops : Array Oper} {rest : List Oper} {o : Oper} {a : Act} {Q : Exit → Act → World → Prop} {w : World} {Z : Nat → Prop} {v : Value} {xs : List Int} {n : Int} (hgd : o.guard = none) (s x : Operand)
    (ho : o.op = .call { callee := .builtin .append, args := #[s, x], argTypes := #[26, 26] }) (hs : a.eval s = v) (hx : a.eval x = .slice (some ⟨w.heap.size, 0, none⟩) 1 1) (hown : OwnI Z w v xs) (hZ : ∀ i, Z i → i < w.heap.size) (hl : xs.length ≤ 1000000000000)
    (h : ∀ g cap w', OwnI Z w' (.slice (some ⟨g, 0, none⟩) (xs.length + 1) cap) (xs ++ [n]) → Kp Z w w' → (∀ i, i < w.heap.size → v.ownBlock ≠ some i → w'.heap[i]? = w.heap[i]?) → (v.ownBlock = some g ∨ w.heap.size ≤ g) → w.heap.size ≤ w'.heap.size → wpList Try.prog ops Q rest (a.put o.dst (.slice (some ⟨g, 0, none⟩) (xs.length + 1) cap)) w') :
    wpList Try.prog ops Q (o :: rest) a (w.alloc (.cells #[I n] 3)) := by
  obtain ⟨j0, hj, hj0, hj1, hj2⟩ := info_parts info3
  have hlt := hown.lt
  have hst : OwnI Z (w.alloc (.cells #[I n] 3)) v xs := hown.stay fun g hg => Below.heap_alloc _ _ _ (hlt g hg)
  refine wpList_append_own_at _ hgd s x 26 ho 0 3 j0 _ 1 8 Try.underlying26 hj hj0 hj1 hj2 rfl (by decide) v xs.length (xs.map I) hs hst.1 ⟨w.heap.size, 0, none⟩ 1 1 [I n] hx rfl (cell_one_new _ _ _) (ints_oneCell .i64 [n]) (by unfold maxLen; omega) (by omega) (Nat.zero_le _) ?_
  intro v' w' h1 h2 h3 h4
  have hsz : w.heap.size ≤ w'.heap.size := Nat.le_trans (by simp) h2.size
  have hblk : ∀ i, i < w.heap.size → v.ownBlock ≠ some i → w'.heap[i]? = w.heap[i]? := fun i hi hne => (h2.block i (by simp; omega) (fun e => hne e.symm)).trans (Below.heap_alloc _ _ _ hi)
  obtain ⟨h10, ⟨_, h0⟩ | ⟨g, cap, cur, rfl, hr⟩⟩ := h1
  · omega
  have hloc : v.ownBlock = some g ∨ w.heap.size ≤ g := by
    rcases h4 with h4 | h4
    · exact .inl h4.symm
    · have e : g = (w.alloc (.cells #[I n] 3)).heap.size := by injection h4
      exact .inr (by rw [e]; simp)
  have hrow : w'.ownsRow 0 3 1 (.slice (some ⟨g, 0, none⟩) (xs.length + 1) cap) (xs ++ [n]).length ((xs ++ [n]).map I) := by
    rw [List.map_append, List.length_append]
    exact ⟨h10, .inr ⟨g, cap, cur, rfl, hr⟩⟩
  refine h g cap w' ⟨hrow, fun g' hg hz => ?_⟩ ⟨h2.os, h2.tape, h2.output, hsz, fun i hi => hblk i (hZ i hi) (fun e => hown.2 i e hi)⟩ hblk hloc hsz
  cases hg
  rcases hloc with e | e
  · exact hown.2 g e hz
  · exact absurd (hZ g hz) (by omega)

/-- What stands in memory while keys are asked for. -/
structure BM (Z : Nat → Prop) (l : List Rc) (lv : Value) (bb bu bg : Nat) (s : St) (w : World) : Prop where
  box : ∃ tv, w.heap[bb]? = some (.cells #[lv, .map (some bu), .map (some bg), tv] 60 (0, 0)) ∧ OwnI (fun i => Z i ∨ i = bb ∨ i = bu ∨ i = bg) w tv (s.td.map Int.ofNat)
  un : SetM w bu l.length (fun k => 0 ≤ k ∧ k < l.length ∧ s.bg k.toNat = false)
  gi : MapM w bg s.td.length (fun k => 0 ≤ k ∧ k.toNat ∈ s.td) (fun k => val (nd l) (gives l) (vl l) k.toNat)
  z1 : ¬ Z bb
  z2 : ¬ Z bu
  z3 : ¬ Z bg
  n1 : bb ≠ bu
  n2 : bb ≠ bg
  n3 : bu ≠ bg
  lt : bb < w.heap.size

set_option maxHeartbeats 1000000 in
theorem newBuild_any {Z : Nat → Prop} {w : World} {v : Value} {l : List Rc} (hl : RL Z w v l) (h100 : l.length ≤ 100) :
    Calls Try.prog 31 #[v] w (Ret fun r w' => ∃ bb bu bg, r = P1 bb ∧ BM (fun i => i < w.heap.size) l v bb bu bg ⟨fun _ => false, []⟩ w' ∧ Kp (fun i => i < w.heap.size) w w') := by
  have HC : Hid (Calls Try.prog 39 #[v] w _) := allKeys_any hl h100
  have hmm := @run_makeMap Try.prog
  obtain ⟨p, cap, rfl, h1, _⟩ := hl
  go_enter Try.func31, Try.ntmps31
  go_wp2_with (go_at_call 39; refine HC.out.mono ?_; rintro e w1 ⟨_, rfl, rfl, hS, hk⟩)
  go_ret
  have hs := hS.lt
  have hS' : ∀ o, SetM ((w1.alloc (.map #[] 0)).alloc o) w.heap.size l.length (fun k => 0 ≤ k ∧ k < l.length) := fun o => hS.block (by
    rw [Below.heap_alloc _ _ _ (by simp; omega), Below.heap_alloc _ _ _ hs])
  refine ⟨_, rfl, w1.heap.size + 1, w.heap.size, w1.heap.size, by simp, ⟨⟨.slice none 0 0, by rw [show w1.heap.size + 1 = (w1.alloc (.map #[] 0)).heap.size by simp]; first | exact heap_alloc_new _ _ | simp only [heap_alloc_new], OwnI.nil _ _⟩, ?_, ?_, ?_, ?_, ?_, ?_, ?_, ?_, ?_⟩, ?_⟩
  · obtain ⟨D, hD, hU⟩ := hS' (.cells #[.slice p l.length cap, .map (some w.heap.size), .map (some w1.heap.size), .slice none 0 0] 60)
    exact ⟨D, hD, fun k hk => by rw [hU k hk]; simp⟩
  · obtain ⟨es, c, hb, r⟩ := World.ownsMap_made (H := Unit) w1 Try.prog 3 (plainElem Try.prog 3)
    refine ⟨.map [], ⟨es, c, (Below.heap_alloc _ _ _ (by simp)).trans hb, r⟩, fun k _ => ⟨by simp [Maps.has], fun h => ?_, fun _ => rfl⟩⟩
    simp at h
  · intro h; omega
  · exact Nat.lt_irrefl _
  · intro h; omega
  · omega
  · omega
  · omega
  · simp
  · exact hk.trans ((Kp.alloc (fun i hi => Nat.lt_of_lt_of_le hi hk.size) _).trans (Kp.alloc (fun i hi => by have := hk.size; simp; omega) _))
end Go.Proofs.Ytgohfdgkihoilaa.Rcp
