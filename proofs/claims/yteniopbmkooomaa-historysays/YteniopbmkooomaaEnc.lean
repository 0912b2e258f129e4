/-
  How the states of the stack and of onces lie in memory, and as keys.
-/
import Derived.Test.YteniopbmkooomaaEnv
import Derived.Test.YteniopbmkooomaaWide
namespace Go.Proofs.Yteniopbmkooomaa
open Go.RowKit Hi Go.Deep Go.Maps

theorem SameKs.nil : SameKs [] [] := ⟨rfl, fun i c c0 h => by simp at h⟩
theorem SameKs.cons {c c0 : Value} {cs cs0 : List Value} (h : SameK c c0) (hs : SameKs cs cs0) : SameKs (c :: cs) (c0 :: cs0) :=
  ⟨by simp [hs.1], fun i d d0 hd hd0 => by
    cases i with
    | zero => simp at hd hd0; subst hd hd0; exact h
    | succ i => simp at hd hd0; exact hs.2 i d d0 hd hd0⟩
theorem SameKs.append {cs cs0 ds ds0 : List Value} (h : SameKs cs cs0) (hs : SameKs ds ds0) : SameKs (cs ++ ds) (cs0 ++ ds0) := by
  induction cs generalizing cs0 with
  | nil =>
    cases cs0 with
    | nil => exact hs
    | cons _ _ => have := h.1; simp at this
  | cons c cs ih =>
    cases cs0 with
    | nil => have := h.1; simp at this
    | cons c0 cs0 =>
      refine SameKs.cons (h.2 0 c c0 rfl rfl) (ih ⟨by simpa using h.1, fun i d d0 hd hd0 => h.2 (i + 1) d d0 (by simpa using hd) (by simpa using hd0)⟩)
theorem SameK.i {s : Int} (h : Fits s) : SameK (I s) (I 0) := .inl ⟨_, _, _, rfl, rfl, wf_i s h⟩
theorem SameK.u {T : Nat} (h : T < 2 ^ 64) : SameK (U T) (U 0) := .inl ⟨_, _, _, rfl, rfl, wf_u T h⟩
theorem SameK.b (b : Bool) : SameK (.bool b) (.bool false) := .inr ⟨_, _, rfl, rfl⟩

/-! ### A pile -/

def encP (p : Pile) : List Value := [I (p.xs.getD 0 0), I (p.xs.getD 1 0), I (p.xs.getD 2 0), I (p.xs.getD 3 0), I (p.xs.getD 4 0), I (p.xs.getD 5 0), I p.xs.length, .bool p.deep]
def GoodP (p : Pile) : Prop := p.xs.length ≤ 6 ∧ ∀ v ∈ p.xs, Fits v

theorem fits_zero : Fits 0 := by unfold Fits; omega
theorem GoodP.at {p : Pile} (h : GoodP p) (i : Nat) : Fits (p.xs.getD i 0) := by
  rw [List.getD_eq_getElem?_getD]
  cases e : p.xs[i]? with
  | none => exact fits_zero
  | some v => exact h.2 v (List.mem_of_getElem? e)

theorem encP_inj {p q : Pile} (hp : GoodP p) (hq : GoodP q) (h : encP p = encP q) : p = q := by
  obtain ⟨xs, d⟩ := p
  obtain ⟨ys, d'⟩ := q
  unfold encP at h
  simp only [List.cons.injEq, Value.int.injEq, Value.bool.injEq, true_and, and_true] at h
  obtain ⟨h0, h1, h2, h3, h4, h5, h6, h7⟩ := h
  have hl : xs.length = ys.length := by omega
  have h6 := hp.1
  simp only [] at h6
  rw [h7]
  congr 1
  refine List.ext_getElem hl fun i g1 g2 => ?_
  have e : ∀ (l : List Int) (g : i < l.length), l[i] = l.getD i 0 := fun l g => by rw [List.getD_eq_getElem?_getD, List.getElem?_eq_getElem g]; rfl
  rw [e xs g1, e ys g2]
  match i, g1 with
  | 0, _ => exact h0
  | 1, _ => exact h1
  | 2, _ => exact h2
  | 3, _ => exact h3
  | 4, _ => exact h4
  | 5, _ => exact h5
  | i + 6, g1 => omega

theorem sameP {p : Pile} (h : GoodP p) : SameKs (encP p) [I 0, I 0, I 0, I 0, I 0, I 0, I 0, .bool false] :=
  .cons (.i (h.at _)) (.cons (.i (h.at _)) (.cons (.i (h.at _)) (.cons (.i (h.at _)) (.cons (.i (h.at _)) (.cons (.i (h.at _)) (.cons (.i (by have := h.1; unfold Fits; omega)) (.cons (.b _) .nil)))))))

theorem law68 : Keyed Try.prog 68 := Keyed.of_law (deep_law_laid laidOut (m := 3) (by omega) (of_decide_eq_true (by kernel_rfl)) (by kernel_rfl) (by kernel_rfl))
theorem law111 : Keyed Try.prog 111 := Keyed.of_law (deep_law_laid laidOut (m := 4) (by omega) (of_decide_eq_true (by kernel_rfl)) (by kernel_rfl) (by kernel_rfl))
theorem key68 {p : Pile} (h : GoodP p) : ∃ kl, keyOf Try.prog 68 (.agg (encP p).toArray) = some kl := key_same (sameP h) (by kernel_rfl) (by kernel_rfl)
theorem key111 {T : Nat} (hT : T < 2 ^ 64) {p : Pile} (h : GoodP p) : ∃ kl, keyOf Try.prog 111 (.agg (U T :: encP p).toArray) = some kl := key_same (.cons (.u hT) (sameP h)) (by kernel_rfl) (by kernel_rfl)

/-- Are two piles one? -/
theorem eq68 {p q : Pile} (hp : GoodP p) (hq : GoodP q) (w : World) : ∃ r : Bool, (Op.equal 68 (.agg (encP p).toArray) (.agg (encP q).toArray)).run Try.prog w = .ok r w ∧ (r = true ↔ p = q) := by
  obtain ⟨k1, h1⟩ := key68 hp
  obtain ⟨k2, h2⟩ := key68 hq
  obtain ⟨r, hr, hi⟩ := run_equal_deep (P := Try.prog) w (m := 3) (by omega) (k := 68) (by kernel_rfl) (by kernel_rfl) h1 h2
  refine ⟨r, hr, hi.trans ⟨fun e => ?_, fun e => ?_⟩⟩
  · subst e
    have := law68.inj h1 h2
    simp only [Value.agg.injEq] at this
    exact encP_inj hp hq (List.toArray_inj this)
  · subst e
    rw [h1] at h2
    exact Option.some.inj h2

/-! ### A shelf -/

abbrev Shelf := List (Option (Int × Int))
def encO (a : Option (Int × Int)) : List Value := [.bool a.isSome, I (a.getD (0, 0)).1, I (a.getD (0, 0)).2]
def places12 : List Nat := [0, 1, 2, 3, 4, 5, 6, 7, 8, 9, 10, 11]
def encS (s : Shelf) : List Value := places12.flatMap fun i => encO (s.getD i none)
def GoodS (s : Shelf) : Prop := s.length = 12 ∧ ∀ a, some a ∈ s → Fits a.1 ∧ Fits a.2

theorem encO_inj {a b : Option (Int × Int)} (h : encO a = encO b) : a = b := by
  cases a <;> cases b <;> simp [encO] at h ⊢
  rename_i a b
  exact Prod.ext h.1 h.2
theorem flat_inj {f g : Nat → Option (Int × Int)} : ∀ {l : List Nat}, (l.flatMap fun i => encO (f i)) = (l.flatMap fun i => encO (g i)) → ∀ i ∈ l, f i = g i
  | [], _, i, hi => by simp at hi
  | a :: l, h, i, hi => by
    simp only [List.flatMap_cons] at h
    obtain ⟨h1, h2⟩ := List.append_inj h rfl
    rcases List.mem_cons.1 hi with rfl | hi
    · exact encO_inj h1
    · exact flat_inj h2 i hi
theorem encS_inj {s t : Shelf} (hs : s.length = 12) (ht : t.length = 12) (h : encS s = encS t) : s = t := by
  have h1 := flat_inj (f := fun i => s.getD i none) (g := fun i => t.getD i none) h
  refine List.ext_getElem (by omega) fun i g1 g2 => ?_
  have e : ∀ (l : Shelf) (g : i < l.length), l[i] = l.getD i none := fun l g => by rw [List.getD_eq_getElem?_getD, List.getElem?_eq_getElem g]; rfl
  rw [e s g1, e t g2]
  have hm : i ∈ places12 := by
    unfold places12
    simp only [List.mem_cons, List.not_mem_nil, or_false]
    omega
  exact h1 i hm

theorem sameO {a : Option (Int × Int)} (h : ∀ b, a = some b → Fits b.1 ∧ Fits b.2) : SameKs (encO a) [.bool false, I 0, I 0] := by
  cases a with
  | none => exact .cons (.b _) (.cons (.i fits_zero) (.cons (.i fits_zero) .nil))
  | some b => exact .cons (.b _) (.cons (.i (h b rfl).1) (.cons (.i (h b rfl).2) .nil))
theorem same_flat {f : Nat → Option (Int × Int)} (h : ∀ i b, f i = some b → Fits b.1 ∧ Fits b.2) : ∀ l : List Nat, SameKs (l.flatMap fun i => encO (f i)) (l.flatMap fun _ => [.bool false, I 0, I 0])
  | [] => .nil
  | a :: l => by
    simp only [List.flatMap_cons]
    exact .append (sameO (h a)) (same_flat h l)
theorem sameS {s : Shelf} (h : GoodS s) : SameKs (encS s) (places12.flatMap fun _ => [.bool false, I 0, I 0]) :=
  same_flat (fun i b e => h.2 b (by
    rw [List.getD_eq_getElem?_getD] at e
    cases hi : s[i]? with
    | none => rw [hi] at e; cases e
    | some c => rw [hi] at e; simp only [Option.getD_some] at e; subst e; exact List.mem_of_getElem? hi)) _

theorem law74 : Keyed Try.prog 74 := Keyed.of_law (deep_law_laid laidOut (m := 4) (by omega) (of_decide_eq_true (by kernel_rfl)) (by kernel_rfl) (by kernel_rfl))
theorem law122 : Keyed Try.prog 122 := Keyed.of_law (deep_law_laid laidOut (m := 5) (by omega) (of_decide_eq_true (by kernel_rfl)) (by kernel_rfl) (by kernel_rfl))
theorem key74 {s : Shelf} (h : GoodS s) : ∃ kl, keyOf Try.prog 74 (.agg (encS s).toArray) = some kl := key_same (sameS h) (by kernel_rfl) (by kernel_rfl)
theorem key122 {T : Nat} (hT : T < 2 ^ 64) {s : Shelf} (h : GoodS s) : ∃ kl, keyOf Try.prog 122 (.agg (U T :: encS s).toArray) = some kl := key_same (.cons (.u hT) (sameS h)) (by kernel_rfl) (by kernel_rfl)
theorem eq74 {p q : Shelf} (hp : GoodS p) (hq : GoodS q) (w : World) : ∃ r : Bool, (Op.equal 74 (.agg (encS p).toArray) (.agg (encS q).toArray)).run Try.prog w = .ok r w ∧ (r = true ↔ p = q) := by
  obtain ⟨k1, h1⟩ := key74 hp
  obtain ⟨k2, h2⟩ := key74 hq
  obtain ⟨r, hr, hi⟩ := run_equal_deep (P := Try.prog) w (m := 4) (by omega) (k := 74) (by kernel_rfl) (by kernel_rfl) h1 h2
  refine ⟨r, hr, hi.trans ⟨fun e => ?_, fun e => ?_⟩⟩
  · subst e
    have := law74.inj h1 h2
    simp only [Value.agg.injEq] at this
    exact encS_inj hp.1 hq.1 (List.toArray_inj this)
  · subst e
    rw [h1] at h2
    exact Option.some.inj h2

end Go.Proofs.Yteniopbmkooomaa
