/- The recipes of the document's examples, and what awake (8) says of them. (Made by wip/tools/mk8.py.) -/
import Derived.Test.YtgohfdgkihoilaaFate
set_option linter.unusedSimpArgs false
set_option linter.unusedVariables false
namespace Go.Proofs.Ytgohfdgkihoilaa.Rcp
open Go Go.RowKit Go.Deep Go.Maps

/-- The document's recipes. -/
def someL : List Rc := [⟨[], 0, 0, 5, 0⟩, ⟨[0, 0], 0, 0, 7, 0⟩, ⟨[3], 0, 0, 1, 0⟩, ⟨[2, 0], 0, 0, 1, 0⟩, ⟨[1, 2], 0, 0, 1, 0⟩, ⟨[], 0, 0, -6, 0⟩]
theorem someR : RIGHT someL := by
  refine ⟨?_, ?_⟩
  · rintro (h | ⟨r, hr, h⟩)
    · simp [someL] at h
    · simp only [someL, List.mem_cons, List.not_mem_nil, or_false] at hr
      rcases hr with rfl | rfl | rfl | rfl | rfl | rfl <;> simp at h
  · refine ⟨by simp [someL], fun r hr => ⟨?_, ?_⟩⟩
    · simp only [someL, List.mem_cons, List.not_mem_nil, or_false] at hr
      rcases hr with rfl | rfl | rfl | rfl | rfl | rfl <;> simp [okR]
    · simp only [someL, List.mem_cons, List.not_mem_nil, or_false] at hr
      rcases hr with rfl | rfl | rfl | rfl | rfl | rfl <;> simp [okN, someL]
theorem rightS_nil : rightS [] = 110 := by
  unfold rightS
  rw [if_neg, if_neg]
  · rintro ⟨h, _⟩; simp at h
  · rintro (h | ⟨r, hr, _⟩)
    · simp at h
    · cases hr
/-- Asking, reckoned. -/
def akF (cb : Nat → Bool) (N : Nat → List Nat) : Nat → Bool → St → List Nat → Option St
  | 0, _, _, _ => none
  | _ + 1, _, s, [] => some s
  | n + 1, b, s, k :: ks => if s.bg k = true then akF cb N n b s (if (b || cb k) = true then ks else []) else
      match akF cb N n false (s.beg k) (N k) with
      | none => none
      | some s1 => akF cb N n b (if cb k = true then ⟨s1.bg, s1.td ++ [k]⟩ else s1) (if (b || cb k) = true then ks else [])
theorem akF_ak {cb : Nat → Bool} {C : Nat → Prop} {N : Nat → List Nat} (hc : ∀ k, cb k = true ↔ C k) : ∀ (n : Nat) (b : Bool) (s : St) (ks : List Nat) (s' : St), akF cb N n b s ks = some s' → Ak C N b s ks s'
  | 0, _, _, _, _, h => by simp [akF] at h
  | n + 1, b, s, [], s', h => by simp [akF] at h; subst h; exact .nil _ _
  | n + 1, b, s, k :: ks, s', h => by
    have hcut : (if (b || cb k) = true then ks else []) = cut C b k ks := by
      unfold cut
      by_cases h : b = true ∨ C k
      · rw [if_pos h, if_pos]; simp; exact h.imp id (hc k).2
      · rw [if_neg h, if_neg]; simp; exact ⟨by simpa using fun h' => h (.inl h'), by simpa using fun h' => h (.inr ((hc k).1 h'))⟩
    rw [akF, hcut] at h
    by_cases hb : s.bg k = true
    · rw [if_pos hb] at h
      exact .old hb (akF_ak hc n _ _ _ _ h)
    · rw [if_neg hb] at h
      cases hs : akF cb N n false (s.beg k) (N k) with
      | none => rw [hs] at h; cases h
      | some s1 =>
        rw [hs] at h
        refine .new (by simpa using hb) (akF_ak hc n _ _ _ _ hs) (akF_ak hc n _ _ _ _ ?_)
        have : (if cb k = true then (⟨s1.bg, s1.td ++ [k]⟩ : St) else s1) = s1.tell C k := by
          unfold St.tell
          by_cases h : C k
          · rw [if_pos h, if_pos ((hc k).2 h)]
          · rw [if_neg h, if_neg (fun h' => h ((hc k).1 h'))]
        rw [← this]
        exact h
theorem some_ring2 : Rch (nd someL) 2 2 := .step (show 3 ∈ nd someL 2 by decide) (.one (show 2 ∈ nd someL 3 by decide))
theorem some_ring3 : Rch (nd someL) 3 3 := .step (show 2 ∈ nd someL 3 by decide) (.one (show 3 ∈ nd someL 2 by decide))
theorem no_ring {N : Nat → List Nat} {a : Nat} (S : List Nat) (h1 : ∀ x ∈ N a, x ∈ S) (h2 : ∀ x ∈ S, ∀ y ∈ N x, y ∈ S) (h3 : a ∉ S) : ¬ Rch N a a := by
  have : ∀ b c, Rch N b c → (∀ x ∈ N b, x ∈ S) → c ∈ S := by
    intro b c h
    induction h with
    | one h => exact fun hs => hs _ h
    | step h _ ih => exact fun hs => ih (h2 _ (hs _ h))
  exact fun h => h3 (this a a h h1)
theorem some_can : ∀ k, (decide (k ≠ 2 ∧ k ≠ 3 ∧ k ≠ 4)) = true ↔ CC someL k := by
  intro k
  rw [decide_eq_true_iff]
  constructor
  · intro h
    match k, h with
    | 0, _ => exact ⟨1, 5, by decide⟩
    | 1, _ => exact ⟨2, 17, by decide⟩
    | 5, _ => exact ⟨1, 999997, by decide⟩
    | k + 6, _ =>
      have e : someL.getD (k + 6) r0 = r0 := by simp [someL]
      refine can_iff.2 ⟨by unfold gives; rw [e]; rfl, fun j hj => ?_⟩
      unfold nd at hj
      rw [e] at hj
      cases hj
    | 2, h => exact absurd rfl h.1
    | 3, h => exact absurd rfl h.2.1
    | 4, h => exact absurd rfl h.2.2
  · intro h
    refine ⟨?_, ?_, ?_⟩
    · rintro rfl; exact can_noring h some_ring2
    · rintro rfl; exact can_noring h some_ring3
    · rintro rfl; exact can_noring ((can_iff.1 h).2 2 (by decide)) some_ring2
theorem some_rings : ringsTo someL 6 = [2, 3] := by
  have h0 : ¬ Rch (nd someL) 0 0 := no_ring [] (by decide) (by decide) (by decide)
  have h1 : ¬ Rch (nd someL) 1 1 := no_ring [0] (by decide) (by decide) (by decide)
  have h4 : ¬ Rch (nd someL) 4 4 := no_ring [1, 2, 0, 3] (by decide) (by decide) (by decide)
  have h5 : ¬ Rch (nd someL) 5 5 := no_ring [] (by decide) (by decide) (by decide)
  rw [ringsTo_no h5, ringsTo_no h4, ringsTo_yes some_ring3, ringsTo_yes some_ring2, ringsTo_no h1, ringsTo_no h0]
  rfl
theorem some_order {td : List Nat} (h : OrderIs someL [4, 5, 1] td) : td = [0, 1, 5] := by
  obtain ⟨s1, hA, rfl, -⟩ := h.2 someR
  have he : ∃ s2, akF (fun k => decide (k ≠ 2 ∧ k ≠ 3 ∧ k ≠ 4)) (nd someL) 20 true s0 [4, 5, 1] = some s2 ∧ s2.td = [0, 1, 5] := ⟨_, rfl, rfl⟩
  obtain ⟨s2, h2, h3⟩ := he
  have hv : valid someL [4, 5, 1] = [4, 5, 1] := by simp [valid, someL]
  rw [hv] at hA
  rw [hA.det (akF_ak some_can 20 true s0 _ s2 h2)]
  exact h3
theorem some_fate1 : FateB someL 1 ∧ fateV someL 1 = 17 := by
  have h : FateB someL 1 := ⟨someR, by omega, by simp [someL], (some_can 1).1 (by decide)⟩
  refine ⟨h, ?_⟩
  rw [fateV_yes h]
  exact val_of (n := 2) (by decide)
theorem some_fate4 : ¬ FateB someL 4 := fun h => by
  have := (some_can 4).2 h.2.2.2
  simp at this

end Go.Proofs.Ytgohfdgkihoilaa.Rcp
