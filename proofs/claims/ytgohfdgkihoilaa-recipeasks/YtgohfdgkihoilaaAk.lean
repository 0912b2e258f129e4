/- The asking for keys, one behind the other, as plain data. -/
import Derived.Test.YtgohfdgkihoilaaMath
set_option linter.unusedVariables false
set_option linter.unusedSimpArgs false
namespace Go.Proofs.Ytgohfdgkihoilaa.Rcp
open Classical

/-- Which keys were begun, and those that were told. -/
structure St where
  bg : Nat → Bool
  td : List Nat
def St.beg (s : St) (k : Nat) : St := ⟨fun i => i == k || s.bg i, s.td⟩
noncomputable def St.tell (C : Nat → Prop) (s : St) (k : Nat) : St := if C k then ⟨s.bg, s.td ++ [k]⟩ else s
/-- What is asked for still: all, or what stands ahead of the first that cannot be built. -/
noncomputable def cut (C : Nat → Prop) (b : Bool) (k : Nat) (ks : List Nat) : List Nat := if b = true ∨ C k then ks else []
inductive Ak (C : Nat → Prop) (N : Nat → List Nat) : Bool → St → List Nat → St → Prop
  | nil (b : Bool) (s : St) : Ak C N b s [] s
  | old {b : Bool} {s s' : St} {k : Nat} {ks : List Nat} : s.bg k = true → Ak C N b s (cut C b k ks) s' → Ak C N b s (k :: ks) s'
  | new {b : Bool} {s s1 s' : St} {k : Nat} {ks : List Nat} : s.bg k = false → Ak C N false (s.beg k) (N k) s1 → Ak C N b (s1.tell C k) (cut C b k ks) s' → Ak C N b s (k :: ks) s'

section
variable {C : Nat → Prop} {N : Nat → List Nat}
theorem Ak.det {b : Bool} {s s1 : St} {ks : List Nat} (h : Ak C N b s ks s1) : ∀ {s2 : St}, Ak C N b s ks s2 → s1 = s2 := by
  induction h with
  | nil b s => intro s2 h2; cases h2; rfl
  | old hb h ih =>
    intro s2 h2
    cases h2 with
    | old _ h' => exact ih h'
    | new hb' _ _ => rw [hb] at hb'; cases hb'
  | new hb h1 h2 ih1 ih2 =>
    intro s2 h'
    cases h' with
    | old hb' _ => rw [hb] at hb'; cases hb'
    | new _ h1' h2' =>
      have e := ih1 h1'
      subst e
      exact ih2 h2'
/-- One key is asked for. -/
def Ask1 (C : Nat → Prop) (N : Nat → List Nat) (s : St) (k : Nat) (s' : St) : Prop := (s.bg k = true ∧ s' = s) ∨ (s.bg k = false ∧ ∃ s1, Ak C N false (s.beg k) (N k) s1 ∧ s' = s1.tell C k)
theorem Ak.cons {b : Bool} {s s1 s' : St} {k : Nat} {ks : List Nat} (h : Ask1 C N s k s1) (h2 : Ak C N b s1 (cut C b k ks) s') : Ak C N b s (k :: ks) s' := by
  rcases h with ⟨hb, rfl⟩ | ⟨hb, s2, h1, rfl⟩
  · exact .old hb h2
  · exact .new hb h1 h2
theorem cut_go {b : Bool} {k : Nat} {ks : List Nat} (h : b = true ∨ C k) : cut C b k ks = ks := if_pos h
theorem cut_stop {k : Nat} {ks : List Nat} (h : ¬ C k) : cut C false k ks = [] := if_neg (by rintro (h' | h'); cases h'; exact h h')
theorem Ak.app {b : Bool} {s s1 s2 : St} {ks ks2 : List Nat} (h : Ak C N b s ks s1) : (∀ k ∈ ks, b = true ∨ C k) → Ak C N b s1 ks2 s2 → Ak C N b s (ks ++ ks2) s2 := by
  induction h with
  | nil b s => intro _ h2; exact h2
  | old hb h ih =>
    intro hc h2
    rw [cut_go (hc _ (by simp))] at h ih
    exact .old hb (by rw [cut_go (hc _ (by simp))]; exact ih (fun k hk => hc k (by simp [hk])) h2)
  | new hb h1 h2 ih1 ih2 =>
    intro hc h3
    rw [cut_go (hc _ (by simp))] at h2 ih2
    exact .new hb h1 (by rw [cut_go (hc _ (by simp))]; exact ih2 (fun k hk => hc k (by simp [hk])) h3)
/-- One more, and it can be built, or all are asked for. -/
theorem Ak.snoc {b : Bool} {s s1 s2 : St} {ks : List Nat} {k : Nat} (h : Ak C N b s ks s1) (hc : ∀ k ∈ ks, b = true ∨ C k) (h2 : Ask1 C N s1 k s2) : Ak C N b s (ks ++ [k]) s2 := by
  refine h.app hc (Ak.cons h2 ?_)
  unfold cut
  split <;> exact .nil _ _
/-- One more, and it cannot be built. -/
theorem Ak.stop {s s1 s2 : St} {ks rest : List Nat} {k : Nat} (h : Ak C N false s ks s1) (hc : ∀ k ∈ ks, C k) (h2 : Ask1 C N s1 k s2) (hk : ¬ C k) : Ak C N false s (ks ++ k :: rest) s2 :=
  h.app (fun k hk => .inr (hc k hk)) (Ak.cons h2 (by rw [cut_stop hk]; exact .nil _ _))

theorem St.tell_bg (s : St) (k : Nat) : (s.tell C k).bg = s.bg := by unfold St.tell; split <;> rfl
/-- What was begun stays so; what is told more was not begun then. -/
theorem Ak.more {b : Bool} {s s' : St} {ks : List Nat} (h : Ak C N b s ks s') : (∀ i, s.bg i = true → s'.bg i = true) ∧ (∃ t, s'.td = s.td ++ t ∧ ∀ i ∈ t, s.bg i = false) := by
  induction h with
  | nil b s => exact ⟨fun _ h => h, [], by simp, fun i hi => by cases hi⟩
  | old hb h ih => exact ih
  | @new b s s1 s' k ks hb h1 h2 ih1 ih2 =>
    obtain ⟨m1, t1, e1, n1⟩ := ih1
    obtain ⟨m2, t2, e2, n2⟩ := ih2
    have hbeg : ∀ i, s.bg i = true → (s.beg k).bg i = true := fun i hi => by simp [St.beg, hi]
    refine ⟨fun i hi => m2 i (by rw [St.tell_bg]; exact m1 i (hbeg i hi)), ?_⟩
    have hn : ∀ i, (s.beg k).bg i = false → s.bg i = false := fun i hi => by
      cases h : s.bg i with
      | false => rfl
      | true => rw [hbeg i h] at hi; cases hi
    have hn2 : ∀ i, (s1.tell C k).bg i = false → s.bg i = false := fun i hi => by
      cases h : s.bg i with
      | false => rfl
      | true => rw [St.tell_bg, m1 i (hbeg i h)] at hi; cases hi
    by_cases hC : C k
    · refine ⟨t1 ++ [k] ++ t2, ?_, fun i hi => ?_⟩
      · rw [e2]; unfold St.tell; rw [if_pos hC]; simp [e1, St.beg]
      · simp at hi
        rcases hi with hi | rfl | hi
        · exact hn i (n1 i hi)
        · exact hb
        · exact hn2 i (n2 i hi)
    · refine ⟨t1 ++ t2, ?_, fun i hi => ?_⟩
      · rw [e2]; unfold St.tell; rw [if_neg hC]; simp [e1, St.beg]
      · rcases List.mem_append.1 hi with hi | hi
        · exact hn i (n1 i hi)
        · exact hn2 i (n2 i hi)

/-- What was begun and can be built was told, or is being built just now. -/
def Inv (C : Nat → Prop) (s : St) (S : List Nat) : Prop := (∀ i, s.bg i = true → C i → i ∈ s.td ∨ i ∈ S) ∧ ∀ i ∈ s.td, C i ∧ s.bg i = true
theorem mem_cut {b : Bool} {k i : Nat} {ks : List Nat} (h : i ∈ cut C b k ks) : i ∈ ks := by unfold cut at h; split at h; exact h; cases h
theorem Inv.beg {s : St} {S : List Nat} (h : Inv C s S) (k : Nat) : Inv C (s.beg k) (k :: S) :=
  ⟨fun i hi hc => by
    simp [St.beg] at hi
    rcases hi with rfl | hi
    · exact .inr (by simp)
    · rcases h.1 i hi hc with h | h
      · exact .inl h
      · exact .inr (by simp [h]), fun i hi => ⟨(h.2 i hi).1, by simp [St.beg, (h.2 i hi).2]⟩⟩
theorem Inv.tell {s : St} {S : List Nat} {k : Nat} (h : Inv C s (k :: S)) (hk : s.bg k = true) : Inv C (s.tell C k) S := by
  by_cases hC : C k
  · unfold St.tell
    rw [if_pos hC]
    refine ⟨fun i hi hc => ?_, fun i hi => ?_⟩
    · rcases h.1 i hi hc with h | h
      · exact .inl (by simp [h])
      · rcases List.mem_cons.1 h with rfl | h
        · exact .inl (by simp)
        · exact .inr h
    · rcases List.mem_append.1 hi with hi | hi
      · exact h.2 i hi
      · simp at hi; subst hi; exact ⟨hC, hk⟩
  · unfold St.tell
    rw [if_neg hC]
    refine ⟨fun i hi hc => ?_, h.2⟩
    rcases h.1 i hi hc with h | h
    · exact .inl h
    · rcases List.mem_cons.1 h with rfl | h
      · exact absurd hc hC
      · exact .inr h
theorem beg_bg (s : St) (k : Nat) : (s.beg k).bg k = true := by simp [St.beg]
theorem Ak.inv {b : Bool} {s s' : St} {ks : List Nat} (h : Ak C N b s ks s') : ∀ S, (∀ a ∈ S, ∀ k ∈ ks, Rch N a k) → Inv C s S → Inv C s' S := by
  induction h with
  | nil b s => exact fun _ _ h => h
  | old hb h ih => exact fun S hS hI => ih S (fun a ha k hk => hS a ha k (by simp [mem_cut hk])) hI
  | @new b s s1 s' k ks hb h1 h2 ih1 ih2 =>
    intro S hS hI
    have i1 := ih1 (k :: S) (fun a ha j hj => by
      rcases List.mem_cons.1 ha with rfl | ha
      · exact .one hj
      · exact (hS a ha k (by simp)).snoc hj) (hI.beg k)
    exact ih2 S (fun a ha j hj => hS a ha j (by simp [mem_cut hj])) (i1.tell (h1.more.1 k (beg_bg s k)))
/-- Behind the asking for it a key was told, just if it can be built. -/
theorem Ask1.told {s s' : St} {S : List Nat} {k : Nat} (hC : ∀ i, C i → ¬ Rch N i i) (h : Ask1 C N s k s') (hS : ∀ a ∈ S, Rch N a k) (hI : Inv C s S) : Inv C s' S ∧ (k ∈ s'.td ↔ C k) ∧ s'.bg k = true := by
  have hA : Ak C N true s [k] s' := Ak.cons h (by rw [cut_go (.inl rfl)]; exact .nil _ _)
  have hI' := hA.inv S (fun a ha j hj => by simp at hj; subst hj; exact hS a ha) hI
  have hb : s'.bg k = true := by
    rcases h with ⟨hb, rfl⟩ | ⟨hb, s1, h1, rfl⟩
    · exact hb
    · rw [St.tell_bg]; exact h1.more.1 k (beg_bg s k)
  refine ⟨hI', ⟨fun hk => (hI'.2 k hk).1, fun hk => ?_⟩, hb⟩
  rcases hI'.1 k hb hk with h | h
  · exact h
  · exact absurd (hS k h) (hC k hk)
theorem Ask1.one {s s' : St} {k : Nat} (h : Ask1 C N s k s') : Ak C N true s [k] s' := Ak.cons h (by rw [cut_go (.inl rfl)]; exact .nil _ _)
end
end Go.Proofs.Ytgohfdgkihoilaa.Rcp
