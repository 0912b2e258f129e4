/- What reaches what, by going through the keys one behind the other. -/
import Derived.Test.YtgohfdgkihoilaaMath
set_option linter.unusedVariables false
namespace Go.Proofs.Ytgohfdgkihoilaa.Rcp

/-- A way whose inner keys are below m. -/
inductive Pth (N : Nat → List Nat) (m : Nat) : Nat → Nat → Prop
  | one {a b : Nat} : b ∈ N a → Pth N m a b
  | via {a j b : Nat} : j < m → Pth N m a j → Pth N m j b → Pth N m a b
theorem Pth.split {N : Nat → List Nat} {m a b : Nat} (h : Pth N (m + 1) a b) : Pth N m a b ∨ (Pth N m a m ∧ Pth N m m b) := by
  induction h with
  | one h => exact .inl (.one h)
  | @via a j b hj _ _ ih1 ih2 =>
    by_cases e : j = m
    · subst e
      refine .inr ⟨?_, ?_⟩
      · rcases ih1 with h | h
        · exact h
        · exact h.1
      · rcases ih2 with h | h
        · exact h
        · exact h.2
    · have hj' : j < m := by omega
      rcases ih1 with h1 | h1
      · rcases ih2 with h2 | h2
        · exact .inl (.via hj' h1 h2)
        · exact .inr ⟨.via hj' h1 h2.1, h2.2⟩
      · rcases ih2 with h2 | h2
        · exact .inr ⟨h1.1, .via hj' h1.2 h2⟩
        · exact .inr ⟨h1.1, h2.2⟩
theorem Pth.zero {N : Nat → List Nat} {a b : Nat} (h : Pth N 0 a b) : b ∈ N a := by
  cases h with
  | one h => exact h
  | via h _ _ => omega
theorem Rch.pth {N : Nat → List Nat} {n a b : Nat} (hN : ∀ k, k < n → ∀ j ∈ N k, j < n) (h : Rch N a b) : a < n → Pth N n a b := by
  induction h with
  | one h => exact fun _ => .one h
  | step h _ ih => exact fun ha => .via (hN _ ha _ h) (.one h) (ih (hN _ ha _ h))
/-- The table at a time: right as far as it goes, and whole as far as m. -/
structure Wr (N : Nat → List Nat) (n m : Nat) (T : Nat → Nat → Bool) : Prop where
  sound : ∀ i k, i < n → k < n → T i k = true → Rch N i k
  whole : ∀ i k, i < n → k < n → Pth N m i k → T i k = true
/-- While keys go through m: as far as row i, and as far as k in it. -/
structure Wm (N : Nat → List Nat) (n m : Nat) (T : Nat → Nat → Bool) (i k : Nat) (T' : Nat → Nat → Bool) : Prop where
  sound : ∀ i k, i < n → k < n → T' i k = true → Rch N i k
  more : ∀ i k, i < n → k < n → T i k = true → T' i k = true
  rows : ∀ a b, a < i → b < n → T a m = true → T m b = true → T' a b = true
  here : ∀ b, b < k → T m b = true → T' i b = true
theorem Wr.wm {N : Nat → List Nat} {n m : Nat} {T : Nat → Nat → Bool} (h : Wr N n m T) : Wm N n m T 0 0 T := ⟨h.sound, fun _ _ _ _ h => h, fun a b h => by omega, fun b h => by omega⟩
theorem Wm.set {N : Nat → List Nat} {n m i k : Nat} {T T' : Nat → Nat → Bool} (hm : m < n) (hi : i < n) (hk : k < n) (h : Wm N n m T i k T') (hT : T' i m = true) :
    Wm N n m T i (k + 1) (fun a b => if a = i ∧ b = k then (T' i k || T' m k) else T' a b) where
  sound a b ha hb hab := by
    by_cases e : a = i ∧ b = k
    · obtain ⟨rfl, rfl⟩ := e
      simp at hab
      rcases hab with hab | hab
      · exact h.sound _ _ ha hb hab
      · exact (h.sound _ _ ha hm hT).trans (h.sound _ _ hm hb hab)
    · rw [if_neg e] at hab; exact h.sound _ _ ha hb hab
  more a b ha hb hab := by
    by_cases e : a = i ∧ b = k
    · obtain ⟨rfl, rfl⟩ := e; rw [if_pos ⟨rfl, rfl⟩, h.more _ _ ha hb hab]; rfl
    · rw [if_neg e]; exact h.more _ _ ha hb hab
  rows a b ha hb h1 h2 := by
    rw [if_neg (by omega)]; exact h.rows a b ha hb h1 h2
  here b hb h2 := by
    by_cases e : b = k
    · subst e; rw [if_pos ⟨rfl, rfl⟩, h.more _ _ hm hk h2]; simp
    · rw [if_neg (by omega)]; exact h.here b (by omega) h2
theorem Wm.next {N : Nat → List Nat} {n m i k : Nat} {T T' : Nat → Nat → Bool} (hm : m < n) (hi : i < n) (h : Wm N n m T i k T') (he : k = n ∨ T' i m = false) : Wm N n m T (i + 1) 0 T' where
  sound := h.sound
  more := h.more
  rows a b ha hb h1 h2 := by
    by_cases e : a = i
    · subst e
      rcases he with he | he
      · exact h.here b (by omega) h2
      · rw [h.more _ _ hi hm h1] at he; cases he
    · exact h.rows a b (by omega) hb h1 h2
  here b hb := by omega
theorem Wm.done {N : Nat → List Nat} {n m : Nat} {T T' : Nat → Nat → Bool} (hm : m < n) (h : Wr N n m T) (h' : Wm N n m T n 0 T') : Wr N n (m + 1) T' where
  sound := h'.sound
  whole i k hi hk hp := by
    rcases hp.split with hp | ⟨h1, h2⟩
    · exact h'.more _ _ hi hk (h.whole _ _ hi hk hp)
    · exact h'.rows _ _ hi hk (h.whole _ _ hi hm h1) (h.whole _ _ hm hk h2)
theorem Wr.all {N : Nat → List Nat} {n : Nat} {T : Nat → Nat → Bool} (hN : ∀ k, k < n → ∀ j ∈ N k, j < n) (h : Wr N n n T) {i k : Nat} (hi : i < n) (hk : k < n) : T i k = true ↔ Rch N i k :=
  ⟨h.sound i k hi hk, fun hr => h.whole i k hi hk (hr.pth hN hi)⟩
end Go.Proofs.Ytgohfdgkihoilaa.Rcp
