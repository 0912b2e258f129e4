/-
  Plain facts for HistoryRow: what an adder can answer, one behind the other; the first way that fits.
-/
import Derived.Test.YteniopbmkooomaaRefW
namespace Go.Proofs.Yteniopbmkooomaa.Hi
open Go.RowKit

/-- What a sum can be behind an event that was answered so. -/
def addStep (e : Ev) (z : Int) : List Int :=
  (if e.ans = (0, z) ∧ (e.op = 1 ∨ e.op = 2) then [wrap64 (z + e.a)] else []) ++ (if e.ans = (0, -1) ∧ e.op = 2 then [z] else [])
def addsUp (st : Int) (r : List Ev) : Nat → List Int
  | 0 => [st]
  | k + 1 => (addsUp st r k).flatMap (addStep (r.getD k ev0))

theorem addStep_len (e : Ev) (z : Int) : (addStep e z).length ≤ 2 := by
  unfold addStep; split <;> split <;> simp
theorem flat_two {f : Int → List Int} (h : ∀ z, (f z).length ≤ 2) : ∀ S : List Int, (S.flatMap f).length ≤ 2 * S.length
  | [] => by simp
  | a :: S => by
    have := flat_two h S
    have := h a
    simp only [List.flatMap_cons, List.length_append, List.length_cons]
    omega
theorem addsUp_len (st : Int) (r : List Ev) : ∀ k, (addsUp st r k).length ≤ 2 ^ k
  | 0 => by simp [addsUp]
  | k + 1 => by
    have h1 := addsUp_len st r k
    have h2 := flat_two (addStep_len (r.getD k ev0)) (addsUp st r k)
    show ((addsUp st r k).flatMap _).length ≤ 2 ^ (k + 1)
    rw [Nat.pow_succ]
    omega

theorem add_ways {n z : Int} {e : Ev} {z' : Int} : z' ∈ addStep e z ↔ ∃ o, o ∈ refWays 1 n [z] e ∧ o.1 = e.ans ∧ o.2 = [z'] := by
  unfold addStep refWays
  simp only [if_true, List.headD_cons]
  by_cases h1 : e.op = 1
  · have h2 : ¬ e.op = 2 := by omega
    simp only [h1, if_true, true_or, and_true]
    constructor
    · intro h
      by_cases ha : e.ans = (0, z)
      · simp [ha] at h
        exact ⟨_, .head _, ha.symm, by rw [h]⟩
      · simp [ha] at h
    · rintro ⟨o, ho, ha, hs⟩
      simp at ho
      subst ho
      simp at ha hs
      simp [← ha, hs]
  · by_cases h2 : e.op = 2
    · simp only [h2, if_true, or_true, and_true]
      constructor
      · intro h
        rcases List.mem_append.1 h with h | h
        · by_cases ha : e.ans = (0, z)
          · simp [ha] at h
            exact ⟨_, .head _, ha.symm, by rw [h]⟩
          · simp [ha] at h
        · by_cases ha : e.ans = (0, -1)
          · simp [ha] at h
            exact ⟨_, .tail _ (.head _), ha.symm, by rw [h]⟩
          · simp [ha] at h
      · rintro ⟨o, ho, ha, hs⟩
        simp at ho
        rcases ho with rfl | rfl
        · simp at ha hs
          simp [← ha, hs]
        · simp at ha hs
          simp [← ha, hs]
    · simp [h1, h2]

theorem ref1_one {n z : Int} {e : Ev} {o : (Int × Int) × List Int} (h : o ∈ refWays 1 n [z] e) : ∃ z', o.2 = [z'] := by
  unfold refWays at h
  simp only [if_true, List.headD_cons] at h
  split at h
  · simp at h; subst h; exact ⟨_, rfl⟩
  · split at h
    · simp at h
      rcases h with rfl | rfl
      · exact ⟨_, rfl⟩
      · exact ⟨_, rfl⟩
    · simp at h

/-- From the event k on. -/
theorem adds_from {n st : Int} {r : List Ev} (hov : ∀ i, i < r.length → (r.getD i ev0).over = true) : ∀ (m k : Nat), k + m = r.length → ((∃ z ∈ addsUp st r k, Acc (refWays 1 n) [z] (r.drop k)) ↔ addsUp st r r.length ≠ [])
  | 0, k, h => by
    have : k = r.length := by omega
    subst this
    rw [List.drop_length]
    constructor
    · rintro ⟨z, hz, _⟩ he
      rw [he] at hz; simp at hz
    · intro hne
      obtain ⟨z, hz⟩ := List.exists_mem_of_ne_nil _ hne
      exact ⟨z, hz, trivial⟩
  | m + 1, k, h => by
    have ih := adds_from (n := n) (st := st) hov m (k + 1) (by omega)
    rw [← ih]
    have hk : k < r.length := by omega
    have hd : r.drop k = r.getD k ev0 :: r.drop (k + 1) := by
      rw [List.drop_eq_getElem_cons hk, List.getD_eq_getElem?_getD, List.getElem?_eq_getElem hk]; rfl
    rw [hd]
    have ho := hov k hk
    constructor
    · rintro ⟨z, hz, o, h1, h2, h3⟩
      obtain ⟨z', hz'⟩ := ref1_one h1
      refine ⟨z', List.mem_flatMap.2 ⟨z, hz, add_ways.2 ⟨o, h1, h2 ho, hz'⟩⟩, ?_⟩
      rw [← hz']; exact h3
    · rintro ⟨z', hz', ha⟩
      obtain ⟨z, hz, hm⟩ := List.mem_flatMap.1 hz'
      obtain ⟨o, h1, h2, h3⟩ := (add_ways (n := n)).1 hm
      exact ⟨z, hz, o, h1, fun _ => h2, by rw [h3]; exact ha⟩

theorem adds_acc {n st : Int} {r : List Ev} (hov : ∀ i, i < r.length → (r.getD i ev0).over = true) : Acc (refWays 1 n) [st] r ↔ addsUp st r r.length ≠ [] := by
  rw [← adds_from (n := n) hov r.length 0 (by omega)]
  simp [addsUp]

/-- What one event, that is over, makes of an order of one. -/
theorem acc_drop {σ : Type} {ways : Ways σ} {r : List Ev} {k : Nat} (hk : k < r.length) (ho : (r.getD k ev0).over = true) (s : σ) :
    Acc ways s (r.drop k) ↔ ∃ o, o ∈ ways s (r.getD k ev0) ∧ o.1 = (r.getD k ev0).ans ∧ Acc ways o.2 (r.drop (k + 1)) := by
  have hd : r.drop k = r.getD k ev0 :: r.drop (k + 1) := by
    rw [List.drop_eq_getElem_cons hk, List.getD_eq_getElem?_getD, List.getElem?_eq_getElem hk]; rfl
  rw [hd]
  constructor
  · rintro ⟨o, h1, h2, h3⟩; exact ⟨o, h1, h2 ho, h3⟩
  · rintro ⟨o, h1, h2, h3⟩; exact ⟨o, h1, fun _ => h2, h3⟩

end Go.Proofs.Yteniopbmkooomaa.Hi
