/-
  What the document's objects can do, as the reference tells it, whole; events one behind the other.
-/
import Derived.Test.YteniopbmkooomaaWays4
namespace Go.Proofs.Yteniopbmkooomaa
open Go.RowKit Hi Go.Deep Go.Maps

/-- A state that an object can have, behind k events. -/
def StOk (ob st : Int) (k : Nat) (s : List Int) : Prop :=
  (ob = 1 ∨ ob = 3 ∨ ob = 4 → ∃ z, s = [z]) ∧ (ob = 2 → s.length ≤ k) ∧ (ob = 5 → s.length = 3 * st.toNat)

set_option maxHeartbeats 1000000 in
set_option maxRecDepth 100000 in
theorem ways2_any (n : Int) (sv : Value) (s : List Int) (x : Ev) (w : World) (h : SI w sv s) (hn : s.length ≤ 1000000) :
    Calls Try.prog 20 #[I 2, I n, sv, evV x] w fun e w' => ∃ v, e = .returned v ∧ WOuts w' v (refWays 2 n s x) ∧ Below w.heap.size w w' := by
  have HS : Hid (SI w sv s) := h
  obtain ⟨p, cap, rfl, hc, hm, _⟩ := h
  unfold maxLen at hm
  have e1 : refWays 2 n s x = wayStack s x := rfl
  rw [e1]
  clear e1
  go_enter Try.func20, Try.ntmps20
  go_wp2_with fail
  refine (stack_any _ s x _ (HS.out.later (below_alloc (Below.refl _ _) _)) hn).mono ?_
  rintro e w2 ⟨v, rfl, hw, hb⟩
  have HW : Hid (WOuts w2 v (wayStack s x)) := hw
  have HB : Hid (Below _ _ w2) := hb
  clear hw hb
  go_wp2_with fail
  go_ret
  exact ⟨_, rfl, HW.out, below_step (below_alloc (Below.refl _ _) _) HB.out⟩

set_option maxHeartbeats 1000000 in
set_option maxRecDepth 100000 in
theorem ways5_any (n : Int) (h1 : 1 ≤ n) (h2 : n ≤ 1000) (sv : Value) (s : List Int) (hl : s.length = 3 * n.toNat) (x : Ev) (w : World) (h : SI w sv s) :
    Calls Try.prog 20 #[I 5, I n, sv, evV x] w fun e w' => ∃ v, e = .returned v ∧ WOuts w' v (refWays 5 n s x) ∧ Below w.heap.size w w' := by
  have HS : Hid (SI w sv s) := h
  obtain ⟨p, cap, rfl, hc, hm, _⟩ := h
  unfold maxLen at hm
  have e1 : refWays 5 n s x = wayThree n s x := rfl
  rw [e1]
  have HL : Hid (s.length = 3 * n.toNat) := hl
  clear e1 hl
  go_enter Try.func20, Try.ntmps20
  go_wp2_with fail
  refine (onces_any n h1 h2 _ s HL.out x _ (HS.out.later (below_alloc (Below.refl _ _) _))).mono ?_
  rintro e w2 ⟨v, rfl, hw, hb⟩
  have HW : Hid (WOuts w2 v (wayThree n s x)) := hw
  have HB : Hid (Below _ _ w2) := hb
  clear hw hb
  go_wp2_with fail
  go_ret
  exact ⟨_, rfl, HW.out, below_step (below_alloc (Below.refl _ _) _) HB.out⟩

theorem ways_any (ob st : Int) (hS : Starts ob st) (k : Nat) (hk : k ≤ 1000) (s : List Int) (hs : StOk ob st k s) (x : Ev) (sv : Value) (w : World) (h : SI w sv s) :
    Calls Try.prog 20 #[I ob, I st, sv, evV x] w fun e w' => ∃ v, e = .returned v ∧ WOuts w' v (refWays ob st s x) ∧ Below w.heap.size w w' := by
  rcases hS with rfl | rfl | ⟨rfl, rfl⟩ | ⟨rfl, h0⟩ | ⟨rfl, h1, h2⟩
  · obtain ⟨z, rfl⟩ := hs.1 (.inl rfl)
    by_cases o1 : x.op = 1
    · exact ways1_one st z sv x o1 w h
    · by_cases o2 : x.op = 2
      · exact ways1_two st z sv x o2 w h
      · exact ways1_none st z sv x o1 o2 w h
  · obtain ⟨z, rfl⟩ := hs.1 (.inr (.inl rfl))
    by_cases o1 : x.op = 1
    · exact ways3_one st z sv x o1 w h
    · by_cases o2 : x.op = 2
      · exact ways3_two st z sv x o2 w h
      · exact ways3_none st z sv x o1 o2 w h
  · exact ways2_any 0 sv s x w h (by have := hs.2.1 rfl; omega)
  · obtain ⟨z, rfl⟩ := hs.1 (.inr (.inr rfl))
    by_cases o1 : x.op = 1
    · by_cases hp : 0 < z
      · exact ways4_down st z sv x o1 hp w h
      · exact ways4_low st z sv x o1 hp w h
    · by_cases o2 : x.op = 2
      · by_cases hz : z = 0
        · exact ways4_wait st z sv x o2 hz w h
        · exact ways4_not st z sv x o2 hz w h
      · exact ways4_none st z sv x o1 o2 w h
  · exact ways5_any st h1 h2 sv s (hs.2.2 rfl) x w h

theorem stOk_first (ob st : Int) : StOk ob st 0 (firstOf ob st) := by
  refine ⟨fun ho => ⟨st, ?_⟩, fun ho => ?_, fun ho => ?_⟩
  · unfold firstOf; rw [if_neg (by omega), if_neg (by omega)]
  · unfold firstOf; rw [if_pos ho]; exact Nat.le_refl _
  · unfold firstOf; rw [if_neg (by omega), if_pos ho]; simp

theorem stOk_next {ob st : Int} {k : Nat} {s : List Int} {x : Ev} (h : StOk ob st k s) {o : (Int × Int) × List Int} (ho : o ∈ refWays ob st s x) : StOk ob st (k + 1) o.2 := by
  unfold refWays at ho
  split at ho
  · rename_i h1
    obtain ⟨z, rfl⟩ := h.1 (.inl h1)
    have key : ∃ z', o.2 = [z'] := by
      split at ho
      · simp at ho; subst ho; exact ⟨_, rfl⟩
      · split at ho
        · simp at ho
          rcases ho with rfl | rfl
          · exact ⟨_, rfl⟩
          · exact ⟨_, rfl⟩
        · simp at ho
    exact ⟨fun _ => key, fun h => by omega, fun h => by omega⟩
  · split at ho
    · rename_i h2
      have hl := h.2.1 h2
      refine ⟨fun h => by omega, fun _ => ?_, fun h => by omega⟩
      unfold wayStack at ho
      split at ho
      · simp at ho
        rcases ho with rfl | rfl
        · simp; omega
        · simp only []; omega
      · split at ho
        · split at ho
          · simp at ho; subst ho; simp only []; omega
          · simp at ho; subst ho; simp only [List.length_dropLast]; omega
        · simp at ho
    · split at ho
      · rename_i h3
        obtain ⟨z, rfl⟩ := h.1 (.inr (.inl h3))
        have key : ∃ z', o.2 = [z'] := by
          split at ho
          · simp at ho; subst ho; exact ⟨_, rfl⟩
          · split at ho
            · simp at ho; subst ho; exact ⟨_, rfl⟩
            · simp at ho
        exact ⟨fun _ => key, fun h => by omega, fun h => by omega⟩
      · split at ho
        · rename_i h4
          obtain ⟨z, rfl⟩ := h.1 (.inr (.inr h4))
          have key : ∃ z', o.2 = [z'] := by
            split at ho
            · split at ho
              · simp at ho; subst ho; exact ⟨_, rfl⟩
              · simp at ho; subst ho; exact ⟨_, rfl⟩
            · split at ho
              · split at ho
                · simp at ho; subst ho; exact ⟨_, rfl⟩
                · simp at ho
              · simp at ho
          exact ⟨fun _ => key, fun h => by omega, fun h => by omega⟩
        · refine ⟨fun h => by omega, fun h => by omega, fun h5 => ?_⟩
          have hl := h.2.2 h5
          unfold wayThree at ho
          split at ho
          · simp at ho
          · split at ho
            · simp at ho; subst ho; exact hl
            · simp at ho; subst ho; simp [hl]

/-! ### The first way that fits, and all that fit -/

/-- One answer fits one way at most. -/
def OneWay {σ : Type} (ways : Ways σ) (ok : σ → Prop) : Prop := ∀ s e o o', ok s → o ∈ ways s e → o' ∈ ways s e → o.1 = e.ans → o'.1 = e.ans → o = o'

theorem refWays_one (ob n : Int) (h1 : ob ≠ 1) (s : List Int) (e : Ev) (o o' : (Int × Int) × List Int) (ho : o ∈ refWays ob n s e) (ho' : o' ∈ refWays ob n s e) (ha : o.1 = e.ans) (ha' : o'.1 = e.ans) : o = o' := by
  unfold refWays at ho ho'
  rw [if_neg h1] at ho ho'
  split at ho
  · rename_i h2
    rw [if_pos h2] at ho'
    unfold wayStack at ho ho'
    split at ho
    · rename_i hop
      rw [if_pos hop] at ho'
      simp at ho ho'
      rcases ho with rfl | rfl <;> rcases ho' with rfl | rfl
      · rfl
      · rw [← ha] at ha'; simp at ha'
      · rw [← ha] at ha'; simp at ha'
      · rfl
    · rename_i hop
      rw [if_neg hop] at ho'
      split at ho
      · rename_i hop2
        rw [if_pos hop2] at ho'
        split at ho
        · rename_i hr
          simp only [hr] at ho'
          simp at ho ho'; rw [ho, ho']
        · rename_i hr
          simp only [hr] at ho'
          simp at ho ho'; rw [ho, ho']
      · simp at ho
  · rename_i h2
    rw [if_neg h2] at ho'
    have hone : ∀ {l : List ((Int × Int) × List Int)}, l.length ≤ 1 → o ∈ l → o' ∈ l → o = o' := fun {l} hl h h' => by
      match l, hl with
      | [], _ => simp at h
      | [a], _ => simp at h h'; rw [h, h']
    refine hone ?_ ho ho'
    repeat' split
    all_goals first | simp | (unfold wayThree; repeat' split) 
    all_goals simp

end Go.Proofs.Yteniopbmkooomaa
