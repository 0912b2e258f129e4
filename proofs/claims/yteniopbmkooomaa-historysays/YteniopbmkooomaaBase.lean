/-
  What the small calls of package history do: over, evAhead, helps, the adder.
-/
import Derived.Test.YteniopbmkooomaaRows
import Derived.Test.YteniopbmkooomaaMath
import Derived.WalkKit
import Derived.WalkSpells
import Derived.WalkLawsBesides
import Derived.Deep.QuietTactic
import Derived.BigQuiet
import Derived.Deep.MidRow
namespace Go.Proofs.Yteniopbmkooomaa
open Go.RowKit Hi

abbrev I (n : Int) : Value := .int .i64 n
abbrev U (n : Int) : Value := .int .u64 n
/-- The cells of an event. -/
abbrev evC (e : Ev) : Array Value := #[I e.thr, I e.op, I e.a, I e.b, I e.beg, I e.fin, I e.code, I e.val]
abbrev evV (e : Ev) : Value := .agg (evC e)

theorem ret_int {k : IntKind} {a b : Int} (h : a = b) : Ending.returned (.int k a) = .returned (.int k b) := by rw [h]
theorem ret_bool {a b : Bool} (h : a = b) : Ending.returned (.bool a) = .returned (.bool b) := by rw [h]

set_option maxHeartbeats 400000 in
theorem over_any (x : Ev) (w : World) :
    Calls Try.prog 49 #[evV x] w fun e w' => e = .returned (.bool x.over) ∧ w' = w.alloc (.cells (evC x) 33) := by
  go_enter Try.func49, Try.ntmps49
  go_wp2
  go_ret
  exact ⟨ret_bool (by unfold Ev.over; rfl), rfl⟩


set_option maxHeartbeats 400000 in
theorem ahead_any (x y : Ev) (w : World) :
    Calls Try.prog 43 #[evV x, evV y] w fun e w' => e = .returned (.bool (evAhead x y)) ∧ Below w.heap.size w w' := by
  cases ho : x.over
  · have H : Hid (x.over = false) := ho
    have hr : evAhead x y = false := by unfold evAhead; rw [ho]; rfl
    rw [hr]; clear ho hr
    go_enter Try.func43, Try.ntmps43
    go_wp2_with (go_at_call 49; refine (over_any _ _).mono ?_; rintro e w' ⟨rfl, rfl⟩; rw [H.out])
    go_ret
    exact ⟨rfl, (((Below.refl _ _).alloc (Nat.le_refl _) _).alloc (by simp) _).alloc (by simp; omega) _⟩
  · have H : Hid (x.over = true) := ho
    have hr : evAhead x y = decide (x.fin < y.beg) := by unfold evAhead; rw [ho]; rfl
    rw [hr]; clear ho hr
    go_enter Try.func43, Try.ntmps43
    go_wp2_with (go_at_call 49; refine (over_any _ _).mono ?_; rintro e w' ⟨rfl, rfl⟩; rw [H.out])
    go_ret
    exact ⟨rfl, (((Below.refl _ _).alloc (Nat.le_refl _) _).alloc (by simp) _).alloc (by simp; omega) _⟩

/-- An outcome of a state that is an int. -/
abbrev oiC (o : (Int × Int) × Int) : Array Value := #[I o.1.1, I o.1.2, I o.2]

/-- May it stand next with this outcome? -/
def Helps {σ : Type} (x : Ev) (s : σ) (o : (Int × Int) × σ) : Prop := (x.over = true → o.1 = x.ans) ∧ (x.over = false → o.2 ≠ s)

theorem helps_not {σ : Type} {x : Ev} {s : σ} {o : (Int × Int) × σ} (h : x.over = false) : Helps x s o ↔ o.2 ≠ s := by unfold Helps; rw [h]; simp
theorem helps_over {σ : Type} {x : Ev} {s : σ} {o : (Int × Int) × σ} (h : x.over = true) : Helps x s o ↔ o.1 = x.ans := by unfold Helps; rw [h]; simp

set_option maxHeartbeats 400000 in
theorem helpsI_any (x : Ev) (s : Int) (o : (Int × Int) × Int) (w : World) :
    Calls Try.prog 46 #[evV x, I s, .agg (oiC o)] w fun e w' => ∃ b, e = .returned (.bool b) ∧ (b = true ↔ Helps x s o) ∧ Below w.heap.size w w' := by
  obtain ⟨⟨c, v⟩, t⟩ := o
  cases ho : x.over
  · have H : Hid (x.over = false) := ho
    clear ho
    go_enter Try.func46, Try.ntmps46
    go_wp2_with (go_at_call 49; refine (over_any _ _).mono ?_; rintro e w' ⟨rfl, rfl⟩; rw [H.out])
    all_goals
      go_ret
      refine ⟨_, rfl, ?_, (((Below.refl _ _).alloc (Nat.le_refl _) _).alloc (by simp) _).alloc (by simp; omega) _⟩
      rw [helps_not H.out]
      simp
      omega
  · have H : Hid (x.over = true) := ho
    clear ho
    go_enter Try.func46, Try.ntmps46
    go_wp2_with (go_at_call 49; refine (over_any _ _).mono ?_; rintro e w' ⟨rfl, rfl⟩; rw [H.out])
    all_goals
      go_ret
      refine ⟨_, rfl, ?_, (((Below.refl _ _).alloc (Nat.le_refl _) _).alloc (by simp) _).alloc (by simp; omega) _⟩
      rw [helps_over H.out]
      simp [Ev.ans]
      try omega

/-- A slice holds outcomes: n cells a state. -/
def Outs {σ : Type} (n : Nat) (enc : σ → List Value) (w : World) (v : Value) (l : List ((Int × Int) × σ)) : Prop :=
  ∃ p, v = .slice p l.length l.length ∧ ∀ i o, l[i]? = some o → ∃ blk, p = some ⟨blk, 0, none⟩ ∧ w.rangeAt blk (i * n) ([I o.1.1, I o.1.2] ++ enc o.2)

theorem outs_nil {σ : Type} (n : Nat) (enc : σ → List Value) (w : World) : Outs n enc w (.slice none 0 0) [] := ⟨none, rfl, fun i o h => by simp at h⟩
theorem outs_one {σ : Type} {n : Nat} {enc : σ → List Value} {w : World} {blk : Nat} {o : (Int × Int) × σ} (h : w.rangeAt blk 0 ([I o.1.1, I o.1.2] ++ enc o.2)) :
    Outs n enc w (.slice (some ⟨blk, 0, none⟩) 1 1) [o] := ⟨_, rfl, fun i o' hi => by
  cases i with
  | zero => simp at hi; subst hi; exact ⟨blk, rfl, by simpa using h⟩
  | succ i => simp at hi⟩
theorem outs_two {σ : Type} {n : Nat} {enc : σ → List Value} {w : World} {blk : Nat} {o o2 : (Int × Int) × σ} (h : w.rangeAt blk 0 ([I o.1.1, I o.1.2] ++ enc o.2)) (h2 : w.rangeAt blk n ([I o2.1.1, I o2.1.2] ++ enc o2.2)) :
    Outs n enc w (.slice (some ⟨blk, 0, none⟩) 2 2) [o, o2] := ⟨_, rfl, fun i o' hi => by
  match i, hi with
  | 0, hi => simp at hi; subst hi; exact ⟨blk, rfl, by simpa using h⟩
  | 1, hi => simp at hi; subst hi; exact ⟨blk, rfl, by simpa using h2⟩
  | i + 2, hi => simp at hi⟩

/-- Cells of a new block, from a place on. -/
theorem range_new (w : World) (cs : Array Value) (t : TypeId) (o : Nat) (l : List Value) (h : (cs.toList.drop o).take l.length = l) {b : Nat} (hb : b = w.heap.size) : (w.alloc (.cells cs t)).rangeAt b o l := by
  subst hb
  intro j v hj
  simp only [World.cell?, heap_alloc_new]
  have hl : j < l.length := (List.getElem?_eq_some_iff.1 hj).1
  rw [← h, List.getElem?_take, if_pos hl, List.getElem?_drop] at hj
  simpa using hj

def encI (s : Int) : List Value := [I s]

def wayAdder : Ways Int := fun s e =>
  if e.op = 1 then [((0, s), wrap64 (s + e.a))] else if e.op = 2 then [((0, s), wrap64 (s + e.a)), ((0, -1), s)] else []


set_option maxHeartbeats 400000 in
theorem askAdder_any (s : Int) (x : Ev) (w : World) :
    Calls Try.prog 27 #[I s, evV x] w fun e w' => ∃ v, e = .returned v ∧ Outs 3 encI w' v (wayAdder s x) ∧ Below w.heap.size w w' := by
  by_cases h1 : x.op = 1
  · have e1 : wayAdder s x = [((0, s), wrap64 (s + x.a))] := by unfold wayAdder; rw [if_pos h1]
    rw [e1]
    have h1' : (x.op == 1) = true := by simpa using h1
    clear e1 h1
    go_enter Try.func27, Try.ntmps27
    go_wp2
    go_ret
    refine ⟨_, rfl, outs_one (range_new _ _ _ _ _ rfl (by simp)), ?_⟩
    repeat (first | exact Below.refl _ _ | refine Below.alloc ?_ (by simp; try omega) _)
  · have h1' : (x.op == 1) = false := by simpa using h1
    by_cases h2 : x.op = 2
    · have e1 : wayAdder s x = [((0, s), wrap64 (s + x.a)), ((0, -1), s)] := by unfold wayAdder; rw [if_neg h1, if_pos h2]
      rw [e1]
      have h2' : (x.op == 2) = true := by simpa using h2
      clear e1 h1 h2
      go_enter Try.func27, Try.ntmps27
      go_wp2
      go_ret
      refine ⟨_, rfl, outs_two (range_new _ _ _ _ _ rfl (by simp)) (range_new _ _ _ _ _ rfl (by simp)), ?_⟩
      repeat (first | exact Below.refl _ _ | refine Below.alloc ?_ (by simp; try omega) _)
    · have e1 : wayAdder s x = [] := by unfold wayAdder; rw [if_neg h1, if_neg h2]
      rw [e1]
      have h2' : (x.op == 2) = false := by simpa using h2
      clear e1 h1 h2
      go_enter Try.func27, Try.ntmps27
      go_wp2
      go_ret
      refine ⟨_, rfl, outs_nil _ _ _, ?_⟩
      repeat (first | exact Below.refl _ _ | refine Below.alloc ?_ (by simp; try omega) _)

def wayCounter : Ways Int := fun s e =>
  if e.op = 1 then [((0, 0), wrap64 (s + e.a.tmod 1000))] else if e.op = 2 then [((0, s), s)] else []

set_option maxHeartbeats 400000 in
theorem askCounter_any (s : Int) (x : Ev) (w : World) :
    Calls Try.prog 30 #[I s, evV x] w fun e w' => ∃ v, e = .returned v ∧ Outs 3 encI w' v (wayCounter s x) ∧ Below w.heap.size w w' := by
  by_cases h1 : x.op = 1
  · have e1 : wayCounter s x = [((0, 0), wrap64 (s + x.a.tmod 1000))] := by unfold wayCounter; rw [if_pos h1]
    rw [e1]
    have h1' : (x.op == 1) = true := by simpa using h1
    clear e1 h1
    go_enter Try.func30, Try.ntmps30
    go_wp2
    go_ret
    refine ⟨_, rfl, outs_one (range_new _ _ _ _ _ rfl (by simp)), ?_⟩
    repeat (first | exact Below.refl _ _ | refine Below.alloc ?_ (by simp; try omega) _)
  · have h1' : (x.op == 1) = false := by simpa using h1
    by_cases h2 : x.op = 2
    · have e1 : wayCounter s x = [((0, s), s)] := by unfold wayCounter; rw [if_neg h1, if_pos h2]
      rw [e1]
      have h2' : (x.op == 2) = true := by simpa using h2
      clear e1 h1 h2
      go_enter Try.func30, Try.ntmps30
      go_wp2
      go_ret
      refine ⟨_, rfl, outs_one (range_new _ _ _ _ _ rfl (by simp)), ?_⟩
      repeat (first | exact Below.refl _ _ | refine Below.alloc ?_ (by simp; try omega) _)
    · have e1 : wayCounter s x = [] := by unfold wayCounter; rw [if_neg h1, if_neg h2]
      rw [e1]
      have h2' : (x.op == 2) = false := by simpa using h2
      clear e1 h1 h2
      go_enter Try.func30, Try.ntmps30
      go_wp2
      go_ret
      refine ⟨_, rfl, outs_nil _ _ _, ?_⟩
      repeat (first | exact Below.refl _ _ | refine Below.alloc ?_ (by simp; try omega) _)

def wayLatch : Ways Int := fun s e =>
  if e.op = 1 then (if s = 0 then [((50, 0), s)] else [((0, 0), wrap64 (s - 1))]) else if e.op = 2 then (if s = 0 then [((0, 0), s)] else []) else []

set_option maxHeartbeats 400000 in
theorem askLatch_any (s : Int) (x : Ev) (w : World) :
    Calls Try.prog 31 #[I s, evV x] w fun e w' => ∃ v, e = .returned v ∧ Outs 3 encI w' v (wayLatch s x) ∧ Below w.heap.size w w' := by
  by_cases h1 : x.op = 1
  · have h1' : (x.op == 1) = true := by simpa using h1
    have h2' : (x.op == 2) = false := by rw [h1]; rfl
    by_cases h0 : s = 0
    · have e1 : wayLatch s x = [((50, 0), s)] := by unfold wayLatch; rw [if_pos h1, if_pos h0]
      rw [e1]
      have h0' : (s == 0) = true := by simpa using h0
      clear e1 h1 h0
      go_enter Try.func31, Try.ntmps31
      go_wp2
      go_ret
      refine ⟨_, rfl, outs_one (range_new _ _ _ _ _ rfl (by simp)), ?_⟩
      repeat (first | exact Below.refl _ _ | refine Below.alloc ?_ (by simp; try omega) _)
    · have e1 : wayLatch s x = [((0, 0), wrap64 (s - 1))] := by unfold wayLatch; rw [if_pos h1, if_neg h0]
      rw [e1]
      have h0' : (s == 0) = false := by simpa using h0
      clear e1 h1 h0
      go_enter Try.func31, Try.ntmps31
      go_wp2
      go_ret
      refine ⟨_, rfl, outs_one (range_new _ _ _ _ _ rfl (by simp)), ?_⟩
      repeat (first | exact Below.refl _ _ | refine Below.alloc ?_ (by simp; try omega) _)
  · have h1' : (x.op == 1) = false := by simpa using h1
    by_cases h2 : x.op = 2
    · have h2' : (x.op == 2) = true := by simpa using h2
      by_cases h0 : s = 0
      · have e1 : wayLatch s x = [((0, 0), s)] := by unfold wayLatch; rw [if_neg h1, if_pos h2, if_pos h0]
        rw [e1]
        have h0' : (s == 0) = true := by simpa using h0
        clear e1 h1 h2 h0
        go_enter Try.func31, Try.ntmps31
        go_wp2
        go_ret
        refine ⟨_, rfl, outs_one (range_new _ _ _ _ _ rfl (by simp)), ?_⟩
        repeat (first | exact Below.refl _ _ | refine Below.alloc ?_ (by simp; try omega) _)
      · have e1 : wayLatch s x = [] := by unfold wayLatch; rw [if_neg h1, if_pos h2, if_neg h0]
        rw [e1]
        have h0' : (s == 0) = false := by simpa using h0
        clear e1 h1 h2 h0
        go_enter Try.func31, Try.ntmps31
        go_wp2
        go_ret
        refine ⟨_, rfl, outs_nil _ _ _, ?_⟩
        repeat (first | exact Below.refl _ _ | refine Below.alloc ?_ (by simp; try omega) _)
    · have e1 : wayLatch s x = [] := by unfold wayLatch; rw [if_neg h1, if_neg h2]
      rw [e1]
      have h2' : (x.op == 2) = false := by simpa using h2
      clear e1 h1 h2
      go_enter Try.func31, Try.ntmps31
      go_wp2
      go_ret
      refine ⟨_, rfl, outs_nil _ _ _, ?_⟩
      repeat (first | exact Below.refl _ _ | refine Below.alloc ?_ (by simp; try omega) _)

end Go.Proofs.Yteniopbmkooomaa
