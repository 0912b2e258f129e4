/-
  Plain facts on histories, without any program: orders that explain a history, step by step and as a whole.
-/
import Derived.WalkKit
namespace Go.Proofs.Yteniopbmkooomaa.Hi
open Go.RowKit

/-- An event. -/
structure Ev where
  thr : Int
  op : Int
  a : Int
  b : Int
  beg : Int
  fin : Int
  code : Int
  val : Int

def ev0 : Ev := ⟨0, 0, 0, 0, 0, 0, 0, 0⟩

/-- It is over. -/
def Ev.over (x : Ev) : Bool := !(x.fin == -1)
/-- x is ahead of y. -/
def evAhead (x y : Ev) : Bool := x.over && decide (x.fin < y.beg)
/-- What it was answered. -/
def Ev.ans (x : Ev) : Int × Int := (x.code, x.val)

theorem evAhead_over {x y : Ev} (h : evAhead x y = true) : x.over = true := by
  unfold evAhead at h; simp at h; exact h.1
theorem evAhead_lt {x y : Ev} (h : evAhead x y = true) : x.fin < y.beg := by
  unfold evAhead at h; simp at h; exact h.2
theorem over_iff {x : Ev} : x.over = true ↔ x.fin ≠ -1 := by unfold Ev.over; simp

/-- Is an event well timed? -/
def Timed (x : Ev) : Prop := 0 ≤ x.beg ∧ (x.fin = -1 ∨ x.beg < x.fin)
/-- Two of one thread are one behind the other. -/
def Two (x y : Ev) : Prop := x.thr = y.thr → evAhead x y = true ∨ evAhead y x = true

/-- Events that are a history. -/
def Hist (l : List Ev) : Prop := ∀ i, i < l.length → Timed (l.getD i ev0) ∧ ∀ k, k < i → Two (l.getD i ev0) (l.getD k ev0)

theorem Hist.irr {l : List Ev} (h : Hist l) {i : Nat} (hi : i < l.length) : evAhead (l.getD i ev0) (l.getD i ev0) = false := by
  cases e : evAhead (l.getD i ev0) (l.getD i ev0) with
  | false => rfl
  | true =>
    have h1 := evAhead_lt e
    have h2 := over_iff.1 (evAhead_over e)
    have h3 := (h i hi).1
    unfold Timed at h3
    omega

/-- What an object can do. -/
abbrev Ways (σ : Type) := σ → Ev → List ((Int × Int) × σ)

/-- Events one behind the other, from a state on. -/
def Acc {σ : Type} (ways : Ways σ) : σ → List Ev → Prop
  | _, [] => True
  | s, e :: r => ∃ o, o ∈ ways s e ∧ (e.over = true → o.1 = e.ans) ∧ Acc ways o.2 r

/-- There is an order that explains a history. -/
def Lin {σ : Type} (ways : Ways σ) (s : σ) (l : List Ev) : Prop :=
  ∃ ord : List Nat, ord.Nodup ∧ (∀ i ∈ ord, i < l.length) ∧ (∀ i, i < l.length → (l.getD i ev0).over = true → i ∈ ord) ∧
    ord.Pairwise (fun i j => evAhead (l.getD j ev0) (l.getD i ev0) = false) ∧ Acc ways s (ord.map fun i => l.getD i ev0)

/-- An order, step by step: behind those that are taken. -/
def Run {σ : Type} (ways : Ways σ) (l : List Ev) : Nat → σ → List Nat → Prop
  | T, _, [] => ∀ i, i < l.length → (l.getD i ev0).over = true → T.testBit i = true
  | T, s, i :: r => i < l.length ∧ T.testBit i = false ∧ (∀ k, k < l.length → evAhead (l.getD k ev0) (l.getD i ev0) = true → T.testBit k = true) ∧
      ∃ o, o ∈ ways s (l.getD i ev0) ∧ ((l.getD i ev0).over = true → o.1 = (l.getD i ev0).ans) ∧ Run ways l (T ||| 2 ^ i) o.2 r

/-- .. where one that is not over changes something. -/
def RunH {σ : Type} (ways : Ways σ) (l : List Ev) : Nat → σ → List Nat → Prop
  | T, _, [] => ∀ i, i < l.length → (l.getD i ev0).over = true → T.testBit i = true
  | T, s, i :: r => i < l.length ∧ T.testBit i = false ∧ (∀ k, k < l.length → evAhead (l.getD k ev0) (l.getD i ev0) = true → T.testBit k = true) ∧
      ∃ o, o ∈ ways s (l.getD i ev0) ∧ ((l.getD i ev0).over = true → o.1 = (l.getD i ev0).ans) ∧ ((l.getD i ev0).over = false → o.2 ≠ s) ∧ RunH ways l (T ||| 2 ^ i) o.2 r

def Goes {σ : Type} (ways : Ways σ) (l : List Ev) (T : Nat) (s : σ) : Prop := ∃ ord, Run ways l T s ord
def GoesH {σ : Type} (ways : Ways σ) (l : List Ev) (T : Nat) (s : σ) : Prop := ∃ ord, RunH ways l T s ord

theorem bit_or (T i j : Nat) : (T ||| 2 ^ i).testBit j = (T.testBit j || decide (i = j)) := by
  rw [Nat.testBit_or, Nat.testBit_two_pow]

theorem run_less {σ : Type} {ways : Ways σ} {l : List Ev} : ∀ (r : List Nat) (T i : Nat) (s : σ), (l.getD i ev0).over = false → Run ways l (T ||| 2 ^ i) s r → Run ways l T s r
  | [], T, i, s, hi, h => by
    intro j hj ho
    have := h j hj ho
    rw [bit_or] at this
    rcases Bool.or_eq_true _ _ ▸ this with h' | h'
    · exact h'
    · have := of_decide_eq_true h'
      subst this
      rw [hi] at ho; cases ho
  | j :: r, T, i, s, hi, h => by
    obtain ⟨h1, h2, h3, o, h4, h5, h6⟩ := h
    rw [bit_or] at h2
    have h2' := Bool.or_eq_false_iff.1 h2
    refine ⟨h1, h2'.1, fun k hk ha => ?_, o, h4, h5, ?_⟩
    · have := h3 k hk ha
      rw [bit_or] at this
      rcases Bool.or_eq_true _ _ ▸ this with h' | h'
      · exact h'
      · have := of_decide_eq_true h'
        subst this
        have := evAhead_over ha
        rw [hi] at this; cases this
    · refine run_less r _ i _ hi ?_
      rw [Nat.or_assoc, Nat.or_comm (2 ^ j), ← Nat.or_assoc]
      exact h6

theorem run_h {σ : Type} {ways : Ways σ} {l : List Ev} : ∀ (n : Nat) (r : List Nat) (T : Nat) (s : σ), r.length ≤ n → Run ways l T s r → GoesH ways l T s
  | _, [], T, s, _, h => ⟨[], h⟩
  | 0, i :: r, T, s, hn, _ => by simp at hn
  | n + 1, i :: r, T, s, hn, h => by
    obtain ⟨h1, h2, h3, o, h4, h5, h6⟩ := h
    have hl : r.length ≤ n := by simp at hn; omega
    by_cases hc : (l.getD i ev0).over = false ∧ o.2 = s
    · obtain ⟨c1, c2⟩ := hc
      rw [c2] at h6
      exact run_h n r T s hl (run_less r T i s c1 h6)
    · obtain ⟨ord, ho⟩ := run_h n r _ _ hl h6
      exact ⟨i :: ord, h1, h2, h3, o, h4, h5, fun hf he => hc ⟨hf, he⟩, ho⟩

theorem runH_run {σ : Type} {ways : Ways σ} {l : List Ev} : ∀ (r : List Nat) (T : Nat) (s : σ), RunH ways l T s r → Run ways l T s r
  | [], _, _, h => h
  | i :: r, _, _, h => by
    obtain ⟨h1, h2, h3, o, h4, h5, _, h6⟩ := h
    exact ⟨h1, h2, h3, o, h4, h5, runH_run r _ _ h6⟩

theorem goesH_iff {σ : Type} {ways : Ways σ} {l : List Ev} {T : Nat} {s : σ} : GoesH ways l T s ↔ Goes ways l T s :=
  ⟨fun ⟨r, h⟩ => ⟨r, runH_run r T s h⟩, fun ⟨r, h⟩ => run_h r.length r T s (Nat.le_refl _) h⟩

/-- What a search does: there is nothing left, or a next one. -/
theorem goesH_step {σ : Type} {ways : Ways σ} {l : List Ev} {T : Nat} {s : σ} : GoesH ways l T s ↔
    (∀ i, i < l.length → (l.getD i ev0).over = true → T.testBit i = true) ∨
    ∃ i, i < l.length ∧ T.testBit i = false ∧ (∀ k, k < l.length → evAhead (l.getD k ev0) (l.getD i ev0) = true → T.testBit k = true) ∧
      ∃ o, o ∈ ways s (l.getD i ev0) ∧ ((l.getD i ev0).over = true → o.1 = (l.getD i ev0).ans) ∧ ((l.getD i ev0).over = false → o.2 ≠ s) ∧ GoesH ways l (T ||| 2 ^ i) o.2 := by
  constructor
  · rintro ⟨ord, h⟩
    cases ord with
    | nil => exact .inl h
    | cons i r =>
      obtain ⟨h1, h2, h3, o, h4, h5, h6, h7⟩ := h
      exact .inr ⟨i, h1, h2, h3, o, h4, h5, h6, r, h7⟩
  · rintro (h | ⟨i, h1, h2, h3, o, h4, h5, h6, r, h7⟩)
    · exact ⟨[], h⟩
    · exact ⟨i :: r, h1, h2, h3, o, h4, h5, h6, h7⟩

theorem goes_step {σ : Type} {ways : Ways σ} {l : List Ev} {T : Nat} {s : σ} : Goes ways l T s ↔
    (∀ i, i < l.length → (l.getD i ev0).over = true → T.testBit i = true) ∨
    ∃ i, i < l.length ∧ T.testBit i = false ∧ (∀ k, k < l.length → evAhead (l.getD k ev0) (l.getD i ev0) = true → T.testBit k = true) ∧
      ∃ o, o ∈ ways s (l.getD i ev0) ∧ ((l.getD i ev0).over = true → o.1 = (l.getD i ev0).ans) ∧ Goes ways l (T ||| 2 ^ i) o.2 := by
  constructor
  · rintro ⟨ord, h⟩
    cases ord with
    | nil => exact .inl h
    | cons i r =>
      obtain ⟨h1, h2, h3, o, h4, h5, h7⟩ := h
      exact .inr ⟨i, h1, h2, h3, o, h4, h5, r, h7⟩
  · rintro (h | ⟨i, h1, h2, h3, o, h4, h5, r, h7⟩)
    · exact ⟨[], h⟩
    · exact ⟨i :: r, h1, h2, h3, o, h4, h5, h7⟩

/-- Step by step, and as a whole. -/
theorem run_whole {σ : Type} {ways : Ways σ} {l : List Ev} : ∀ (ord : List Nat) (T : Nat) (s : σ), Run ways l T s ord →
    ord.Nodup ∧ (∀ i ∈ ord, i < l.length ∧ T.testBit i = false) ∧ (∀ i, i < l.length → (l.getD i ev0).over = true → T.testBit i = true ∨ i ∈ ord) ∧
    ord.Pairwise (fun i j => evAhead (l.getD j ev0) (l.getD i ev0) = false) ∧ Acc ways s (ord.map fun i => l.getD i ev0)
  | [], T, s, h => ⟨List.nodup_nil, by simp, fun i hi ho => .inl (h i hi ho), List.Pairwise.nil, trivial⟩
  | i :: r, T, s, h => by
    obtain ⟨h1, h2, h3, o, h4, h5, h6⟩ := h
    obtain ⟨g1, g2, g3, g4, g5⟩ := run_whole r _ _ h6
    have hnot : ∀ j ∈ r, T.testBit j = false ∧ i ≠ j := fun j hj => by
      have := (g2 j hj).2
      rw [bit_or] at this
      have := Bool.or_eq_false_iff.1 this
      exact ⟨this.1, of_decide_eq_false this.2⟩
    refine ⟨List.nodup_cons.2 ⟨fun hm => (hnot i hm).2 rfl, g1⟩, fun j hj => ?_, fun j hj ho => ?_, List.pairwise_cons.2 ⟨fun j hj => ?_, g4⟩, o, h4, h5, g5⟩
    · rcases List.mem_cons.1 hj with rfl | hj
      · exact ⟨h1, h2⟩
      · exact ⟨(g2 j hj).1, (hnot j hj).1⟩
    · rcases g3 j hj ho with h' | h'
      · rw [bit_or] at h'
        rcases Bool.or_eq_true _ _ ▸ h' with h'' | h''
        · exact .inl h''
        · exact .inr (by rw [← of_decide_eq_true h'']; simp)
      · exact .inr (List.mem_cons_of_mem _ h')
    · cases e : evAhead (l.getD j ev0) (l.getD i ev0) with
      | false => rfl
      | true =>
        have := h3 j (g2 j hj).1 e
        rw [(hnot j hj).1] at this; cases this

theorem whole_run {σ : Type} {ways : Ways σ} {l : List Ev} (hirr : ∀ i, i < l.length → evAhead (l.getD i ev0) (l.getD i ev0) = false) : ∀ (ord : List Nat) (T : Nat) (s : σ),
    ord.Nodup → (∀ i ∈ ord, i < l.length ∧ T.testBit i = false) → (∀ i, i < l.length → (l.getD i ev0).over = true → T.testBit i = true ∨ i ∈ ord) →
    ord.Pairwise (fun i j => evAhead (l.getD j ev0) (l.getD i ev0) = false) → Acc ways s (ord.map fun i => l.getD i ev0) → Run ways l T s ord
  | [], T, s, _, _, h, _, _ => fun i hi ho => (h i hi ho).resolve_right (by simp)
  | i :: r, T, s, h1, h2, h3, h4, h5 => by
    obtain ⟨n1, n2⟩ := List.nodup_cons.1 h1
    obtain ⟨p1, p2⟩ := List.pairwise_cons.1 h4
    obtain ⟨o, a1, a2, a3⟩ := h5
    have hi := h2 i (by simp)
    refine ⟨hi.1, hi.2, fun k hk ha => ?_, o, a1, a2, whole_run hirr r _ _ n2 (fun j hj => ⟨(h2 j (by simp [hj])).1, ?_⟩) (fun j hj ho => ?_) p2 a3⟩
    · rcases h3 k hk (evAhead_over ha) with h' | h'
      · exact h'
      · rcases List.mem_cons.1 h' with rfl | h'
        · rw [hirr k hk] at ha; cases ha
        · rw [p1 k h'] at ha; cases ha
    · rw [bit_or, (h2 j (by simp [hj])).2]
      have : i ≠ j := fun e => n1 (e ▸ hj)
      simp [this]
    · rw [bit_or]
      rcases h3 j hj ho with h' | h'
      · left; rw [h']; rfl
      · rcases List.mem_cons.1 h' with rfl | h'
        · left; simp
        · exact .inr h'

theorem lin_iff {σ : Type} {ways : Ways σ} {l : List Ev} (hh : Hist l) (s : σ) : Lin ways s l ↔ Goes ways l 0 s := by
  constructor
  · rintro ⟨ord, h1, h2, h3, h4, h5⟩
    exact ⟨ord, whole_run (fun i hi => hh.irr hi) ord 0 s h1 (fun i hi => ⟨h2 i hi, by simp⟩) (fun i hi ho => .inr (h3 i hi ho)) h4 h5⟩
  · rintro ⟨ord, h⟩
    obtain ⟨h1, h2, h3, h4, h5⟩ := run_whole ord 0 s h
    exact ⟨ord, h1, fun i hi => (h2 i hi).1, fun i hi ho => (h3 i hi ho).resolve_left (by simp), h4, h5⟩

/-- Two objects that go alike. -/
theorem goes_sim {σ τ : Type} {wa : Ways σ} {wb : Ways τ} {l : List Ev} (R : Nat → σ → τ → Prop)
    (hs : ∀ T s t i, R T s t → i < l.length → T.testBit i = false → ∀ o, o ∈ wa s (l.getD i ev0) → ((l.getD i ev0).over = true → o.1 = (l.getD i ev0).ans) →
      ∃ o', o' ∈ wb t (l.getD i ev0) ∧ ((l.getD i ev0).over = true → o'.1 = (l.getD i ev0).ans) ∧ R (T ||| 2 ^ i) o.2 o'.2) :
    ∀ (ord : List Nat) (T : Nat) (s : σ) (t : τ), R T s t → Run wa l T s ord → Run wb l T t ord
  | [], _, _, _, _, h => h
  | i :: r, T, s, t, hR, h => by
    obtain ⟨h1, h2, h3, o, h4, h5, h6⟩ := h
    obtain ⟨o', g1, g2, g3⟩ := hs T s t i hR h1 h2 o h4 h5
    exact ⟨h1, h2, h3, o', g1, g2, goes_sim R hs r _ _ _ g3 h6⟩

/-! ### How many are left -/

/-- How many of the first n are not taken. -/
def left (T : Nat) : Nat → Nat
  | 0 => 0
  | n + 1 => left T n + if T.testBit n = true then 0 else 1

theorem left_le (T n : Nat) : left T n ≤ n := by
  induction n with
  | zero => exact Nat.le_refl _
  | succ n ih => unfold left; split <;> omega

theorem left_same {T i : Nat} : ∀ {n : Nat}, n ≤ i → left (T ||| 2 ^ i) n = left T n
  | 0, _ => rfl
  | n + 1, h => by
    unfold left
    rw [left_same (by omega), bit_or]
    have : i ≠ n := by omega
    simp [this]

theorem left_or {T i : Nat} (h : T.testBit i = false) : ∀ {n : Nat}, i < n → left (T ||| 2 ^ i) n + 1 = left T n
  | 0, hi => by omega
  | n + 1, hi => by
    unfold left
    by_cases e : i = n
    · subst e
      rw [left_same (Nat.le_refl _), bit_or, h]
      simp
    · have := left_or h (n := n) (by omega)
      rw [bit_or]
      simp [e]
      omega

/-- How many calls a search may take. -/
def calls : Nat → Nat
  | 0 => 1
  | m + 1 => 1 + 12 * (2 * calls m)

theorem calls_pos (m : Nat) : 1 ≤ calls m := by cases m <;> unfold calls <;> omega
theorem calls_mono : ∀ {m : Nat}, calls m ≤ calls (m + 1) := by intro m; show calls m ≤ 1 + 12 * (2 * calls m); omega

end Go.Proofs.Yteniopbmkooomaa.Hi
