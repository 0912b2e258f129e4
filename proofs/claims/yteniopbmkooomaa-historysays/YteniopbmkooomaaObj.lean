/-
  Plain facts on the objects of package history: a pile goes as a stack goes, a shelf as onces go.
-/
import Derived.Test.YteniopbmkooomaaMath
namespace Go.Proofs.Yteniopbmkooomaa.Hi
open Go.RowKit

/-! ### How many are taken -/

/-- How many of the first n are taken, of those that p tells. -/
def took (p : Nat → Bool) (T : Nat) : Nat → Nat
  | 0 => 0
  | n + 1 => took p T n + if T.testBit n = true ∧ p n = true then 1 else 0
/-- How many of the first n there are. -/
def many (p : Nat → Bool) : Nat → Nat
  | 0 => 0
  | n + 1 => many p n + if p n = true then 1 else 0

theorem took_le (p : Nat → Bool) (T n : Nat) : took p T n ≤ many p n := by
  induction n with
  | zero => exact Nat.le_refl _
  | succ n ih => unfold took many; split <;> split <;> simp_all <;> omega
theorem took_zero (p : Nat → Bool) (n : Nat) : took p 0 n = 0 := by
  induction n with
  | zero => rfl
  | succ n ih => unfold took; rw [ih]; simp
theorem took_same {p : Nat → Bool} {T i : Nat} : ∀ {n : Nat}, n ≤ i → took p (T ||| 2 ^ i) n = took p T n
  | 0, _ => rfl
  | n + 1, h => by
    unfold took
    rw [took_same (by omega), bit_or]
    have : i ≠ n := by omega
    simp [this]
theorem took_or {p : Nat → Bool} {T i : Nat} (h : T.testBit i = false) : ∀ {n : Nat}, i < n → took p (T ||| 2 ^ i) n = took p T n + if p i = true then 1 else 0
  | 0, hi => by omega
  | n + 1, hi => by
    unfold took
    by_cases e : i = n
    · subst e
      rw [took_same (Nat.le_refl _), bit_or, h]
      simp
    · have := took_or (p := p) h (n := n) (by omega)
      rw [this, bit_or]
      simp [e]
      omega
theorem took_lt {p : Nat → Bool} {T i : Nat} (h : T.testBit i = false) (hp : p i = true) {n : Nat} (hi : i < n) : took p T n < many p n := by
  have h1 := took_or (p := p) h hi
  have h2 := took_le p (T ||| 2 ^ i) n
  rw [hp] at h1
  simp at h1
  omega
theorem many_two {p q : Nat → Bool} (h : ∀ i, p i = true → q i = false) : ∀ n, many p n + many q n ≤ n
  | 0 => by simp [many]
  | n + 1 => by
    have := many_two h n
    unfold many
    cases hp : p n
    · simp; split <;> omega
    · rw [h n hp]; simp; omega

/-! ### The stack, and the pile -/

/-- What a stack can do: the top is last. -/
def wayStack : Ways (List Int) := fun s e =>
  if e.op = 1 then [((0, 0), s ++ [e.a]), ((80, 0), s)] else if e.op = 2 then (match s.reverse with | [] => [((90, 0), s)] | v :: _ => [((0, v), s.dropLast)]) else []

/-- A pile: from the top down, and whether something lies deeper. -/
structure Pile where
  xs : List Int
  deep : Bool

def Pile.push (p : Pile) (v : Int) (reach : Nat) : Pile :=
  if p.xs.length = reach then ⟨(v :: p.xs).take reach, true⟩ else ⟨v :: p.xs, p.deep⟩

def wayPile (reach : Nat) : Ways Pile := fun p e =>
  if e.op = 1 then [((0, 0), p.push e.a reach), ((80, 0), p)] else if e.op = 2 then (match p.xs with | v :: r => [((0, v), ⟨r, p.deep⟩)] | [] => if p.deep = false then [((90, 0), p)] else []) else []

/-- A pop that reaches. -/
def popB (e : Ev) : Bool := decide (e.op = 2) && (!e.over || decide (e.code = 0))
def pushB (e : Ev) : Bool := decide (e.op = 1)
def reachOf (l : List Ev) : Nat := many (fun i => popB (l.getD i ev0)) l.length
def pushesOf (l : List Ev) : Nat := many (fun i => pushB (l.getD i ev0)) l.length

theorem reach_pushes (l : List Ev) : reachOf l + pushesOf l ≤ l.length :=
  many_two (fun i h => by unfold popB at h; unfold pushB; simp at h ⊢; rw [h.1]; decide) _

/-- A pile stands for a stack. -/
def PileOf (l : List Ev) (T : Nat) (p : Pile) (s : List Int) : Prop :=
  ∃ rest, s.reverse = p.xs ++ rest ∧ (p.deep = true ↔ rest ≠ []) ∧ (rest ≠ [] → reachOf l ≤ p.xs.length + took (fun i => popB (l.getD i ev0)) T l.length) ∧ p.xs.length ≤ reachOf l

theorem pileOf_push {l : List Ev} {T i : Nat} (hi : i < l.length) (ht : T.testBit i = false) {p : Pile} {s : List Int} (h : PileOf l T p s) (v : Int) : PileOf l (T ||| 2 ^ i) (p.push v (reachOf l)) (s ++ [v]) := by
  obtain ⟨rest, h1, h2, h3, h4⟩ := h
  have ht' := took_or (p := fun i => popB (l.getD i ev0)) ht hi
  unfold Pile.push
  split
  · rename_i he
    refine ⟨(v :: p.xs).drop (reachOf l) ++ rest, ?_, ?_, ?_, ?_⟩
    · rw [List.reverse_append, h1]
      simp only [List.reverse_cons, List.reverse_nil, List.nil_append, ← List.append_assoc, List.take_append_drop]
      rfl
    · simp only [true_iff]
      intro hc
      have := congrArg List.length hc
      simp at this
      omega
    · intro _
      simp only [List.length_take, List.length_cons]
      omega
    · simp only [List.length_take]; omega
  · rename_i he
    refine ⟨rest, ?_, h2, ?_, ?_⟩
    · rw [List.reverse_append, h1]; rfl
    · intro hr
      have := h3 hr
      simp only [List.length_cons]
      omega
    · simp only [List.length_cons]; omega

theorem pileOf_stay {l : List Ev} {T i : Nat} (hi : i < l.length) (ht : T.testBit i = false) {p : Pile} {s : List Int} (h : PileOf l T p s) : PileOf l (T ||| 2 ^ i) p s := by
  obtain ⟨rest, h1, h2, h3, h4⟩ := h
  have ht' := took_or (p := fun i => popB (l.getD i ev0)) ht hi
  exact ⟨rest, h1, h2, fun hr => by have := h3 hr; omega, h4⟩

theorem pileOf_pop {l : List Ev} {T i : Nat} (hi : i < l.length) (ht : T.testBit i = false) (hp : popB (l.getD i ev0) = true) {v : Int} {r : List Int} {d : Bool} {s : List Int} (h : PileOf l T ⟨v :: r, d⟩ s) : PileOf l (T ||| 2 ^ i) ⟨r, d⟩ s.dropLast := by
  obtain ⟨rest, h1, h2, h3, h4⟩ := h
  have ht' := took_or (p := fun i => popB (l.getD i ev0)) ht hi
  rw [if_pos hp] at ht'
  simp only [List.length_cons] at h3 h4
  refine ⟨rest, ?_, h2, fun hr => by have := h3 hr; show _ ≤ r.length + _; omega, by show r.length ≤ _; omega⟩
  have : s.dropLast.reverse = s.reverse.tail := by simp
  rw [this, h1]; rfl

theorem popB_of {x : Ev} (h2 : x.op = 2) {v : Int} (h : x.over = true → ((0 : Int), v) = x.ans) : popB x = true := by
  unfold popB
  simp only [h2, decide_true, Bool.true_and, Bool.or_eq_true, Bool.not_eq_true', decide_eq_true_eq]
  cases ho : x.over
  · exact .inl rfl
  · exact .inr (by have := h ho; unfold Ev.ans at this; simp at this; exact this.1.symm)

theorem rev_nil {s : List Int} (h : s.reverse = []) : s = [] := by simpa using h

theorem pile_to_stack {l : List Ev} : ∀ T p s i, PileOf l T p s → i < l.length → T.testBit i = false → ∀ o, o ∈ wayPile (reachOf l) p (l.getD i ev0) → ((l.getD i ev0).over = true → o.1 = (l.getD i ev0).ans) →
    ∃ o', o' ∈ wayStack s (l.getD i ev0) ∧ ((l.getD i ev0).over = true → o'.1 = (l.getD i ev0).ans) ∧ PileOf l (T ||| 2 ^ i) o.2 o'.2 := by
  intro T p s i hR hi ht o ho ha
  unfold wayPile at ho
  unfold wayStack
  split at ho
  · rename_i h1
    simp only [h1, if_true]
    simp only [List.mem_cons, List.not_mem_nil, or_false] at ho
    rcases ho with rfl | rfl
    · exact ⟨_, .head _, ha, pileOf_push hi ht hR _⟩
    · exact ⟨_, .tail _ (.head _), ha, pileOf_stay hi ht hR⟩
  · rename_i h1
    split at ho
    · rename_i h2
      simp only [if_neg h1, if_pos h2]
      obtain ⟨xs, d⟩ := p
      cases xs with
      | cons v r =>
        simp only [List.mem_cons, List.not_mem_nil, or_false] at ho
        subst ho
        have hR' := hR
        obtain ⟨rest, e1, _⟩ := hR'
        rw [e1]
        exact ⟨_, .head _, ha, pileOf_pop hi ht (popB_of h2 ha) hR⟩
      | nil =>
        simp only [] at ho
        split at ho
        · rename_i hd
          simp only [List.mem_cons, List.not_mem_nil, or_false] at ho
          subst ho
          have hR' := hR
          obtain ⟨rest, e1, e2, _⟩ := hR'
          have hn : rest = [] := by
            cases rest with
            | nil => rfl
            | cons _ _ => simp [hd] at e2
          subst hn
          rw [e1]
          exact ⟨_, .head _, ha, pileOf_stay hi ht hR⟩
        · simp at ho
    · simp at ho

theorem stack_to_pile {l : List Ev} : ∀ T s p i, PileOf l T p s → i < l.length → T.testBit i = false → ∀ o, o ∈ wayStack s (l.getD i ev0) → ((l.getD i ev0).over = true → o.1 = (l.getD i ev0).ans) →
    ∃ o', o' ∈ wayPile (reachOf l) p (l.getD i ev0) ∧ ((l.getD i ev0).over = true → o'.1 = (l.getD i ev0).ans) ∧ PileOf l (T ||| 2 ^ i) o'.2 o.2 := by
  intro T s p i hR hi ht o ho ha
  unfold wayStack at ho
  unfold wayPile
  split at ho
  · rename_i h1
    simp only [h1, if_true]
    simp only [List.mem_cons, List.not_mem_nil, or_false] at ho
    rcases ho with rfl | rfl
    · exact ⟨_, .head _, ha, pileOf_push hi ht hR _⟩
    · exact ⟨_, .tail _ (.head _), ha, pileOf_stay hi ht hR⟩
  · rename_i h1
    split at ho
    · rename_i h2
      simp only [if_neg h1, if_pos h2]
      obtain ⟨xs, d⟩ := p
      have hR' := hR
      obtain ⟨rest, e1, e2, e3, e4⟩ := hR'
      split at ho
      · rename_i hs
        simp only [List.mem_cons, List.not_mem_nil, or_false] at ho
        subst ho
        rw [hs] at e1
        have hx : xs = [] ∧ rest = [] := by simpa using e1.symm
        obtain ⟨rfl, rfl⟩ := hx
        have hd : d = false := by
          cases d with
          | false => rfl
          | true => exact absurd rfl (e2.1 rfl)
        subst hd
        exact ⟨_, .head _, ha, pileOf_stay hi ht hR⟩
      · rename_i v r hs
        simp only [List.mem_cons, List.not_mem_nil, or_false] at ho
        subst ho
        have hpop : popB (l.getD i ev0) = true := popB_of h2 ha
        cases xs with
        | cons v' r' =>
          rw [hs] at e1
          have : v = v' := by simpa using (List.cons.inj e1).1
          subst this
          exact ⟨_, .head _, ha, pileOf_pop hi ht hpop hR⟩
        | nil =>
          exfalso
          have hr : rest ≠ [] := by
            rintro rfl
            rw [hs] at e1; cases e1
          have h5 := e3 hr
          have h6 : took (fun i => popB (l.getD i ev0)) T l.length < many (fun i => popB (l.getD i ev0)) l.length := took_lt ht hpop hi
          simp only [List.length_nil] at h5
          unfold reachOf at h5
          omega
    · simp at ho

theorem pileOf_start (l : List Ev) : PileOf l 0 ⟨[], false⟩ [] := ⟨[], rfl, by simp, by simp, Nat.zero_le _⟩

/-- The pile tells what the stack tells. -/
theorem lin_pile {l : List Ev} (hh : Hist l) : Lin (wayPile (reachOf l)) ⟨[], false⟩ l ↔ Lin wayStack [] l := by
  rw [lin_iff hh, lin_iff hh]
  constructor
  · rintro ⟨ord, h⟩
    exact ⟨ord, goes_sim (fun T p s => PileOf l T p s) (fun T p s i => pile_to_stack T p s i) ord 0 _ _ (pileOf_start l) h⟩
  · rintro ⟨ord, h⟩
    exact ⟨ord, goes_sim (fun T s p => PileOf l T p s) (fun T s p i => stack_to_pile T s p i) ord 0 _ _ (pileOf_start l) h⟩

/-! ### Onces, and the shelf -/

/-- What a once that has no answer yet answers. -/
def actOf (e : Ev) : Option (Int × Int) :=
  if e.op = 1 then some (0, e.b) else if e.op = 2 then some (70, e.b) else if e.op = 3 then some (71, e.b) else if e.op = 4 then some (70, 72) else none

def wayOnces (n : Int) : Ways (Int → Option (Int × Int)) := fun s e =>
  match actOf e with
  | none => []
  | some g => match s (e.a % n) with
    | some a => [(a, s)]
    | none => [(g, fun k => if k = e.a % n then some g else s k)]

/-- Onces that have a place each. -/
def wayShelf (place : Int → Nat) (n : Int) : Ways (List (Option (Int × Int))) := fun s e =>
  match actOf e with
  | none => []
  | some g => match s.getD (place (e.a % n)) none with
    | some a => [(a, s)]
    | none => [(g, s.set (place (e.a % n)) (some g))]

def ShelfOf (place : Int → Nat) (n : Int) (l : List Ev) (s : List (Option (Int × Int))) (t : Int → Option (Int × Int)) : Prop :=
  s.length = 12 ∧ ∀ i, i < l.length → s.getD (place ((l.getD i ev0).a % n)) none = t ((l.getD i ev0).a % n)

theorem getD_set {α : Type} (l : List α) (i j : Nat) (x d : α) (hi : i < l.length) : (l.set i x).getD j d = if j = i then x else l.getD j d := by
  simp only [List.getD_eq_getElem?_getD, List.getElem?_set]
  by_cases h : i = j
  · subst h; simp [hi]
  · rw [if_neg h, if_neg (fun e => h e.symm)]

theorem shelf_set {place : Int → Nat} {n : Int} {l : List Ev} (hin : ∀ i j, i < l.length → j < l.length → place ((l.getD i ev0).a % n) = place ((l.getD j ev0).a % n) → (l.getD i ev0).a % n = (l.getD j ev0).a % n)
    (h12 : ∀ i, i < l.length → place ((l.getD i ev0).a % n) < 12) {s : List (Option (Int × Int))} {t : Int → Option (Int × Int)} (h : ShelfOf place n l s t) {i : Nat} (hi : i < l.length) (g : Int × Int) :
    ShelfOf place n l (s.set (place ((l.getD i ev0).a % n)) (some g)) (fun k => if k = (l.getD i ev0).a % n then some g else t k) := by
  refine ⟨by simp [h.1], fun j hj => ?_⟩
  rw [getD_set _ _ _ _ _ (by rw [h.1]; exact h12 i hi)]
  by_cases e : place ((l.getD j ev0).a % n) = place ((l.getD i ev0).a % n)
  · rw [if_pos e]
    simp only []
    rw [if_pos (hin j i hj hi e)]
  · rw [if_neg e]
    simp only []
    rw [if_neg (fun e' => e (by rw [e']))]
    exact h.2 j hj

theorem lin_shelf {place : Int → Nat} {n : Int} {l : List Ev} (hh : Hist l) (hin : ∀ i j, i < l.length → j < l.length → place ((l.getD i ev0).a % n) = place ((l.getD j ev0).a % n) → (l.getD i ev0).a % n = (l.getD j ev0).a % n)
    (h12 : ∀ i, i < l.length → place ((l.getD i ev0).a % n) < 12) : Lin (wayShelf place n) (List.replicate 12 none) l ↔ Lin (wayOnces n) (fun _ => none) l := by
  have h0 : ShelfOf place n l (List.replicate 12 none) (fun _ => none) := ⟨rfl, fun i hi => by
    have := h12 i hi
    rw [List.getD_eq_getElem?_getD, List.getElem?_replicate, if_pos this]
    rfl⟩
  rw [lin_iff hh, lin_iff hh]
  constructor
  · rintro ⟨ord, h⟩
    refine ⟨ord, goes_sim (fun _ s t => ShelfOf place n l s t) (fun T s t i hR hi _ o ho ha => ?_) ord 0 _ _ h0 h⟩
    unfold wayShelf at ho
    unfold wayOnces
    cases hg : actOf (l.getD i ev0) with
    | none => rw [hg] at ho; simp at ho
    | some g =>
      rw [hg] at ho
      simp only [hR.2 i hi] at ho
      simp only []
      cases ht : t ((l.getD i ev0).a % n) with
      | some a =>
        rw [ht] at ho
        simp only [List.mem_cons, List.not_mem_nil, or_false] at ho
        subst ho
        exact ⟨_, .head _, ha, hR⟩
      | none =>
        rw [ht] at ho
        simp only [List.mem_cons, List.not_mem_nil, or_false] at ho
        subst ho
        exact ⟨_, .head _, ha, shelf_set hin h12 hR hi g⟩
  · rintro ⟨ord, h⟩
    refine ⟨ord, goes_sim (fun _ t s => ShelfOf place n l s t) (fun T t s i hR hi _ o ho ha => ?_) ord 0 _ _ h0 h⟩
    unfold wayOnces at ho
    unfold wayShelf
    cases hg : actOf (l.getD i ev0) with
    | none => rw [hg] at ho; simp at ho
    | some g =>
      rw [hg] at ho
      simp only [] at ho ⊢
      simp only [hR.2 i hi]
      cases ht : t ((l.getD i ev0).a % n) with
      | some a =>
        rw [ht] at ho
        simp only [List.mem_cons, List.not_mem_nil, or_false] at ho
        subst ho
        exact ⟨_, .head _, ha, hR⟩
      | none =>
        rw [ht] at ho
        simp only [List.mem_cons, List.not_mem_nil, or_false] at ho
        subst ho
        exact ⟨_, .head _, ha, shelf_set hin h12 hR hi g⟩

end Go.Proofs.Yteniopbmkooomaa.Hi
