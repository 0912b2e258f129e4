/-
  Plain facts: the document's objects, as lists of numbers; what each tells is what the program's own states tell; events one behind the other.
-/
import Derived.Test.YteniopbmkooomaaWide
import Derived.Test.YteniopbmkooomaaEnv
namespace Go.Proofs.Yteniopbmkooomaa.Hi
open Go.RowKit

/-- Onces, as three numbers each. -/
def wayThree (n : Int) : Ways (List Int) := fun s e =>
  match actOf e with
  | none => []
  | some g =>
    if s.getD (3 * (e.a % n).toNat) 0 = 1 then [((s.getD (3 * (e.a % n).toNat + 1) 0, s.getD (3 * (e.a % n).toNat + 2) 0), s)]
    else [(g, ((s.set (3 * (e.a % n).toNat) 1).set (3 * (e.a % n).toNat + 1) g.1).set (3 * (e.a % n).toNat + 2) g.2)]

/-- What an object can do, by its number. -/
def refWays (obj n : Int) : Ways (List Int) := fun s e =>
  if obj = 1 then
    (if e.op = 1 then [((0, s.headD 0), [wrap64 (s.headD 0 + e.a)])] else if e.op = 2 then [((0, s.headD 0), [wrap64 (s.headD 0 + e.a)]), ((0, -1), s)] else [])
  else if obj = 2 then wayStack s e
  else if obj = 3 then
    (if e.op = 1 then [((0, 0), [wrap64 (s.headD 0 + e.a.tmod 1000)])] else if e.op = 2 then [((0, s.headD 0), s)] else [])
  else if obj = 4 then
    (if e.op = 1 then (if s.headD 0 > 0 then [((0, 0), [wrap64 (s.headD 0 - 1)])] else [((50, 0), s)]) else if e.op = 2 then (if s.headD 0 = 0 then [((0, 0), s)] else []) else [])
  else wayThree n s e

def firstOf (obj n : Int) : List Int := if obj = 2 then [] else if obj = 5 then List.replicate (3 * n.toNat) 0 else [n]

theorem timeless_ref (obj n : Int) : Timeless (refWays obj n) := fun s e e' h1 h2 h3 => by
  unfold refWays wayStack wayThree actOf; rw [h1, h2, h3]

/-- A state that is an int, as a list. -/
theorem lin_one {wa : Ways Int} {wb : Ways (List Int)} {l : List Ev} (hh : Hist l) (Q : Int → Prop) (s : Int) (hs : Q s) (hab : ∀ s e, Q s → wb [s] e = (wa s e).map fun o => (o.1, [o.2])) (hq : ∀ s e o, Q s → o ∈ wa s e → Q o.2) : Lin wa s l ↔ Lin wb [s] l := by
  rw [lin_iff hh, lin_iff hh]
  constructor
  · rintro ⟨ord, h⟩
    refine ⟨ord, goes_sim (fun _ s t => Q s ∧ t = [s]) (fun T s t i hR _ _ o ho ha => ?_) ord 0 _ _ ⟨hs, rfl⟩ h⟩
    obtain ⟨h1, rfl⟩ := hR
    rw [hab _ _ h1]
    exact ⟨(o.1, [o.2]), List.mem_map.2 ⟨o, ho, rfl⟩, ha, hq _ _ _ h1 ho, rfl⟩
  · rintro ⟨ord, h⟩
    refine ⟨ord, goes_sim (fun _ t s => Q s ∧ t = [s]) (fun T t s i hR _ _ o ho ha => ?_) ord 0 _ _ ⟨hs, rfl⟩ h⟩
    obtain ⟨h1, rfl⟩ := hR
    rw [hab _ _ h1] at ho
    obtain ⟨o', ho', rfl⟩ := List.mem_map.1 ho
    exact ⟨o', ho', ha, hq _ _ _ h1 ho', rfl⟩

theorem lin_adder {l : List Ev} (hh : Hist l) (s : Int) : Lin wayAdder s l ↔ Lin (refWays 1 s) (firstOf 1 s) l := by
  refine lin_one hh (fun _ => True) s trivial (fun s e _ => ?_) (fun _ _ _ _ _ => trivial)
  unfold refWays wayAdder
  simp only [if_true, List.headD_cons]
  split
  · rfl
  · split <;> rfl
theorem lin_counter {l : List Ev} (hh : Hist l) (s : Int) : Lin wayCounter s l ↔ Lin (refWays 3 s) (firstOf 3 s) l := by
  refine lin_one hh (fun _ => True) s trivial (fun s e _ => ?_) (fun _ _ _ _ _ => trivial)
  unfold refWays wayCounter
  simp only [if_true, List.headD_cons, show ¬ (3 : Int) = 1 from by decide, show ¬ (3 : Int) = 2 from by decide, if_false]
  split
  · rfl
  · split <;> rfl
theorem lin_latch {l : List Ev} (hh : Hist l) (s : Int) (h0 : 0 ≤ s) (hf : Fits s) : Lin wayLatch s l ↔ Lin (refWays 4 s) (firstOf 4 s) l := by
  refine lin_one hh (fun s => 0 ≤ s ∧ Fits s) s ⟨h0, hf⟩ (fun s e hs => ?_) (fun s e o hs ho => ?_)
  · have h0 := hs.1
    by_cases h1 : e.op = 1
    · by_cases h3 : s = 0
      · subst h3; simp [refWays, wayLatch, h1]
      · have h4 : 0 < s := by omega
        simp [refWays, wayLatch, h1, h3, h4]
    · by_cases h2 : e.op = 2
      · by_cases h3 : s = 0
        · subst h3; simp [refWays, wayLatch, h2]
        · simp [refWays, wayLatch, h2, h3]
      · simp [refWays, wayLatch, h1, h2]
  · unfold wayLatch at ho
    split at ho
    · split at ho
      · simp at ho; subst ho; exact hs
      · simp at ho; subst ho
        have h1 := hs.1
        have h2 := hs.2
        unfold Fits at h2
        simp only []
        rw [show wrap64 (s - 1) = s - 1 from by simp only [wrap64]; omega]
        unfold Fits
        omega
    · split at ho
      · split at ho
        · simp at ho; subst ho; exact hs
        · simp at ho
      · simp at ho

/-- Three numbers stand for a once. -/
def ThreeOf (n : Int) (f : Int → Option (Int × Int)) (s : List Int) : Prop :=
  s.length = 3 * n.toNat ∧ ∀ k : Nat, k < n.toNat → (f k = none → s.getD (3 * k) 0 ≠ 1) ∧ ∀ a, f k = some a → s.getD (3 * k) 0 = 1 ∧ s.getD (3 * k + 1) 0 = a.1 ∧ s.getD (3 * k + 2) 0 = a.2

theorem three_set {n : Int} {f : Int → Option (Int × Int)} {s : List Int} (h : ThreeOf n f s) {k : Nat} (hk : k < n.toNat) (g : Int × Int) :
    ThreeOf n (fun j => if j = (k : Int) then some g else f j) (((s.set (3 * k) 1).set (3 * k + 1) g.1).set (3 * k + 2) g.2) := by
  refine ⟨by simp [h.1], fun j hj => ?_⟩
  have hl := h.1
  have e : ∀ x d, (((s.set (3 * k) 1).set (3 * k + 1) g.1).set (3 * k + 2) g.2).getD x d = if x = 3 * k + 2 then g.2 else if x = 3 * k + 1 then g.1 else if x = 3 * k then 1 else s.getD x d := fun x d => by
    rw [getD_set _ _ _ _ _ (by simp; omega), getD_set _ _ _ _ _ (by simp; omega), getD_set _ _ _ _ _ (by omega)]
  rw [e, e, e]
  by_cases hjk : j = k
  · subst hjk
    simp only [if_true]
    rw [if_neg (by omega), if_neg (by omega), if_neg (by omega)]
    refine And.intro (fun h => nomatch h) (fun a ha => ?_)
    cases ha
    exact ⟨rfl, rfl, rfl⟩
  · have hne : ¬ (j : Int) = (k : Int) := by omega
    simp only [hne, if_false]
    rw [if_neg (by omega), if_neg (by omega), if_neg (by omega), if_neg (by omega), if_neg (by omega), if_neg (by omega), if_neg (by omega), if_neg (by omega), if_neg (by omega)]
    exact h.2 j hj

theorem lin_three {l : List Ev} (hh : Hist l) (n : Int) (hn : 1 ≤ n) : Lin (wayOnces n) (fun _ => none) l ↔ Lin (refWays 5 n) (firstOf 5 n) l := by
  have hf : firstOf 5 n = List.replicate (3 * n.toNat) 0 := rfl
  have hw : refWays 5 n = wayThree n := rfl
  rw [hf, hw]
  have h0 : ThreeOf n (fun _ => none) (List.replicate (3 * n.toNat) 0) := ⟨by simp, fun k hk => ⟨fun _ => by
    rw [List.getD_eq_getElem?_getD, List.getElem?_replicate, if_pos (by omega)]; decide, fun a ha => by cases ha⟩⟩
  have hmod : ∀ a : Int, ∃ k : Nat, k < n.toNat ∧ a % n = (k : Int) := fun a => by
    have h1 := Int.emod_nonneg a (show n ≠ 0 by omega)
    have h2 := Int.emod_lt_of_pos a (show 0 < n by omega)
    exact ⟨(a % n).toNat, by omega, by omega⟩
  rw [lin_iff hh, lin_iff hh]
  constructor
  · rintro ⟨ord, h⟩
    refine ⟨ord, goes_sim (fun _ f s => ThreeOf n f s) (fun T f s i hR hi _ o ho ha => ?_) ord 0 _ _ h0 h⟩
    obtain ⟨k, hk, hke⟩ := hmod (l.getD i ev0).a
    unfold wayOnces at ho
    unfold wayThree
    cases hg : actOf (l.getD i ev0) with
    | none => rw [hg] at ho; simp at ho
    | some g =>
      rw [hg] at ho
      simp only [hke] at ho
      simp only [hke, Int.toNat_natCast]
      cases ht : f (k : Int) with
      | some a =>
        rw [ht] at ho
        simp only [List.mem_cons, List.not_mem_nil, or_false] at ho
        subst ho
        obtain ⟨e1, e2, e3⟩ := (hR.2 k hk).2 a ht
        rw [if_pos e1, e2, e3]
        exact ⟨_, .head _, ha, hR⟩
      | none =>
        rw [ht] at ho
        simp only [List.mem_cons, List.not_mem_nil, or_false] at ho
        subst ho
        rw [if_neg ((hR.2 k hk).1 ht)]
        exact ⟨_, .head _, ha, three_set hR hk g⟩
  · rintro ⟨ord, h⟩
    refine ⟨ord, goes_sim (fun _ s f => ThreeOf n f s) (fun T s f i hR hi _ o ho ha => ?_) ord 0 _ _ h0 h⟩
    obtain ⟨k, hk, hke⟩ := hmod (l.getD i ev0).a
    unfold wayThree at ho
    unfold wayOnces
    cases hg : actOf (l.getD i ev0) with
    | none => rw [hg] at ho; simp at ho
    | some g =>
      rw [hg] at ho
      simp only [hke, Int.toNat_natCast] at ho
      simp only [hke]
      cases ht : f (k : Int) with
      | some a =>
        obtain ⟨e1, e2, e3⟩ := (hR.2 k hk).2 a ht
        rw [if_pos e1, e2, e3] at ho
        simp only [List.mem_cons, List.not_mem_nil, or_false] at ho
        subst ho
        exact ⟨_, .head _, ha, hR⟩
      | none =>
        rw [if_neg ((hR.2 k hk).1 ht)] at ho
        simp only [List.mem_cons, List.not_mem_nil, or_false] at ho
        subst ho
        exact ⟨_, .head _, ha, three_set hR hk g⟩

theorem lin_stack {l : List Ev} (s : Int) : Lin wayStack [] l ↔ Lin (refWays 2 s) (firstOf 2 s) l := Iff.rfl

/-! ### One behind the other -/

theorem sorted_range : ∀ (n a : Nat) (ord : List Nat), ord.Pairwise (· < ·) → (∀ i, i ∈ ord ↔ a ≤ i ∧ i < a + n) → ord = List.range' a n
  | 0, a, ord, _, h => by
    cases ord with
    | nil => rfl
    | cons x r =>
      have := (h x).1 (by simp)
      omega
  | n + 1, a, ord, hp, h => by
    cases ord with
    | nil =>
      have := (h a).2 ⟨by omega, by omega⟩
      simp at this
    | cons x r =>
      obtain ⟨p1, p2⟩ := List.pairwise_cons.1 hp
      have hx := (h x).1 (by simp)
      have hxa : x = a := by
        rcases List.mem_cons.1 ((h a).2 ⟨by omega, by omega⟩) with e | e
        · exact e.symm
        · have := p1 a e; omega
      subst hxa
      rw [List.range'_succ]
      congr 1
      refine sorted_range n (x + 1) r p2 fun i => ?_
      constructor
      · intro hi
        have h1 := p1 i hi
        have h2 := (h i).1 (by simp [hi])
        omega
      · intro hi
        rcases List.mem_cons.1 ((h i).2 ⟨by omega, by omega⟩) with e | e
        · omega
        · exact e

theorem map_range_getD (r : List Ev) : (List.range' 0 r.length).map (fun i => r.getD i ev0) = r := by
  refine List.ext_getElem (by simp) fun i h1 h2 => ?_
  simp [List.getD_eq_getElem?_getD, List.getElem?_eq_getElem h2]

/-- Events that are one behind the other have one order. -/
theorem lin_row {σ : Type} {ways : Ways σ} {r : List Ev} (h : ∀ i, i < r.length → (r.getD i ev0).beg = 2 * i ∧ (r.getD i ev0).fin = 2 * i + 1) (s : σ) : Lin ways s r ↔ Acc ways s r := by
  have hov : ∀ i, i < r.length → (r.getD i ev0).over = true := fun i hi => over_iff.2 (by rw [(h i hi).2]; omega)
  have hah : ∀ i j, i < r.length → j < r.length → (evAhead (r.getD i ev0) (r.getD j ev0) = true ↔ i < j) := fun i j hi hj => by
    unfold evAhead
    rw [hov i hi, (h i hi).2, (h j hj).1]
    simp; omega
  constructor
  · rintro ⟨ord, h1, h2, h3, h4, h5⟩
    have : ord = List.range' 0 r.length := by
      refine sorted_range _ _ _ ?_ fun i => ⟨fun hi => ⟨Nat.zero_le _, by have := h2 i hi; omega⟩, fun hi => h3 i (by omega) (hov i (by omega))⟩
      refine List.Pairwise.imp_of_mem (fun {i j} hi hj hn => ?_) (List.Pairwise.and h1 h4)
      have := mt (hah j i (h2 j hj) (h2 i hi)).2 (by rw [hn.2]; decide)
      have := hn.1
      omega
    subst this
    rw [map_range_getD] at h5
    exact h5
  · intro ha
    refine ⟨List.range' 0 r.length, List.nodup_range', fun i hi => by simp at hi; omega, fun i hi _ => by simp; omega, ?_, by rw [map_range_getD]; exact ha⟩
    refine List.Pairwise.imp_of_mem (fun {i j} hi hj hn => ?_) (List.pairwise_lt_range' (s := 0) (n := r.length))
    simp at hi hj
    cases e : evAhead (r.getD j ev0) (r.getD i ev0) with
    | false => rfl
    | true =>
      have := (hah j i hj hi).1 e
      omega

end Go.Proofs.Yteniopbmkooomaa.Hi
