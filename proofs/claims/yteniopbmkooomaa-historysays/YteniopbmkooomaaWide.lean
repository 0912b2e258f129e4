/-
  Plain facts on histories: what is linear stays so with its times stretched, with a last event taken away, in whatever order the events stand.
-/
import Derived.Test.YteniopbmkooomaaObj
namespace Go.Proofs.Yteniopbmkooomaa.Hi
open Go.RowKit

/-- What an object can do hangs on no time. -/
def Timeless {σ : Type} (ways : Ways σ) : Prop := ∀ s e e', e.op = e'.op → e.a = e'.a → e.b = e'.b → ways s e = ways s e'

/-- The same call, with the same answer. -/
def Like (x y : Ev) : Prop := x.op = y.op ∧ x.a = y.a ∧ x.b = y.b ∧ x.ans = y.ans

theorem Like.refl (x : Ev) : Like x x := ⟨rfl, rfl, rfl, rfl⟩

theorem acc_like {σ : Type} {ways : Ways σ} (ht : Timeless ways) : ∀ (a b : List Ev) (s : σ), a.length = b.length → (∀ i, i < a.length → Like (b.getD i ev0) (a.getD i ev0) ∧ ((b.getD i ev0).over = true → (a.getD i ev0).over = true)) → Acc ways s a → Acc ways s b
  | [], [], _, _, _, h => h
  | [], _ :: _, _, hl, _, _ => by simp at hl
  | _ :: _, [], _, hl, _, _ => by simp at hl
  | x :: a, y :: b, s, hl, h, hacc => by
    obtain ⟨o, h1, h2, h3⟩ := hacc
    have h0 := h 0 (by simp)
    simp only [List.getD_cons_zero] at h0
    obtain ⟨⟨e1, e2, e3, e4⟩, e5⟩ := h0
    refine ⟨o, by rw [ht s y x e1 e2 e3]; exact h1, fun ho => by rw [e4]; exact h2 (e5 ho), acc_like ht a b o.2 (by simpa using hl) (fun i hi => ?_) h3⟩
    have := h (i + 1) (by simp; omega)
    simpa only [List.getD_cons_succ] using this

theorem getD_map {α : Type} (f : α → Ev) (l : List α) (i : Nat) (hi : i < l.length) : (l.map f).getD i ev0 = f l[i] := by
  rw [List.getD_eq_getElem?_getD, List.getElem?_map, List.getElem?_eq_getElem hi]; rfl

/-- An order of one list, brought over to another. -/
theorem lin_map {σ : Type} {ways : Ways σ} (ht : Timeless ways) {l u : List Ev} (f : Nat → Nat) (ord : List Nat) (s : σ) (hn : ord.Nodup) (hin : ∀ i ∈ ord, ∀ j ∈ ord, f i = f j → i = j)
    (hr : ∀ i ∈ ord, f i < u.length ∧ Like (u.getD (f i) ev0) (l.getD i ev0) ∧ ((u.getD (f i) ev0).over = true → (l.getD i ev0).over = true))
    (hall : ∀ j, j < u.length → (u.getD j ev0).over = true → ∃ i ∈ ord, f i = j)
    (hp : ord.Pairwise fun i j => evAhead (u.getD (f j) ev0) (u.getD (f i) ev0) = false) (ha : Acc ways s (ord.map fun i => l.getD i ev0)) : Lin ways s u := by
  refine ⟨ord.map f, ?_, ?_, ?_, ?_, ?_⟩
  · rw [List.Nodup, List.pairwise_map]
    refine List.Pairwise.imp_of_mem (fun {i j} hi hj hne => ?_) hn
    exact fun e => hne (hin i hi j hj e)
  · intro i hi
    obtain ⟨j, hj, rfl⟩ := List.mem_map.1 hi
    exact (hr j hj).1
  · intro j hj ho
    obtain ⟨i, hi, rfl⟩ := hall j hj ho
    exact List.mem_map.2 ⟨i, hi, rfl⟩
  · rw [List.pairwise_map]; exact hp
  · refine acc_like ht _ _ s (by simp) (fun i hi => ?_) ha
    have hi' : i < ord.length := by simpa using hi
    rw [List.map_map, getD_map _ _ _ hi', getD_map _ _ _ hi']
    exact (hr _ (List.getElem_mem hi')).2

/-- Times are stretched. -/
theorem lin_wide {σ : Type} {ways : Ways σ} (ht : Timeless ways) {l u : List Ev} (s : σ) (hlen : u.length = l.length) (hlike : ∀ i, i < l.length → Like (u.getD i ev0) (l.getD i ev0) ∧ ((u.getD i ev0).over = true → (l.getD i ev0).over = true))
    (hahead : ∀ i j, i < l.length → j < l.length → evAhead (u.getD j ev0) (u.getD i ev0) = true → evAhead (l.getD j ev0) (l.getD i ev0) = true) (h : Lin ways s l) : Lin ways s u := by
  obtain ⟨ord, h1, h2, h3, h4, h5⟩ := h
  refine lin_map ht (fun i => i) ord s h1 (fun i _ j _ e => e) (fun i hi => ⟨by rw [hlen]; exact h2 i hi, hlike i (h2 i hi)⟩) (fun j hj ho => ⟨j, h3 j (by omega) ((hlike j (by omega)).2 ho), rfl⟩) ?_ h5
  refine List.Pairwise.imp_of_mem (fun {i j} hi hj hne => ?_) h4
  cases he : evAhead (u.getD j ev0) (u.getD i ev0) with
  | false => rfl
  | true => rw [hahead i j (h2 i hi) (h2 j hj) he] at hne; cases hne

theorem acc_left {σ : Type} {ways : Ways σ} : ∀ (a b : List Ev) (s : σ), Acc ways s (a ++ b) → Acc ways s a
  | [], _, _, _ => trivial
  | x :: a, b, s, h => by
    obtain ⟨o, h1, h2, h3⟩ := h
    exact ⟨o, h1, h2, acc_left a b o.2 h3⟩

/-- What is left of an event when what began at a time is taken away. -/
def cut (x : Ev) (t : Int) : Ev := if x.fin ≥ t then { x with fin := -1 } else x
/-- All but the one at a place, cut. -/
def restOf (l : List Ev) (last : Nat) : List Ev := (l.eraseIdx last).map fun x => cut x (l.getD last ev0).beg

theorem cut_like (x : Ev) (t : Int) : Like (cut x t) x := by unfold cut; split <;> exact ⟨rfl, rfl, rfl, rfl⟩
theorem cut_over {x : Ev} {t : Int} (h : (cut x t).over = true) : x.over = true ∧ x.fin < t := by
  unfold cut at h
  split at h
  · simp [Ev.over] at h
  · exact ⟨h, by omega⟩
theorem cut_beg (x : Ev) (t : Int) : (cut x t).beg = x.beg := by unfold cut; split <;> rfl
theorem cut_ahead {x y : Ev} {t : Int} (h : evAhead (cut x t) (cut y t) = true) : evAhead x y = true := by
  have h1 := cut_over (evAhead_over h)
  have h2 := evAhead_lt h
  rw [cut_beg] at h2
  unfold cut at h2
  rw [if_neg (by omega)] at h2
  unfold evAhead
  rw [h1.1]; simpa using h2

theorem rest_getD {l : List Ev} {last : Nat} (hlast : last < l.length) {i : Nat} (hi : i < l.length) (hne : i ≠ last) : (if i < last then i else i - 1) < (restOf l last).length ∧ (restOf l last).getD (if i < last then i else i - 1) ev0 = cut (l.getD i ev0) (l.getD last ev0).beg := by
  have hlen : (l.eraseIdx last).length = l.length - 1 := List.length_eraseIdx_of_lt hlast
  have h1 : (if i < last then i else i - 1) < (restOf l last).length := by
    unfold restOf; rw [List.length_map, hlen]; split <;> omega
  refine ⟨h1, ?_⟩
  unfold restOf at h1 ⊢
  rw [List.length_map] at h1
  rw [getD_map _ _ _ h1, List.getElem_eraseIdx]
  congr 1
  by_cases hc : i < last
  · simp only [hc, if_true]
    rw [List.getD_eq_getElem?_getD, List.getElem?_eq_getElem hi]
    simp
  · simp only [hc, if_false]
    rw [dif_neg (by omega), List.getD_eq_getElem?_getD, List.getElem?_eq_getElem hi]
    simp only [Option.getD_some]
    congr 1
    omega

/-- A last event is taken away. -/
theorem lin_rest {σ : Type} {ways : Ways σ} (ht : Timeless ways) {l : List Ev} {last : Nat} (hlast : last < l.length) (s : σ) (h : Lin ways s l) : Lin ways s (restOf l last) := by
  obtain ⟨ord, h1, h2, h3, h4, h5⟩ := h
  -- the order up to the one that is taken away
  obtain ⟨pre, post, hord, hnot, hbeh⟩ : ∃ pre post, ord = pre ++ post ∧ last ∉ pre ∧ ∀ i ∈ post, evAhead (l.getD i ev0) (l.getD last ev0) = true → i = last := by
    by_cases hm : last ∈ ord
    · obtain ⟨pre, post, e⟩ := List.append_of_mem hm
      subst e
      refine ⟨pre, last :: post, rfl, fun hp => ?_, fun i hi ha => ?_⟩
      · have := (List.nodup_append.1 h1).2.2
        exact this last hp last (by simp) rfl
      · rcases List.mem_cons.1 hi with rfl | hi
        · rfl
        · have := (List.pairwise_append.1 h4).2.1
          have := (List.pairwise_cons.1 this).1 i hi
          rw [ha] at this; cases this
    · exact ⟨ord, [], by simp, hm, by simp⟩
  subst hord
  have hne : ∀ i ∈ pre, i ≠ last := fun i hi e => hnot (e ▸ hi)
  have hlt : ∀ i ∈ pre, i < l.length := fun i hi => h2 i (List.mem_append_left _ hi)
  refine lin_map ht (fun i => if i < last then i else i - 1) pre s (List.nodup_append.1 h1).1 ?_ ?_ ?_ ?_ (acc_left _ (post.map fun i => l.getD i ev0) s (by rw [List.map_append] at h5; exact h5))
  · intro i hi j hj e
    have := hne i hi
    have := hne j hj
    split at e <;> split at e <;> omega
  · intro i hi
    obtain ⟨g1, g2⟩ := rest_getD hlast (hlt i hi) (hne i hi)
    rw [g2]
    exact ⟨g1, cut_like _ _, fun ho => (cut_over ho).1⟩
  · intro j hj ho
    have hlen : (restOf l last).length = l.length - 1 := by unfold restOf; rw [List.length_map, List.length_eraseIdx_of_lt hlast]
    -- which one it was
    obtain ⟨i, hi, hil, hij⟩ : ∃ i, i < l.length ∧ i ≠ last ∧ (if i < last then i else i - 1) = j := by
      by_cases hc : j < last
      · exact ⟨j, by omega, by omega, if_pos hc⟩
      · exact ⟨j + 1, by omega, by omega, by rw [if_neg (by omega)]; omega⟩
    obtain ⟨g1, g2⟩ := rest_getD hlast hi hil
    rw [hij] at g2
    rw [g2] at ho
    have ho' := cut_over ho
    have hah : evAhead (l.getD i ev0) (l.getD last ev0) = true := by unfold evAhead; rw [ho'.1]; simpa using ho'.2
    have hm := h3 i hi ho'.1
    rcases List.mem_append.1 hm with hm | hm
    · exact ⟨i, hm, hij⟩
    · exact absurd (hbeh i hm hah) hil
  · refine List.Pairwise.imp_of_mem (fun {i j} hi hj hn => ?_) (List.pairwise_append.1 h4).1
    rw [(rest_getD hlast (hlt i hi) (hne i hi)).2, (rest_getD hlast (hlt j hj) (hne j hj)).2]
    cases he : evAhead (cut (l.getD j ev0) (l.getD last ev0).beg) (cut (l.getD i ev0) (l.getD last ev0).beg) with
    | false => rfl
    | true => rw [cut_ahead he] at hn; cases hn

/-- In whatever order they stand: two are swapped. -/
def swapN (i j k : Nat) : Nat := if k = i then j else if k = j then i else k

theorem swapN_twice (i j k : Nat) : swapN i j (swapN i j k) = k := by
  unfold swapN
  by_cases h1 : k = i
  · subst h1; simp
  · by_cases h2 : k = j
    · subst h2; simp [h1]
    · simp [h1, h2]

theorem lin_swap {σ : Type} {ways : Ways σ} (ht : Timeless ways) {l u : List Ev} (s : σ) (i j : Nat) (hi : i < l.length) (hj : j < l.length) (hlen : u.length = l.length) (hg : ∀ k, k < l.length → u.getD (swapN i j k) ev0 = l.getD k ev0) (h : Lin ways s l) : Lin ways s u := by
  obtain ⟨ord, h1, h2, h3, h4, h5⟩ := h
  have hlt : ∀ k, k < l.length → swapN i j k < l.length := fun k hk => by unfold swapN; split <;> (try split) <;> omega
  refine lin_map ht (swapN i j) ord s h1 (fun a _ b _ e => by rw [← swapN_twice i j a, e, swapN_twice]) (fun k hk => ?_) (fun k hk ho => ?_) ?_ h5
  · rw [hg k (h2 k hk), hlen]
    exact ⟨hlt k (h2 k hk), Like.refl _, fun h => h⟩
  · have hk' : swapN i j k < l.length := hlt k (by omega)
    have e := hg (swapN i j k) hk'
    rw [swapN_twice] at e
    rw [e] at ho
    exact ⟨swapN i j k, h3 _ hk' ho, swapN_twice _ _ _⟩
  · refine List.Pairwise.imp_of_mem (fun {a b} ha hb hn => ?_) h4
    rw [hg a (h2 a ha), hg b (h2 b hb)]; exact hn

theorem timeless_stack : Timeless wayStack := fun s e e' h1 h2 h3 => by unfold wayStack; rw [h1, h2]
theorem timeless_onces (n : Int) : Timeless (wayOnces n) := fun s e e' h1 h2 h3 => by unfold wayOnces actOf; rw [h1, h2, h3]

end Go.Proofs.Yteniopbmkooomaa.Hi
