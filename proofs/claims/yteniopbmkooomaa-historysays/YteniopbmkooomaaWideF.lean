/-
  The statement HistoryWide: facts that its walk needs.
-/
import Derived.Test.YteniopbmkooomaaLentE
namespace Go.Proofs.Yteniopbmkooomaa
open Go.RowKit Hi Go.Deep Go.Maps

/-- An event with its times stretched. -/
def widen (wi : Int) (x : Ev) : Ev := if wi < 0 ∨ 1000 < wi then { x with fin := -1 } else { x with beg := max 0 (x.beg - wi), fin := if x.fin = -1 then -1 else wrap64 (x.fin + wi) }

theorem widen_like (wi : Int) (x : Ev) : Like (widen wi x) x := by unfold widen; split <;> exact ⟨rfl, rfl, rfl, rfl⟩
theorem widen_over {wi : Int} {x : Ev} (h : (widen wi x).over = true) : x.over = true := by
  rw [over_iff] at h ⊢
  unfold widen at h
  split at h
  · exact absurd rfl h
  · simp only [] at h
    split at h
    · exact absurd rfl h
    · rename_i h1; exact h1

theorem lin_widen {σ : Type} {ways : Ways σ} (ht : Timeless ways) {l : List Ev} {k : Nat} (hk : k < l.length) (wi : Int) (s : σ) (hf : ∀ i, i < l.length → Fits (l.getD i ev0).fin) (hh : Hist l) (hu : Hist (l.set k (widen wi (l.getD k ev0)))) (h : Lin ways s l) :
    Lin ways s (l.set k (widen wi (l.getD k ev0))) := by
  have hg : ∀ i, (l.set k (widen wi (l.getD k ev0))).getD i ev0 = if i = k then widen wi (l.getD k ev0) else l.getD i ev0 := fun i => getD_set l k i _ _ hk
  refine lin_wide ht s (by simp) (fun i hi => ?_) (fun i j hi hj ha => ?_) h
  · rw [hg]
    by_cases e : i = k
    · subst e; rw [if_pos rfl]; exact ⟨widen_like _ _, widen_over⟩
    · rw [if_neg e]; exact ⟨Like.refl _, fun h => h⟩
  · rw [hg, hg] at ha
    have hT := (hu k (by simpa using hk)).1
    rw [hg, if_pos rfl] at hT
    have hT0 := (hh k hk).1
    have hfk := hf k hk
    have h2 := evAhead_lt ha
    have h3 := evAhead_over ha
    unfold Timed at hT hT0
    unfold Fits at hfk
    unfold evAhead
    by_cases ej : j = k
    · subst ej
      rw [if_pos rfl] at h2 h3
      have ho := widen_over h3
      rw [ho]
      have hle : (l.getD j ev0).fin ≤ (widen wi (l.getD j ev0)).fin ∧ 0 ≤ (widen wi (l.getD j ev0)).beg := by
        unfold widen at h3 hT ⊢
        split at h3
        · simp [Ev.over] at h3
        · rename_i hw
          simp only [if_neg hw] at hT ⊢
          have hne := over_iff.1 ho
          rw [if_neg hne] at hT ⊢
          unfold wrap64 at hT ⊢
          omega
      by_cases ei : i = j
      · subst ei
        rw [if_pos rfl] at h2
        have := over_iff.1 h3
        omega
      · rw [if_neg ei] at h2
        rw [Bool.true_and, decide_eq_true_eq]
        omega
    · rw [if_neg ej] at h2 h3
      rw [h3]
      by_cases ei : i = k
      · subst ei
        rw [if_pos rfl] at h2
        have hle : (widen wi (l.getD i ev0)).beg ≤ (l.getD i ev0).beg := by
          unfold widen
          split
          · exact Int.le_refl _
          · simp only []; omega
        rw [Bool.true_and, decide_eq_true_eq]
        omega
      · rw [if_neg ei] at h2
        rw [Bool.true_and, decide_eq_true_eq]
        exact h2

/-- One number of one event is written. -/
theorem flat_cell : ∀ (l : List Ev) (k j : Nat) (c : Value) (x x' : Ev), l[k]? = some x → j < 8 → evL x' = (evL x).set j c → (l.flatMap evL).set (k * 8 + j) c = (l.set k x').flatMap evL
  | [], k, _, _, _, _, h, _, _ => by simp at h
  | y :: r, 0, j, c, x, x', h, hj, he => by
    simp at h; subst h
    simp only [List.flatMap_cons, List.set_cons_zero, Nat.zero_mul, Nat.zero_add, he]
    rw [List.set_append_left _ _ (by rw [len_ev]; exact hj)]
  | y :: r, k + 1, j, c, x, x', h, hj, he => by
    have h' : r[k]? = some x := by simpa using h
    simp only [List.flatMap_cons, List.set_cons_succ]
    rw [List.set_append_right _ _ (by rw [len_ev]; omega), len_ev, show (k + 1) * 8 + j - 8 = k * 8 + j by omega, flat_cell r k j c x x' h' hj he]

theorem marked_field {mark : List Value} {u : World} {g : Nat} {l : List Ev} (h : Marked evL mark 33 u g l) {k j : Nat} (hk : k < l.length) (hj : j < 8) {c : Value} {x' : Ev} (he : evL x' = (evL (l.getD k ev0)).set j c) :
    Marked evL mark 33 (u.setCell ⟨g, k * 8 + j, none⟩ c) g (l.set k x') := by
  have h' : u.heap[g]? = some (.cells (l.flatMap evL ++ mark).toArray 33 (0, 0)) := h
  have key : (l.flatMap evL ++ mark).toArray.setIfInBounds (k * 8 + j) c = ((l.set k x').flatMap evL ++ mark).toArray := by
    apply Array.toList_inj.1
    rw [Array.toList_setIfInBounds]
    show (l.flatMap evL ++ mark).set (k * 8 + j) c = (l.set k x').flatMap evL ++ mark
    rw [List.set_append_left _ _ (by rw [flat_len len_ev]; omega), flat_cell l k j c _ x' (getD_some hk ev0) hj he]
  unfold Marked
  rw [← key]
  simp [World.setCell, Array.getElem?_modify, h']

theorem marked_cells {mark : List Value} {u : World} {g : Nat} {l : List Ev} (h : Marked evL mark 33 u g l) {k : Nat} (hk : k < l.length) : u.rangeAt g (k * 8) (evL (l.getD k ev0)) := by
  intro j v hj
  have := flat_at len_ev l k _ (getD_some hk ev0) j v hj
  simp only [World.cell?]
  rw [show u.heap[g]? = _ from h]
  simp only [Option.isSome_none, Bool.false_eq_true, if_false]
  rw [List.getElem?_toArray, List.getElem?_append_left (List.getElem?_eq_some_iff.1 this).1]
  exact this
theorem marked_frozen {mark : List Value} {u : World} {g : Nat} {l : List Ev} (h : Marked evL mark 33 u g l) (j : Nat) : u.frozen? ⟨g, j, none⟩ = false := by
  simp only [World.frozen?]
  rw [show u.heap[g]? = _ from h]
  simp

theorem marked_fin {mark : List Value} {u : World} {g : Nat} {l : List Ev} (h : Marked evL mark 33 u g l) {k : Nat} (hk : k < l.length) {x x' : Ev} (hx : l.getD k ev0 = x) (f : Int) (he : x' = { x with fin := f }) :
    Marked evL mark 33 (u.setCell ⟨g, k * 8 + 5, none⟩ (I f)) g (l.set k x') := marked_field h hk (by decide) (by rw [hx, he]; rfl)
theorem marked_beg {mark : List Value} {u : World} {g : Nat} {l : List Ev} (h : Marked evL mark 33 u g l) {k : Nat} (hk : k < l.length) {x x' : Ev} (hx : l.getD k ev0 = x) (b : Int) (he : x' = { x with beg := b }) :
    Marked evL mark 33 (u.setCell ⟨g, k * 8 + 4, none⟩ (I b)) g (l.set k x') := marked_field h hk (by decide) (by rw [hx, he]; rfl)
theorem marked_both {mark : List Value} {u : World} {g : Nat} {l : List Ev} (h : Marked evL mark 33 u g l) {k : Nat} (hk : k < l.length) {x x' : Ev} (hx : l.getD k ev0 = x) (b f : Int) (he : x' = { x with beg := b, fin := f }) :
    Marked evL mark 33 ((u.setCell ⟨g, k * 8 + 4, none⟩ (I b)).setCell ⟨g, k * 8 + 5, none⟩ (I f)) g (l.set k x') := by
  have h1 := marked_beg h hk hx b rfl
  have h2 := marked_fin (x' := x') h1 (k := k) (by simpa using hk) (x := { x with beg := b }) (by rw [getD_set _ _ _ _ _ hk, if_pos rfl]) f he
  rw [List.set_set] at h2
  exact h2
theorem widen_out {wi : Int} {x : Ev} (h : wi < 0 ∨ 1000 < wi) : widen wi x = { x with fin := -1 } := by unfold widen; rw [if_pos h]
theorem widen_open {wi : Int} {x : Ev} (h : 0 ≤ wi ∧ wi ≤ 1000) (hf : x.fin = -1) {b : Int} (hb : max 0 (x.beg - wi) = b) : widen wi x = { x with beg := b } := by
  unfold widen; rw [if_neg (by omega), if_pos hf, hb, ← hf]
theorem widen_shut {wi : Int} {x : Ev} (h : 0 ≤ wi ∧ wi ≤ 1000) (hf : ¬ x.fin = -1) {b : Int} (hb : max 0 (x.beg - wi) = b) : widen wi x = { x with beg := b, fin := wrap64 (x.fin + wi) } := by
  unfold widen; rw [if_neg (by omega), if_neg hf, hb]
theorem marked_sl3 {w : World} {g n : Nat} {l : List Ev} (h : Marked evL markE 33 w g l) (hn : l.length = n) (hm : n ≤ 1000000) : SL 8 evL w (.slice (some ⟨g, 0, none⟩) n (n + 2)) l := by
  subst hn; exact marked_sl2 (by unfold maxLen; omega) h

/-- What is left, as far as the loop has come. -/
def restUp (l : List Ev) (last : Nat) (t : Int) : Nat → List Ev
  | 0 => []
  | k + 1 => restUp l last t k ++ (if k = last then [] else [cut (l.getD k ev0) t])

theorem take_getD {l : List Ev} {k : Nat} (h : k < l.length) : l.take (k + 1) = l.take k ++ [l.getD k ev0] := by
  rw [List.take_add_one, List.getElem?_eq_getElem h, List.getD_eq_getElem?_getD, List.getElem?_eq_getElem h]; rfl

theorem restUp_take (l : List Ev) (last : Nat) (t : Int) : ∀ k, k ≤ l.length → restUp l last t k = ((l.take k).eraseIdx last).map fun x => cut x t
  | 0, _ => by simp [restUp]
  | k + 1, h => by
    have ih := restUp_take l last t k (by omega)
    have hlen : (l.take k).length = k := by simp; omega
    unfold restUp
    rw [ih, take_getD (by omega)]
    by_cases e : k = last
    · subst e
      rw [if_pos rfl, List.append_nil, List.eraseIdx_append_of_length_le (by omega), hlen]
      rw [List.eraseIdx_of_length_le (by omega)]
      simp
    · rw [if_neg e]
      by_cases h2 : last < k
      · rw [List.eraseIdx_append_of_lt_length (by omega)]; simp
      · rw [List.eraseIdx_of_length_le (k := last) (l := l.take k ++ [l.getD k ev0]) (by rw [List.length_append, hlen]; simp; omega), List.eraseIdx_of_length_le (k := last) (l := l.take k) (by omega)]
        simp
theorem restUp_all (l : List Ev) (last : Nat) : restUp l last (l.getD last ev0).beg l.length = restOf l last := by
  rw [restUp_take l last _ _ (Nat.le_refl _), List.take_length]; rfl

theorem restUp_len (l : List Ev) (last : Nat) (t : Int) : ∀ k, (restUp l last t k).length ≤ k
  | 0 => Nat.le_refl _
  | k + 1 => by
    have := restUp_len l last t k
    unfold restUp
    split <;> simp <;> omega

theorem rest_fits {l : List Ev} {last : Nat} (hf : ∀ x ∈ l, Fits x.a ∧ Fits x.b) : ∀ i, i < (restOf l last).length → Fits ((restOf l last).getD i ev0).a ∧ Fits ((restOf l last).getD i ev0).b := by
  intro i hi
  have hm : (restOf l last).getD i ev0 ∈ restOf l last := by
    rw [List.getD_eq_getElem?_getD, List.getElem?_eq_getElem hi]; exact List.getElem_mem hi
  unfold restOf at hm
  obtain ⟨y, hy, e⟩ := List.mem_map.1 hm
  have hl := cut_like y (l.getD last ev0).beg
  rw [show (restOf l last).getD i ev0 = cut y (l.getD last ev0).beg from e.symm, hl.2.1, hl.2.2.1]
  exact hf y (List.mem_of_mem_eraseIdx hy)

/-- A row that is owned, behind a store into another block. -/
theorem own_other {w : World} {base : Nat} {e : TypeId} {size : Nat} {v : Value} {n : Nat} {xs : List Value} (h : w.ownsRow base e size v n xs) {a : Addr} (hne : ∀ g, v.ownBlock = some g → g ≠ a.block) (c : Value) : (w.setCell a c).ownsRow base e size v n xs := by
  refine ⟨h.1, ?_⟩
  rcases h.2 with h | ⟨g, cap, cur, hv, hg, hh, r⟩
  · exact .inl h
  · refine .inr ⟨g, cap, cur, hv, hg, ?_, r⟩
    have : g ≠ a.block := hne g (by rw [hv]; rfl)
    rw [Below.heap_setCell _ _ _ _ this]
    exact hh
theorem box_new (w : World) (e : Ev) : Box (w.alloc (.cells (evC e) 33)) w.heap.size e := heap_alloc_new _ _
theorem box_drewN (w : World) (e : Ev) (n : Nat) : Box ((w.alloc (.cells (evC e) 33)).drewN n) w.heap.size e := (box_new w e).later (below_drewN (Below.refl (w.heap.size + 1) _) n) (Nat.lt_succ_self _)
theorem Box.set5 {u : World} {b : Nat} {e : Ev} (h : Box u b e) (f : Int) : Box (u.setCell ⟨b, 5, none⟩ (I f)) b { e with fin := f } := by
  have h' : u.heap[b]? = some (.cells (evC e) 33 (0, 0)) := h
  unfold Box
  simp [World.setCell, Array.getElem?_modify, h']

end Go.Proofs.Yteniopbmkooomaa
