/-
  What the document's own Of does: the same events as package history's.
-/
import Derived.Test.YteniopbmkooomaaFit
import Derived.Test.YteniopbmkooomaaScan
namespace Go.Proofs.Yteniopbmkooomaa
open Go.RowKit Hi Go.Deep Go.Maps

theorem ofs_total {sc : List (List Call)} {an : List (List (Int × Int))} : ∀ (l : List Step) (k : Nat) (st : St), ∃ r, Ofs sc an k l st r
  | [], k, st => ⟨some st, rfl⟩
  | s :: l, k, st => by
    by_cases hop : s.op = 9 ∨ s.op = 10
    · by_cases hth : s.thr < 0 ∨ (sc.length : Int) ≤ s.thr
      · exact ⟨none, .inr (.inl ⟨hop, hth, rfl⟩)⟩
      · obtain ⟨t, ht⟩ := Int.eq_ofNat_of_zero_le (show 0 ≤ s.thr by omega)
        have htl : t < sc.length := by omega
        rcases hop with hop | hop
        · by_cases ho : beginOk an st t s
          · obtain ⟨r, hr⟩ := ofs_total l (k + 1) (beginSt sc st t k)
            exact ⟨r, .inr (.inr (.inl ⟨t, ht, htl, hop, ho, hr⟩))⟩
          · exact ⟨none, .inr (.inr (.inr (.inr (.inl ⟨t, ht, htl, hop, ho, rfl⟩))))⟩
        · by_cases ho : endOk an st t s
          · obtain ⟨r, hr⟩ := ofs_total l (k + 1) (endSt an st t k)
            exact ⟨r, .inr (.inr (.inr (.inl ⟨t, ht, htl, hop, ho, hr⟩)))⟩
          · exact ⟨none, .inr (.inr (.inr (.inr (.inr ⟨t, ht, htl, hop, ho, rfl⟩))))⟩
    · obtain ⟨r, hr⟩ := ofs_total l (k + 1) st
      exact ⟨r, .inl ⟨fun h => hop (.inl h), fun h => hop (.inr h), hr⟩⟩

theorem ofs_det {sc : List (List Call)} {an : List (List (Int × Int))} : ∀ (l : List Step) (k : Nat) (st : St) (r r' : Option St), Ofs sc an k l st r → Ofs sc an k l st r' → r = r'
  | [], _, _, _, _, h, h' => h.trans h'.symm
  | s :: l, k, st, r, r', h, h' => by
    by_cases hop : s.op = 9 ∨ s.op = 10
    · by_cases hth : s.thr < 0 ∨ (sc.length : Int) ≤ s.thr
      · rw [ofs_out hop hth h, ofs_out hop hth h']
      · obtain ⟨t, ht⟩ := Int.eq_ofNat_of_zero_le (show 0 ≤ s.thr by omega)
        have htl : t < sc.length := by omega
        rcases hop with hop | hop
        · by_cases ho : beginOk an st t s
          · exact ofs_det l _ _ r r' (ofs_begin hop ht htl ho h) (ofs_begin hop ht htl ho h')
          · rw [ofs_nobegin hop ht htl ho h, ofs_nobegin hop ht htl ho h']
        · by_cases ho : endOk an st t s
          · exact ofs_det l _ _ r r' (ofs_end hop ht htl ho h) (ofs_end hop ht htl ho h')
          · rw [ofs_noend hop ht htl ho h, ofs_noend hop ht htl ho h']
    · have n9 : s.op ≠ 9 := fun h => hop (.inl h)
      have n10 : s.op ≠ 10 := fun h => hop (.inr h)
      exact ofs_det l _ _ r r' (ofs_skip n9 n10 h) (ofs_skip n9 n10 h')

/-- Where a call begins, in a trace that fits: whose it is, and which. -/
theorem begin_facts {sc : List (List Call)} {an : List (List (Int × Int))} {tr : List Step} : ∀ (l : List Step) (k : Nat) (st r : St), tr.drop k = l → Ofs sc an k l st (some r) → ∀ i, k ≤ i → i < tr.length → (tr.getD i step0).op = 9 →
    ∃ t o : Nat, (tr.getD i step0).thr = t ∧ t < sc.length ∧ (tr.getD i step0).old = o ∧ o < (an.getD t []).length
  | [], k, st, r, hd, _, i, hk, hi, _ => by
    have := List.drop_eq_nil_iff.1 hd
    omega
  | s :: l, k, st, r, hd, h, i, hk, hi, h9 => by
    have hlt : k < tr.length := by omega
    rw [List.drop_eq_getElem_cons hlt] at hd
    have hs : tr.getD k step0 = s := by
      rw [List.getD_eq_getElem?_getD, List.getElem?_eq_getElem hlt]
      exact (List.cons.inj hd).1
    have hd' := (List.cons.inj hd).2
    by_cases e : i = k
    · subst e
      rw [hs] at h9 ⊢
      rcases h with ⟨h1, _, _⟩ | ⟨_, _, h⟩ | ⟨t, h1, h2, h3, h4, h⟩ | ⟨t, h1, h2, h3, h4, h⟩ | ⟨t, h1, h2, h3, h4, h⟩ | ⟨t, h1, h2, h3, h4, h⟩
      · exact absurd h9 h1
      · cases h
      · exact ⟨t, (st.tab t).1, h1, h2, h4.2.2.1, h4.2.1⟩
      · omega
      · cases h
      · cases h
    · rcases h with ⟨h1, h2, h⟩ | ⟨_, _, h⟩ | ⟨t, h1, h2, h3, h4, h⟩ | ⟨t, h1, h2, h3, h4, h⟩ | ⟨t, h1, h2, h3, h4, h⟩ | ⟨t, h1, h2, h3, h4, h⟩
      · exact begin_facts l (k + 1) _ r hd' h i (by omega) hi h9
      · cases h
      · exact begin_facts l (k + 1) _ r hd' h i (by omega) hi h9
      · exact begin_facts l (k + 1) _ r hd' h i (by omega) hi h9
      · cases h
      · cases h

/-- A box holds an event. -/
def Box (u : World) (b : Nat) (e : Ev) : Prop := u.heap[b]? = some (.cells (evC e) 33 (0, 0))

theorem Box.range {u : World} {b : Nat} {e : Ev} (h : Box u b e) : u.rangeAt b 0 (evC e).toList := by
  intro j v hj
  simp only [World.cell?]
  rw [show u.heap[b]? = some (.cells (evC e) 33 (0, 0)) from h]
  simpa using hj
theorem Box.frozen {u : World} {b : Nat} {e : Ev} (h : Box u b e) (j : Nat) : u.frozen? ⟨b, j, none⟩ = false := by
  simp only [World.frozen?]
  rw [show u.heap[b]? = some (.cells (evC e) 33 (0, 0)) from h]
  simp
theorem Box.set {u : World} {b : Nat} {e : Ev} (h : Box u b e) (k : Nat) (a : Int × Int) : Box (((u.setCell ⟨b, 5, none⟩ (I k)).setCell ⟨b, 6, none⟩ (I a.1)).setCell ⟨b, 7, none⟩ (I a.2)) b (ended k a e) := by
  have h' : u.heap[b]? = some (.cells (evC e) 33 (0, 0)) := h
  unfold Box
  simp [World.setCell, Array.getElem?_modify, h', ended]

theorem below_set {B : Nat} {a w : World} (h : Below B a w) {p : Addr} (hp : p.block = B) (u : Value) : Below B a (w.setCell p u) := h.setCell (by omega) u

end Go.Proofs.Yteniopbmkooomaa
