/-
  What spare of the statements does: the lists, in memory of their own, with a mark behind each.
-/
import Derived.Test.YteniopbmkooomaaCopy
namespace Go.Proofs.Yteniopbmkooomaa
open Go.RowKit Hi Go.Deep Go.Maps

theorem info59 : (Try.prog.info? 59).map (fun i => (i.zero, i.size, i.bytes)) = some (some (.agg #[I 0, I 0, I 0, I 0]), 4, 32) := by kernel_rfl
theorem info60 : (Try.prog.info? 60).map (fun i => (i.zero, i.size, i.bytes)) = some (some (.slice none 0 0), 1, 24) := by kernel_rfl
theorem size59 : (Try.prog.info? 59).map (·.size) = some 4 := by kernel_rfl

theorem make_calls (n : Nat) (hn : n ≤ 1048576) (w : World) :
    (Instr.makeSlice 60 (.int .i64 ((n : Int) + 1)) (.int .i64 ((n : Int) + 1))).run Try.prog w = .ok (.slice (some ⟨w.heap.size, 0, none⟩) (n + 1) (n + 1)) (w.alloc (.cells (madeCells #[I 0, I 0, I 0, I 0] ((n + 1) * 4)) 59)) := by
  cases hq : Try.prog.info? 59 with
  | none => have := info59; rw [hq] at this; cases this
  | some i =>
    have hi := info59
    rw [hq] at hi
    simp only [Option.map_some, Option.some.injEq, Prod.mk.injEq] at hi
    obtain ⟨hz, hs, hb⟩ := hi
    have := run_make (P := Try.prog) w 60 59 i _ Try.underlying60 hq hz .i64 .i64 ((n : Int) + 1) ((n : Int) + 1) (by omega) (by omega) (by rw [hb]; omega) (by omega)
    rw [hs] at this
    rw [this]
    have e : ((n : Int) + 1).toNat = n + 1 := by omega
    simp [Value.cells, e]

/-- The copy, with its mark. -/
theorem copied_calls {w : World} {ip : Option Addr} {icap : Nat} {l : List Call} (h : SL 4 callL w (.slice ip l.length icap) l) : ∃ w2,
    (Builtin.copy_ #[60, 60] 3 #[.slice (some ⟨w.heap.size, 0, none⟩) (l.length + 1) (l.length + 1), .slice ip l.length icap]).run Try.prog (w.alloc (.cells (madeCells #[I 0, I 0, I 0, I 0] ((l.length + 1) * 4)) 59)) = .ok (goInt l.length) w2 ∧
      (∃ a : Array Value, w2.heap[w.heap.size]? = some (.cells a 59 (0, 0)) ∧ a.size = (l.length + 1) * 4 ∧ a.toList.take (l.length * 4) = l.flatMap callL) ∧ Below w.heap.size w w2 ∧ w2.heap.size = w.heap.size + 1 := by
  obtain ⟨p, cap, he, h1, h2, h3⟩ := h
  cases he
  have hlen := flat_len len_call l
  have hg := heap_alloc_new w (.cells (madeCells #[I 0, I 0, I 0, I 0] ((l.length + 1) * 4)) 59)
  have hb0 := below_alloc (Below.refl _ w) (.cells (madeCells #[I 0, I 0, I 0, I 0] ((l.length + 1) * 4)) 59)
  obtain ⟨w2, r1, r2, r3, r4⟩ := run_copyN (P := Try.prog) (w.alloc (.cells (madeCells #[I 0, I 0, I 0, I 0] ((l.length + 1) * 4)) 59)) 60 60 3 59 4 w.heap.size (l.length + 1) (l.length + 1) ip l.length icap _ 59 (l.flatMap callL) Try.underlying60 size59 hg
    (by rw [hlen, show Nat.min l.length (l.length + 1) = l.length from by simp]) (by decide)
    (fun hpos => by
      have h0 : 0 < l.length := by rw [hlen] at hpos; omega
      obtain ⟨blk, off, e, hlt, _⟩ := h3 0 l[0] (List.getElem?_eq_getElem h0)
      refine ⟨⟨blk, off, none⟩, e, fun j v hj => ?_⟩
      obtain ⟨a, ha, hv⟩ := flat_of len_call (by decide) l j v hj
      obtain ⟨blk', off', e', hlt', hr⟩ := h3 (j / 4) a ha
      rw [e] at e'
      cases e'
      rw [Addr.add_mid]
      have := range_later hb0 hr hlt' (j % 4) v hv
      have e2 : off + j / 4 * 4 + j % 4 = off + j := by omega
      rw [e2] at this
      exact this)
    (by rw [hlen, size_madeCells]; omega)
    (fun v hv => by
      obtain ⟨c, _, hc⟩ := List.mem_flatMap.1 hv
      simp [callL] at hc
      rcases hc with rfl | rfl | rfl | rfl <;> rfl)
  rw [show Nat.min l.length (l.length + 1) = l.length from by simp] at r1
  refine ⟨w2, r1, ⟨_, r2, ?_, ?_⟩, hb0.trans r3, by rw [r4]; simp⟩
  · simp [hlen, size_madeCells]; omega
  · rw [← hlen]; simp

theorem info31 : (Try.prog.info? 31).map (fun i => (i.zero, i.size, i.bytes)) = some (some (.agg #[I 0, I 0]), 2, 16) := by kernel_rfl
theorem info61 : (Try.prog.info? 61).map (fun i => (i.zero, i.size, i.bytes)) = some (some (.slice none 0 0), 1, 24) := by kernel_rfl
theorem size31 : (Try.prog.info? 31).map (·.size) = some 2 := by kernel_rfl

theorem make_ans (n : Nat) (hn : n ≤ 1048576) (w : World) :
    (Instr.makeSlice 61 (.int .i64 ((n : Int) + 1)) (.int .i64 ((n : Int) + 1))).run Try.prog w = .ok (.slice (some ⟨w.heap.size, 0, none⟩) (n + 1) (n + 1)) (w.alloc (.cells (madeCells #[I 0, I 0] ((n + 1) * 2)) 31)) := by
  cases hq : Try.prog.info? 31 with
  | none => have := info31; rw [hq] at this; cases this
  | some i =>
    have hi := info31
    rw [hq] at hi
    simp only [Option.map_some, Option.some.injEq, Prod.mk.injEq] at hi
    obtain ⟨hz, hs, hb⟩ := hi
    have := run_make (P := Try.prog) w 61 31 i _ Try.underlying61 hq hz .i64 .i64 ((n : Int) + 1) ((n : Int) + 1) (by omega) (by omega) (by rw [hb]; omega) (by omega)
    rw [hs] at this
    rw [this]
    have e : ((n : Int) + 1).toNat = n + 1 := by omega
    simp [Value.cells, e]

/-- The copy, with its mark. -/
theorem copied_ans {w : World} {ip : Option Addr} {icap : Nat} {l : List (Int × Int)} (h : SL 2 ansL w (.slice ip l.length icap) l) : ∃ w2,
    (Builtin.copy_ #[61, 61] 3 #[.slice (some ⟨w.heap.size, 0, none⟩) (l.length + 1) (l.length + 1), .slice ip l.length icap]).run Try.prog (w.alloc (.cells (madeCells #[I 0, I 0] ((l.length + 1) * 2)) 31)) = .ok (goInt l.length) w2 ∧
      (∃ a : Array Value, w2.heap[w.heap.size]? = some (.cells a 31 (0, 0)) ∧ a.size = (l.length + 1) * 2 ∧ a.toList.take (l.length * 2) = l.flatMap ansL) ∧ Below w.heap.size w w2 ∧ w2.heap.size = w.heap.size + 1 := by
  obtain ⟨p, cap, he, h1, h2, h3⟩ := h
  cases he
  have hlen := flat_len len_ans l
  have hg := heap_alloc_new w (.cells (madeCells #[I 0, I 0] ((l.length + 1) * 2)) 31)
  have hb0 := below_alloc (Below.refl _ w) (.cells (madeCells #[I 0, I 0] ((l.length + 1) * 2)) 31)
  obtain ⟨w2, r1, r2, r3, r4⟩ := run_copyN (P := Try.prog) (w.alloc (.cells (madeCells #[I 0, I 0] ((l.length + 1) * 2)) 31)) 61 61 3 31 2 w.heap.size (l.length + 1) (l.length + 1) ip l.length icap _ 31 (l.flatMap ansL) Try.underlying61 size31 hg
    (by rw [hlen, show Nat.min l.length (l.length + 1) = l.length from by simp]) (by decide)
    (fun hpos => by
      have h0 : 0 < l.length := by rw [hlen] at hpos; omega
      obtain ⟨blk, off, e, hlt, _⟩ := h3 0 l[0] (List.getElem?_eq_getElem h0)
      refine ⟨⟨blk, off, none⟩, e, fun j v hj => ?_⟩
      obtain ⟨a, ha, hv⟩ := flat_of len_ans (by decide) l j v hj
      obtain ⟨blk', off', e', hlt', hr⟩ := h3 (j / 2) a ha
      rw [e] at e'
      cases e'
      rw [Addr.add_mid]
      have := range_later hb0 hr hlt' (j % 2) v hv
      have e2 : off + j / 2 * 2 + j % 2 = off + j := by omega
      rw [e2] at this
      exact this)
    (by rw [hlen, size_madeCells]; omega)
    (fun v hv => by
      obtain ⟨c, _, hc⟩ := List.mem_flatMap.1 hv
      simp [ansL] at hc
      rcases hc with rfl | rfl <;> rfl)
  rw [show Nat.min l.length (l.length + 1) = l.length from by simp] at r1
  refine ⟨w2, r1, ⟨_, r2, ?_, ?_⟩, hb0.trans r3, by rw [r4]; simp⟩
  · simp [hlen, size_madeCells]; omega
  · rw [← hlen]; simp

theorem info45 : (Try.prog.info? 45).map (fun i => (i.zero, i.size, i.bytes)) = some (some (.agg #[I 0, I 0, I 0, I 0, I 0]), 5, 40) := by kernel_rfl

theorem make_steps (n : Nat) (hn : n ≤ 1048576) (w : World) :
    (Instr.makeSlice 37 (.int .i64 ((n : Int) + 1)) (.int .i64 ((n : Int) + 1))).run Try.prog w = .ok (.slice (some ⟨w.heap.size, 0, none⟩) (n + 1) (n + 1)) (w.alloc (.cells (madeCells #[I 0, I 0, I 0, I 0, I 0] ((n + 1) * 5)) 45)) := by
  cases hq : Try.prog.info? 45 with
  | none => have := info45; rw [hq] at this; cases this
  | some i =>
    have hi := info45
    rw [hq] at hi
    simp only [Option.map_some, Option.some.injEq, Prod.mk.injEq] at hi
    obtain ⟨hz, hs, hb⟩ := hi
    have := run_make (P := Try.prog) w 37 45 i _ Try.underlying37 hq hz .i64 .i64 ((n : Int) + 1) ((n : Int) + 1) (by omega) (by omega) (by rw [hb]; omega) (by omega)
    rw [hs] at this
    rw [this]
    have e : ((n : Int) + 1).toNat = n + 1 := by omega
    simp [Value.cells, e]

/-- The copy, with its mark. -/
theorem copied_steps {w : World} {ip : Option Addr} {icap : Nat} {l : List Step} (h : SL 5 stepL w (.slice ip l.length icap) l) : ∃ w2,
    (Builtin.copy_ #[37, 37] 3 #[.slice (some ⟨w.heap.size, 0, none⟩) (l.length + 1) (l.length + 1), .slice ip l.length icap]).run Try.prog (w.alloc (.cells (madeCells #[I 0, I 0, I 0, I 0, I 0] ((l.length + 1) * 5)) 45)) = .ok (goInt l.length) w2 ∧
      (∃ a : Array Value, w2.heap[w.heap.size]? = some (.cells a 45 (0, 0)) ∧ a.size = (l.length + 1) * 5 ∧ a.toList.take (l.length * 5) = l.flatMap stepL) ∧ Below w.heap.size w w2 ∧ w2.heap.size = w.heap.size + 1 := by
  obtain ⟨p, cap, he, h1, h2, h3⟩ := h
  cases he
  have hlen := flat_len len_step l
  have hg := heap_alloc_new w (.cells (madeCells #[I 0, I 0, I 0, I 0, I 0] ((l.length + 1) * 5)) 45)
  have hb0 := below_alloc (Below.refl _ w) (.cells (madeCells #[I 0, I 0, I 0, I 0, I 0] ((l.length + 1) * 5)) 45)
  obtain ⟨w2, r1, r2, r3, r4⟩ := run_copyN (P := Try.prog) (w.alloc (.cells (madeCells #[I 0, I 0, I 0, I 0, I 0] ((l.length + 1) * 5)) 45)) 37 37 3 45 5 w.heap.size (l.length + 1) (l.length + 1) ip l.length icap _ 45 (l.flatMap stepL) Try.underlying37 size45 hg
    (by rw [hlen, show Nat.min l.length (l.length + 1) = l.length from by simp]) (by decide)
    (fun hpos => by
      have h0 : 0 < l.length := by rw [hlen] at hpos; omega
      obtain ⟨blk, off, e, hlt, _⟩ := h3 0 l[0] (List.getElem?_eq_getElem h0)
      refine ⟨⟨blk, off, none⟩, e, fun j v hj => ?_⟩
      obtain ⟨a, ha, hv⟩ := flat_of len_step (by decide) l j v hj
      obtain ⟨blk', off', e', hlt', hr⟩ := h3 (j / 5) a ha
      rw [e] at e'
      cases e'
      rw [Addr.add_mid]
      have := range_later hb0 hr hlt' (j % 5) v hv
      have e2 : off + j / 5 * 5 + j % 5 = off + j := by omega
      rw [e2] at this
      exact this)
    (by rw [hlen, size_madeCells]; omega)
    (fun v hv => by
      obtain ⟨c, _, hc⟩ := List.mem_flatMap.1 hv
      simp [stepL] at hc
      rcases hc with rfl | rfl | rfl | rfl | rfl <;> rfl)
  rw [show Nat.min l.length (l.length + 1) = l.length from by simp] at r1
  refine ⟨w2, r1, ⟨_, r2, ?_, ?_⟩, hb0.trans r3, by rw [r4]; simp⟩
  · simp [hlen, size_madeCells]; omega
  · rw [← hlen]; simp

/-- Some cells, one behind the other. -/
def setMany (w : World) (g : Nat) : Nat → List Value → World
  | _, [] => w
  | o, c :: r => setMany (w.setCell ⟨g, o, none⟩ c) g (o + 1) r

theorem setMany_heap {g : Nat} {ty : TypeId} : ∀ (cs : List Value) (w : World) (o : Nat) (a : Array Value), w.heap[g]? = some (.cells a ty (0, 0)) → o + cs.length ≤ a.size →
    ∃ b : Array Value, (setMany w g o cs).heap[g]? = some (.cells b ty (0, 0)) ∧ b.toList = a.toList.take o ++ cs ++ a.toList.drop (o + cs.length)
  | [], w, o, a, h, _ => ⟨a, h, by simp⟩
  | c :: r, w, o, a, h, hl => by
    have h1 : (w.setCell ⟨g, o, none⟩ c).heap[g]? = some (.cells (a.setIfInBounds o c) ty (0, 0)) := by simp [World.setCell, Array.getElem?_modify, h]
    simp only [List.length_cons] at hl
    obtain ⟨b, hb1, hb2⟩ := setMany_heap r (w.setCell ⟨g, o, none⟩ c) (o + 1) _ h1 (by simp; omega)
    refine ⟨b, hb1, ?_⟩
    rw [hb2, Array.toList_setIfInBounds]
    have ho : o < a.toList.length := by simp; omega
    have e1 : (a.toList.set o c).take (o + 1) = a.toList.take o ++ [c] := by
      rw [List.set_eq_take_append_cons_drop, if_pos ho]
      have hl2 : (a.toList.take o).length = o := by simp; omega
      rw [List.take_append, hl2, List.take_of_length_le (by omega)]
      have : o + 1 - o = 1 := by omega
      rw [this]
      rfl
    have e2 : (a.toList.set o c).drop (o + 1 + r.length) = a.toList.drop (o + (r.length + 1)) := by
      rw [List.drop_set_of_lt (by omega)]
      congr 1
      omega
    rw [e1, e2]
    simp

theorem setMany_other {g k : Nat} (h : k ≠ g) : ∀ (cs : List Value) (w : World) (o : Nat), (setMany w g o cs).heap[k]? = w.heap[k]?
  | [], _, _ => rfl
  | c :: r, w, o => by
    show (setMany (w.setCell ⟨g, o, none⟩ c) g (o + 1) r).heap[k]? = _
    rw [setMany_other h r, Below.heap_setCell _ _ _ _ (by simpa using h)]

/-- A list with its mark, once the mark is stored. -/
theorem marked_of {α : Type} {n : Nat} {enc : α → List Value} {mark : List Value} {ty : TypeId} {w : World} {g : Nat} {l : List α} (hm : mark.length = n) {a : Array Value} (h : w.heap[g]? = some (.cells a ty (0, 0))) (hs : a.size = (l.length + 1) * n) (ht : a.toList.take (l.length * n) = l.flatMap enc) :
    Marked enc mark ty (setMany w g (l.length * n) mark) g l := by
  have hlt : l.length * n + mark.length ≤ a.size := by rw [hs, hm, Nat.succ_mul]; omega
  obtain ⟨b, hb1, hb2⟩ := setMany_heap mark w (l.length * n) a h hlt
  have hd : a.toList.drop (l.length * n + mark.length) = [] := by
    rw [List.drop_eq_nil_iff, Array.length_toList, hs, hm, Nat.succ_mul]; omega
  rw [hd, ht, List.append_nil] at hb2
  have : b = (l.flatMap enc ++ mark).toArray := by
    apply Array.toList_inj.1
    rw [hb2]
  unfold Marked
  rw [hb1, this]

/-- The slices that were made so far. -/
def Made {α : Type} (enc : α → List Value) (mark : List Value) (ty : TypeId) (B : Nat) (ll : List (List α)) (k : Nat) (vals : List Value) (u : World) : Prop :=
  vals.length = k ∧ ∀ i, i < k → ∃ g, vals[i]? = some (.slice (some ⟨g, 0, none⟩) (ll.getD i []).length ((ll.getD i []).length + 1)) ∧ B ≤ g ∧ Marked enc mark ty u g (ll.getD i [])

theorem Made.lent {α : Type} {enc : α → List Value} {mark : List Value} {ty e : TypeId} {B B' : Nat} {ll : List (List α)} {vals : List Value} {u : World} {v : Value} (h : Made enc mark ty B ll ll.length vals u) (ho : u.ownsRow B' e 1 v ll.length vals) : Lent enc mark ty B u v ll := by
  rcases ho.2 with ⟨rfl, h0⟩ | ⟨g, cap, cur, rfl, hb, hh, h1, h2, h3, h4⟩
  · have : ll = [] := List.length_eq_zero_iff.1 h0
    subst this
    exact ⟨none, 0, rfl, Nat.le_refl _, Nat.zero_le _, fun i l hi => by simp at hi⟩
  · refine ⟨_, cap, rfl, h1, h2, fun i l hi => ?_⟩
    have hlt := (List.getElem?_eq_some_iff.1 hi).1
    obtain ⟨g', hv, hg', hm⟩ := h.2 i hlt
    have hl : ll.getD i [] = l := by rw [List.getD_eq_getElem?_getD, hi]; rfl
    rw [hl] at hv hm
    refine ⟨g, 0, g', rfl, ?_, hg', hm⟩
    rw [← h4, List.getElem?_take_of_lt (by omega)] at hv
    simp only [World.cell?, hh, Nat.zero_add]
    simpa using hv

theorem Made.step {α : Type} {enc : α → List Value} {mark : List Value} {ty : TypeId} {B : Nat} {ll : List (List α)} {k : Nat} {vals : List Value} {u u' : World} (h : Made enc mark ty B ll k vals u) (hs : ∀ g l, B ≤ g → Marked enc mark ty u g l → Marked enc mark ty u' g l)
    {g : Nat} (hg : B ≤ g) (hm : Marked enc mark ty u' g (ll.getD k [])) : Made enc mark ty B ll (k + 1) (vals ++ [.slice (some ⟨g, 0, none⟩) (ll.getD k []).length ((ll.getD k []).length + 1)]) u' := by
  refine ⟨by rw [List.length_append, h.1]; rfl, fun i hi => ?_⟩
  by_cases e : i = k
  · subst e
    exact ⟨g, by rw [List.getElem?_append_right (by rw [h.1]; omega), h.1]; simp, hg, hm⟩
  · obtain ⟨g', hv, hg', hm'⟩ := h.2 i (by omega)
    exact ⟨g', by rw [List.getElem?_append_left (by rw [h.1]; omega)]; exact hv, hg', hs g' _ hg' hm'⟩

end Go.Proofs.Yteniopbmkooomaa
