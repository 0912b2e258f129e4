/-
  What Of of package history does, step by step.
-/
import Derived.Test.YteniopbmkooomaaMem
import Derived.Deep.AppendLies
namespace Go.Proofs.Yteniopbmkooomaa
open Go.RowKit Hi Go.Deep Go.Maps

/-- How far Of has come: the events, and of each thread how many calls began, how many ended, and the event of the last one. -/
structure St where
  evs : List Ev
  tab : Nat → Nat × Nat × Nat

def upd {α : Type} (tab : Nat → α) (t : Nat) (x : α) : Nat → α := fun i => if i = t then x else tab i
def call0 : Call := ⟨0, 0, 0, 0⟩
def st0 : St := ⟨[], fun _ => (0, 0, 0)⟩

/-- One note that fits. -/
def beginOk (an : List (List (Int × Int))) (st : St) (t : Nat) (s : Step) : Prop :=
  (st.tab t).1 = (st.tab t).2.1 ∧ (st.tab t).1 < (an.getD t []).length ∧ s.old = (st.tab t).1 ∧ s.new = 0
def endOk (an : List (List (Int × Int))) (st : St) (t : Nat) (s : Step) : Prop :=
  (st.tab t).2.1 < (st.tab t).1 ∧ s.old = (st.tab t).2.1 ∧ s.new = ((an.getD t []).getD (st.tab t).2.1 (0, 0)).1
def beginSt (sc : List (List Call)) (st : St) (t k : Nat) : St :=
  ⟨st.evs ++ [begunEv t k ((sc.getD t []).getD (st.tab t).1 call0)], upd st.tab t ((st.tab t).1 + 1, (st.tab t).2.1, st.evs.length)⟩
def ended (k : Nat) (a : Int × Int) (x : Ev) : Ev := ⟨x.thr, x.op, x.a, x.b, x.beg, k, a.1, a.2⟩
def endSt (an : List (List (Int × Int))) (st : St) (t k : Nat) : St :=
  ⟨if ((an.getD t []).getD (st.tab t).2.1 (0, 0)).1 = 4 then st.evs else st.evs.set (st.tab t).2.2 (ended k ((an.getD t []).getD (st.tab t).2.1 (0, 0)) (st.evs.getD (st.tab t).2.2 ev0)),
    upd st.tab t ((st.tab t).1, (st.tab t).2.1 + 1, (st.tab t).2.2)⟩

/-- From a place on: what comes of it. -/
def Ofs (sc : List (List Call)) (an : List (List (Int × Int))) : Nat → List Step → St → Option St → Prop
  | _, [], st, r => r = some st
  | k, s :: l, st, r =>
    (s.op ≠ 9 ∧ s.op ≠ 10 ∧ Ofs sc an (k + 1) l st r) ∨
    ((s.op = 9 ∨ s.op = 10) ∧ (s.thr < 0 ∨ (sc.length : Int) ≤ s.thr) ∧ r = none) ∨
    (∃ t : Nat, s.thr = t ∧ t < sc.length ∧ s.op = 9 ∧ beginOk an st t s ∧ Ofs sc an (k + 1) l (beginSt sc st t k) r) ∨
    (∃ t : Nat, s.thr = t ∧ t < sc.length ∧ s.op = 10 ∧ endOk an st t s ∧ Ofs sc an (k + 1) l (endSt an st t k) r) ∨
    (∃ t : Nat, s.thr = t ∧ t < sc.length ∧ s.op = 9 ∧ ¬ beginOk an st t s ∧ r = none) ∨
    (∃ t : Nat, s.thr = t ∧ t < sc.length ∧ s.op = 10 ∧ ¬ endOk an st t s ∧ r = none)

def tabCell (tab : Nat → Nat × Nat × Nat) (j : Nat) : Value :=
  if j % 3 = 0 then I (tab (j / 3)).1 else if j % 3 = 1 then I (tab (j / 3)).2.1 else I (tab (j / 3)).2.2

def evL (e : Ev) : List Value := (evC e).toList

/-- What stands in memory on the way. -/
structure OfInv (w0 : World) (bt n : Nat) (an : List (List (Int × Int))) (lv : Value) (st : St) (u : World) : Prop where
  own : u.ownsRow (bt + 1) 33 8 lv st.evs.length (st.evs.flatMap evL)
  row : u.rowIs bt 87 (n * 3) (tabCell st.tab)
  below : Below w0.heap.size w0 u
  ok : ∀ t, t < n → (st.tab t).2.1 ≤ (st.tab t).1 ∧ (st.tab t).1 ≤ (an.getD t []).length ∧ ((st.tab t).2.1 < (st.tab t).1 → (st.tab t).2.2 < st.evs.length)

theorem own_later {w w' : World} {base : Nat} {e : TypeId} {size : Nat} {v : Value} {n : Nat} {xs : List Value} (hb : Below w.heap.size w w') (h : w.ownsRow base e size v n xs) : w'.ownsRow base e size v n xs := by
  refine ⟨h.1, ?_⟩
  rcases h.2 with h | ⟨g, cap, cur, hv, hg, hh, r⟩
  · exact .inl h
  · exact .inr ⟨g, cap, cur, hv, hg, (hb.block g (Array.getElem?_eq_some_iff.1 hh).1).trans hh, r⟩
theorem OfInv.later {w0 : World} {bt n : Nat} {an : List (List (Int × Int))} {lv : Value} {st : St} {u u' : World} (h : OfInv w0 bt n an lv st u) (hb : Below u.heap.size u u') : OfInv w0 bt n an lv st u' :=
  ⟨own_later hb h.own, row_later hb h.row h.row.lt, h.below.trans (hb.mono h.below.size), h.ok⟩

theorem tabCell0 (tab : Nat → Nat × Nat × Nat) (t : Nat) : tabCell tab (t * 3) = I (tab t).1 := by
  have h1 : t * 3 % 3 = 0 := by omega
  have h2 : t * 3 / 3 = t := by omega
  simp [tabCell, h1, h2]
theorem tabCell1 (tab : Nat → Nat × Nat × Nat) (t : Nat) : tabCell tab (t * 3 + 1) = I (tab t).2.1 := by
  have h1 : (t * 3 + 1) % 3 = 1 := by omega
  have h2 : (t * 3 + 1) / 3 = t := by omega
  simp [tabCell, h1, h2]
theorem tabCell2 (tab : Nat → Nat × Nat × Nat) (t : Nat) : tabCell tab (t * 3 + 2) = I (tab t).2.2 := by
  have h1 : (t * 3 + 2) % 3 = 2 := by omega
  have h2 : (t * 3 + 2) / 3 = t := by omega
  simp [tabCell, h1, h2]

theorem size45 : (Try.prog.info? 45).map (·.size) = some 5 := by kernel_rfl
theorem wp_load45 {ops : Array Oper} {rest : List Oper} {op : Oper} {a : Act} {w : World} {Q : Exit → Act → World → Prop} (x : Operand) (ho : op.op = .load 45 x) (hgd : op.guard = none)
    (b o : Nat) (hx : a.eval x = .pointer (some ⟨b, o, none⟩)) (s : Step) (hc : w.rangeAt b o (stepL s))
    (h : wpList Try.prog ops Q rest (a.put op.dst (stepV s)) w) : wpList Try.prog ops Q (op :: rest) a w :=
  wpList_load_mid (P := Try.prog) hgd 45 x ho b o hx _ _ hc Try.underlying45 rfl size45 h

theorem info87 : (Try.prog.info? 87).map (fun i => (i.zero, i.size, i.bytes)) = some (some (.agg #[I 0, I 0, I 0]), 3, 24) := by kernel_rfl

theorem make_tab (n : Nat) (hn : n ≤ 1048576) (w : World) :
    (Instr.makeSlice 84 (.int .i64 (n : Int)) (.int .i64 (n : Int))).run Try.prog w = .ok (.slice (some ⟨w.heap.size, 0, none⟩) n n) (w.alloc (.cells (madeCells #[I 0, I 0, I 0] (n * 3)) 87)) := by
  cases hq : Try.prog.info? 87 with
  | none => have := info87; rw [hq] at this; cases this
  | some i =>
    have hi := info87
    rw [hq] at hi
    simp only [Option.map_some, Option.some.injEq, Prod.mk.injEq] at hi
    obtain ⟨hz, hs, hb⟩ := hi
    have := run_make (P := Try.prog) w 84 87 i _ Try.underlying84 hq hz .i64 .i64 (n : Int) (n : Int) (by omega) (by omega) (by rw [hb]; omega) (by omega)
    rw [hs] at this
    rw [this]
    simp [Value.cells]

theorem tab_start (w : World) (n : Nat) : (w.alloc (.cells (madeCells #[I 0, I 0, I 0] (n * 3)) 87)).rowIs w.heap.size 87 (n * 3) (tabCell st0.tab) := by
  refine ⟨_, blk_alloc_new _ _, size_madeCells _ _, fun i hi => ?_⟩
  have h3 : i % 3 < 3 := Nat.mod_lt _ (by omega)
  have : i % 3 = 0 ∨ i % 3 = 1 ∨ i % 3 = 2 := by omega
  rcases this with h | h | h <;> simp [madeCells, hi, tabCell, st0, h]

/-- It answers events, or ErrHistory. -/
def RetOf (e : Ending) (base : Nat) (w' : World) (r : Option St) : Prop :=
  (r = none ∧ e = .returned (.tuple #[.slice none 0 0, I 30])) ∨ ∃ st v, r = some st ∧ e = .returned (.tuple #[v, I 0]) ∧ w'.ownsRow base 33 8 v st.evs.length (st.evs.flatMap evL)

theorem kcell {u u' : World} (hb : Below u.heap.size u u') {a : Addr} {v : Value} (h : u.cell? a = some v) : u'.cell? a = some v := by
  rw [hb.cell (World.block_lt_of_cell? _ _ h)]; exact h
theorem keep7 {u u' : World} {a1 a2 a3 a4 a5 a6 a7 : Addr} {v1 v2 v3 v4 v5 v6 v7 : Value}
    (h : u.cell? a1 = some v1 ∧ u.cell? a2 = some v2 ∧ u.cell? a3 = some v3 ∧ u.cell? a4 = some v4 ∧ u.cell? a5 = some v5 ∧ u.cell? a6 = some v6 ∧ u.cell? a7 = some v7) (hb : Below u.heap.size u u') :
    u'.cell? a1 = some v1 ∧ u'.cell? a2 = some v2 ∧ u'.cell? a3 = some v3 ∧ u'.cell? a4 = some v4 ∧ u'.cell? a5 = some v5 ∧ u'.cell? a6 = some v6 ∧ u'.cell? a7 = some v7 := by
  obtain ⟨h1, h2, h3, h4, h5, h6, h7⟩ := h
  exact ⟨kcell hb h1, kcell hb h2, kcell hb h3, kcell hb h4, kcell hb h5, kcell hb h6, kcell hb h7⟩

/-- The table behind a store into it. -/
theorem tab_set {w : World} {bt n : Nat} {tab : Nat → Nat × Nat × Nat} (h : w.rowIs bt 87 (n * 3) (tabCell tab)) (j : Nat) (x : Nat) (tab' : Nat → Nat × Nat × Nat)
    (h0 : tabCell tab' j = I x) (h1 : ∀ i, i ≠ j → tabCell tab' i = tabCell tab i) : (w.setCell ⟨bt, j, none⟩ (I x)).rowIs bt 87 (n * 3) (tabCell tab') :=
  (h.set j (I x)).congr fun i _ => by
    by_cases e : i = j
    · rw [if_pos e, e, h0]
    · rw [if_neg e, h1 i e]

theorem tabCell_upd {tab : Nat → Nat × Nat × Nat} {t i : Nat} {x : Nat × Nat × Nat} (h : i / 3 ≠ t) : tabCell (upd tab t x) i = tabCell tab i := by
  simp [tabCell, upd, h]

theorem keep7g {u u' : World} {row : Option Nat} {B C : Nat} {a1 a2 a3 a4 a5 a6 a7 : Addr} {v1 v2 v3 v4 v5 v6 v7 : Value}
    (h : u.cell? a1 = some v1 ∧ u.cell? a2 = some v2 ∧ u.cell? a3 = some v3 ∧ u.cell? a4 = some v4 ∧ u.cell? a5 = some v5 ∧ u.cell? a6 = some v6 ∧ u.cell? a7 = some v7) (hg : u.grownBy u' row)
    (hr : ∀ g, row = some g → B + 1 ≤ g ∧ g < C) (h1 : a1.block = C) (h2 : a2.block = C) (h3 : a3.block < B) (h4 : a4.block < B) (h5 : a5.block = a4.block) (h6 : a6.block = a4.block) (h7 : a7.block = a4.block) :
    u'.cell? a1 = some v1 ∧ u'.cell? a2 = some v2 ∧ u'.cell? a3 = some v3 ∧ u'.cell? a4 = some v4 ∧ u'.cell? a5 = some v5 ∧ u'.cell? a6 = some v6 ∧ u'.cell? a7 = some v7 := by
  have far : ∀ {a : Addr} {v : Value}, u.cell? a = some v → (a.block = C ∨ a.block < B) → u'.cell? a = some v := fun {a v} hc hb => by
    rw [hg.cell_far a (World.block_lt_of_cell? _ _ hc) (fun e => by have := hr a.block e.symm; omega)]
    exact hc
  obtain ⟨g1, g2, g3, g4, g5, g6, g7⟩ := h
  exact ⟨far g1 (.inl h1), far g2 (.inl h2), far g3 (.inr h3), far g4 (.inr h4), far g5 (.inr (h5 ▸ h4)), far g6 (.inr (h6 ▸ h4)), far g7 (.inr (h7 ▸ h4))⟩

theorem own_block {w : World} {base : Nat} {e : TypeId} {size : Nat} {v : Value} {n : Nat} {xs : List Value} (h : w.ownsRow base e size v n xs) : ∀ g, v.ownBlock = some g → base ≤ g ∧ g < w.heap.size := by
  intro g hg
  rcases h.2 with ⟨rfl, _⟩ | ⟨g', cap, cur, rfl, hb, hh, _⟩
  · cases hg
  · have : g' = g := Option.some.inj hg
    subst this
    exact ⟨hb, (Array.getElem?_eq_some_iff.1 hh).1⟩

/-- A store into a row that is owned. -/
theorem own_set {w : World} {base : Nat} {e : TypeId} {size n cap g : Nat} {xs : List Value} (h : w.ownsRow base e size (.slice (some ⟨g, 0, none⟩) n cap) n xs) (j : Nat) (hj : j < n * size) (x : Value) :
    (w.setCell ⟨g, j, none⟩ x).ownsRow base e size (.slice (some ⟨g, 0, none⟩) n cap) n (xs.set j x) := by
  refine ⟨by rw [List.length_set]; exact h.1, .inr ?_⟩
  rcases h.2 with ⟨h0, _⟩ | ⟨g', cap', cur, hv, hb, hh, h1, h2, h3, h4⟩
  · cases h0
  · cases hv
    have hlt : n * size ≤ cap * size := Nat.mul_le_mul_right _ h1
    refine ⟨g, cap, cur.setIfInBounds j x, rfl, hb, ?_, h1, h2, by simpa using h3, ?_⟩
    · simp [World.setCell, Array.getElem?_modify, hh]
    · rw [← h4]
      apply List.ext_getElem?
      intro i
      rw [List.getElem?_set]
      by_cases hi : i < n * size
      · rw [List.getElem?_take_of_lt hi]
        simp only [Array.toList_setIfInBounds, List.getElem?_set, List.length_take, Array.length_toList]
        by_cases e : j = i
        · subst e
          have h5 : j < cur.size := by omega
          have h6 : j < min (n * size) cur.size := by omega
          simp [h5, h6]
        · simp [e, List.getElem?_take_of_lt hi]
      · have hne : j ≠ i := by omega
        have hn1 : (List.take (n * size) (cur.setIfInBounds j x).toList).length ≤ i := by simp; omega
        have hn2 : (List.take (n * size) cur.toList).length ≤ i := by simp; omega
        rw [List.getElem?_eq_none hn1, if_neg hne, List.getElem?_eq_none hn2]

/-- The cells of events, one behind the other. -/
theorem flat_get : ∀ (l : List Ev) (i : Nat), (l.flatMap evL)[i]? = (l[i / 8]?).bind fun e => (evL e)[i % 8]?
  | [], i => by simp
  | e :: r, i => by
    have hl : (evL e).length = 8 := rfl
    rw [List.flatMap_cons]
    by_cases hi : i < 8
    · rw [List.getElem?_append_left (by omega)]
      have h1 : i / 8 = 0 := by omega
      have h2 : i % 8 = i := by omega
      simp [h1, h2]
    · rw [List.getElem?_append_right (by omega), flat_get r, hl]
      have h1 : i / 8 = (i - 8) / 8 + 1 := by omega
      have h2 : (i - 8) % 8 = i % 8 := by omega
      rw [h1, h2]
      simp

theorem flat_set (l : List Ev) (v : Nat) (hv : v < l.length) (k : Int) (a : Int × Int) (e' : Ev) (he : e' = ⟨(l.getD v ev0).thr, (l.getD v ev0).op, (l.getD v ev0).a, (l.getD v ev0).b, (l.getD v ev0).beg, k, a.1, a.2⟩) :
    (((l.flatMap evL).set (v * 8 + 5) (I k)).set (v * 8 + 6) (I a.1)).set (v * 8 + 7) (I a.2) = (l.set v e').flatMap evL := by
  have hlen : ∀ l : List Ev, (l.flatMap evL).length = l.length * 8 := fun l => by
    induction l with
    | nil => rfl
    | cons x r ih => rw [List.flatMap_cons, List.length_append, ih]; simp [evL]; omega
  apply List.ext_getElem?
  intro i
  rw [List.getElem?_set, List.getElem?_set, List.getElem?_set, flat_get, flat_get]
  simp only [List.length_set, hlen]
  by_cases hi : i / 8 = v
  · have hg : l[v]? = some (l.getD v ev0) := getD_some hv ev0
    rw [hi, List.getElem?_set_self hv, hg]
    have h8 : i % 8 < 8 := Nat.mod_lt _ (by omega)
    have hi' : i = v * 8 + i % 8 := by omega
    have : i % 8 = 0 ∨ i % 8 = 1 ∨ i % 8 = 2 ∨ i % 8 = 3 ∨ i % 8 = 4 ∨ i % 8 = 5 ∨ i % 8 = 6 ∨ i % 8 = 7 := by omega
    rw [he]
    rcases this with h | h | h | h | h | h | h | h
    all_goals
      rw [h] at hi'
      rw [h, hi']
      simp [evL]
      try omega
  · have e5 : v * 8 + 5 ≠ i := by omega
    have e6 : v * 8 + 6 ≠ i := by omega
    have e7 : v * 8 + 7 ≠ i := by omega
    rw [if_neg e7, if_neg e6, if_neg e5, List.getElem?_set_ne (fun h => hi h.symm)]

/-- Behind an end: the table knows of it. -/
def MidE (w wo : World) (n : Nat) (lv : Value) (st : St) (t : Nat) (sold : Int) (W : World) : Prop :=
  W.ownsRow (w.heap.size + 1) 33 8 lv st.evs.length (st.evs.flatMap evL) ∧ W.rowIs w.heap.size 87 (n * 3) (tabCell (upd st.tab t ((st.tab t).1, (st.tab t).2.1 + 1, (st.tab t).2.2))) ∧ Below w.heap.size w W ∧
  W.cell? ⟨wo.heap.size, 0, none⟩ = some (I t) ∧ W.cell? ⟨wo.heap.size, 3, none⟩ = some (I sold) ∧ wo.heap.size < W.heap.size

theorem mid_end {w wo : World} {n : Nat} {an : List (List (Int × Int))} {lv : Value} {st : St} (h : OfInv w w.heap.size n an lv st wo) (t : Nat) (x sold : Int) (c e : Value) (B : Obj) (hx : x = ((st.tab t).2.1 : Int) + 1) (q : Nat) :
    MidE w wo n lv st t sold ((((wo.setCell ⟨w.heap.size, t * 3 + 1, none⟩ (I x)).alloc (.cells #[I t, c, I 10, I sold, e] 45)).alloc B).drewN q) := by
  subst hx
  have r2 : (wo.setCell ⟨w.heap.size, t * 3 + 1, none⟩ (I (((st.tab t).2.1 : Int) + 1))).rowIs w.heap.size 87 (n * 3) (tabCell (upd st.tab t ((st.tab t).1, (st.tab t).2.1 + 1, (st.tab t).2.2))) := by
    refine tab_set h.row (t * 3 + 1) ((st.tab t).2.1 + 1) _ (by rw [tabCell1]; simp [upd]) fun i hi => ?_
    by_cases e : i / 3 = t
    · have : i % 3 < 3 := Nat.mod_lt _ (by omega)
      have : i % 3 = 0 ∨ i % 3 = 2 := by omega
      rcases this with h | h <;> simp [tabCell, h, e, upd]
    · exact tabCell_upd e
  have hs : (wo.setCell ⟨w.heap.size, t * 3 + 1, none⟩ (I (((st.tab t).2.1 : Int) + 1))).heap.size = wo.heap.size := by simp [World.setCell]
  have o2 : (wo.setCell ⟨w.heap.size, t * 3 + 1, none⟩ (I (((st.tab t).2.1 : Int) + 1))).ownsRow (w.heap.size + 1) 33 8 lv st.evs.length (st.evs.flatMap evL) := ownsRow_setCell_below h.own (by simp) _
  have b2 : Below w.heap.size w (wo.setCell ⟨w.heap.size, t * 3 + 1, none⟩ (I (((st.tab t).2.1 : Int) + 1))) := h.below.setCell (Nat.le_refl _) _
  generalize wo.setCell ⟨w.heap.size, t * 3 + 1, none⟩ (I (((st.tab t).2.1 : Int) + 1)) = u at hs o2 r2 b2
  have hb : Below u.heap.size u (((u.alloc (.cells #[I t, c, I 10, I sold, e] 45)).alloc B).drewN q) := below_drewN (below_alloc (below_alloc (Below.refl _ _) _) _) _
  have rg : (((u.alloc (.cells #[I t, c, I 10, I sold, e] 45)).alloc B).drewN q).rangeAt wo.heap.size 0 [I t, c, I 10, I sold, e] := by
    refine range_later (below_drewN (below_alloc (Below.refl _ _) _) _) (range_new _ _ _ _ _ rfl hs.symm) ?_
    simp; omega
  refine ⟨own_later hb o2, row_later hb r2 r2.lt, b2.trans (hb.mono b2.size), ?_, ?_, ?_⟩
  · simpa using rg 0 _ rfl
  · simpa using rg 3 _ rfl
  · have : (((u.alloc (.cells #[I t, c, I 10, I sold, e] 45)).alloc B).drewN q).heap.size = u.heap.size + 1 + 1 := by show ((u.alloc _).alloc _).heap.size = _; simp
    omega

theorem keep5 {u u' : World} {a1 a2 a3 a4 a5 : Addr} {v1 v2 v3 v4 v5 : Value}
    (h : u.cell? a1 = some v1 ∧ u.cell? a2 = some v2 ∧ u.cell? a3 = some v3 ∧ u.cell? a4 = some v4 ∧ u.cell? a5 = some v5) (hb : Below u.heap.size u u') :
    u'.cell? a1 = some v1 ∧ u'.cell? a2 = some v2 ∧ u'.cell? a3 = some v3 ∧ u'.cell? a4 = some v4 ∧ u'.cell? a5 = some v5 := by
  obtain ⟨h1, h2, h3, h4, h5⟩ := h
  exact ⟨kcell hb h1, kcell hb h2, kcell hb h3, kcell hb h4, kcell hb h5⟩

/-- A cell of a row that is owned. -/
theorem own_cell {w : World} {base : Nat} {e : TypeId} {size n cap g : Nat} {xs : List Value} (h : w.ownsRow base e size (.slice (some ⟨g, 0, none⟩) n cap) n xs) {j : Nat} (hj : j < n * size) :
    (∃ v, w.cell? ⟨g, j, none⟩ = some v) ∧ w.frozen? ⟨g, j, none⟩ = false := by
  rcases h.2 with ⟨h0, _⟩ | ⟨g', cap', cur, hv, hb, hh, h1, h2, h3, h4⟩
  · cases h0
  · cases hv
    have hlt : n * size ≤ cap * size := Nat.mul_le_mul_right _ h1
    have hjc : j < cur.size := by omega
    exact ⟨⟨cur[j], by simp [World.cell?, hh, hjc]⟩, by simp [World.frozen?, hh]⟩

theorem info33 : (Try.prog.info? 33).map (fun i => (i.zero, i.size, i.bytes)) = some (some (evV ev0), 8, 64) := by kernel_rfl

theorem news8 (w : World) (e : Ev) (t : TypeId) : ∀ j u, (evL e)[j]? = some u → (w.alloc (.cells (evC e) t)).cell? ((⟨w.heap.size, 0, none⟩ : Addr).add j) = some u := by
  intro j u hj
  rw [Addr.add_mid]
  exact range_new w (evC e) t 0 (evL e) rfl rfl j u hj
theorem one8 (e : Ev) : ∀ u ∈ evL e, u.oneCell' = true := by
  intro u hu
  simp [evL] at hu
  rcases hu with rfl | rfl | rfl | rfl | rfl | rfl | rfl | rfl <;> rfl

/-- Ahead of an append: the table knows of the call that begins. -/
def MidF (w wo : World) (n : Nat) (lv : Value) (st : St) (t : Nat) (sold : Int) (W : World) : Prop :=
  W.ownsRow (w.heap.size + 1) 33 8 lv st.evs.length (st.evs.flatMap evL) ∧ W.rowIs w.heap.size 87 (n * 3) (tabCell (upd st.tab t ((st.tab t).1 + 1, (st.tab t).2.1, st.evs.length))) ∧ Below w.heap.size w W ∧
  W.cell? ⟨wo.heap.size, 0, none⟩ = some (I t) ∧ W.cell? ⟨wo.heap.size, 3, none⟩ = some (I sold) ∧ wo.heap.size < W.heap.size

theorem mid_begin {w wo : World} {n : Nat} {an : List (List (Int × Int))} {lv : Value} {st : St} (h : OfInv w w.heap.size n an lv st wo) (t : Nat) (x sold : Int) (c e : Value) (B : Obj) (hx : x = ((st.tab t).1 : Int) + 1) :
    MidF w wo n lv st t sold ((((wo.setCell ⟨w.heap.size, t * 3, none⟩ (I x)).setCell ⟨w.heap.size, t * 3 + 2, none⟩ (I st.evs.length)).alloc (.cells #[I t, c, I 9, I sold, e] 45)).alloc B).drew := by
  subst hx
  have r1 : (wo.setCell ⟨w.heap.size, t * 3, none⟩ (I (((st.tab t).1 : Int) + 1))).rowIs w.heap.size 87 (n * 3) (tabCell (upd st.tab t ((st.tab t).1 + 1, (st.tab t).2.1, (st.tab t).2.2))) := by
    refine tab_set h.row (t * 3) ((st.tab t).1 + 1) _ (by rw [tabCell0]; simp [upd]) fun i hi => ?_
    by_cases e : i / 3 = t
    · have : i % 3 < 3 := Nat.mod_lt _ (by omega)
      have : i % 3 = 1 ∨ i % 3 = 2 := by omega
      rcases this with h | h <;> simp [tabCell, h, e, upd]
    · exact tabCell_upd e
  have r2 := tab_set r1 (t * 3 + 2) st.evs.length (upd st.tab t ((st.tab t).1 + 1, (st.tab t).2.1, st.evs.length)) (by rw [tabCell2]; simp [upd]) (fun i hi => by
    by_cases e : i / 3 = t
    · have : i % 3 < 3 := Nat.mod_lt _ (by omega)
      have : i % 3 = 0 ∨ i % 3 = 1 := by omega
      rcases this with h | h <;> simp [tabCell, h, e, upd]
    · rw [tabCell_upd e, tabCell_upd e])
  have hs : ((wo.setCell ⟨w.heap.size, t * 3, none⟩ (I (((st.tab t).1 : Int) + 1))).setCell ⟨w.heap.size, t * 3 + 2, none⟩ (I st.evs.length)).heap.size = wo.heap.size := by simp [World.setCell]
  have o2 : ((wo.setCell ⟨w.heap.size, t * 3, none⟩ (I (((st.tab t).1 : Int) + 1))).setCell ⟨w.heap.size, t * 3 + 2, none⟩ (I st.evs.length)).ownsRow (w.heap.size + 1) 33 8 lv st.evs.length (st.evs.flatMap evL) :=
    ownsRow_setCell_below (ownsRow_setCell_below h.own (by simp) _) (by simp) _
  have b2 : Below w.heap.size w ((wo.setCell ⟨w.heap.size, t * 3, none⟩ (I (((st.tab t).1 : Int) + 1))).setCell ⟨w.heap.size, t * 3 + 2, none⟩ (I st.evs.length)) := (h.below.setCell (Nat.le_refl _) _).setCell (Nat.le_refl _) _
  generalize (wo.setCell ⟨w.heap.size, t * 3, none⟩ (I (((st.tab t).1 : Int) + 1))).setCell ⟨w.heap.size, t * 3 + 2, none⟩ (I st.evs.length) = u at hs o2 r2 b2
  have hb : Below u.heap.size u (((u.alloc (.cells #[I t, c, I 9, I sold, e] 45)).alloc B).drew) := (below_alloc (below_alloc (Below.refl _ _) _) _).drew
  have rg : (((u.alloc (.cells #[I t, c, I 9, I sold, e] 45)).alloc B).drew).rangeAt wo.heap.size 0 [I t, c, I 9, I sold, e] := by
    refine range_drew (range_later (below_alloc (Below.refl _ _) _) (range_new _ _ _ _ _ rfl hs.symm) ?_)
    simp; omega
  refine ⟨own_later hb o2, row_later hb r2 r2.lt, b2.trans (hb.mono b2.size), ?_, ?_, ?_⟩
  · simpa using rg 0 _ rfl
  · simpa using rg 3 _ rfl
  · have : (((u.alloc (.cells #[I t, c, I 9, I sold, e] 45)).alloc B).drew).heap.size = u.heap.size + 1 + 1 := by show ((u.alloc _).alloc _).heap.size = _; simp
    omega

set_option maxHeartbeats 4000000 in
set_option maxRecDepth 100000 in
theorem of_any (sv av tv : Value) (sc : List (List Call)) (an : List (List (Int × Int))) (tr : List Step) (w : World) (hs : SS 4 callL w sv sc) (ha : SS 2 ansL w av an) (ht : SL 5 stepL w tv tr)
    (bn : sc.length ≤ 1048576) (ba : ∀ i, (an.getD i []).length ≤ 1048576) (bt : tr.length ≤ 1048576) :
    Calls Try.prog 15 #[sv, av, tv] w fun e w' => (∃ r, (Alike sc an → Ofs sc an 0 tr st0 r) ∧ (¬ Alike sc an → r = none) ∧ RetOf e (w.heap.size + 1) w' r) ∧ Below w.heap.size w w' := by
  have HSS : Hid (SS 4 callL w sv sc) := hs
  have HSA : Hid (SS 2 ansL w av an) := ha
  obtain ⟨p, cap, rfl, p1, p2, p3⟩ := hs
  obtain ⟨q, caq, rfl, q1, q2, q3⟩ := ha
  obtain ⟨o, cao, rfl, o1, o2, o3⟩ := ht
  unfold maxLen at p2 q2 o2
  have P3 : Hid (∀ i l, sc[i]? = some l → ∃ blk off vi, p = some ⟨blk, off, none⟩ ∧ w.cell? ⟨blk, off + i, none⟩ = some vi ∧ SL 4 callL w vi l) := p3
  have Q3 : Hid (∀ i l, an[i]? = some l → ∃ blk off vi, q = some ⟨blk, off, none⟩ ∧ w.cell? ⟨blk, off + i, none⟩ = some vi ∧ SL 2 ansL w vi l) := q3
  have O3 : Hid (∀ i a, tr[i]? = some a → ∃ blk off, o = some ⟨blk, off, none⟩ ∧ blk < w.heap.size ∧ w.rangeAt blk (off + i * 5) (stepL a)) := o3
  have BA : Hid (∀ i, (an.getD i []).length ≤ 1048576) := ba
  clear p3 q3 o3 ba
  by_cases hal : Alike sc an
  · have HAL : Hid (Alike sc an) := hal
    have hla : an.length = sc.length := hal.1.symm
    have HLA : Hid (an.length = sc.length) := hla
    clear hal hla
    have hmk := make_tab sc.length bn
    go_enter Try.func15, Try.ntmps15
    go_wp2_with fail
    refine (alike_any _ _ sc an _ HSS.out HSA.out).mono ?_
    rintro e w1 ⟨⟨b, rfl, hb⟩, hw1⟩
    have hw2 := hw1.symm
    subst hw2
    clear hw1
    have : b = true := hb.2 HAL.out
    subst this
    clear hb
    go_wp2_with fail
    clear hmk
    go_loopw [8, 23] (fun lv i u => ∃ (k : Nat) (st : St) (pl : Option Addr) (cpl : Nat), k ≤ tr.length ∧ i = .int .i64 k ∧ lv = .slice pl st.evs.length cpl ∧ (∀ r, Ofs sc an k (tr.drop k) st r → Ofs sc an 0 tr st0 r) ∧ st.evs.length ≤ k ∧ OfInv w w.heap.size sc.length an lv st u) (fun _ i _ => tr.length - (intOf i).toNat)
    case atStart =>
      refine ⟨0, st0, none, 0, Nat.zero_le _, rfl, rfl, fun r h => h, Nat.le_refl _, ⟨⟨rfl, .inl ⟨rfl, rfl⟩⟩, tab_start w _, below_alloc (Below.refl _ _) _, fun t _ => ⟨Nat.le_refl _, Nat.zero_le _, fun h => absurd h (Nat.lt_irrefl _)⟩⟩⟩
    case round =>
      obtain ⟨k, st, pl, cpl, hk, rfl, rfl, hofs, hlk, hinv⟩ := hrel
      obtain ⟨wo, hwo⟩ : ∃ wo, wo = wr := ⟨wr, rfl⟩
      subst hwo
      have HOFS : Hid (∀ r, Ofs sc an k (tr.drop k) st r → Ofs sc an 0 tr st0 r) := hofs
      by_cases hlt : k < tr.length
      · obtain ⟨s, hsk⟩ : ∃ s, tr[k]? = some s := ⟨_, List.getElem?_eq_getElem hlt⟩
        obtain ⟨blk, off, rfl, hblk, hr⟩ := O3.out k s hsk
        have HDR : Hid (tr.drop k = s :: tr.drop (k + 1)) := by
          rw [List.drop_eq_getElem_cons hlt]
          rw [List.getElem?_eq_getElem hlt] at hsk
          rw [Option.some.inj hsk]
          rfl
        have HST : Hid (wo.rangeAt blk (off + k * 5) (stepL s)) := range_later hinv.below hr hblk
        have HINV : Hid (OfInv w w.heap.size sc.length an _ st wo) := hinv
        have hsz : w.heap.size < wo.heap.size := hinv.row.lt
        clear hofs hinv hsk hr
        by_cases hop : s.op = 9 ∨ s.op = 10
        · by_cases hth : s.thr < 0 ∨ (sc.length : Int) ≤ s.thr
          · have HR : Hid (Ofs sc an 0 tr st0 none) := HOFS.out none (by rw [HDR.out]; exact .inr (.inl ⟨hop, hth, rfl⟩))
            have g1 : (s.op != 9) = false ∨ ((s.op != 9) = true ∧ (s.op != 10) = false) := by
              rcases hop with h | h
              · left; rw [h]; rfl
              · right; rw [h]; exact ⟨rfl, rfl⟩
            have g2 : s.thr < 0 ∨ (0 ≤ s.thr ∧ (sc.length : Int) ≤ s.thr) := by omega
            clear hop hth
            rcases g1 with g1 | ⟨g1, g1'⟩
            all_goals
              rcases g2 with g2 | ⟨g2, g2'⟩
              all_goals
                go_wp2_with ((with_reducible refine wp_load45 (.tmp 26) ?_ ?_ blk (off + k * 5) ?_ s ?_ ?_); rfl; rfl; rfl; exact HST.out)
                go_ret2
                exact ⟨⟨none, fun _ => HR.out, fun _ => rfl, .inl ⟨rfl, rfl⟩⟩, below_alloc HINV.out.below _⟩
          · obtain ⟨t, hte⟩ := Int.eq_ofNat_of_zero_le (show 0 ≤ s.thr by omega)
            have htl : t < sc.length := by omega
            obtain ⟨sthr, scel, sop, sold, snew⟩ := s
            simp only at hte hop hth
            subst hte
            obtain ⟨ablk, aoff, avi, rfl, ac0, hal⟩ := Q3.out t _ (getD_some (by have := HLA.out; omega) [])
            have labk : ablk < w.heap.size := World.block_lt_of_cell? _ _ ac0
            have ac : wo.cell? ⟨ablk, aoff + t, none⟩ = some avi := by rw [HINV.out.below.cell (p := ⟨ablk, aoff + t, none⟩) labk]; exact ac0
            have labo : ablk < wo.heap.size := Nat.lt_of_lt_of_le labk HINV.out.below.size
            have c0 := HINV.out.row.cell (i := t * 3) (by omega)
            have c1 := HINV.out.row.cell (i := t * 3 + 1) (by omega)
            have f0 := HINV.out.row.frozen (t * 3)
            have f1 := HINV.out.row.frozen (t * 3 + 1)
            have f2 := HINV.out.row.frozen (t * 3 + 2)
            have c2 := HINV.out.row.cell (i := t * 3 + 2) (by omega)
            rw [tabCell0] at c0
            rw [tabCell1] at c1
            rw [tabCell2] at c2
            obtain ⟨k1, k2, k3⟩ := HINV.out.ok t htl
            have hbig := BA.out t
            have htla : t < an.length := by have := HLA.out; omega
            clear ac0 hth
            rcases hop with hop | hop
            · subst hop
              go_wp2_with ((with_reducible refine wp_load45 (.tmp 26) ?_ ?_ blk (off + k * 5) ?_ ⟨t, scel, 9, sold, snew⟩ ?_ ?_); rfl; rfl; rfl; exact HST.out)
              go_region_held3 (fun u => u.cell? ⟨wo.heap.size, 0, none⟩ = some (I t) ∧ u.cell? ⟨wo.heap.size, 1, none⟩ = some (I scel) ∧ u.cell? ⟨wo.heap.size, 2, none⟩ = some (I 9) ∧ u.cell? ⟨wo.heap.size, 3, none⟩ = some (I sold) ∧ u.cell? ⟨wo.heap.size, 4, none⟩ = some (I snew) ∧ u.cell? ⟨ablk, aoff + t, none⟩ = some avi)
                ((simp [go_sem, *]; done))
                ((go_at_call 38; refine (goesOn_begin w.heap.size t (st.tab t).1 (st.tab t).2.1 ⟨t, scel, 9, sold, snew⟩ avi _ _ rfl (by omega) (by simp [go_sem, *]) (by simp [go_sem, *]) (by simp [go_sem, *]) w hal).mono ?_; rintro e w2 ⟨⟨b2, rfl, hb2⟩, rfl⟩))
              rename_i hH16
              clear hH16
              have HB2 : Hid (b2 = true ↔ (st.tab t).1 = (st.tab t).2.1 ∧ (st.tab t).1 < (an.getD t []).length ∧ sold = (st.tab t).1 ∧ snew = 0) := hb2
              clear hb2
              cases b2
              · have HR : Hid (Ofs sc an 0 tr st0 none) := HOFS.out none (by
                  rw [HDR.out]
                  exact .inr (.inr (.inr (.inr (.inl ⟨t, rfl, htl, rfl, fun h => absurd (HB2.out.2 h) (by decide), rfl⟩)))))
                go_wp2_with fail
                go_ret2
                refine ⟨⟨none, fun _ => HR.out, fun _ => rfl, .inl ⟨rfl, rfl⟩⟩, ?_⟩
                exact ((HINV.out.below.setCell (Nat.le_refl _) _).alloc (by simp [World.setCell]; omega) _ |>.alloc (by simp [World.setCell]; omega) _).drew
              · have hok := HB2.out.1 rfl
                have HOK : Hid ((st.tab t).1 = (st.tab t).2.1 ∧ (st.tab t).1 < (an.getD t []).length ∧ sold = (st.tab t).1 ∧ snew = 0) := hok
                have hsold := hok.2.2.1
                subst hsold
                obtain ⟨sblk, soff, svi, rfl, sc0, ⟨ip, icap, rfl, i1, i2, i3⟩⟩ := P3.out t _ (getD_some htl [])
                have lsb : sblk < w.heap.size := World.block_lt_of_cell? _ _ sc0
                have hlen : (sc.getD t []).length = (an.getD t []).length := HAL.out.2 t htl
                obtain ⟨cblk, coff, rfl, lcb, cr⟩ := i3 (st.tab t).1 _ (getD_some (show (st.tab t).1 < (sc.getD t []).length by have := hok.2.1; omega) call0)
                have hlt1 : (st.tab t).1 < (sc.getD t []).length := by have := hok.2.1; omega
                unfold maxLen at i2
                have HCR : Hid (w.rangeAt cblk (coff + (st.tab t).1 * 4) (callL ((sc.getD t []).getD (st.tab t).1 call0))) := cr
                have HSC : Hid (w.cell? ⟨sblk, soff + t, none⟩ = some (.slice (some ⟨cblk, coff, none⟩) (sc.getD t []).length icap)) := sc0
                clear hok i3 hlen cr sc0
                go_wp2_with fail
                refine (show ∀ W, MidF w wo sc.length (.slice pl st.evs.length cpl) st t (st.tab t).1 W → Code.wp Try.prog _ _ _ W from fun W hW => ?_) _ (mid_begin HINV.out t _ _ _ _ _ rfl)
                obtain ⟨m1, m2, m3, m4, m5, m6⟩ := hW
                have M1 : Hid (W.ownsRow (w.heap.size + 1) 33 8 (.slice pl st.evs.length cpl) st.evs.length (st.evs.flatMap evL)) := m1
                have M2 : Hid (W.rowIs w.heap.size 87 (sc.length * 3) (tabCell (upd st.tab t ((st.tab t).1 + 1, (st.tab t).2.1, st.evs.length)))) := m2
                have M3 : Hid (Below w.heap.size w W) := m3
                have m7 : W.cell? ⟨sblk, soff + t, none⟩ = some (.slice (some ⟨cblk, coff, none⟩) (sc.getD t []).length icap) := by rw [m3.cell (p := ⟨sblk, soff + t, none⟩) lsb]; exact HSC.out
                have cr := range_later m3 HCR.out lcb
                generalize hcl : (sc.getD t []).getD (st.tab t).1 call0 = cl at cr
                have HCL : Hid ((sc.getD t []).getD (st.tab t).1 call0 = cl) := hcl
                have q0 : W.cell? ⟨cblk, coff + (st.tab t).1 * 4, none⟩ = some (I cl.op) := by simpa using cr 0 _ rfl
                have q1' : W.cell? ⟨cblk, coff + (st.tab t).1 * 4 + 1, none⟩ = some (I cl.a) := by simpa using cr 1 _ rfl
                have q2' : W.cell? ⟨cblk, coff + (st.tab t).1 * 4 + 2, none⟩ = some (I cl.b) := by simpa using cr 2 _ rfl
                have q3' : W.cell? ⟨cblk, coff + (st.tab t).1 * 4 + 3, none⟩ = some (I cl.c) := by simpa using cr 3 _ rfl
                have hgb := own_block HINV.out.own
                obtain ⟨j0, hj, hj0, hj1, hj2⟩ := info_parts info33
                clear hcl cr m1 m2 m3 c0 c1 c2 f0 f1 f2 k1 k2 k3
                generalize hbn : (st.tab t).1 = b at hlt1 m5 q0 q1' q2' q3' ⊢
                generalize hnl : (sc.getD t []).length = nl at hlt1 m7 i1 ⊢
                have HBN : Hid ((st.tab t).1 = b) := hbn
                have hbnl : (b : Int) < (nl : Int) := by omega
                clear hbn hnl
                go_region_held3 (fun u => u.cell? ⟨wo.heap.size, 0, none⟩ = some (I t) ∧ u.cell? ⟨wo.heap.size, 3, none⟩ = some (I b) ∧ u.cell? ⟨sblk, soff + t, none⟩ = some (.slice (some ⟨cblk, coff, none⟩) nl icap) ∧
                    u.cell? ⟨cblk, coff + b * 4, none⟩ = some (I cl.op) ∧ u.cell? ⟨cblk, coff + b * 4 + 1, none⟩ = some (I cl.a) ∧ u.cell? ⟨cblk, coff + b * 4 + 2, none⟩ = some (I cl.b) ∧ u.cell? ⟨cblk, coff + b * 4 + 3, none⟩ = some (I cl.c))
                  (first | (exact keep7g ‹_› ‹World.grownBy _ _ _› hgb rfl rfl lsb lcb rfl rfl rfl) | (exact keep7 ‹_› ‹Below _ _ _›) | (exact keep7 ‹_› (below_alloc (Below.refl _ _) _)) | (simp [go_sem, *]; done))
                  (first
                    | (go_at_call 39; refine (begun_any t k cl _).mono ?_; rintro e w5 ⟨rfl, hb5⟩)
                    | (refine step_append_lies _ rfl (.tmp 67) (.tmp 81) 22 rfl (w.heap.size + 1) 33 j0 _ 8 64 Try.underlying22 hj hj0 hj1 hj2 rfl (by decide) (.slice pl st.evs.length cpl) st.evs.length (st.evs.flatMap evL) rfl
                        (own_later (below_alloc (below_step (Below.refl _ _).drew hb5) _) M1.out) ⟨_, 0, none⟩ 1 1 (evL (begunEv t k cl)) rfl rfl (news8 _ _ _) (one8 _) (by decide) (by unfold maxLen; omega) (by omega) (by have h5 : W.heap.size ≤ w5.heap.size := hb5.size; simp; omega) _ rfl ?_
                       intro g cpg w6 hown6 hgrow6 hat6 hlt6))
                rename_i hH
                clear hH
                have HO6 : Hid (w6.ownsRow (w.heap.size + 1) 33 8 (.slice (some ⟨g, 0, none⟩) (st.evs.length + 1) cpg) (st.evs.length + 1) (st.evs.flatMap evL ++ evL (begunEv t k cl))) := hown6
                have HB6 : Hid (Below w.heap.size w w6 ∧ w6.rowIs w.heap.size 87 (sc.length * 3) (tabCell (upd st.tab t (b + 1, (st.tab t).2.1, st.evs.length)))) := by
                  have h5 : W.heap.size ≤ w5.heap.size := hb5.size
                  have b5 : Below w.heap.size w w5 := M3.out.trans ((below_step (Below.refl _ W).drew hb5).mono M3.out.size)
                  refine ⟨(b5.alloc b5.size _).grown hgrow6 (by simp; omega) (fun g hg => by have := hgb g hg; omega), ?_⟩
                  have r5 := row_later (below_step (Below.refl _ W).drew hb5) M2.out M2.out.lt
                  rw [HBN.out] at r5
                  exact (r5.alloc _).of_block (hgrow6.block w.heap.size (by simp; omega) (fun e => by have := hgb _ e.symm; omega))
                clear hown6 hgrow6 hat6 hlt6 hb5 hgb
                go_wp2_with fail
                go_roundw
                case rel =>
                  have e1 : (beginSt sc st t k).evs.length = st.evs.length + 1 := by simp [beginSt]
                  refine ⟨k + 1, beginSt sc st t k, some ⟨g, 0, none⟩, cpg, by omega, by go_num, by rw [e1], fun r h => HOFS.out r ?_, by omega, ⟨?_, ?_, HB6.out.1, fun t' ht' => ?_⟩⟩
                  · rw [HDR.out]
                    exact .inr (.inr (.inl ⟨t, rfl, htl, rfl, ⟨HOK.out.1, HOK.out.2.1, by rw [HBN.out], HOK.out.2.2.2⟩, h⟩))
                  · rw [e1]
                    have : (beginSt sc st t k).evs.flatMap evL = st.evs.flatMap evL ++ evL (begunEv t k cl) := by
                      show (st.evs ++ [begunEv t k ((sc.getD t []).getD (st.tab t).1 call0)]).flatMap evL = _
                      rw [HCL.out]
                      simp
                    rw [this]
                    exact HO6.out
                  · have := HB6.out.2
                    rw [← HBN.out] at this
                    exact this
                  · have ho := HOK.out
                    have hk' := HINV.out.ok t' ht'
                    by_cases e : t' = t
                    · subst e
                      simp only [beginSt, upd, if_pos]
                      refine ⟨by omega, by omega, fun _ => by simp⟩
                    · simp only [beginSt, upd, if_neg e]
                      refine ⟨hk'.1, hk'.2.1, fun h => by have := hk'.2.2 h; simp; omega⟩
                case measure => simp [intOf]; omega
            · subst hop
              have hbel := HINV.out.below
              go_wp2_with ((with_reducible refine wp_load45 (.tmp 26) ?_ ?_ blk (off + k * 5) ?_ ⟨t, scel, 10, sold, snew⟩ ?_ ?_); rfl; rfl; rfl; exact HST.out)
              go_region_held3 (fun u => u.cell? ⟨wo.heap.size, 0, none⟩ = some (I t) ∧ u.cell? ⟨wo.heap.size, 1, none⟩ = some (I scel) ∧ u.cell? ⟨wo.heap.size, 2, none⟩ = some (I 10) ∧ u.cell? ⟨wo.heap.size, 3, none⟩ = some (I sold) ∧ u.cell? ⟨wo.heap.size, 4, none⟩ = some (I snew) ∧ u.cell? ⟨ablk, aoff + t, none⟩ = some avi)
                ((simp [go_sem, *]; done))
                ((go_at_call 38; refine (goesOn_end w.heap.size t (st.tab t).1 (st.tab t).2.1 ⟨t, scel, 10, sold, snew⟩ avi _ _ rfl (by omega) k2 (by simp [go_sem, *]) (by simp [go_sem, *]) (by simp [go_sem, *]) w (below_alloc hbel _).drew (Nat.le_refl _) hal).mono ?_; rintro e w2 ⟨⟨b2, rfl, hb2⟩, qn, rfl⟩))
              rename_i hH16
              clear hH16
              have HB2 : Hid (b2 = true ↔ (st.tab t).2.1 < (st.tab t).1 ∧ sold = (st.tab t).2.1 ∧ snew = ((an.getD t []).getD (st.tab t).2.1 (0, 0)).1) := hb2
              clear hb2 hbel
              cases b2
              · have HR : Hid (Ofs sc an 0 tr st0 none) := HOFS.out none (by
                  rw [HDR.out]
                  exact .inr (.inr (.inr (.inr (.inr ⟨t, rfl, htl, rfl, fun h => absurd (HB2.out.2 h) (by decide), rfl⟩)))))
                go_wp2_with fail
                go_ret2
                refine ⟨⟨none, fun _ => HR.out, fun _ => rfl, .inl ⟨rfl, rfl⟩⟩, ?_⟩
                exact (mid_end HINV.out t _ sold _ _ _ rfl _).2.2.1
              · have hok := HB2.out.1 rfl
                have HOK : Hid ((st.tab t).2.1 < (st.tab t).1 ∧ sold = (st.tab t).2.1 ∧ snew = ((an.getD t []).getD (st.tab t).2.1 (0, 0)).1) := hok
                have hsold := hok.2.1
                have hev := k3 hok.1
                have hel : (st.tab t).2.1 < (an.getD t []).length := by have := hok.1; omega
                subst hsold
                obtain ⟨ip, icap, rfl, i1, i2, i3⟩ := hal
                obtain ⟨cblk, coff, rfl, lcb, cr⟩ := i3 (st.tab t).2.1 _ (getD_some hel (0, 0))
                have HCR : Hid (w.rangeAt cblk (coff + (st.tab t).2.1 * 2) (ansL ((an.getD t []).getD (st.tab t).2.1 (0, 0)))) := cr
                have HAC : Hid (wo.cell? ⟨ablk, aoff + t, none⟩ = some (.slice (some ⟨cblk, coff, none⟩) (an.getD t []).length icap)) := ac
                unfold maxLen at i2
                clear hok cr ac i3 c0 c1 c2 f0 f1 f2
                go_wp2_with fail
                refine (show ∀ W, MidE w wo sc.length (.slice pl st.evs.length cpl) st t (st.tab t).2.1 W → Code.wp Try.prog _ _ _ W from fun W hW => ?_) _ (mid_end HINV.out t _ _ _ _ _ rfl _)
                obtain ⟨m1, m2, m3, m4, m5, m6⟩ := hW
                have M1 : Hid (W.ownsRow (w.heap.size + 1) 33 8 (.slice pl st.evs.length cpl) st.evs.length (st.evs.flatMap evL)) := m1
                have M2 : Hid (W.rowIs w.heap.size 87 (sc.length * 3) (tabCell (upd st.tab t ((st.tab t).1, (st.tab t).2.1 + 1, (st.tab t).2.2)))) := m2
                have M3 : Hid (Below w.heap.size w W) := m3
                have m7 : W.cell? ⟨ablk, aoff + t, none⟩ = some (.slice (some ⟨cblk, coff, none⟩) (an.getD t []).length icap) := by
                  rw [m3.cell (p := ⟨ablk, aoff + t, none⟩) labk, ← HINV.out.below.cell (p := ⟨ablk, aoff + t, none⟩) labk]; exact HAC.out
                have cr := range_later m3 HCR.out lcb
                have c2 := m2.cell (i := t * 3 + 2) (by omega)
                rw [tabCell2] at c2
                simp only [upd, if_true] at c2
                generalize hcl : (an.getD t []).getD (st.tab t).2.1 (0, 0) = cl at cr
                have HCL : Hid ((an.getD t []).getD (st.tab t).2.1 (0, 0) = cl) := hcl
                have q0 : W.cell? ⟨cblk, coff + (st.tab t).2.1 * 2, none⟩ = some (I cl.1) := by simpa using cr 0 _ rfl
                have q1' : W.cell? ⟨cblk, coff + (st.tab t).2.1 * 2 + 1, none⟩ = some (I cl.2) := by simpa using cr 1 _ rfl
                obtain ⟨g, cpl', hpe, hgb, hgl⟩ := m1.form (by omega)
                cases hpe
                have t5 := own_cell m1 (j := (st.tab t).2.2 * 8 + 5) (by omega)
                have t6 := own_cell m1 (j := (st.tab t).2.2 * 8 + 6) (by omega)
                have t7 := own_cell m1 (j := (st.tab t).2.2 * 8 + 7) (by omega)
                obtain ⟨⟨t5v, t5c⟩, t5f⟩ := t5
                obtain ⟨⟨t6v, t6c⟩, t6f⟩ := t6
                obtain ⟨⟨t7v, t7c⟩, t7f⟩ := t7
                clear hcl cr m1 m2 m3 k1 k2 k3
                generalize hbn : (st.tab t).2.1 = b at hel m5 q0 q1' ⊢
                generalize hvn : (st.tab t).2.2 = vn at hev c2 t5c t5f t6c t6f t7c t7f
                generalize hnl : (an.getD t []).length = nl at hel m7 i1 ⊢
                have HBN : Hid ((st.tab t).2.1 = b) := hbn
                have HVN : Hid ((st.tab t).2.2 = vn) := hvn
                have hbnl : (b : Int) < (nl : Int) := by omega
                have hvnl : (vn : Int) < (st.evs.length : Int) := by omega
                have lw : w.heap.size < W.heap.size := by omega
                have la1 : ablk < W.heap.size := by omega
                have lc1 : cblk < W.heap.size := by omega
                have n1 : ¬ g = w.heap.size := by omega
                have n2 : ¬ w.heap.size = g := by omega
                have n3 : ¬ g = W.heap.size := by omega
                have n4 : ¬ W.heap.size = g := by omega
                clear hbn hnl hvn
                go_region_held3 (fun u => u.cell? ⟨wo.heap.size, 0, none⟩ = some (I t) ∧ u.cell? ⟨wo.heap.size, 3, none⟩ = some (I b) ∧ u.cell? ⟨ablk, aoff + t, none⟩ = some (.slice (some ⟨cblk, coff, none⟩) nl icap) ∧
                    u.cell? ⟨cblk, coff + b * 2, none⟩ = some (I cl.1) ∧ u.cell? ⟨cblk, coff + b * 2 + 1, none⟩ = some (I cl.2))
                  (first | (exact keep5 ‹_› (below_alloc (Below.refl _ _) _)) | (simp [go_sem, *]; done))
                  (fail)
                rename_i hH
                clear hH
                have h5s : (endSt an st t k).tab = upd st.tab t ((st.tab t).1, (st.tab t).2.1 + 1, (st.tab t).2.2) := rfl
                have HTB : Hid ((endSt an st t k).tab = upd st.tab t ((st.tab t).1, (st.tab t).2.1 + 1, (st.tab t).2.2)) := h5s
                clear h5s
                by_cases h4 : cl.1 = 4
                · have h4' : (cl.1 != 4) = false := by rw [h4]; rfl
                  have H4 : Hid (cl.1 = 4) := h4
                  clear h4
                  go_wp2_with fail
                  go_roundw
                  case rel =>
                    have e1 : (endSt an st t k).evs = st.evs := by unfold endSt; rw [HCL.out, if_pos H4.out]
                    have hb := (below_alloc (Below.refl _ W) (.cells #[I cl.1, I cl.2] 31)).drew
                    refine ⟨k + 1, endSt an st t k, some ⟨g, 0, none⟩, cpl, by omega, by go_num, by rw [e1], fun r h => HOFS.out r ?_, by rw [e1]; omega, ⟨?_, ?_, M3.out.trans (hb.mono M3.out.size), fun t' ht' => ?_⟩⟩
                    · rw [HDR.out]
                      exact .inr (.inr (.inr (.inl ⟨t, rfl, htl, rfl, ⟨HOK.out.1, by rw [HBN.out], HOK.out.2.2⟩, h⟩)))
                    · rw [e1]; exact own_later hb M1.out
                    · exact row_later hb M2.out M2.out.lt
                    · rw [HTB.out, e1]
                      have ho := HOK.out.1
                      have hk' := HINV.out.ok t' ht'
                      by_cases e : t' = t
                      · subst e
                        simp only [upd, if_pos]
                        refine ⟨by omega, by omega, fun h => ?_⟩
                        rw [HVN.out]; omega
                      · simp only [upd, if_neg e]
                        exact hk'
                  case measure => simp [intOf]; omega
                · have h4' : (cl.1 != 4) = true := by simpa using h4
                  have H4 : Hid (¬ cl.1 = 4) := h4
                  clear h4
                  go_wp2_with fail
                  go_region_held3 (fun u => u.cell? ⟨w.heap.size, t * 3 + 2, none⟩ = some (I vn) ∧ u.cell? ⟨W.heap.size, 0, none⟩ = some (I cl.1) ∧ u.cell? ⟨W.heap.size, 1, none⟩ = some (I cl.2))
                    ((simp [go_sem, *]; done))
                    (fail)
                  rename_i hH
                  clear hH
                  go_wp2_with fail
                  go_roundw
                  case rel =>
                    have e1 : (endSt an st t k).evs = st.evs.set vn (ended k cl (st.evs.getD vn ev0)) := by unfold endSt; rw [HCL.out, if_neg H4.out, HVN.out]
                    have e2 : (endSt an st t k).evs.length = st.evs.length := by rw [e1, List.length_set]
                    have o3 := own_set (own_set (own_set M1.out (vn * 8 + 5) (by omega) (I k)) (vn * 8 + 6) (by omega) (I cl.1)) (vn * 8 + 7) (by omega) (I cl.2)
                    rw [flat_set st.evs vn hev k cl (ended k cl (st.evs.getD vn ev0)) rfl, ← e1] at o3
                    have r3 := ((M2.out.setOther (a := ⟨g, vn * 8 + 5, none⟩) (by simpa using n2) (I k)).setOther (a := ⟨g, vn * 8 + 6, none⟩) (by simpa using n2) (I cl.1)).setOther (a := ⟨g, vn * 8 + 7, none⟩) (by simpa using n2) (I cl.2)
                    have b3 := ((M3.out.setCell (p := ⟨g, vn * 8 + 5, none⟩) (by simp; omega) (I k)).setCell (p := ⟨g, vn * 8 + 6, none⟩) (by simp; omega) (I cl.1)).setCell (p := ⟨g, vn * 8 + 7, none⟩) (by simp; omega) (I cl.2)
                    have hb := (below_alloc (Below.refl _ (((W.setCell ⟨g, vn * 8 + 5, none⟩ (I k)).setCell ⟨g, vn * 8 + 6, none⟩ (I cl.1)).setCell ⟨g, vn * 8 + 7, none⟩ (I cl.2))) (.cells #[I cl.1, I cl.2] 31)).drew.drew
                    refine ⟨k + 1, endSt an st t k, some ⟨g, 0, none⟩, cpl, by omega, by go_num, by rw [e2], fun r h => HOFS.out r ?_, by rw [e2]; omega, ⟨?_, ?_, b3.trans (hb.mono b3.size), fun t' ht' => ?_⟩⟩
                    · rw [HDR.out]
                      exact .inr (.inr (.inr (.inl ⟨t, rfl, htl, rfl, ⟨HOK.out.1, by rw [HBN.out], HOK.out.2.2⟩, h⟩)))
                    · rw [e2]; exact own_later hb o3
                    · exact row_later hb r3 r3.lt
                    · rw [HTB.out, e2]
                      have ho := HOK.out.1
                      have hk' := HINV.out.ok t' ht'
                      by_cases e : t' = t
                      · subst e
                        simp only [upd, if_pos]
                        refine ⟨by omega, by omega, fun h => ?_⟩
                        rw [HVN.out]; omega
                      · simp only [upd, if_neg e]
                        exact hk'
                  case measure => simp [intOf]; omega
        · have HOP : Hid (¬ (s.op = 9 ∨ s.op = 10)) := hop
          have g1 : (s.op != 9) = true := by simpa using (by omega : ¬ s.op = 9)
          have g2 : (s.op != 10) = true := by simpa using (by omega : ¬ s.op = 10)
          clear hop
          go_wp2_with ((with_reducible refine wp_load45 (.tmp 26) ?_ ?_ blk (off + k * 5) ?_ s ?_ ?_); rfl; rfl; rfl; exact HST.out)
          go_roundw
          case rel =>
            refine ⟨k + 1, st, pl, cpl, by omega, by go_num, rfl, fun r h => HOFS.out r ?_, by omega, ?_⟩
            · rw [HDR.out]
              have := HOP.out
              exact .inl ⟨fun h => this (.inl h), fun h => this (.inr h), h⟩
            · exact HINV.out.later (below_alloc (Below.refl _ _) _)
          case measure => simp [intOf]; omega
      · have : k = tr.length := by omega
        subst this
        go_wp2_with fail
        go_ret2
        have h0 := HOFS.out (some st) (by rw [List.drop_length]; rfl)
        exact ⟨⟨some st, fun _ => h0, fun h => absurd HAL.out h, .inr ⟨st, _, rfl, rfl, hinv.own⟩⟩, hinv.below⟩
  · have HAL : Hid (¬ Alike sc an) := hal
    clear hal
    go_enter Try.func15, Try.ntmps15
    go_wp2_with fail
    refine (alike_any _ _ sc an _ HSS.out HSA.out).mono ?_
    rintro e w1 ⟨⟨b, rfl, hb⟩, hw1⟩
    have hw2 := hw1.symm
    subst hw2
    clear hw1
    have : b = false := by
      cases b with
      | false => rfl
      | true => exact absurd (hb.1 rfl) HAL.out
    subst this
    clear hb
    go_wp2_with fail
    go_ret2
    exact ⟨⟨none, fun h => absurd h HAL.out, fun _ => rfl, .inl ⟨rfl, rfl⟩⟩, Below.refl _ _⟩

end Go.Proofs.Yteniopbmkooomaa
