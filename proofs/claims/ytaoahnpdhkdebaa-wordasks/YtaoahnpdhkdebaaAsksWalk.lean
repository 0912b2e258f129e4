/-
  What the statement WordAsks does, for every word, field, value and list of fields: it answers true; of memory that was there nothing changes.
-/
import Derived.Test.YtaoahnpdhkdebaaAwake
import Derived.Test.YtaoahnpdhkdebaaRefRight
import Derived.Test.YtaoahnpdhkdebaaCopy
namespace Go.Proofs.Ytaoahnpdhkdebaa
open Go.RowKit Pl Go.Deep

/-- The cells of a list of fields. -/
def cellOf (l : List (Int × Int)) (j : Nat) : Value := if j % 2 = 0 then I (l.getD (j / 2) (0, 0)).1 else I (l.getD (j / 2) (0, 0)).2

def cellsOfL (l : List (Int × Int)) : List Value := (List.range (l.length * 2)).map (cellOf l)

theorem cellOf_even (l : List (Int × Int)) (k : Nat) : cellOf l (k * 2) = I (l.getD k (0, 0)).1 := by
  unfold cellOf; rw [if_pos (by omega), show k * 2 / 2 = k by omega]
theorem cellOf_odd (l : List (Int × Int)) (k : Nat) : cellOf l (k * 2 + 1) = I (l.getD k (0, 0)).2 := by
  unfold cellOf; rw [if_neg (by omega), show (k * 2 + 1) / 2 = k by omega]

/-- The list of the statement's own, with what lies behind it. -/
def ends (l : List (Int × Int)) : List (Int × Int) := l ++ [(-7, -7)]

theorem ends_lt (l : List (Int × Int)) (k : Nat) (h : k < l.length) : (ends l).getD k (0, 0) = l.getD k (0, 0) := by
  unfold ends; simp [List.getD_eq_getElem?_getD, List.getElem?_append_left h]
theorem ends_at (l : List (Int × Int)) : (ends l).getD l.length (0, 0) = (-7, -7) := by
  unfold ends; simp [List.getD_eq_getElem?_getD]

/-- What holds behind each call of the statement. -/
structure Inv (w u : World) (g : Nat) (a b : Int) (l : List (Int × Int)) : Prop where
  below : Below w.heap.size w u
  row : u.rowIs g 26 ((l.length + 1) * 2) (cellOf (ends l))
  fa : u.cell? ⟨w.heap.size, 0, none⟩ = some (I a)
  fb : u.cell? ⟨w.heap.size, 1, none⟩ = some (I b)

theorem Inv.later {w u u' : World} {g : Nat} {a b : Int} {l : List (Int × Int)} (h : Inv w u g a b l) (hb : Below u.heap.size u u') : Inv w u' g a b l :=
  ⟨h.below.trans (hb.mono h.below.size), h.row.of_block (hb.block g h.row.lt), cell_later hb h.fa, cell_later hb h.fb⟩

theorem Inv.holds {w u : World} {g : Nat} {a b : Int} {l : List (Int × Int)} (h : Inv w u g a b l) (hm : l.length ≤ maxLen) (cap : Nat) :
    Holds u (.slice (some ⟨g, 0, none⟩) l.length cap) l := by
  refine .inr ⟨g, 0, cap, rfl, hm, fun i hi => ?_⟩
  have h0 := h.row.cell (i := i * 2) (by omega)
  have h1 := h.row.cell (i := i * 2 + 1) (by omega)
  rw [cellOf_even, ends_lt l i hi] at h0
  rw [cellOf_odd, ends_lt l i hi] at h1
  simp only [Nat.zero_add]
  exact ⟨h0, h1⟩

theorem info26 : (Try.prog.info? 26).map (fun i => (i.zero, i.size, i.bytes)) = some (some (.agg #[.int .i64 0, .int .i64 0]), 2, 16) := by kernel_rfl
theorem size26 : (Try.prog.info? 26).map (·.size) = some 2 := by kernel_rfl

def made (n : Nat) : Array Value := madeCells #[I 0, I 0] ((n + 1) * 2)

theorem make_fields (n : Nat) (hn : n ≤ 17592186044415) (w : World) :
    (Instr.makeSlice 27 (.int .i64 ((n : Int) + 1)) (.int .i64 ((n : Int) + 1))).run Try.prog w = .ok (.slice (some ⟨w.heap.size, 0, none⟩) (n + 1) (n + 1)) (w.alloc (.cells (made n) 26)) := by
  cases hq : Try.prog.info? 26 with
  | none => have := info26; rw [hq] at this; cases this
  | some i =>
    have hi := info26
    rw [hq] at hi
    simp only [Option.map_some, Option.some.injEq, Prod.mk.injEq] at hi
    obtain ⟨hz, hs, hb⟩ := hi
    have := run_make (P := Try.prog) w 27 26 i _ Try.underlying27 hq hz .i64 .i64 ((n : Int) + 1) ((n : Int) + 1) (by omega) (by omega) (by rw [hb]; omega) (by omega)
    rw [hs] at this
    rw [this]
    have e : ((n : Int) + 1).toNat = n + 1 := by omega
    rw [e]
    rfl

/-- The cells behind the copying, ahead of the last store. -/
def cellOf2 (l : List (Int × Int)) (j : Nat) : Value := if j < l.length * 2 then cellOf l j else I 0

theorem made_get (n i : Nat) (h : i < (n + 1) * 2) : (made n)[i]? = some (I 0) := by
  unfold made madeCells
  have : i % 2 = 0 ∨ i % 2 = 1 := by omega
  rw [Array.getElem?_map, Array.getElem?_range]
  simp only [h, if_true, Option.map_some]
  rcases this with e | e <;> simp [e]

theorem oneCell_cells (l : List (Int × Int)) : ∀ v ∈ cellsOfL l, v.oneCell' = true := by
  intro v hv
  unfold cellsOfL at hv
  rw [List.mem_map] at hv
  obtain ⟨j, _, rfl⟩ := hv
  unfold cellOf
  split <;> rfl

theorem cellsOfL_get (l : List (Int × Int)) (j : Nat) (h : j < l.length * 2) : (cellsOfL l)[j]? = some (cellOf l j) := by
  unfold cellsOfL
  rw [List.getElem?_map, List.getElem?_range h]; rfl

theorem cellsOfL_len (l : List (Int × Int)) : (cellsOfL l).length = l.length * 2 := by unfold cellsOfL; simp

theorem copied {P : Program} {w : World} {ty : TypeId} {sp : Option Addr} {cap : Nat} {l : List (Int × Int)} (hu : P.underlying 27 = some (.slice 26)) (hs : (P.info? 26).map (·.size) = some 2)
    (hl : Holds w (.slice sp l.length cap) l) :
    ∃ w', (Builtin.copy_ #[27, 27] ty #[.slice (some ⟨w.heap.size, 0, none⟩) (l.length + 1) (l.length + 1), .slice sp l.length cap]).run P (w.alloc (.cells (made l.length) 26)) = .ok (goInt l.length) w' ∧
      w'.rowIs w.heap.size 26 ((l.length + 1) * 2) (cellOf2 l) ∧ Below w.heap.size (w.alloc (.cells (made l.length) 26)) w' := by
  have hmin : Nat.min l.length (l.length + 1) = l.length := Nat.min_eq_left (Nat.le_succ _)
  have hsz : (made l.length).size = (l.length + 1) * 2 := size_madeCells _ _
  have hb : Below w.heap.size w (w.alloc (.cells (made l.length) 26)) := (Below.refl _ _).alloc (Nat.le_refl _) _
  have hsrc : 0 < (cellsOfL l).length → ∃ a, sp = some a ∧ ∀ j v, (cellsOfL l)[j]? = some v → (w.alloc (.cells (made l.length) 26)).cell? (a.add j) = some v := by
    intro hpos
    rw [cellsOfL_len] at hpos
    rcases hl with ⟨rfl, _⟩ | ⟨blk, off, cap', hv, hm, hF⟩
    · simp at hpos
    · simp only [Value.slice.injEq] at hv
      obtain ⟨rfl, _, _⟩ := hv
      refine ⟨_, rfl, fun j v hj => ?_⟩
      have hjl : j < l.length * 2 := by
        rcases Nat.lt_or_ge j (l.length * 2) with h | h
        · exact h
        · rw [List.getElem?_eq_none (by rw [cellsOfL_len]; exact h)] at hj; cases hj
      rw [cellsOfL_get l j hjl] at hj
      cases hj
      have hF' := hF (j / 2) (by omega)
      have hadd : (⟨blk, off, none⟩ : Addr).add j = ⟨blk, off + j, none⟩ := by unfold Addr.add; split <;> simp_all
      rw [hadd]
      unfold cellOf
      by_cases hj2 : j % 2 = 0
      · rw [if_pos hj2]
        have := cell_later hb hF'.1
        rw [show off + j / 2 * 2 = off + j by omega] at this
        exact this
      · rw [if_neg hj2]
        have := cell_later hb hF'.2
        rw [show off + j / 2 * 2 + 1 = off + j by omega] at this
        exact this
  obtain ⟨w', h1, h2, h3⟩ := run_copy2 (P := P) (w.alloc (.cells (made l.length) 26)) 27 27 ty 26 w.heap.size (l.length + 1) (l.length + 1) sp l.length cap (made l.length) 26 (cellsOfL l) hu hs
    (blk_alloc_new _ _) (by rw [hmin, cellsOfL_len]) hsrc (by rw [cellsOfL_len, hsz]; omega) (oneCell_cells l)
  rw [hmin] at h1
  refine ⟨w', h1, ⟨_, h2, ?_, fun i hi => ?_⟩, h3⟩
  · simp [cellsOfL_len, hsz]; omega
  · rw [cellsOfL_len, List.getElem?_toArray]
    unfold cellOf2
    by_cases h : i < l.length * 2
    · rw [if_pos h, List.getElem?_append_left (by rw [cellsOfL_len]; exact h), cellsOfL_get l i h]
    · rw [if_neg h, List.getElem?_append_right (by rw [cellsOfL_len]; omega), cellsOfL_len, List.getElem?_drop, show l.length * 2 + (i - l.length * 2) = i by omega, Array.getElem?_toList, made_get l.length i hi]

theorem inv_start {w w1 w2 : World} {a b : Int} {l : List (Int × Int)} (hb1 : Below (w.heap.size + 1) (w.alloc (.cells #[I a, I b] 26)) w1)
    (hr : w2.rowIs w1.heap.size 26 ((l.length + 1) * 2) (cellOf2 l)) (hb2 : Below w1.heap.size (w1.alloc (.cells (made l.length) 26)) w2) :
    Inv w ((w2.setCell ⟨w1.heap.size, l.length * 2, none⟩ (I (-7))).setCell ⟨w1.heap.size, l.length * 2 + 1, none⟩ (I (-7))) w1.heap.size a b l := by
  have hs1 : w.heap.size < w1.heap.size := by have := hb1.size; simp only [World.size_alloc] at this; exact this
  have hb3 : Below w1.heap.size w1 ((w2.setCell ⟨w1.heap.size, l.length * 2, none⟩ (I (-7))).setCell ⟨w1.heap.size, l.length * 2 + 1, none⟩ (I (-7))) :=
    ((((Below.refl _ _).alloc (Nat.le_refl _) _).trans hb2).setCell (Nat.le_refl _) _).setCell (Nat.le_refl _) _
  refine ⟨?_, ?_, ?_, ?_⟩
  · exact (((Below.refl _ _).alloc (Nat.le_refl _) _).trans (hb1.mono (by omega))).trans (hb3.mono (by omega))
  · refine ((hr.set (l.length * 2) (I (-7))).set (l.length * 2 + 1) (I (-7))).congr fun i hi => ?_
    by_cases e1 : i = l.length * 2 + 1
    · rw [if_pos e1, e1, cellOf_odd, ends_at]
    · rw [if_neg e1]
      by_cases e2 : i = l.length * 2
      · rw [if_pos e2, e2, cellOf_even, ends_at]
      · rw [if_neg e2]
        unfold cellOf2
        rw [if_pos (by omega)]
        unfold cellOf
        rw [ends_lt l (i / 2) (by omega)]
  · refine cell_later hb3 ?_
    rw [hb1.cell (by simp)]
    simp
  · refine cell_later hb3 ?_
    rw [hb1.cell (by simp)]
    simp

set_option maxHeartbeats 1000000 in
theorem asks_any (x a b v : Int) (sp : Option Addr) (cap : Nat) (l : List (Int × Int)) (w : World) (hx : Fits x) (hn : l.length ≤ 8796093022208)
    (hl : Holds w (.slice sp l.length cap) l) :
    Calls Try.prog 4 #[I x, F a b, I v, .slice sp l.length cap] w fun e w' => e = .returned (.bool true) ∧ Below w.heap.size w w' := by
  have hn2 : (l.length : Int) ≤ 8796093022208 := by omega
  have HL : Hid (Holds w (.slice sp l.length cap) l) := hl
  have HX : Hid (Fits x) := hx
  clear hl hx
  go_enter Try.func4, Try.ntmps4
  go_wp2_with fail
  refine (awake_any _).mono ?_
  rintro e w1 ⟨rfl, hb1⟩
  have HB1 : Hid (Below (w.heap.size + 1) (w.alloc (.cells #[I a, I b] 26)) w1) := by have := hb1; simp only [World.size_alloc] at this; exact this
  have HS1 : Hid (w.heap.size < w1.heap.size) := by have := HB1.out.size; simp only [World.size_alloc] at this; exact this
  clear hb1
  have hmk := make_fields l.length (by omega)
  obtain ⟨w2, hcp, hh2, hb2⟩ := copied (P := Try.prog) (ty := 3) Try.underlying27 size26 (w := w1) (sp := sp) (cap := cap) (l := l)
    (HL.out.later ((Below.refl _ _).alloc (Nat.le_refl _) _ |>.trans (HB1.out.mono (by omega))))
  have HH2 : Hid (w2.rowIs w1.heap.size 26 ((l.length + 1) * 2) (cellOf2 l)) := hh2
  have HB2 : Hid (Below w1.heap.size (w1.alloc (.cells (made l.length) 26)) w2) := hb2
  have hc0 := hh2.cell (i := l.length * 2) (by omega)
  have hc1 := hh2.cell (i := l.length * 2 + 1) (by omega)
  have hf0 := hh2.frozen (l.length * 2)
  have hf1 := hh2.frozen (l.length * 2 + 1)
  clear hh2 hb2
  go_wp2_with fail
  have HI3 : Hid (Inv w ((w2.setCell ⟨w1.heap.size, l.length * 2, none⟩ (I (-7))).setCell ⟨w1.heap.size, l.length * 2 + 1, none⟩ (I (-7))) w1.heap.size a b l) := inv_start HB1.out HH2.out HB2.out
  have HL3 : Hid (Holds ((w2.setCell ⟨w1.heap.size, l.length * 2, none⟩ (I (-7))).setCell ⟨w1.heap.size, l.length * 2 + 1, none⟩ (I (-7))) (.slice sp l.length cap) l) := HL.out.later HI3.out.below
  clear HH2 HB2 hc0 hc1 hf0 hf1 hmk hcp HB1
  generalize ((w2.setCell ⟨w1.heap.size, l.length * 2, none⟩ (I (-7))).setCell ⟨w1.heap.size, l.length * 2 + 1, none⟩ (I (-7))) = w3 at HI3 HL3 ⊢
  generalize w1.heap.size = g at HI3 ⊢
  clear HS1
  refine (right_any _ l _ (HI3.out.holds (by unfold maxLen; omega) _)).mono ?_
  rintro e w4 ⟨rfl, hb4⟩
  have HI4 : Hid (Inv w w4 g a b l) := HI3.out.later hb4
  clear hb4 HI3 HL3
  have fa4 := HI4.out.fa
  have fb4 := HI4.out.fb
  go_wp2_with fail
  refine (get_any x a b _).mono ?_
  rintro e w5 ⟨rfl, hb5⟩
  have HI5 : Hid (Inv w w5 g a b l) := HI4.out.later hb5
  clear hb5 HI4 fa4 fb4
  have fa5 := HI5.out.fa
  have fb5 := HI5.out.fb
  go_wp2_with fail
  refine (put_any x a b v _ HX.out).mono ?_
  rintro e w6 ⟨rfl, hb6⟩
  have HI6 : Hid (Inv w w6 g a b l) := HI5.out.later hb6
  clear hb6 HI5 fa5 fb5
  go_wp2_with fail
  refine (right_any _ l _ (HI6.out.holds (by unfold maxLen; omega) _)).mono ?_
  rintro e w7 ⟨rfl, hb7⟩
  have HI7 : Hid (Inv w w7 g a b l) := HI6.out.later hb7
  clear hb7 HI6
  go_wp2_with fail
  refine (rright_any _ l _ (HL.out.later HI7.out.below)).mono ?_
  rintro e w8 ⟨rfl, hb8⟩
  have HI8 : Hid (Inv w w8 g a b l) := HI7.out.later hb8
  clear hb8 HI7
  have fa8 := HI8.out.fa
  have fb8 := HI8.out.fb
  go_wp2_with fail
  refine (rget_any x a b _).mono ?_
  rintro e w9 ⟨rfl, hb9⟩
  have HI9 : Hid (Inv w w9 g a b l) := HI8.out.later hb9
  clear hb9 HI8 fa8 fb8
  have fa9 := HI9.out.fa
  have fb9 := HI9.out.fb
  go_wp2_with fail
  refine (rput_any x a b v _).mono ?_
  rintro e w10 ⟨rfl, hb10⟩
  have HI10 : Hid (Inv w w10 g a b l) := HI9.out.later hb10
  clear hb10 HI9 fa9 fb9
  go_wp2_with fail
  go_loopw [20] (fun i u => ∃ k : Nat, k ≤ l.length ∧ i = .int .i64 k ∧ Inv w u g a b l) (fun i _ => l.length - (intOf i).toNat)
  case atStart => exact ⟨0, Nat.zero_le _, rfl, HI10.out⟩
  case round =>
    obtain ⟨k, hk, rfl, hi⟩ := hrel
    by_cases hlt : k < l.length
    · rcases HL.out with ⟨h, _⟩ | ⟨blk, off, cap', hv, hm, hF⟩
      · rw [h] at hlt; exact absurd hlt (Nat.not_lt_zero _)
      · simp only [Value.slice.injEq] at hv
        obtain ⟨rfl, _, _⟩ := hv
        have hc0 := hi.row.cell (i := k * 2) (by omega)
        have hc1 := hi.row.cell (i := k * 2 + 1) (by omega)
        rw [cellOf_even, ends_lt l k hlt] at hc0
        rw [cellOf_odd, ends_lt l k hlt] at hc1
        have hd0 := cell_later hi.below (hF k hlt).1
        have hd1 := cell_later hi.below (hF k hlt).2
        generalize l.getD k (0, 0) = q at hc0 hc1 hd0 hd1
        obtain ⟨q0, q1⟩ := q
        simp only [] at hc0 hc1 hd0 hd1
        have hkl : (k : Int) < l.length := by omega
        have HI : Hid (Inv w wr g a b l) := hi
        clear hF hi hm
        go_wp2_with fail
        go_quiet (fail)
        go_wp2
        exact ⟨⟨k + 1, by omega, by go_num, HI.out.later (below_drewN (Below.refl _ _) _)⟩, by simp [intOf]; omega⟩
    · have hkl : k = l.length := by omega
      subst hkl
      have hc0 := hi.row.cell (i := l.length * 2) (by omega)
      rw [cellOf_even, ends_at] at hc0
      have HI : Hid (Inv w wr g a b l) := hi
      clear hi
      go_wp2_with fail
      go_ret
      exact ⟨rfl, HI.out.below⟩

end Go.Proofs.Ytaoahnpdhkdebaa
