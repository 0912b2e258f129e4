/-
  Events in memory of their own, with two marks behind them.
-/
import Derived.Test.YteniopbmkooomaaHeavy
import Derived.Test.YteniopbmkooomaaOfLaw
namespace Go.Proofs.Yteniopbmkooomaa
open Go.RowKit Hi Go.Deep Go.Maps Go.BigFrame

abbrev zero8 : Array Value := #[I 0, I 0, I 0, I 0, I 0, I 0, I 0, I 0]

theorem make_evs (n : Nat) (hn : n ≤ 2199023255488) (w : World) :
    (Instr.makeSlice 22 (.int .i64 ((n : Int) + 2)) (.int .i64 ((n : Int) + 2))).run Try.prog w = .ok (.slice (some ⟨w.heap.size, 0, none⟩) (n + 2) (n + 2)) (w.alloc (.cells (madeCells zero8 ((n + 2) * 8)) 33)) := by
  cases hq : Try.prog.info? 33 with
  | none => have := info33; rw [hq] at this; cases this
  | some i =>
    have hi := info33
    rw [hq] at hi
    simp only [Option.map_some, Option.some.injEq, Prod.mk.injEq] at hi
    obtain ⟨hz, hs, hb⟩ := hi
    have := run_make (P := Try.prog) w 22 33 i _ Try.underlying22 hq hz .i64 .i64 ((n : Int) + 2) ((n : Int) + 2) (by omega) (by omega) (by rw [hb]; omega) (by omega)
    rw [hs] at this
    rw [this]
    have e : ((n : Int) + 2).toNat = n + 2 := by omega
    simp [Value.cells, e]
    rfl

theorem len_ev (x : Ev) : (evL x).length = 8 := rfl

theorem copied_evs {w : World} {ip : Option Addr} {icap : Nat} {l : List Ev} (h : SL 8 evL w (.slice ip l.length icap) l) : ∃ w2,
    (Builtin.copy_ #[22, 22] 3 #[.slice (some ⟨w.heap.size, 0, none⟩) (l.length + 2) (l.length + 2), .slice ip l.length icap]).run Try.prog (w.alloc (.cells (madeCells zero8 ((l.length + 2) * 8)) 33)) = .ok (goInt l.length) w2 ∧
      (∃ a : Array Value, w2.heap[w.heap.size]? = some (.cells a 33 (0, 0)) ∧ a.size = (l.length + 2) * 8 ∧ a.toList.take (l.length * 8) = l.flatMap evL) ∧ Below w.heap.size w w2 ∧ w2.heap.size = w.heap.size + 1 := by
  obtain ⟨p, cap, he, h1, h2, h3⟩ := h
  cases he
  have hlen := flat_len len_ev l
  have hg := heap_alloc_new w (.cells (madeCells zero8 ((l.length + 2) * 8)) 33)
  have hb0 := below_alloc (Below.refl _ w) (.cells (madeCells zero8 ((l.length + 2) * 8)) 33)
  obtain ⟨w2, r1, r2, r3, r4⟩ := run_copyN (P := Try.prog) (w.alloc (.cells (madeCells zero8 ((l.length + 2) * 8)) 33)) 22 22 3 33 8 w.heap.size (l.length + 2) (l.length + 2) ip l.length icap _ 33 (l.flatMap evL) Try.underlying22 size33 hg
    (by rw [hlen, show Nat.min l.length (l.length + 2) = l.length from by simp]) (by decide)
    (fun hpos => by
      have h0 : 0 < l.length := by rw [hlen] at hpos; omega
      obtain ⟨blk, off, e, hlt, _⟩ := h3 0 l[0] (List.getElem?_eq_getElem h0)
      refine ⟨⟨blk, off, none⟩, e, fun j v hj => ?_⟩
      obtain ⟨a, ha, hv⟩ := flat_of len_ev (by decide) l j v hj
      obtain ⟨blk', off', e', hlt', hr⟩ := h3 (j / 8) a ha
      rw [e] at e'
      cases e'
      rw [Addr.add_mid]
      have := range_later hb0 hr hlt' (j % 8) v hv
      have e2 : off + j / 8 * 8 + j % 8 = off + j := by omega
      rw [e2] at this
      exact this)
    (by rw [hlen, size_madeCells]; omega)
    (fun v hv => by
      obtain ⟨c, _, hc⟩ := List.mem_flatMap.1 hv
      simp [evL] at hc
      rcases hc with rfl | rfl | rfl | rfl | rfl | rfl | rfl | rfl <;> rfl)
  rw [show Nat.min l.length (l.length + 2) = l.length from by simp] at r1
  refine ⟨w2, r1, ⟨_, r2, ?_, ?_⟩, hb0.trans r3, by rw [r4]; simp⟩
  · simp [hlen, size_madeCells]; omega
  · rw [← hlen]; simp

def ev71 : Ev := ⟨0, -71, 0, 0, 0, 0, 0, 0⟩
def ev72 : Ev := ⟨0, -72, 0, 0, 0, 0, 0, 0⟩
def markE : List Value := evL ev71 ++ evL ev72

theorem setCells_many (g : Nat) : ∀ (cs : List Value) (w : World) (o : Nat), w.setCells g o cs = setMany w g o cs
  | [], _, _ => rfl
  | _ :: r, _, _ => setCells_many g r _ _

/-- A block of cells of a known number. -/
theorem there_of {w : World} {g : Nat} {a : Array Value} {t : TypeId} (h : w.heap[g]? = some (.cells a t (0, 0))) {o n : Nat} (hn : o + n ≤ a.size) : w.there g o n := fun j hj =>
  ⟨by simp [World.cell?, h]; omega, by simp [World.frozen?, h]⟩

theorem marked_two {w : World} {g : Nat} {l : List Ev} {a : Array Value} (h : w.heap[g]? = some (.cells a 33 (0, 0))) (hs : a.size = (l.length + 2) * 8) (ht : a.toList.take (l.length * 8) = l.flatMap evL) :
    Marked evL markE 33 ((w.setCells g (l.length * 8) (evL ev71)).setCells g ((l.length + 1) * 8) (evL ev72)) g l := by
  rw [setCells_many, setCells_many]
  obtain ⟨b, hb1, hb2⟩ := setMany_heap (evL ev71) w (l.length * 8) a h (by rw [len_ev]; omega)
  have hbs : b.size = a.size := by
    have := congrArg List.length hb2
    simp [len_ev] at this
    omega
  obtain ⟨c, hc1, hc2⟩ := setMany_heap (evL ev72) _ ((l.length + 1) * 8) b hb1 (by rw [len_ev]; omega)
  have hlen := flat_len len_ev l
  have e1 : ((l.flatMap evL ++ evL ev71 ++ a.toList.drop (l.length * 8 + (evL ev71).length)).take ((l.length + 1) * 8)) = l.flatMap evL ++ evL ev71 := by
    rw [List.take_left' (by rw [List.length_append, hlen, len_ev]; omega)]
  have e2 : ((l.flatMap evL ++ evL ev71 ++ a.toList.drop (l.length * 8 + (evL ev71).length)).drop ((l.length + 1) * 8 + (evL ev72).length)) = [] := by
    rw [List.drop_eq_nil_iff]
    simp only [List.length_append, List.length_drop, Array.length_toList, hlen, len_ev]
    omega
  have key : c = (l.flatMap evL ++ markE).toArray := by
    apply Array.toList_inj.1
    rw [hc2, hb2, ht, e1, e2]
    simp [markE]
  unfold Marked
  rw [hc1, key]

theorem sl_evs {w : World} {v : Value} {l : List Ev} (h : SL 8 evL w v l) : Evs w v l := by
  obtain ⟨p, cap, rfl, h1, h2, h3⟩ := h
  refine ⟨p, cap, rfl, h1, h2, fun i hi => ?_⟩
  obtain ⟨blk, off, e, _, hr⟩ := h3 i _ (getD_some hi ev0)
  exact ⟨blk, off, e, hr⟩

theorem marked_sl2 {w : World} {g : Nat} {l : List Ev} (hm : l.length + 2 ≤ maxLen) (h : Marked evL markE 33 w g l) : SL 8 evL w (.slice (some ⟨g, 0, none⟩) l.length (l.length + 2)) l := by
  obtain ⟨p, cap, e, _, _, h3⟩ := Marked.sl len_ev (by omega) h
  cases e
  exact ⟨_, _, rfl, by omega, hm, h3⟩

section
variable {ops : Array Oper} {rest : List Oper} {op : Oper} {a : Act} {w : World} {Q : Exit → Act → World → Prop}
theorem wp_store33 (hw : Region.wanted op (yielded ops a.tmps) = true) (x y : Operand) (ho : op.op = .store 33 x y) (b o : Nat) (e : Ev) (hx : a.eval x = .pointer (some ⟨b, o, none⟩)) (hy : a.eval y = evV e) (ht : w.there b o 8)
    (h : wpList Try.prog ops Q rest (a.put op.dst undef) (w.setCells b o (evL e))) : wpList Try.prog ops Q (op :: rest) a w :=
  wpList_want hw fun _ hK => wp_store_mid 33 x y ho b o (evC e) hx hy ht size33 (all_oneCell_toArray (cs := evL e) (fun v hv => by
    simp [evL] at hv
    rcases hv with rfl | rfl | rfl | rfl | rfl | rfl | rfl | rfl <;> rfl)) (hK _ _ h)
end

set_option maxHeartbeats 2000000 in
theorem lent_any (v : Value) (l : List Ev) (w : World) (h : SL 8 evL w v l) (hn : l.length ≤ 2199023255488) :
    Calls Try.prog 9 #[v] w fun e w' => e = .returned (.slice (some ⟨w.heap.size, 0, none⟩) l.length (l.length + 2)) ∧ Marked evL markE 33 w' w.heap.size l ∧ Below w.heap.size w w' := by
  have h' := h
  obtain ⟨p, cap, rfl, hc, hm, _⟩ := h'
  unfold maxLen at hm
  obtain ⟨w2, hcp, ha2, hb2, hs2⟩ := copied_evs h
  have hmk := make_evs l.length hn
  have HA2 : Hid (∃ a : Array Value, w2.heap[w.heap.size]? = some (.cells a 33 (0, 0)) ∧ a.size = (l.length + 2) * 8 ∧ a.toList.take (l.length * 8) = l.flatMap evL) := ha2
  have HB2 : Hid (Below w.heap.size w w2) := hb2
  clear h ha2 hb2 hs2
  go_enter Try.func9, Try.ntmps9
  go_wp2_with first
    | ((with_reducible refine wp_store33 ?_ (.tmp 15) (.tmp 14) ?_ w.heap.size (l.length * 8) ev71 ?_ ?_ ?_ ?_); rfl; rfl; rfl; rfl; (obtain ⟨a, ha, hs, _⟩ := HA2.out; exact there_of ha (by omega)))
    | ((with_reducible refine wp_store33 ?_ (.tmp 21) (.tmp 20) ?_ w.heap.size ((l.length + 1) * 8) ev72 ?_ ?_ ?_ ?_); rfl; rfl; rfl; rfl; (
        obtain ⟨a, ha, hs, _⟩ := HA2.out
        rw [setCells_many]
        obtain ⟨b, hb1, hb2⟩ := setMany_heap (evL ev71) w2 (l.length * 8) a ha (by rw [len_ev]; omega)
        have hbs : b.size = a.size := by
          have := congrArg List.length hb2
          simp [len_ev] at this
          omega
        exact there_of hb1 (by omega)))
  go_ret
  refine ⟨rfl, ?_, ?_⟩
  · obtain ⟨a, ha, hs, ht⟩ := HA2.out
    exact marked_two ha hs ht
  · rw [setCells_many, setCells_many]
    exact below_many (Nat.le_refl _) _ _ _ (below_many (Nat.le_refl _) _ _ _ HB2.out)

end Go.Proofs.Yteniopbmkooomaa
