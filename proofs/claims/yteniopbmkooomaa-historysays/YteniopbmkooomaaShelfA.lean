/-
  What the calls of a shelf do: helps.
-/
import Derived.Test.YteniopbmkooomaaPileA
namespace Go.Proofs.Yteniopbmkooomaa
open Go.RowKit Hi Go.Deep Go.Maps

/-- The cells of a shelf, of an outcome, of a position. -/
def stS (s : Shelf) : Array Value := (encS s).toArray
def outS (o : (Int × Int) × Shelf) : Array Value := (I o.1.1 :: I o.1.2 :: encS o.2).toArray
def posS (T : Int) (s : Shelf) : Array Value := (U T :: encS s).toArray

theorem size74 : (Try.prog.info? 74).map (·.size) = some 36 := by kernel_rfl
theorem size122 : (Try.prog.info? 122).map (·.size) = some 37 := by kernel_rfl
theorem size125 : (Try.prog.info? 125).map (·.size) = some 38 := by kernel_rfl
theorem outS0 (o : (Int × Int) × Shelf) : (outS o)[0]? = some (I o.1.1) := rfl
theorem outS1 (o : (Int × Int) × Shelf) : (outS o)[1]? = some (I o.1.2) := rfl
theorem posS0 (T : Int) (s : Shelf) : (posS T s)[0]? = some (U T) := rfl

theorem cf56 : ∀ args w, (callFunc 56 args).run Try.prog w = .ok (.enter 56 args) w := callFunc_go Try.func56 (by kernel_rfl) (by kernel_rfl)
def zero125A : Array Value := #[I 0, I 0, .bool false, I 0, I 0, .bool false, I 0, I 0, .bool false, I 0, I 0, .bool false, I 0, I 0, .bool false, I 0, I 0, .bool false, I 0, I 0, .bool false, I 0, I 0, .bool false, I 0, I 0, .bool false, I 0, I 0, .bool false, I 0, I 0, .bool false, I 0, I 0, .bool false, I 0, I 0]
theorem zero125 (w : World) : (zeroValue 125).run Try.prog w = .ok (.agg zero125A) w := by unfold zero125A; kernel_rfl
theorem one125 {o : (Int × Int) × Shelf} (_ : GoodS o.2) : (outS o).all (·.oneCell') = true := by
  unfold outS
  refine all_oneCell_toArray fun v hv => ?_
  rcases List.mem_cons.1 hv with rfl | hv
  · rfl
  rcases List.mem_cons.1 hv with rfl | hv
  · rfl
  obtain ⟨i, _, hi⟩ := List.mem_flatMap.1 hv
  simp [encO] at hi
  rcases hi with rfl | rfl | rfl <;> rfl
theorem siz125 {o : (Int × Int) × Shelf} (_ : GoodS o.2) : (outS o).size = 38 := rfl
theorem posS_inj {T T' : Nat} {s s' : Shelf} (hs : GoodS s) (hs' : GoodS s') (h : Value.agg (posS T s) = .agg (posS T' s')) : T = T' ∧ s = s' := by
  unfold posS at h
  simp only [Value.agg.injEq] at h
  have h := List.toArray_inj h
  simp only [List.cons.injEq, Value.int.injEq, true_and] at h
  exact ⟨by omega, encS_inj hs.1 hs'.1 h.2⟩

section
variable {ops : Array Oper} {rest : List Oper} {op : Oper} {a : Act} {w : World} {Q : Exit → Act → World → Prop}
theorem wp_load74 (hw : Region.wanted op (yielded ops a.tmps) = true) (x : Operand) (ho : op.op = .load 74 x) (b o : Nat) (hx : a.eval x = .pointer (some ⟨b, o, none⟩)) (s : Shelf) (hc : w.rangeAt b o (encS s))
    (h : wpList Try.prog ops Q rest (a.put op.dst (.agg (stS s))) w) : wpList Try.prog ops Q (op :: rest) a w :=
  wpG_load hw 74 x ho b o hx (encS s) _ hc Try.underlying74 rfl size74 h
theorem wp_load122 (hw : Region.wanted op (yielded ops a.tmps) = true) (x : Operand) (ho : op.op = .load 122 x) (b o : Nat) (hx : a.eval x = .pointer (some ⟨b, o, none⟩)) (T : Nat) (s : Shelf) (hc : w.rangeAt b o (U T :: encS s))
    (h : wpList Try.prog ops Q rest (a.put op.dst (.agg (posS T s))) w) : wpList Try.prog ops Q (op :: rest) a w :=
  wpG_load hw 122 x ho b o hx (U T :: encS s) _ hc Try.underlying122 rfl size122 h
theorem build122 (n : Int) (s : Shelf) (w : World) : (Instr.build 122 #[(0, U n), (1, .agg (stS s))]).run Try.prog w = .ok (.agg (posS n s)) w := by unfold stS posS encS; kernel_rfl
theorem wp_build122 (hw : Region.wanted op (yielded ops a.tmps) = true) (x y : Operand) (ho : op.op = .build 122 #[(0, x), (1, y)]) (n : Int) (s : Shelf) (_ : GoodS s) (hx : a.eval x = U n) (hy : a.eval y = .agg (stS s))
    (h : wpList Try.prog ops Q rest (a.put op.dst (.agg (posS n s))) w) : wpList Try.prog ops Q (op :: rest) a w :=
  wpG_build hw 122 0 1 x y ho _ _ _ hx hy (build122 n s) h
theorem wp_load125 (hw : Region.wanted op (yielded ops a.tmps) = true) (x : Operand) (ho : op.op = .load 125 x) (b o : Nat) (hx : a.eval x = .pointer (some ⟨b, o, none⟩)) (e : (Int × Int) × Shelf) (hc : w.rangeAt b o (I e.1.1 :: I e.1.2 :: encS e.2))
    (h : wpList Try.prog ops Q rest (a.put op.dst (.agg (outS e))) w) : wpList Try.prog ops Q (op :: rest) a w :=
  wpG_load hw 125 x ho b o hx (I e.1.1 :: I e.1.2 :: encS e.2) _ hc Try.underlying125 rfl size125 h
end

set_option maxHeartbeats 1000000 in
theorem helpsS_any (x : Ev) (s : Shelf) (o : (Int × Int) × Shelf) (hs : GoodS s) (hso : GoodS o.2) (w : World) :
    Calls Try.prog 54 #[evV x, .agg (stS s), .agg (outS o)] w fun e w' => ∃ b, e = .returned (.bool b) ∧ (b = true ↔ Helps x s o) ∧ Below w.heap.size w w' := by
  obtain ⟨⟨c, v⟩, t⟩ := o
  have h0 : (outS ((c, v), t))[0]? = some (I c) := rfl
  have h1 : (outS ((c, v), t))[1]? = some (I v) := rfl
  cases ho : x.over
  · have H : Hid (x.over = false) := ho
    have R1 : ((((w.alloc (.cells (evC x) 33)).alloc (.cells (stS s) 74)).alloc (.cells (outS ((c, v), t)) 125)).alloc (.cells (evC x) 33)).rangeAt (w.heap.size + 1) 0 (encS s) :=
      range_old (range_old (range_new _ _ _ _ _ (by simp [stS]) (by simp)) (by simp) _) (by simp) _
    have R2 : ((((w.alloc (.cells (evC x) 33)).alloc (.cells (stS s) 74)).alloc (.cells (outS ((c, v), t)) 125)).alloc (.cells (evC x) 33)).rangeAt (w.heap.size + 1 + 1) 2 (encS t) :=
      range_old (range_new _ _ _ _ _ (by simp [outS]) (by simp)) (by simp) _
    have HR1 : Hid _ := R1
    have HR2 : Hid _ := R2
    obtain ⟨r, hr, hri⟩ := eq74 hs hso ((((w.alloc (.cells (evC x) 33)).alloc (.cells (stS s) 74)).alloc (.cells (outS ((c, v), t)) 125)).alloc (.cells (evC x) 33))
    have HE : Hid _ := hr
    have HI : Hid (r = true ↔ s = t) := hri
    clear ho R1 R2 hr hri hs hso
    go_enter Try.func54, Try.ntmps54
    go_wp2_with first
      | (go_at_call 49; refine (over_any _ _).mono ?_; rintro e w' ⟨rfl, rfl⟩; rw [H.out])
      | ((with_reducible refine wp_load74 ?_ (.tmp 4) ?_ (w.heap.size + 1) 0 ?_ s ?_ ?_); rfl; rfl; rfl; exact HR1.out)
      | ((with_reducible refine wp_load74 ?_ (.tmp 15) ?_ (w.heap.size + 1 + 1) 2 ?_ t ?_ ?_); rfl; rfl; rfl; exact HR2.out)
      | ((with_reducible refine wpG_neq ?_ 74 74 (.tmp 14) (.tmp 16) ?_ (stS s) (stS t) ?_ ?_ ?_ r ?_ ?_); rfl; rfl; rfl; rfl; kernel_rfl; exact HE.out)
    go_ret
    refine ⟨_, rfl, ?_, below_alloc (below_alloc (below_alloc (below_alloc (Below.refl _ _) _) _) _) _⟩
    rw [helps_not H.out]
    have := HI.out
    cases r
    · simp at this ⊢
      exact fun e => this e.symm
    · simp at this ⊢
      exact this.symm
  · have H : Hid (x.over = true) := ho
    clear ho hs hso
    go_enter Try.func54, Try.ntmps54
    go_wp2_with (go_at_call 49; refine (over_any _ _).mono ?_; rintro e w' ⟨rfl, rfl⟩; rw [H.out])
    all_goals
      go_ret
      refine ⟨_, rfl, ?_, below_alloc (below_alloc (below_alloc (below_alloc (Below.refl _ _) _) _) _) _⟩
      rw [helps_over H.out]
      simp [Ev.ans]
      try omega

end Go.Proofs.Yteniopbmkooomaa
