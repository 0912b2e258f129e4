/-
  What the calls of a pile do: helps.
-/
import Derived.Test.YteniopbmkooomaaOps
import Derived.Test.YteniopbmkooomaaExpl
namespace Go.Proofs.Yteniopbmkooomaa
open Go.RowKit Hi Go.Deep Go.Maps

/-- The cells of a pile, of an outcome, of a position. -/
def stP (s : Pile) : Array Value := (encP s).toArray
def outP (o : (Int × Int) × Pile) : Array Value := (I o.1.1 :: I o.1.2 :: encP o.2).toArray
def posP (T : Int) (s : Pile) : Array Value := (U T :: encP s).toArray

theorem size68 : (Try.prog.info? 68).map (·.size) = some 8 := by kernel_rfl
theorem size111 : (Try.prog.info? 111).map (·.size) = some 9 := by kernel_rfl
theorem size114 : (Try.prog.info? 114).map (·.size) = some 10 := by kernel_rfl
theorem outP0 (o : (Int × Int) × Pile) : (outP o)[0]? = some (I o.1.1) := rfl
theorem outP1 (o : (Int × Int) × Pile) : (outP o)[1]? = some (I o.1.2) := rfl
theorem posP0 (T : Int) (s : Pile) : (posP T s)[0]? = some (U T) := rfl

theorem cf50 : ∀ args w, (callFunc 50 args).run Try.prog w = .ok (.enter 50 args) w := callFunc_go Try.func50 (by kernel_rfl) (by kernel_rfl)
def zero114A : Array Value := #[I 0, I 0, I 0, I 0, I 0, I 0, I 0, I 0, I 0, .bool false]
theorem zero114 (w : World) : (zeroValue 114).run Try.prog w = .ok (.agg zero114A) w := by unfold zero114A; kernel_rfl
theorem one114 {o : (Int × Int) × Pile} (_ : GoodP o.2) : (outP o).all (·.oneCell') = true := by
  unfold outP
  refine all_oneCell_toArray fun v hv => ?_
  simp [encP] at hv
  rcases hv with rfl | rfl | rfl | rfl | rfl | rfl | rfl | rfl | rfl | rfl <;> rfl
theorem siz114 {o : (Int × Int) × Pile} (_ : GoodP o.2) : (outP o).size = 10 := rfl
theorem posP_inj {T T' : Nat} {s s' : Pile} (hs : GoodP s) (hs' : GoodP s') (h : Value.agg (posP T s) = .agg (posP T' s')) : T = T' ∧ s = s' := by
  unfold posP at h
  simp only [Value.agg.injEq] at h
  have h := List.toArray_inj h
  simp only [List.cons.injEq, Value.int.injEq, true_and] at h
  exact ⟨by omega, encP_inj hs hs' h.2⟩

theorem range_old {w : World} {b o : Nat} {cs : List Value} (h : w.rangeAt b o cs) (hb : b < w.heap.size) (obj : Obj) : (w.alloc obj).rangeAt b o cs := fun j v hj => by
  rw [World.cell?_alloc_past _ _ _ hb]; exact h j v hj

section
variable {ops : Array Oper} {rest : List Oper} {op : Oper} {a : Act} {w : World} {Q : Exit → Act → World → Prop}
theorem wp_load68 (hw : Region.wanted op (yielded ops a.tmps) = true) (x : Operand) (ho : op.op = .load 68 x) (b o : Nat) (hx : a.eval x = .pointer (some ⟨b, o, none⟩)) (s : Pile) (hc : w.rangeAt b o (encP s))
    (h : wpList Try.prog ops Q rest (a.put op.dst (.agg (stP s))) w) : wpList Try.prog ops Q (op :: rest) a w :=
  wpG_load hw 68 x ho b o hx (encP s) _ hc Try.underlying68 rfl size68 h
theorem wp_load111 (hw : Region.wanted op (yielded ops a.tmps) = true) (x : Operand) (ho : op.op = .load 111 x) (b o : Nat) (hx : a.eval x = .pointer (some ⟨b, o, none⟩)) (T : Nat) (s : Pile) (hc : w.rangeAt b o (U T :: encP s))
    (h : wpList Try.prog ops Q rest (a.put op.dst (.agg (posP T s))) w) : wpList Try.prog ops Q (op :: rest) a w :=
  wpG_load hw 111 x ho b o hx (U T :: encP s) _ hc Try.underlying111 rfl size111 h
theorem build111 (n : Int) (s : Pile) (w : World) : (Instr.build 111 #[(0, U n), (1, .agg (stP s))]).run Try.prog w = .ok (.agg (posP n s)) w := by unfold stP posP encP; kernel_rfl
theorem wp_build111 (hw : Region.wanted op (yielded ops a.tmps) = true) (x y : Operand) (ho : op.op = .build 111 #[(0, x), (1, y)]) (n : Int) (s : Pile) (_ : GoodP s) (hx : a.eval x = U n) (hy : a.eval y = .agg (stP s))
    (h : wpList Try.prog ops Q rest (a.put op.dst (.agg (posP n s))) w) : wpList Try.prog ops Q (op :: rest) a w :=
  wpG_build hw 111 0 1 x y ho _ _ _ hx hy (build111 n s) h
theorem wp_load114 (hw : Region.wanted op (yielded ops a.tmps) = true) (x : Operand) (ho : op.op = .load 114 x) (b o : Nat) (hx : a.eval x = .pointer (some ⟨b, o, none⟩)) (e : (Int × Int) × Pile) (hc : w.rangeAt b o (I e.1.1 :: I e.1.2 :: encP e.2))
    (h : wpList Try.prog ops Q rest (a.put op.dst (.agg (outP e))) w) : wpList Try.prog ops Q (op :: rest) a w :=
  wpG_load hw 114 x ho b o hx (I e.1.1 :: I e.1.2 :: encP e.2) _ hc Try.underlying114 rfl size114 h
end

theorem range_state {w : World} {b o : Nat} {c c' : Value} {cs : List Value} (h : w.rangeAt b o (c :: c' :: cs)) : w.rangeAt b (o + 2) cs := fun j v hj => by
  have := h (j + 2) v (by simpa using hj)
  rw [show o + 2 + j = o + (j + 2) by omega]; exact this
theorem range_tail {w : World} {b o : Nat} {c : Value} {cs : List Value} (h : w.rangeAt b o (c :: cs)) : w.rangeAt b (o + 1) cs := fun j v hj => by
  have := h (j + 1) v (by simpa using hj)
  rw [show o + 1 + j = o + (j + 1) by omega]; exact this

set_option maxHeartbeats 1000000 in
theorem helpsP_any (x : Ev) (s : Pile) (o : (Int × Int) × Pile) (hs : GoodP s) (hso : GoodP o.2) (w : World) :
    Calls Try.prog 48 #[evV x, .agg (stP s), .agg (outP o)] w fun e w' => ∃ b, e = .returned (.bool b) ∧ (b = true ↔ Helps x s o) ∧ Below w.heap.size w w' := by
  obtain ⟨⟨c, v⟩, t⟩ := o
  have h0 : (outP ((c, v), t))[0]? = some (I c) := rfl
  have h1 : (outP ((c, v), t))[1]? = some (I v) := rfl
  cases ho : x.over
  · have H : Hid (x.over = false) := ho
    have R1 : ((((w.alloc (.cells (evC x) 33)).alloc (.cells (stP s) 68)).alloc (.cells (outP ((c, v), t)) 114)).alloc (.cells (evC x) 33)).rangeAt (w.heap.size + 1) 0 (encP s) :=
      range_old (range_old (range_new _ _ _ _ _ (by simp [stP]) (by simp)) (by simp) _) (by simp) _
    have R2 : ((((w.alloc (.cells (evC x) 33)).alloc (.cells (stP s) 68)).alloc (.cells (outP ((c, v), t)) 114)).alloc (.cells (evC x) 33)).rangeAt (w.heap.size + 1 + 1) 2 (encP t) :=
      range_old (range_new _ _ _ _ _ (by simp [outP]) (by simp)) (by simp) _
    have HR1 : Hid _ := R1
    have HR2 : Hid _ := R2
    obtain ⟨r, hr, hri⟩ := eq68 hs hso ((((w.alloc (.cells (evC x) 33)).alloc (.cells (stP s) 68)).alloc (.cells (outP ((c, v), t)) 114)).alloc (.cells (evC x) 33))
    have HE : Hid _ := hr
    have HI : Hid (r = true ↔ s = t) := hri
    clear ho R1 R2 hr hri hs hso
    go_enter Try.func48, Try.ntmps48
    go_wp2_with first
      | (go_at_call 49; refine (over_any _ _).mono ?_; rintro e w' ⟨rfl, rfl⟩; rw [H.out])
      | ((with_reducible refine wp_load68 ?_ (.tmp 4) ?_ (w.heap.size + 1) 0 ?_ s ?_ ?_); rfl; rfl; rfl; exact HR1.out)
      | ((with_reducible refine wp_load68 ?_ (.tmp 15) ?_ (w.heap.size + 1 + 1) 2 ?_ t ?_ ?_); rfl; rfl; rfl; exact HR2.out)
      | ((with_reducible refine wpG_neq ?_ 68 68 (.tmp 14) (.tmp 16) ?_ (stP s) (stP t) ?_ ?_ ?_ r ?_ ?_); rfl; rfl; rfl; rfl; kernel_rfl; exact HE.out)
    go_ret
    refine ⟨_, rfl, ?_, below_alloc (below_alloc (below_alloc (below_alloc (Below.refl _ _) _) _) _) _⟩
    rw [helps_not H.out]
    have := HI.out
    cases r
    · simp at this ⊢
      exact fun e => this e.symm
    · simp at this ⊢
      exact this.symm
  · have H : Hid (x.over = true) := ho
    clear ho hs hso
    go_enter Try.func48, Try.ntmps48
    go_wp2_with (go_at_call 49; refine (over_any _ _).mono ?_; rintro e w' ⟨rfl, rfl⟩; rw [H.out])
    all_goals
      go_ret
      refine ⟨_, rfl, ?_, below_alloc (below_alloc (below_alloc (below_alloc (Below.refl _ _) _) _) _) _⟩
      rw [helps_over H.out]
      simp [Ev.ans]
      try omega

end Go.Proofs.Yteniopbmkooomaa
