/-
  Laws at single operations, guarded or not: values of many cells are handed on as they are.
-/
import Derived.Test.YteniopbmkooomaaEnc
namespace Go.Proofs.Yteniopbmkooomaa
open Go.RowKit Hi Go.Deep Go.Maps Go.BigFrame

section
variable {P : Program} {ops : Array Oper} {rest : List Oper} {op : Oper} {a : Act} {w w' : World} {Q : Exit → Act → World → Prop}

theorem wpG_val {v : Value} (hw : Region.wanted op (yielded ops a.tmps) = true) (hr : (execOp a.eval op).run P w = .ok (.value v) w') (h : wpList P ops Q rest (a.put op.dst v) w') : wpList P ops Q (op :: rest) a w :=
  wpList_want hw fun K hK => by unfold Oper.wp; rw [hr]; exact hK _ _ h
theorem wpG_skip (hw : Region.wanted op (yielded ops a.tmps) = true) (hr : (execOp a.eval op).run P w = .ok .skip w') (h : wpList P ops Q rest (a.put op.dst undef) w') : wpList P ops Q (op :: rest) a w :=
  wpList_want hw fun K hK => by unfold Oper.wp; rw [hr]; exact hK _ _ h

theorem wpG_load (hw : Region.wanted op (yielded ops a.tmps) = true) (ty : TypeId) (x : Operand) (ho : op.op = .load ty x) (b o : Nat) (hx : a.eval x = .pointer (some ⟨b, o, none⟩)) (cs : List Value) (d : TypeDesc) (hc : w.rangeAt b o cs)
    (hu : P.underlying ty = some d) (hd : d.isRow = true) (hi : (P.info? ty).map (·.size) = some cs.length) (h : wpList P ops Q rest (a.put op.dst (.agg cs.toArray)) w) : wpList P ops Q (op :: rest) a w :=
  wpList_want hw fun _ hK => wp_load_mid ty x ho b o hx cs d hc hu hd hi (hK _ _ h)

theorem wpG_build (hw : Region.wanted op (yielded ops a.tmps) = true) (t : TypeId) (i j : Nat) (x y : Operand) (ho : op.op = .build t #[(i, x), (j, y)]) (vx vy v : Value) (hx : a.eval x = vx) (hy : a.eval y = vy)
    (hb : ∀ w, (Instr.build t #[(i, vx), (j, vy)]).run P w = .ok v w) (h : wpList P ops Q rest (a.put op.dst v) w) : wpList P ops Q (op :: rest) a w :=
  wpG_val hw (by unfold execOp; simp only [ho, Sem.run_bind]; simp [hx, hy, hb]) h
theorem wpG_build1 (hw : Region.wanted op (yielded ops a.tmps) = true) (t : TypeId) (i : Nat) (x : Operand) (ho : op.op = .build t #[(i, x)]) (vx v : Value) (hx : a.eval x = vx)
    (hb : ∀ w, (Instr.build t #[(i, vx)]).run P w = .ok v w) (h : wpList P ops Q rest (a.put op.dst v) w) : wpList P ops Q (op :: rest) a w :=
  wpG_val hw (by unfold execOp; simp only [ho, Sem.run_bind]; simp [hx, hb]) h

theorem wpG_box (hw : Region.wanted op (yielded ops a.tmps) = true) (t : TypeId) (x : Operand) (ho : op.op = .box t x) (cs : Array Value) (hx : a.eval x = .agg cs)
    (h : wpList P ops Q rest (a.put op.dst (.pointer (some ⟨w.heap.size, 0, none⟩))) (w.alloc (.cells cs t))) : wpList P ops Q (op :: rest) a w :=
  wpG_val hw (by unfold execOp; simp only [ho, hx, Instr.box, newVar, newRow, Value.cells, Sem.run_bind]; rfl) h

theorem wpG_alloc (hw : Region.wanted op (yielded ops a.tmps) = true) (t : TypeId) (ho : op.op = .alloc t) (z : Array Value) (hz : (zeroValue t).run P w = .ok (.agg z) w)
    (h : wpList P ops Q rest (a.put op.dst (.pointer (some ⟨w.heap.size, 0, none⟩))) (w.alloc (.cells z t))) : wpList P ops Q (op :: rest) a w :=
  wpG_val hw (by unfold execOp; simp only [ho, Instr.alloc, newVar, newRow, Value.cells, Sem.run_bind, hz, Result.andThen_ok]; rfl) h

def setA (z : Array Value) : Nat → List Value → Array Value
  | _, [] => z
  | o, v :: r => setA (z.setIfInBounds o v) (o + 1) r

theorem setCells_alloc_any (t : TypeId) : ∀ (l : List Value) (z : Array Value) (o : Nat), (w.alloc (.cells z t)).setCells w.heap.size o l = w.alloc (.cells (setA z o l) t)
  | [], _, _ => rfl
  | v :: r, z, o => by
    rw [World.setCells, World.setCell_alloc_at _ _ _ _ _ rfl, setCells_alloc_any t r]; rfl

theorem setA_size : ∀ (l : List Value) (z : Array Value) (o : Nat), (setA z o l).size = z.size
  | [], _, _ => rfl
  | v :: r, z, o => by unfold setA; rw [setA_size r]; simp
theorem setA_before : ∀ (l : List Value) (z : Array Value) (o k : Nat), k < o → (setA z o l)[k]? = z[k]?
  | [], _, _, _, _ => rfl
  | v :: r, z, o, k, h => by
    unfold setA
    rw [setA_before r _ _ _ (by omega), Array.getElem?_setIfInBounds]
    rw [if_neg (by omega)]
theorem setA_in : ∀ (l : List Value) (z : Array Value) (o k : Nat), k < l.length → o + l.length ≤ z.size → (setA z o l)[o + k]? = l[k]?
  | [], _, _, _, h, _ => by simp at h
  | v :: r, z, o, k, h, hz => by
    simp only [List.length_cons] at h hz
    unfold setA
    cases k with
    | zero =>
      rw [Nat.add_zero, setA_before r _ _ _ (by omega), Array.getElem?_setIfInBounds]
      simp; omega
    | succ k =>
      rw [show o + (k + 1) = o + 1 + k by omega, setA_in r _ _ k (by omega) (by simp; omega)]
      simp

theorem setCells_alloc (t : TypeId) (z cs : Array Value) (h : z.size = cs.size) : (w.alloc (.cells z t)).setCells w.heap.size 0 cs.toList = w.alloc (.cells cs t) := by
  rw [setCells_alloc_any]
  congr 2
  apply Array.ext_getElem?
  intro k
  by_cases hk : k < cs.size
  · have := setA_in cs.toList z 0 k (by simpa using hk) (by simp; omega)
    rw [Nat.zero_add] at this
    rw [this]; simp
  · rw [Array.getElem?_eq_none (by rw [setA_size]; omega), Array.getElem?_eq_none (by omega)]

/-- A store over the whole of what was made just now. -/
theorem wpG_store_new (hw : Region.wanted op (yielded ops a.tmps) = true) (t : TypeId) (x y : Operand) (ho : op.op = .store t x y) (z cs : Array Value) (hx : a.eval x = .pointer (some ⟨w.heap.size, 0, none⟩)) (hy : a.eval y = .agg cs) (hs : z.size = cs.size)
    (hi : (P.info? t).map (·.size) = some cs.size) (h1 : cs.all (·.oneCell') = true) (h : wpList P ops Q rest (a.put op.dst undef) (w.alloc (.cells cs t))) : wpList P ops Q (op :: rest) a (w.alloc (.cells z t)) := by
  refine wpList_want hw fun _ hK => wp_store_mid t x y ho _ 0 cs hx hy (fun j hj => ⟨?_, ?_⟩) hi h1 (hK _ _ ?_)
  · rw [World.cell?_alloc_at _ _ _ _ rfl, Nat.zero_add]
    simp; omega
  · exact World.frozen?_alloc_at _ _ _ _ rfl
  · rw [setCells_alloc t z cs hs]; exact h

theorem wpG_neq (hw : Region.wanted op (yielded ops a.tmps) = true) (t r : TypeId) (x y : Operand) (ho : op.op = .binOp .neq t x y r) (xs ys : Array Value) (hx : a.eval x = .agg xs) (hy : a.eval y = .agg ys) (hg : P.eqGuardType P.depth t = false)
    (b : Bool) (he : (Op.equal t (.agg xs) (.agg ys)).run P w = .ok b w) (h : wpList P ops Q rest (a.put op.dst (.bool !b)) w) : wpList P ops Q (op :: rest) a w :=
  wpG_val hw (by
    unfold Op.equal at he
    have he' : (Op.equalIn 10000 t (.agg xs) (.agg ys)).run P w = .ok b w := he
    unfold execOp; simp only [ho, hx, hy, Sem.run_bind, run_eqGuard_agg _ _ _ _ _ _ _ hg, Result.andThen_ok, run_neq_struct, he']; rfl) h

end

end Go.Proofs.Yteniopbmkooomaa
