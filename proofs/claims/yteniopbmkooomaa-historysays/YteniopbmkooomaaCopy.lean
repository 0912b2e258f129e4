/-
  Copying a list of values of some cells each into a list of the call's own; a list with a mark behind it.
-/
import Derived.Test.YteniopbmkooomaaSame
import Derived.Laws.CopyRow
import Derived.Laws.CopyOwn
namespace Go.Proofs.Yteniopbmkooomaa
open Go.RowKit Hi Go.Deep Go.Maps

theorem run_copyN {P : Program} (w : World) (dT sT ty elem : TypeId) (n g dLen dCap : Nat) (sp : Option Addr) (sLen sCap : Nat) (cur : Array Value) (t : TypeId) (cs : List Value)
    (hu : P.underlying dT = some (.slice elem)) (hs : (P.info? elem).map (·.size) = some n)
    (hg : w.heap[g]? = some (.cells cur t (0, 0))) (hn : cs.length = Nat.min sLen dLen * n) (hpos : 0 < n)
    (hsrc : 0 < cs.length → ∃ a, sp = some a ∧ ∀ j v, cs[j]? = some v → w.cell? (a.add j) = some v) (hfit : cs.length ≤ cur.size) (h1 : ∀ v ∈ cs, v.oneCell' = true) :
    ∃ w', (Builtin.copy_ #[dT, sT] ty #[.slice (some ⟨g, 0, none⟩) dLen dCap, .slice sp sLen sCap]).run P w = .ok (goInt (Nat.min sLen dLen)) w' ∧
      w'.heap[g]? = some (.cells (cs ++ cur.toList.drop cs.length).toArray t (0, 0)) ∧ Below g w w' ∧ w'.heap.size = w.heap.size := by
  cases hq : P.info? elem with
  | none => simp [hq] at hs
  | some i =>
    have hi : i.size = n := by simpa [hq] using hs
    by_cases h0 : cs.length = 0
    · obtain rfl : cs = [] := List.eq_nil_of_length_eq_zero h0
      have hm : Nat.min sLen dLen = 0 := by
        have hn' : Nat.min sLen dLen * n = 0 := by simpa using hn.symm
        rcases Nat.mul_eq_zero.1 hn' with h | h
        · exact h
        · omega
      have hl : ∀ (x : Addr), (loadCells x 0).run P w = .ok #[] w := fun x => by simpa using run_loadCells_list (P := P) w x [] (by simp)
      refine ⟨w, ?_, by simpa using hg, Below.refl _ _, rfl⟩
      cases sp <;> simp [Builtin.copy_, run_underlying hu, Builtin.lenOf, Builtin.firstCells, sizeOf, typeInfo, hq, hm, storeCells, hl]
    · obtain ⟨a, rfl, ha⟩ := hsrc (by omega)
      have hl := run_loadCells_list (P := P) w a cs ha
      have hst := run_storeCells_at P g 0 t cs 0 cur w hg (by simpa using hfit) h1
      refine ⟨w.setRow g (cs ++ cur.toList.drop cs.length).toArray, ?_, ?_, below_setRow (Below.refl _ _) (Nat.le_refl _) _, ?_⟩
      · simp [Builtin.copy_, run_underlying hu, Builtin.lenOf, Builtin.firstCells, sizeOf, typeInfo, hq, hi, ← hn, hl, hst]
      · exact setRow_heap w g _ _ t _ hg
      · simp [World.setRow]

/-- Cells of lists, one behind the other. -/
theorem flat_at {α : Type} {n : Nat} {enc : α → List Value} (hn : ∀ a, (enc a).length = n) : ∀ (l : List α) (i : Nat) (a : α), l[i]? = some a → ∀ (j : Nat) (u : Value), (enc a)[j]? = some u → (l.flatMap enc)[i * n + j]? = some u
  | [], i, a, h, _, _, _ => by simp at h
  | x :: r, 0, a, h, j, u, hj => by
    simp at h
    subst h
    rw [List.flatMap_cons, Nat.zero_mul, Nat.zero_add, List.getElem?_append_left (List.getElem?_eq_some_iff.1 hj).1]
    exact hj
  | x :: r, i + 1, a, h, j, u, hj => by
    have h' : r[i]? = some a := by simpa using h
    have e : (i + 1) * n + j = n + (i * n + j) := by rw [Nat.succ_mul]; omega
    rw [List.flatMap_cons, e, List.getElem?_append_right (by rw [hn]; omega), hn]
    have e2 : n + (i * n + j) - n = i * n + j := by omega
    rw [e2]
    exact flat_at hn r i a h' j u hj

theorem flat_len {α : Type} {n : Nat} {enc : α → List Value} (hn : ∀ a, (enc a).length = n) (l : List α) : (l.flatMap enc).length = l.length * n := by
  induction l with
  | nil => simp
  | cons x r ih => rw [List.flatMap_cons, List.length_append, hn, ih, List.length_cons, Nat.succ_mul]; omega

/-- The other way round: which cell it is. -/
theorem flat_of {α : Type} {n : Nat} {enc : α → List Value} (hn : ∀ a, (enc a).length = n) (hpos : 0 < n) (l : List α) (q : Nat) (u : Value) (h : (l.flatMap enc)[q]? = some u) : ∃ a, l[q / n]? = some a ∧ (enc a)[q % n]? = some u := by
  have hq := (List.getElem?_eq_some_iff.1 h).1
  rw [flat_len hn] at hq
  have hi : q / n < l.length := Nat.div_lt_of_lt_mul (by rw [Nat.mul_comm]; exact hq)
  refine ⟨l[q / n], List.getElem?_eq_getElem hi, ?_⟩
  have hm : q % n < (enc l[q / n]).length := by rw [hn]; exact Nat.mod_lt _ hpos
  have := flat_at hn l (q / n) l[q / n] (List.getElem?_eq_getElem hi) (q % n) _ (List.getElem?_eq_getElem hm)
  rw [Nat.mul_comm, Nat.div_add_mod, h] at this
  rw [List.getElem?_eq_getElem hm, this]

/-- A block holds a list and a mark behind it. -/
def Marked {α : Type} (enc : α → List Value) (mark : List Value) (ty : TypeId) (w : World) (g : Nat) (l : List α) : Prop := w.heap[g]? = some (.cells (l.flatMap enc ++ mark).toArray ty (0, 0))

theorem Marked.lt {α : Type} {enc : α → List Value} {mark : List Value} {ty : TypeId} {w : World} {g : Nat} {l : List α} (h : Marked enc mark ty w g l) : g < w.heap.size := (Array.getElem?_eq_some_iff.1 h).1
theorem Marked.later {α : Type} {enc : α → List Value} {mark : List Value} {ty : TypeId} {w w' : World} {g : Nat} {l : List α} (h : Marked enc mark ty w g l) (hb : Below w.heap.size w w') : Marked enc mark ty w' g l := (hb.block g h.lt).trans h
theorem Marked.sl {α : Type} {n : Nat} {enc : α → List Value} {mark : List Value} {ty : TypeId} {w : World} {g : Nat} {l : List α} (hn : ∀ a, (enc a).length = n) (hm : l.length + 1 ≤ maxLen) (h : Marked enc mark ty w g l) :
    SL n enc w (.slice (some ⟨g, 0, none⟩) l.length (l.length + 1)) l := by
  refine ⟨_, _, rfl, Nat.le_succ _, hm, fun i a hi => ⟨g, 0, rfl, h.lt, fun j u hj => ?_⟩⟩
  have := flat_at hn l i a hi j u hj
  simp only [World.cell?, Nat.zero_add]
  rw [show w.heap[g]? = _ from h]
  simp only [Option.isSome_none, Bool.false_eq_true, if_false]
  rw [List.getElem?_toArray, List.getElem?_append_left (List.getElem?_eq_some_iff.1 this).1]
  exact this
theorem Marked.mark {α : Type} {n : Nat} {enc : α → List Value} {mark : List Value} {ty : TypeId} {w : World} {g : Nat} {l : List α} (hn : ∀ a, (enc a).length = n) (h : Marked enc mark ty w g l) : w.rangeAt g (l.length * n) mark := by
  intro j u hj
  simp only [World.cell?]
  rw [show w.heap[g]? = _ from h]
  simp only [Option.isSome_none, Bool.false_eq_true, if_false]
  rw [List.getElem?_toArray, List.getElem?_append_right (by rw [flat_len hn]; omega), flat_len hn]
  have : l.length * n + j - l.length * n = j := by omega
  rw [this]
  exact hj

/-- Slices that hold lists, each with a mark behind it, in memory from B on. -/
def Lent {α : Type} (enc : α → List Value) (mark : List Value) (ty : TypeId) (B : Nat) (w : World) (v : Value) (ll : List (List α)) : Prop :=
  ∃ p cap, v = .slice p ll.length cap ∧ ll.length ≤ cap ∧ cap ≤ maxLen ∧ ∀ i l, ll[i]? = some l → ∃ blk off g, p = some ⟨blk, off, none⟩ ∧ w.cell? ⟨blk, off + i, none⟩ = some (.slice (some ⟨g, 0, none⟩) l.length (l.length + 1)) ∧ B ≤ g ∧ Marked enc mark ty w g l

theorem Lent.later {α : Type} {enc : α → List Value} {mark : List Value} {ty : TypeId} {B : Nat} {w w' : World} {v : Value} {ll : List (List α)} (h : Lent enc mark ty B w v ll) (hb : Below w.heap.size w w') : Lent enc mark ty B w' v ll := by
  obtain ⟨p, cap, rfl, h1, h2, h3⟩ := h
  refine ⟨p, cap, rfl, h1, h2, fun i l hi => ?_⟩
  obtain ⟨blk, off, g, e, hc, hg, hm⟩ := h3 i l hi
  exact ⟨blk, off, g, e, kcell hb hc, hg, hm.later hb⟩
theorem Lent.ss {α : Type} {n : Nat} {enc : α → List Value} {mark : List Value} {ty : TypeId} {B : Nat} {w : World} {v : Value} {ll : List (List α)} (hn : ∀ a, (enc a).length = n) (hl : ∀ l ∈ ll, l.length + 1 ≤ maxLen) (h : Lent enc mark ty B w v ll) : SS n enc w v ll := by
  obtain ⟨p, cap, rfl, h1, h2, h3⟩ := h
  refine ⟨p, cap, rfl, h1, h2, fun i l hi => ?_⟩
  obtain ⟨blk, off, g, e, hc, _, hm⟩ := h3 i l hi
  exact ⟨blk, off, _, e, hc, hm.sl hn (hl l (List.mem_of_getElem? hi))⟩

theorem len_call (c : Call) : (callL c).length = 4 := rfl
theorem len_ans (a : Int × Int) : (ansL a).length = 2 := rfl
theorem len_step (s : Step) : (stepL s).length = 5 := rfl

def markC : List Value := [I (-71), I 0, I 0, I 0]
def markA : List Value := [I (-71), I 0]
def markS : List Value := [I 0, I 0, I (-71), I 0, I 0]

end Go.Proofs.Yteniopbmkooomaa
