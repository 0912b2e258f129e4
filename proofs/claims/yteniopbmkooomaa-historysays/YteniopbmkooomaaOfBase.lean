/-
  The statement HistoryOf: what its walk needs.
-/
import Derived.Test.YteniopbmkooomaaSpareW
import Derived.Test.YteniopbmkooomaaStays
namespace Go.Proofs.Yteniopbmkooomaa
open Go.RowKit Hi Go.Deep Go.Maps

def evsOf : Option St → List Ev
  | some st => st.evs
  | none => []
def codeOf : Option St → Int
  | some _ => 0
  | none => 30

theorem retOf_open {e : Ending} {base : Nat} {w' : World} {r : Option St} (h : RetOf e base w' r) : ∃ v, e = .returned (.tuple #[v, I (codeOf r)]) ∧ w'.ownsRow base 33 8 v (evsOf r).length ((evsOf r).flatMap evL) := by
  rcases h with ⟨rfl, rfl⟩ | ⟨st, v, rfl, rfl, ho⟩
  · exact ⟨_, rfl, ⟨rfl, .inl ⟨rfl, rfl⟩⟩⟩
  · exact ⟨v, rfl, ho⟩

theorem ofs_one {sc : List (List Call)} {an : List (List (Int × Int))} {tr : List Step} {r r' : Option St} (h1 : Alike sc an → Ofs sc an 0 tr st0 r) (h2 : ¬ Alike sc an → r = none) (h1' : Alike sc an → Ofs sc an 0 tr st0 r') (h2' : ¬ Alike sc an → r' = none) : r = r' := by
  by_cases h : Alike sc an
  · exact ofs_det tr 0 st0 r r' (h1 h) (h1' h)
  · rw [h2 h, h2' h]

/-- But for blocks y and z. -/
def But2 (n y z : Nat) (a u : World) : Prop := a.heap.size ≤ u.heap.size ∧ ∀ b, b < n → b ≠ y → b ≠ z → u.heap[b]? = a.heap[b]?

theorem But2.setMany {n y z : Nat} {a u : World} (h : But2 n y z a u) {g : Nat} (hg : g = y ∨ g = z) (cs : List Value) (o : Nat) : But2 n y z a (setMany u g o cs) :=
  ⟨by rw [setMany_size]; exact h.1, fun b hb h1 h2 => by rw [setMany_other (by rcases hg with rfl | rfl <;> assumption)]; exact h.2 b hb h1 h2⟩
theorem below_many {B g : Nat} {a : World} (hB : B ≤ g) : ∀ (cs : List Value) (w : World) (o : Nat), Below B a w → Below B a (setMany w g o cs)
  | [], _, _, h => h
  | c :: r, _, _, h => below_many hB r _ _ (h.setCell hB c)
theorem own_many {base : Nat} {e : TypeId} {size n cap g : Nat} : ∀ (cs : List Value) (w : World) (o : Nat) (xs : List Value), w.ownsRow base e size (.slice (some ⟨g, 0, none⟩) n cap) n xs → o + cs.length ≤ n * size → ∃ xs', (setMany w g o cs).ownsRow base e size (.slice (some ⟨g, 0, none⟩) n cap) n xs'
  | [], _, _, xs, h, _ => ⟨xs, h⟩
  | c :: r, w, o, xs, h, hl => by
    simp only [List.length_cons] at hl
    exact own_many r (w.setCell ⟨g, o, none⟩ c) (o + 1) _ (own_set h o (by omega) c) (by omega)
theorem sl_but {α : Type} {n N y z : Nat} {enc : α → List Value} {a u : World} {v : Value} {l : List α} (h : SL n enc a v l) (hb : But2 N y z a u) (hN : a.heap.size ≤ N) (hv : ∀ g, v.ownBlock = some g → g ≠ y ∧ g ≠ z) : SL n enc u v l := by
  obtain ⟨p, cap, rfl, h1, h2, h3⟩ := h
  refine ⟨p, cap, rfl, h1, h2, fun i x hi => ?_⟩
  obtain ⟨blk, off, rfl, hlt, hr⟩ := h3 i x hi
  have := hv blk rfl
  refine ⟨blk, off, rfl, Nat.lt_of_lt_of_le hlt hb.1, fun j c hj => ?_⟩
  rw [World.cell?_of_block (w := a) (hb.2 blk (by omega) this.1 this.2)]
  exact hr j c hj

def ev9 : Ev := ⟨0, -9, 0, 0, 0, 0, 0, 0⟩

theorem But2.refl (n y z : Nat) (a : World) : But2 n y z a a := ⟨Nat.le_refl _, fun _ _ _ _ => rfl⟩
theorem own_ga {w : World} {base : Nat} (N : Nat) {e : TypeId} {size : Nat} {v : Value} {n : Nat} {xs : List Value} (h : w.ownsRow base e size v n xs) (hN : base ≤ N) : ∃ ga, base ≤ ga ∧ (∀ g, v.ownBlock = some g → g = ga) ∧ (v.ownBlock = some ga ∨ N ≤ ga) := by
  rcases h.2 with ⟨rfl, _⟩ | ⟨g, cap, cur, rfl, hg, _⟩
  · exact ⟨N, hN, (fun g h => by cases h), .inr (Nat.le_refl _)⟩
  · exact ⟨g, hg, (fun g' h => (Option.some.inj h).symm), .inl rfl⟩
theorem own_some {w : World} {base : Nat} {e : TypeId} {size : Nat} {p : Option Addr} {cap n : Nat} {xs : List Value} (h : w.ownsRow base e size (.slice p n cap) n xs) (hn : 0 < n) : ∃ g, p = some ⟨g, 0, none⟩ := by
  rcases h.2 with ⟨h1, h2⟩ | ⟨g, c, cur, h1, _⟩
  · cases h1; omega
  · cases h1; exact ⟨g, rfl⟩
/-- The first loop's word: the list of events turned, nothing else. -/
def Turned (B base ga tg : Nat) (w w8 : World) (v : Value) (n : Nat) (u : World) : Prop := (∃ xs, u.ownsRow base 33 8 v n xs) ∧ But2 w8.heap.size ga tg w8 u ∧ Below B w u
theorem Turned.many {B base ga tg : Nat} {w w8 u : World} {n cap g o : Nat} (h : Turned B base ga tg w w8 (.slice (some ⟨g, 0, none⟩) n cap) n u) (cs : List Value) (hl : o + cs.length ≤ n * 8) (hg : g = ga) (hB : B ≤ g) : Turned B base ga tg w w8 (.slice (some ⟨g, 0, none⟩) n cap) n (setMany u g o cs) := by
  obtain ⟨⟨xs, h1⟩, h2, h3⟩ := h
  exact ⟨own_many cs u o xs h1 hl, h2.setMany (.inl hg) cs o, below_many hB cs u o h3⟩
theorem evs_small {sc : List (List Call)} {an : List (List (Int × Int))} {tr : List Step} {r : Option St} (h1 : Alike sc an → Ofs sc an 0 tr st0 r) (h2 : ¬ Alike sc an → r = none) : (evsOf r).length ≤ tr.length := by
  by_cases h : Alike sc an
  · cases r with
    | none => exact Nat.zero_le _
    | some st =>
      show st.evs.length ≤ _
      rw [evs_ref (h1 h)]
      exact refEvs_len _ _ _ _
  · rw [h2 h]; exact Nat.zero_le _

/-- The second loop's word: the list may lie anew. -/
def Grown (B base ga tg : Nat) (w w8 : World) (v : Value) (n : Nat) (u : World) : Prop := Turned B base ga tg w w8 v n u ∧ ∀ g, v.ownBlock = some g → g = ga ∨ w8.heap.size ≤ g
theorem Grown.next {base ga tg : Nat} {w w8 u X w6 : World} {v : Value} {n m g cpg : Nat} {xs : List Value} (h : Grown w.heap.size base ga tg w w8 v n u) (hb : Below u.heap.size u X) (ho : w6.ownsRow base 33 8 (.slice (some ⟨g, 0, none⟩) m cpg) m xs)
    (hg : X.grownBy w6 v.ownBlock) (hat : v.ownBlock = some g ∨ g = X.heap.size) (hB : w.heap.size ≤ base) : Grown w.heap.size base ga tg w w8 (.slice (some ⟨g, 0, none⟩) m cpg) m w6 := by
  obtain ⟨⟨⟨ys, h1⟩, h2, h3⟩, h4⟩ := h
  have s1 := hb.size
  have s2 := hg.size
  have s3 := h2.1
  refine ⟨⟨⟨xs, ho⟩, ⟨by omega, fun b hb' n1 n2 => ?_⟩, ?_⟩, fun g' e => ?_⟩
  · rw [hg.block b (by omega) (fun e => by rcases h4 b e.symm with e' | e' <;> omega), hb.block b (by omega)]
    exact h2.2 b hb' n1 n2
  · have bw := h3.trans (hb.mono h3.size)
    exact bw.grown hg (by have := h3.size; have := bw.size; omega) (fun g e => by have := (own_block h1 g e).1; omega)
  · have : g = g' := Option.some.inj e
    subst this
    rcases hat with e' | e'
    · exact h4 g e'
    · right; omega
/-- The third loop's word. -/
def Marks (B ga tg n : Nat) (w w8 u : World) : Prop := But2 w8.heap.size ga tg w8 u ∧ Below B w u ∧ ∃ arr : Array Value, u.heap[tg]? = some (.cells arr 45 (0, 0)) ∧ arr.size = (n + 1) * 5
theorem Marks.many {B ga tg n o : Nat} {w w8 u : World} (h : Marks B ga tg n w w8 u) (cs : List Value) (hl : o + cs.length ≤ (n + 1) * 5) (hB : B ≤ tg) : Marks B ga tg n w w8 (setMany u tg o cs) := by
  obtain ⟨h1, h2, arr, h3, h4⟩ := h
  obtain ⟨b, hb1, hb2⟩ := setMany_heap cs u o arr h3 (by omega)
  refine ⟨h1.setMany (.inr rfl) cs o, below_many hB cs u o h2, b, hb1, ?_⟩
  have := congrArg List.length hb2
  simp at this
  omega
theorem Grown.marks {B base ga tg n m : Nat} {w w8 u : World} {v : Value} (h : Grown B base ga ga w w8 v m u) (hm : ∃ arr : Array Value, w8.heap[tg]? = some (.cells arr 45 (0, 0)) ∧ arr.size = (n + 1) * 5) (hne : tg ≠ ga) : Marks B ga tg n w w8 u := by
  obtain ⟨⟨_, h2, h3⟩, _⟩ := h
  obtain ⟨arr, ha, hs⟩ := hm
  have hlt := (Array.getElem?_eq_some_iff.1 ha).1
  exact ⟨⟨h2.1, fun b hb n1 _ => h2.2 b hb n1 n1⟩, h3, arr, (h2.2 tg hlt hne hne).trans ha, hs⟩
theorem marked_arr {w : World} {g : Nat} {l : List Step} (h : w.heap[g]? = some (.cells (l.flatMap stepL ++ markS).toArray 45 (0, 0))) : ∃ arr : Array Value, w.heap[g]? = some (.cells arr 45 (0, 0)) ∧ arr.size = (l.length + 1) * 5 := by
  refine ⟨_, h, ?_⟩
  have : ∀ l : List Step, (l.flatMap stepL).length = l.length * 5 := fun l => by
    induction l with
    | nil => rfl
    | cons a r ih =>
      rw [List.flatMap_cons, List.length_append, ih, List.length_cons]
      simp [stepL]
      omega
  simp [this, markS]
  omega

end Go.Proofs.Yteniopbmkooomaa
