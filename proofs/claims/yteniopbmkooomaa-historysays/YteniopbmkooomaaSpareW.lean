/-
  spare, walked.
-/
import Derived.Test.YteniopbmkooomaaSpare
namespace Go.Proofs.Yteniopbmkooomaa
open Go.RowKit Hi Go.Deep Go.Maps

theorem setMany_below {g : Nat} : ∀ (cs : List Value) (w : World) (o : Nat) (a : World), Below g a w → Below g a (setMany w g o cs)
  | [], _, _, _, h => h
  | c :: r, _, _, a, h => setMany_below r _ _ a (h.setCell (Nat.le_refl _) c)
theorem setMany_size {g : Nat} : ∀ (cs : List Value) (w : World) (o : Nat), (setMany w g o cs).heap.size = w.heap.size
  | [], _, _ => rfl
  | c :: r, w, o => by
    show (setMany (w.setCell ⟨g, o, none⟩ c) g (o + 1) r).heap.size = _
    rw [setMany_size r]; simp [World.setCell]

/-- A list was made in the next block, with its mark; nothing else. -/
def NextM {α : Type} (enc : α → List Value) (mark : List Value) (ty : TypeId) (u : World) (l : List α) (W : World) : Prop := Below u.heap.size u W ∧ Marked enc mark ty W u.heap.size l ∧ W.heap.size = u.heap.size + 1

theorem nextM_mk {α : Type} {n : Nat} {enc : α → List Value} {mark : List Value} {ty : TypeId} {u w2 : World} {l : List α} (hm : mark.length = n) (hb : Below u.heap.size u w2) (hs : w2.heap.size = u.heap.size + 1)
    (ha : ∃ a : Array Value, w2.heap[u.heap.size]? = some (.cells a ty (0, 0)) ∧ a.size = (l.length + 1) * n ∧ a.toList.take (l.length * n) = l.flatMap enc) : NextM enc mark ty u l (setMany w2 u.heap.size (l.length * n) mark) := by
  obtain ⟨a, h1, h2, h3⟩ := ha
  exact ⟨setMany_below _ _ _ _ hb, marked_of hm h1 h2 h3, by rw [setMany_size, hs]⟩

/-- The boxes of spare. -/
structure SpI (w u : World) (sv av tv ys ya : Value) : Prop where
  x : u.heap[w.heap.size]? = some (.cells #[sv, av, tv] 39 (0, 0))
  r : u.heap[w.heap.size + 1]? = some (.cells #[.slice none 0 0, .slice none 0 0, .slice none 0 0] 39 (0, 0))
  y : u.heap[w.heap.size + 1 + 1]? = some (.cells #[ys, ya, .slice none 0 0] 39 (0, 0))
  below : Below w.heap.size w u

theorem SpI.later {w u u' : World} {sv av tv ys ya : Value} (h : SpI w u sv av tv ys ya) (hb : Below u.heap.size u u') : SpI w u' sv av tv ys ya := by
  have hl := (Array.getElem?_eq_some_iff.1 h.y).1
  exact ⟨(hb.block _ (by omega)).trans h.x, (hb.block _ (by omega)).trans h.r, (hb.block _ hl).trans h.y, h.below.trans (hb.mono h.below.size)⟩

theorem cell3 {u : World} {b : Nat} {c0 c1 c2 : Value} {t : TypeId} (h : u.heap[b]? = some (.cells #[c0, c1, c2] t (0, 0))) : u.cell? ⟨b, 0, none⟩ = some c0 ∧ u.cell? ⟨b, 1, none⟩ = some c1 ∧ u.cell? ⟨b, 2, none⟩ = some c2 ∧ ∀ j, u.frozen? ⟨b, j, none⟩ = false := by
  refine ⟨?_, ?_, ?_, fun j => ?_⟩ <;> simp [World.cell?, World.frozen?, h]

theorem cellA {u : World} {b j : Nat} {a : Array Value} {t : TypeId} (h : u.heap[b]? = some (.cells a t (0, 0))) (hj : j < a.size) : (∃ v, u.cell? ⟨b, j, none⟩ = some v) ∧ u.frozen? ⟨b, j, none⟩ = false :=
  ⟨⟨a[j], by simp [World.cell?, h, hj]⟩, by simp [World.frozen?, h]⟩

theorem keep3c {u u' : World} {a1 a2 a3 : Addr} {v1 v2 v3 : Value} (h : u.cell? a1 = some v1 ∧ u.cell? a2 = some v2 ∧ u.cell? a3 = some v3 ∧ u.frozen? a1 = false) (hb : Below u.heap.size u u') : u'.cell? a1 = some v1 ∧ u'.cell? a2 = some v2 ∧ u'.cell? a3 = some v3 ∧ u'.frozen? a1 = false :=
  ⟨kcell hb h.1, kcell hb h.2.1, kcell hb h.2.2.1, by rw [hb.frozen (World.block_lt_of_cell? _ _ h.1)]; exact h.2.2.2⟩
theorem keep3g {u u' : World} {row : Option Nat} {B : Nat} {a1 a2 a3 : Addr} {v1 v2 v3 : Value} (h : u.cell? a1 = some v1 ∧ u.cell? a2 = some v2 ∧ u.cell? a3 = some v3 ∧ u.frozen? a1 = false) (hg : u.grownBy u' row) (hr : ∀ g, row = some g → B + 1 ≤ g)
    (h1 : a1.block ≤ B) (h2 : a2.block ≤ B) (h3 : a3.block ≤ B) : u'.cell? a1 = some v1 ∧ u'.cell? a2 = some v2 ∧ u'.cell? a3 = some v3 ∧ u'.frozen? a1 = false := by
  have far : ∀ {a : Addr} {v : Value}, u.cell? a = some v → a.block ≤ B → u'.cell? a = some v := fun {a v} hc hb => by
    rw [hg.cell_far a (World.block_lt_of_cell? _ _ hc) (fun e => by have := hr a.block e.symm; omega)]
    exact hc
  refine ⟨far h.1 h1, far h.2.1 h2, far h.2.2.1 h3, ?_⟩
  rw [hg.frozen_far a1 (World.block_lt_of_cell? _ _ h.1) (fun e => by have := hr a1.block e.symm; omega)]
  exact h.2.2.2

theorem grown_pre {W X w6 : World} {row : Option Nat} (hb : Below W.heap.size W X) (hg : X.grownBy w6 row) : W.grownBy w6 row :=
  ⟨hg.os.trans hb.os, hg.tape.trans hb.tape, hg.output.trans hb.output, Nat.le_trans hb.size hg.size, fun k hk hn => (hg.block k (Nat.lt_of_lt_of_le hk hb.size) hn).trans (hb.block k hk)⟩

theorem made_next {α : Type} {enc : α → List Value} {mark : List Value} {ty e : TypeId} (hne : ty ≠ e) {wo W w6 : World} {ys : Value} {yb k : Nat} {ll : List (List α)} {vals : List Value}
    (hown : wo.ownsRow (yb + 1) e 1 ys k vals) (hmade : Made enc mark ty (yb + 1) ll k vals wo) (hwb : Below wo.heap.size wo W) (hwm : Marked enc mark ty W wo.heap.size (ll.getD k [])) (hws : W.heap.size = wo.heap.size + 1)
    (hg : W.grownBy w6 ys.ownBlock) (hyl : yb < wo.heap.size) (j : Nat) (c : Value) :
    Made enc mark ty (yb + 1) ll (k + 1) (vals ++ [.slice (some ⟨wo.heap.size, 0, none⟩) (ll.getD k []).length ((ll.getD k []).length + 1)]) (w6.setCell ⟨yb, j, none⟩ c) := by
  refine hmade.step (fun g l hg' hm => ?_) (by omega) ?_
  · have hlt := hm.lt
    have hrow : some g ≠ ys.ownBlock := fun e' => by
      rcases hown.2 with ⟨rfl, _⟩ | ⟨g2, cap, cur, rfl, _, hh, _⟩
      · cases e'
      · have : g = g2 := Option.some.inj e'
        subst this
        have hm' : wo.heap[g]? = some (.cells (l.flatMap enc ++ mark).toArray ty (0, 0)) := hm
        rw [hh] at hm'
        injection hm' with h1
        injection h1 with _ h2 _
        exact hne h2.symm
    have h1 := hg.block g (by omega) hrow
    unfold Marked
    rw [Below.heap_setCell _ _ _ _ (by simp; omega), h1, hwb.block g hlt]
    exact hm
  · have hrow : some wo.heap.size ≠ ys.ownBlock := fun e' => by have := own_block hown _ e'.symm; omega
    have h1 := hg.block wo.heap.size (by omega) hrow
    unfold Marked
    rw [Below.heap_setCell _ _ _ _ (by simp; omega), h1]
    exact hwm

theorem SpI.put0 {w wo W w6 : World} {sv av tv ys ya newv : Value} {row : Option Nat} (h : SpI w wo sv av tv ys ya) (hwb : Below wo.heap.size wo W) (hg : W.grownBy w6 row) (hr : ∀ g, row = some g → w.heap.size + 1 + 1 + 1 ≤ g) : SpI w (w6.setCell ⟨w.heap.size + 1 + 1, 0, none⟩ newv) sv av tv newv ya := by
  have hW := h.later hwb
  have hl := (Array.getElem?_eq_some_iff.1 hW.y).1
  have blk : ∀ b, b ≤ w.heap.size + 1 + 1 → w6.heap[b]? = W.heap[b]? := fun b hb => hg.block b (by omega) (fun e => by have := hr b e.symm; omega)
  refine ⟨?_, ?_, ?_, ?_⟩
  · rw [Below.heap_setCell _ _ _ _ (by simp; omega), blk _ (by omega)]; exact hW.x
  · rw [Below.heap_setCell _ _ _ _ (by simp), blk _ (by omega)]; exact hW.r
  · have hy6 : w6.heap[w.heap.size + 1 + 1]? = some (.cells #[ys, ya, .slice none 0 0] 39 (0, 0)) := (blk _ (Nat.le_refl _)).trans hW.y
    simp [World.setCell, Array.getElem?_modify, hy6]
  · exact (hW.below.grown hg (by have := hW.below.size; omega) (fun g e => by have := hr g e; omega)).setCell (by simp; omega) _
theorem SpI.put1 {w wo W w6 : World} {sv av tv ys ya newv : Value} {row : Option Nat} (h : SpI w wo sv av tv ys ya) (hwb : Below wo.heap.size wo W) (hg : W.grownBy w6 row) (hr : ∀ g, row = some g → w.heap.size + 1 + 1 + 1 ≤ g) : SpI w (w6.setCell ⟨w.heap.size + 1 + 1, 1, none⟩ newv) sv av tv ys newv := by
  have hW := h.later hwb
  have hl := (Array.getElem?_eq_some_iff.1 hW.y).1
  have blk : ∀ b, b ≤ w.heap.size + 1 + 1 → w6.heap[b]? = W.heap[b]? := fun b hb => hg.block b (by omega) (fun e => by have := hr b e.symm; omega)
  refine ⟨?_, ?_, ?_, ?_⟩
  · rw [Below.heap_setCell _ _ _ _ (by simp; omega), blk _ (by omega)]; exact hW.x
  · rw [Below.heap_setCell _ _ _ _ (by simp), blk _ (by omega)]; exact hW.r
  · have hy6 : w6.heap[w.heap.size + 1 + 1]? = some (.cells #[ys, ya, .slice none 0 0] 39 (0, 0)) := (blk _ (Nat.le_refl _)).trans hW.y
    simp [World.setCell, Array.getElem?_modify, hy6]
  · exact (hW.below.grown hg (by have := hW.below.size; omega) (fun g e => by have := hr g e; omega)).setCell (by simp; omega) _

theorem own_mono {w : World} {base base' : Nat} {e : TypeId} {size : Nat} {v : Value} {n : Nat} {xs : List Value} (h : w.ownsRow base e size v n xs) (hb : base' ≤ base) : w.ownsRow base' e size v n xs := by
  refine ⟨h.1, ?_⟩
  rcases h.2 with h | ⟨g, cap, cur, hv, hg, r⟩
  · exact .inl h
  · exact .inr ⟨g, cap, cur, hv, by omega, r⟩

/-- What lies below n, but for block y, is as it was. -/
def But (n y : Nat) (a u : World) : Prop := a.heap.size ≤ u.heap.size ∧ ∀ b, b < n → b ≠ y → u.heap[b]? = a.heap[b]?
theorem But.refl (n y : Nat) (a : World) : But n y a a := ⟨Nat.le_refl _, fun _ _ _ => rfl⟩
theorem But.step {n y : Nat} {a u W w6 : World} {row : Option Nat} (h : But n y a u) (hn : n ≤ u.heap.size) (hb : Below u.heap.size u W) (hg : W.grownBy w6 row) (hr : ∀ g, row = some g → n ≤ g) (j : Nat) (c : Value) : But n y a (w6.setCell ⟨y, j, none⟩ c) := by
  have hs1 := hb.size
  have hs2 := hg.size
  refine ⟨?_, fun b hb' hne => ?_⟩
  · have : (w6.setCell ⟨y, j, none⟩ c).heap.size = w6.heap.size := by simp [World.setCell]
    have := h.1
    omega
  · rw [Below.heap_setCell _ _ _ _ (by simpa using hne), hg.block b (by omega) (fun e => by have := hr b e.symm; omega), hb.block b (by omega)]
    exact h.2 b hb' hne
theorem Lent.but {α : Type} {enc : α → List Value} {mark : List Value} {ty : TypeId} {B y : Nat} {a u : World} {v : Value} {ll : List (List α)} (h : Lent enc mark ty B a v ll) (hb : But a.heap.size y a u) (hv : ∀ g, v.ownBlock = some g → g ≠ y) (hB : y < B) : Lent enc mark ty B u v ll := by
  obtain ⟨p, cap, rfl, h1, h2, h3⟩ := h
  refine ⟨p, cap, rfl, h1, h2, fun i l hi => ?_⟩
  obtain ⟨blk, off, g, rfl, hc, hg, hm⟩ := h3 i l hi
  refine ⟨blk, off, g, rfl, ?_, hg, ?_⟩
  · rw [World.cell?_of_block (w := a) (hb.2 blk (World.block_lt_of_cell? _ _ hc) (hv blk rfl))]; exact hc
  · unfold Marked
    rw [hb.2 g hm.lt (by omega)]
    exact hm

theorem Marked.setCell {α : Type} {enc : α → List Value} {mark : List Value} {ty : TypeId} {w : World} {g : Nat} {l : List α} (h : Marked enc mark ty w g l) {a : Addr} (ha : g ≠ a.block) (c : Value) : Marked enc mark ty (w.setCell a c) g l := by
  unfold Marked
  rw [Below.heap_setCell _ _ _ _ ha]
  exact h
theorem Lent.setCell {α : Type} {enc : α → List Value} {mark : List Value} {ty : TypeId} {B : Nat} {w : World} {v : Value} {ll : List (List α)} (h : Lent enc mark ty B w v ll) {a : Addr} (hv : ∀ g, v.ownBlock = some g → g ≠ a.block) (hB : a.block < B) (c : Value) : Lent enc mark ty B (w.setCell a c) v ll := by
  obtain ⟨p, cap, rfl, h1, h2, h3⟩ := h
  refine ⟨p, cap, rfl, h1, h2, fun i l hi => ?_⟩
  obtain ⟨blk, off, g, rfl, hc, hg, hm⟩ := h3 i l hi
  refine ⟨blk, off, g, rfl, ?_, hg, hm.setCell (by omega) c⟩
  rw [World.cell?_setCell_other (h := fun e => hv blk rfl (by rw [e]))]
  exact hc
theorem Lent.mono {α : Type} {enc : α → List Value} {mark : List Value} {ty : TypeId} {B B' : Nat} {w : World} {v : Value} {ll : List (List α)} (h : Lent enc mark ty B w v ll) (hb : B' ≤ B) : Lent enc mark ty B' w v ll := by
  obtain ⟨p, cap, rfl, h1, h2, h3⟩ := h
  refine ⟨p, cap, rfl, h1, h2, fun i l hi => ?_⟩
  obtain ⟨blk, off, g, e, hc, hg, hm⟩ := h3 i l hi
  exact ⟨blk, off, g, e, hc, by omega, hm⟩

set_option maxHeartbeats 8000000 in
set_option maxRecDepth 100000 in
theorem spare_any (sv av tv : Value) (sc : List (List Call)) (an : List (List (Int × Int))) (tr : List Step) (w : World) (hs : SS 4 callL w sv sc) (ha : SS 2 ansL w av an) (ht : SL 5 stepL w tv tr)
    (bn : sc.length ≤ 1048576) (bm : an.length ≤ 1048576) (bs : ∀ i, (sc.getD i []).length ≤ 1048576) (ba : ∀ i, (an.getD i []).length ≤ 1048576) (bt : tr.length ≤ 1048576) :
    Calls Try.prog 14 #[.agg #[sv, av, tv]] w fun e w' => ∃ sv' av' tg, e = .returned (.agg #[sv', av', .slice (some ⟨tg, 0, none⟩) tr.length (tr.length + 1)]) ∧
      Lent callL markC 59 w.heap.size w' sv' sc ∧ Lent ansL markA 31 w.heap.size w' av' an ∧ w.heap.size ≤ tg ∧ Marked stepL markS 45 w' tg tr ∧ Below w.heap.size w w' := by
  obtain ⟨p, cap, rfl, p1, p2, p3⟩ := hs
  obtain ⟨q, caq, rfl, q1, q2, q3⟩ := ha
  have HTT : Hid (SL 5 stepL w tv tr) := ht
  obtain ⟨o, cao, rfl, o1, o2, o3⟩ := ht
  unfold maxLen at p2 q2 o2
  have P3 : Hid (∀ i l, sc[i]? = some l → ∃ blk off vi, p = some ⟨blk, off, none⟩ ∧ w.cell? ⟨blk, off + i, none⟩ = some vi ∧ SL 4 callL w vi l) := p3
  have Q3 : Hid (∀ i l, an[i]? = some l → ∃ blk off vi, q = some ⟨blk, off, none⟩ ∧ w.cell? ⟨blk, off + i, none⟩ = some vi ∧ SL 2 ansL w vi l) := q3
  have BS : Hid (∀ i, (sc.getD i []).length ≤ 1048576) := bs
  have BA : Hid (∀ i, (an.getD i []).length ≤ 1048576) := ba
  clear p3 q3 o3 bs ba
  go_enter Try.func14, Try.ntmps14
  go_wp2_with fail
  go_loopw [4] (fun i u => ∃ (k : Nat) (ys : Value) (vals : List Value), k ≤ sc.length ∧ i = .int .i64 k ∧ SpI w u (.slice p sc.length cap) (.slice q an.length caq) (.slice o tr.length cao) ys (.slice none 0 0) ∧ u.ownsRow (w.heap.size + 1 + 1 + 1) 60 1 ys k vals ∧ Made callL markC 59 (w.heap.size + 1 + 1 + 1) sc k vals u) (fun i _ => sc.length - (intOf i).toNat)
  case atStart =>
    refine ⟨0, .slice none 0 0, [], Nat.zero_le _, rfl, ⟨?_, ?_, ?_, ?_⟩, ⟨rfl, .inl ⟨rfl, rfl⟩⟩, ⟨rfl, fun i hi => absurd hi (Nat.not_lt_zero _)⟩⟩
    · rw [Below.heap_alloc _ _ _ (by simp; omega), Below.heap_alloc _ _ _ (by simp)]; exact heap_alloc_new _ _
    · rw [Below.heap_alloc _ _ _ (by simp)]
      have := heap_alloc_new (w.alloc (.cells #[.slice p sc.length cap, .slice q an.length caq, .slice o tr.length cao] 39)) (.cells #[.slice none 0 0, .slice none 0 0, .slice none 0 0] 39)
      rw [World.size_alloc] at this
      exact this
    · have := heap_alloc_new ((w.alloc (.cells #[.slice p sc.length cap, .slice q an.length caq, .slice o tr.length cao] 39)).alloc (.cells #[.slice none 0 0, .slice none 0 0, .slice none 0 0] 39)) (.cells #[.slice none 0 0, .slice none 0 0, .slice none 0 0] 39)
      rw [World.size_alloc, World.size_alloc] at this
      exact this
    · exact below_alloc (below_alloc (below_alloc (Below.refl _ _) _) _) _
  case round =>
    obtain ⟨k, ys, vals, hk, rfl, hsp, hown, hmade⟩ := hrel
    obtain ⟨wo, hwo⟩ : ∃ wo, wo = wr := ⟨wr, rfl⟩
    subst hwo
    have HSP : Hid (SpI w wo (.slice p sc.length cap) (.slice q an.length caq) (.slice o tr.length cao) ys (.slice none 0 0)) := hsp
    have HOWN : Hid (wo.ownsRow (w.heap.size + 1 + 1 + 1) 60 1 ys k vals) := hown
    have HMADE : Hid (Made callL markC 59 (w.heap.size + 1 + 1 + 1) sc k vals wo) := hmade
    obtain ⟨x0, x1, x2, xf⟩ := cell3 hsp.x
    have hyl : w.heap.size + 1 + 1 < wo.heap.size := (Array.getElem?_eq_some_iff.1 hsp.y).1
    clear hsp hown hmade
    by_cases hlt : k < sc.length
    · obtain ⟨sblk, soff, vi, rfl, sc0, hsl⟩ := P3.out k _ (getD_some hlt [])
      have hbig := BS.out k
      have HKL : Hid (sc[k]? = some (sc.getD k [])) := getD_some hlt []
      have HGD : Hid (∀ l, sc.getD k [] = l → l = sc.getD k []) := fun l h => h.symm
      obtain ⟨ip, icap, rfl, i1, i2, i3⟩ := hsl
      have hslo : SL 4 callL wo (.slice ip (sc.getD k []).length icap) (sc.getD k []) := SL.later HSP.out.below ⟨ip, icap, rfl, i1, i2, i3⟩
      have lsb : sblk < w.heap.size := World.block_lt_of_cell? _ _ sc0
      have sc1 : wo.cell? ⟨sblk, soff + k, none⟩ = some (.slice ip (sc.getD k []).length icap) := by rw [HSP.out.below.cell (p := ⟨sblk, soff + k, none⟩) lsb]; exact sc0
      unfold maxLen at i2
      generalize hl : sc.getD k [] = l at *
      have HL : Hid (sc.getD k [] = l) := hl
      obtain ⟨w2, hcp, ha2, hb2, hs2⟩ := copied_calls hslo
      have hmk := make_calls l.length hbig
      have HA2 : Hid (∃ a : Array Value, w2.heap[wo.heap.size]? = some (.cells a 59 (0, 0)) ∧ a.size = (l.length + 1) * 4 ∧ a.toList.take (l.length * 4) = l.flatMap callL) := ha2
      obtain ⟨a, ha1, has, _⟩ := ha2
      obtain ⟨⟨t0v, t0⟩, t0f⟩ := cellA ha1 (j := l.length * 4) (by omega)
      obtain ⟨⟨t1v, t1⟩, t1f⟩ := cellA ha1 (j := l.length * 4 + 1) (by omega)
      obtain ⟨⟨t2v, t2⟩, t2f⟩ := cellA ha1 (j := l.length * 4 + 2) (by omega)
      obtain ⟨⟨t3v, t3⟩, t3f⟩ := cellA ha1 (j := l.length * 4 + 3) (by omega)
      have x0' := kcell hb2 x0
      have sc2 := kcell hb2 sc1
      have HB2 : Hid (Below wo.heap.size wo w2) := hb2
      have HS2 : Hid (w2.heap.size = wo.heap.size + 1) := hs2
      have n1 : ¬ wo.heap.size = w.heap.size := by omega
      have n2 : ¬ w.heap.size = wo.heap.size := by omega
      have n3 : ¬ wo.heap.size = sblk := by omega
      have n4 : ¬ sblk = wo.heap.size := by omega
      have hlw : w.heap.size < wo.heap.size := by omega
      have hlb : sblk < wo.heap.size := by omega
      clear hl sc0 i3 hslo ha1 has hb2 hs2
      go_wp2_with fail
      refine (show ∀ W, NextM callL markC 59 wo l W → Code.wp Try.prog _ _ _ W from fun W hW => ?_) _ (nextM_mk rfl HB2.out HS2.out HA2.out)
      obtain ⟨hwb, hwm, hws⟩ := hW
      have HWB : Hid (Below wo.heap.size wo W) := hwb
      have HWM : Hid (Marked callL markC 59 W wo.heap.size l) := hwm
      have HWS : Hid (W.heap.size = wo.heap.size + 1) := hws
      have HSPW : Hid (SpI w W _ _ _ ys (.slice none 0 0)) := HSP.out.later hwb
      obtain ⟨y0, y1, y2, yf⟩ := cell3 HSPW.out.y
      obtain ⟨z0, z1, z2, zf⟩ := cell3 HSPW.out.x
      have sc3 := kcell hwb sc1
      have hgb := own_block HOWN.out
      have HOWNW : Hid (W.ownsRow (w.heap.size + 1 + 1 + 1) 60 1 ys k vals) := own_later hwb HOWN.out
      have yf0 := yf 0
      obtain ⟨j0, hj', hj0, hj1, hj2⟩ := info_parts info60
      have ly : w.heap.size + 1 + 1 < W.heap.size := by omega
      have lx : w.heap.size < W.heap.size := by omega
      have lsw : sblk < W.heap.size := by omega
      have hle1 : (l.length : Int) ≤ ((l.length + 1 : Nat) : Int) := by omega
      have hle2 : (l.length : Int) ≤ (l.length : Int) + 1 := by omega
      have hle3 : w.heap.size ≤ w.heap.size + 1 + 1 := by omega
      have hle4 : sblk ≤ w.heap.size + 1 + 1 := by omega
      have hgb2 : ∀ g, ys.ownBlock = some g → (w.heap.size + 1 + 1) + 1 ≤ g := fun g hg => (hgb g hg).1
      clear hwb hwm hws x0 x1 x2 xf x0' sc1 sc2 t0 t0f t1 t1f t2 t2f t3 t3f hcp hmk y1 y2 yf z1 z2 zf
      go_region_law (
          (refine step_append_lies _ rfl (.tmp 41) (.tmp 50) 35 rfl (w.heap.size + 1 + 1 + 1) 60 j0 _ 1 24 Try.underlying35 hj' hj0 hj1 hj2 rfl (by decide) ys k vals rfl
               (by first | exact own_later (below_alloc (Below.refl _ W).drew _) HOWNW.out | exact own_later (below_alloc (Below.refl _ W) _).drew HOWNW.out) ⟨W.heap.size, 0, none⟩ 1 1 [.slice (some ⟨wo.heap.size, 0, none⟩) l.length (l.length + 1)] rfl rfl (fun j u hj => cell_one_new W _ 60 j u hj) (by simp [Value.oneCell']) (by decide) (by unfold maxLen; omega) (by omega) (by simp; omega) _ rfl ?_
           intro g cpg w6 hown6 hgrow6 hat6 hlt6
           have yf6 : w6.frozen? ⟨w.heap.size + 1 + 1, 0, none⟩ = false := by
             rw [hgrow6.frozen_far ⟨w.heap.size + 1 + 1, 0, none⟩ (by simp; omega) (fun e => by have := hgb2 _ e.symm; simp at this; omega)]
             first | exact yf0 | (simp [go_sem, *]; done)
           have yc6 : w6.cell? ⟨w.heap.size + 1 + 1, 0, none⟩ = some ys := by
             rw [hgrow6.cell_far ⟨w.heap.size + 1 + 1, 0, none⟩ (by simp; omega) (fun e => by have := hgb2 _ e.symm; simp at this; omega)]
             first | exact y0 | (simp [go_sem, *]; done)
           have HG6 : Hid (W.grownBy w6 ys.ownBlock) := by first | exact grown_pre (below_alloc (Below.refl _ W).drew _) hgrow6 | exact grown_pre (below_alloc (Below.refl _ W) _).drew hgrow6
           clear hgrow6 hat6 hlt6))
      all_goals
        have HO6 : Hid (w6.ownsRow (w.heap.size + 1 + 1 + 1) 60 1 (.slice (some ⟨g, 0, none⟩) (k + 1) cpg) (k + 1) (vals ++ [.slice (some ⟨wo.heap.size, 0, none⟩) l.length (l.length + 1)])) := hown6
        clear hown6 y0 z0 sc3 yf0 yf6 yc6
        go_wp2_with fail
        go_roundw
        case rel =>
          refine ⟨k + 1, .slice (some ⟨g, 0, none⟩) (k + 1) cpg, vals ++ [.slice (some ⟨wo.heap.size, 0, none⟩) l.length (l.length + 1)], by omega, by go_num, HSP.out.put0 HWB.out HG6.out (fun g hg => hgb2 g hg), ?_, ?_⟩
          · exact ownsRow_setCell_below HO6.out (by simp) _
          · have := made_next (by decide) HOWN.out HMADE.out HWB.out (by rw [HL.out]; exact HWM.out) HWS.out HG6.out hyl 0 (.slice (some ⟨g, 0, none⟩) (k + 1) cpg)
            rw [HL.out] at this
            exact this
        case measure => simp [intOf]; omega
    · have : k = sc.length := by omega
      subst this
      obtain ⟨wA, hwA⟩ : ∃ wA, wA = wo := ⟨wo, rfl⟩
      subst hwA
      have HLS : Hid (Lent callL markC 59 (w.heap.size + 1 + 1 + 1) wA ys sc) := HMADE.out.lent HOWN.out
      have HYO : Hid (∀ g, ys.ownBlock = some g → w.heap.size + 1 + 1 + 1 ≤ g) := fun g hg => (own_block HOWN.out g hg).1
      have HSPA : Hid (SpI w wA (.slice p sc.length cap) (.slice q an.length caq) (.slice o tr.length cao) ys (.slice none 0 0)) := HSP.out
      have hyA : w.heap.size + 1 + 1 < wA.heap.size := hyl
      clear HMADE HOWN HSP
      go_wp2_with fail
      clear x0 x1 x2 xf hyl
      go_loopw [6] (fun i u => ∃ (k : Nat) (ya : Value) (vals : List Value), k ≤ an.length ∧ i = .int .i64 k ∧ SpI w u (.slice p sc.length cap) (.slice q an.length caq) (.slice o tr.length cao) ys ya ∧ u.ownsRow wA.heap.size 61 1 ya k vals ∧ Made ansL markA 31 (w.heap.size + 1 + 1 + 1) an k vals u ∧ But wA.heap.size (w.heap.size + 1 + 1) wA u) (fun i _ => an.length - (intOf i).toNat)
      case atStart =>
        exact ⟨0, .slice none 0 0, [], Nat.zero_le _, rfl, HSPA.out, ⟨rfl, .inl ⟨rfl, rfl⟩⟩, ⟨rfl, fun i hi => absurd hi (Nat.not_lt_zero _)⟩, But.refl _ _ _⟩
      case round =>
        obtain ⟨k, ya, vals, hk, rfl, hsp, hown, hmade, hbut⟩ := hrel
        obtain ⟨wo, hwo⟩ : ∃ wo, wo = wr := ⟨wr, rfl⟩
        subst hwo
        have HSP : Hid (SpI w wo (.slice p sc.length cap) (.slice q an.length caq) (.slice o tr.length cao) ys ya) := hsp
        have HOWN : Hid (wo.ownsRow wA.heap.size 61 1 ya k vals) := hown
        have HMADE : Hid (Made ansL markA 31 (w.heap.size + 1 + 1 + 1) an k vals wo) := hmade
        have HBUT : Hid (But wA.heap.size (w.heap.size + 1 + 1) wA wo) := hbut
        obtain ⟨x0, x1, x2, xf⟩ := cell3 hsp.x
        have hyl : w.heap.size + 1 + 1 < wo.heap.size := (Array.getElem?_eq_some_iff.1 hsp.y).1
        have hAo : wA.heap.size ≤ wo.heap.size := hbut.1
        clear hsp hown hmade hbut
        by_cases hlt : k < an.length
        · obtain ⟨sblk, soff, vi, rfl, sc0, hsl⟩ := Q3.out k _ (getD_some hlt [])
          have hbig := BA.out k
          have HKL : Hid (an[k]? = some (an.getD k [])) := getD_some hlt []
          have HGD : Hid (∀ l, an.getD k [] = l → l = an.getD k []) := fun l h => h.symm
          obtain ⟨ip, icap, rfl, i1, i2, i3⟩ := hsl
          have hslo : SL 2 ansL wo (.slice ip (an.getD k []).length icap) (an.getD k []) := SL.later HSP.out.below ⟨ip, icap, rfl, i1, i2, i3⟩
          have lsb : sblk < w.heap.size := World.block_lt_of_cell? _ _ sc0
          have sc1 : wo.cell? ⟨sblk, soff + k, none⟩ = some (.slice ip (an.getD k []).length icap) := by rw [HSP.out.below.cell (p := ⟨sblk, soff + k, none⟩) lsb]; exact sc0
          unfold maxLen at i2
          generalize hl : an.getD k [] = l at *
          have HL : Hid (an.getD k [] = l) := hl
          obtain ⟨w2, hcp, ha2, hb2, hs2⟩ := copied_ans hslo
          have hmk := make_ans l.length hbig
          have HA2 : Hid (∃ a : Array Value, w2.heap[wo.heap.size]? = some (.cells a 31 (0, 0)) ∧ a.size = (l.length + 1) * 2 ∧ a.toList.take (l.length * 2) = l.flatMap ansL) := ha2
          obtain ⟨a, ha1, has, _⟩ := ha2
          obtain ⟨⟨t0v, t0⟩, t0f⟩ := cellA ha1 (j := l.length * 2) (by omega)
          obtain ⟨⟨t1v, t1⟩, t1f⟩ := cellA ha1 (j := l.length * 2 + 1) (by omega)
          have x0' := kcell hb2 x1
          have sc2 := kcell hb2 sc1
          have HB2 : Hid (Below wo.heap.size wo w2) := hb2
          have HS2 : Hid (w2.heap.size = wo.heap.size + 1) := hs2
          have n1 : ¬ wo.heap.size = w.heap.size := by omega
          have n2 : ¬ w.heap.size = wo.heap.size := by omega
          have n3 : ¬ wo.heap.size = sblk := by omega
          have n4 : ¬ sblk = wo.heap.size := by omega
          have hlw : w.heap.size < wo.heap.size := by omega
          have hlb : sblk < wo.heap.size := by omega
          clear hl sc0 i3 hslo ha1 has hb2 hs2
          go_wp2_with fail
          refine (show ∀ W, NextM ansL markA 31 wo l W → Code.wp Try.prog _ _ _ W from fun W hW => ?_) _ (nextM_mk rfl HB2.out HS2.out HA2.out)
          obtain ⟨hwb, hwm, hws⟩ := hW
          have HWB : Hid (Below wo.heap.size wo W) := hwb
          have HWM : Hid (Marked ansL markA 31 W wo.heap.size l) := hwm
          have HWS : Hid (W.heap.size = wo.heap.size + 1) := hws
          have HSPW : Hid (SpI w W _ _ _ ys ya) := HSP.out.later hwb
          obtain ⟨y0, y1, y2, yf⟩ := cell3 HSPW.out.y
          obtain ⟨z0, z1, z2, zf⟩ := cell3 HSPW.out.x
          have sc3 := kcell hwb sc1
          have hgb := own_block HOWN.out
          have HOWNW : Hid (W.ownsRow wA.heap.size 61 1 ya k vals) := own_later hwb HOWN.out
          have yf0 := yf 1
          obtain ⟨j0, hj', hj0, hj1, hj2⟩ := info_parts info61
          have ly : w.heap.size + 1 + 1 < W.heap.size := by omega
          have lAW : wA.heap.size ≤ W.heap.size := by omega
          have lx : w.heap.size < W.heap.size := by omega
          have lsw : sblk < W.heap.size := by omega
          have hle1 : (l.length : Int) ≤ ((l.length + 1 : Nat) : Int) := by omega
          have hle2 : (l.length : Int) ≤ (l.length : Int) + 1 := by omega
          have hle3 : w.heap.size ≤ w.heap.size + 1 + 1 := by omega
          have hle4 : sblk ≤ w.heap.size + 1 + 1 := by omega
          have hgb2 : ∀ g, ya.ownBlock = some g → (w.heap.size + 1 + 1) + 1 ≤ g := fun g hg => by have := (hgb g hg).1; omega
          clear hwb hwm hws x0 x1 x2 xf x0' sc1 sc2 t0 t0f t1 t1f hcp hmk y0 y2 yf z0 z2 zf
          go_region_law (
              (refine step_append_lies _ rfl (.tmp 85) (.tmp 94) 36 rfl wA.heap.size 61 j0 _ 1 24 Try.underlying36 hj' hj0 hj1 hj2 rfl (by decide) ya k vals rfl
                   (by first | exact own_later (below_alloc (Below.refl _ W).drew _) HOWNW.out | exact own_later (below_alloc (Below.refl _ W) _).drew HOWNW.out) ⟨W.heap.size, 0, none⟩ 1 1 [.slice (some ⟨wo.heap.size, 0, none⟩) l.length (l.length + 1)] rfl rfl (fun j u hj => cell_one_new W _ 61 j u hj) (by simp [Value.oneCell']) (by decide) (by unfold maxLen; omega) (by omega) (by simp; omega) _ rfl ?_
               intro g cpg w6 hown6 hgrow6 hat6 hlt6
               have yf6 : w6.frozen? ⟨w.heap.size + 1 + 1, 1, none⟩ = false := by
                 rw [hgrow6.frozen_far ⟨w.heap.size + 1 + 1, 1, none⟩ (by simp; omega) (fun e => by have := hgb2 _ e.symm; simp at this; omega)]
                 first | exact yf0 | (simp [go_sem, *]; done)
               have yc6 : w6.cell? ⟨w.heap.size + 1 + 1, 1, none⟩ = some ya := by
                 rw [hgrow6.cell_far ⟨w.heap.size + 1 + 1, 1, none⟩ (by simp; omega) (fun e => by have := hgb2 _ e.symm; simp at this; omega)]
                 first | exact y1 | (simp [go_sem, *]; done)
               have HG6 : Hid (W.grownBy w6 ya.ownBlock) := by first | exact grown_pre (below_alloc (Below.refl _ W).drew _) hgrow6 | exact grown_pre (below_alloc (Below.refl _ W) _).drew hgrow6
               clear hgrow6 hat6 hlt6))
          all_goals
            have HO6 : Hid (w6.ownsRow wA.heap.size 61 1 (.slice (some ⟨g, 0, none⟩) (k + 1) cpg) (k + 1) (vals ++ [.slice (some ⟨wo.heap.size, 0, none⟩) l.length (l.length + 1)])) := hown6
            clear hown6 y1 z1 sc3 yf0 yf6 yc6
            go_wp2_with fail
            go_roundw
            case rel =>
              refine ⟨k + 1, .slice (some ⟨g, 0, none⟩) (k + 1) cpg, vals ++ [.slice (some ⟨wo.heap.size, 0, none⟩) l.length (l.length + 1)], by omega, by go_num, HSP.out.put1 HWB.out HG6.out (fun g hg => hgb2 g hg), ?_, ?_, HBUT.out.step (by omega) HWB.out HG6.out (fun g hg => (hgb g hg).1) _ _⟩
              · exact ownsRow_setCell_below HO6.out (by simp; omega) _
              · have := made_next (by decide) (own_mono HOWN.out (by omega)) HMADE.out HWB.out (by rw [HL.out]; exact HWM.out) HWS.out HG6.out hyl 1 (.slice (some ⟨g, 0, none⟩) (k + 1) cpg)
                rw [HL.out] at this
                exact this
            case measure => simp [intOf]; omega
        · have : k = an.length := by omega
          subst this
          have HLA : Hid (Lent ansL markA 31 (w.heap.size + 1 + 1 + 1) wo ya an) := HMADE.out.lent HOWN.out
          have HLS2 : Hid (Lent callL markC 59 (w.heap.size + 1 + 1 + 1) wo ys sc) := HLS.out.but HBUT.out (fun g hg => by have := HYO.out g hg; omega) (by omega)
          have HYA : Hid (∀ g, ya.ownBlock = some g → w.heap.size + 1 + 1 + 1 ≤ g) := fun g hg => by have := (own_block HOWN.out g hg).1; omega
          clear HMADE HOWN HBUT HLS
          have hslo : SL 5 stepL wo (.slice o tr.length cao) tr := HTT.out.later HSP.out.below
          obtain ⟨w2, hcp, ha2, hb2, hs2⟩ := copied_steps hslo
          have hmk := make_steps tr.length bt
          have HA2 : Hid (∃ a : Array Value, w2.heap[wo.heap.size]? = some (.cells a 45 (0, 0)) ∧ a.size = (tr.length + 1) * 5 ∧ a.toList.take (tr.length * 5) = tr.flatMap stepL) := ha2
          obtain ⟨a, ha1, has, _⟩ := ha2
          obtain ⟨⟨t0v, t0⟩, t0f⟩ := cellA ha1 (j := tr.length * 5) (by omega)
          obtain ⟨⟨t1v, t1⟩, t1f⟩ := cellA ha1 (j := tr.length * 5 + 1) (by omega)
          obtain ⟨⟨t2v, t2⟩, t2f⟩ := cellA ha1 (j := tr.length * 5 + 2) (by omega)
          obtain ⟨⟨t3v, t3⟩, t3f⟩ := cellA ha1 (j := tr.length * 5 + 3) (by omega)
          obtain ⟨⟨t4v, t4⟩, t4f⟩ := cellA ha1 (j := tr.length * 5 + 4) (by omega)
          have HSP2 : Hid (SpI w w2 (.slice p sc.length cap) (.slice q an.length caq) (.slice o tr.length cao) ys ya) := HSP.out.later hb2
          obtain ⟨y0, y1, y2, yf⟩ := cell3 HSP2.out.y
          obtain ⟨r0, r1, r2, rf⟩ := cell3 HSP2.out.r
          obtain ⟨z0, z1, z2, zf⟩ := cell3 HSP2.out.x
          have yf2 := yf 2
          have rf0 := rf 0
          have rf1 := rf 1
          have rf2 := rf 2
          have HB2 : Hid (Below wo.heap.size wo w2) := hb2
          have HS2 : Hid (w2.heap.size = wo.heap.size + 1) := hs2
          have n1 : ¬ wo.heap.size = w.heap.size := by omega
          have n2 : ¬ w.heap.size = wo.heap.size := by omega
          have n3 : ¬ wo.heap.size = w.heap.size + 1 := by omega
          have n4 : ¬ w.heap.size + 1 = wo.heap.size := by omega
          have n5 : ¬ wo.heap.size = w.heap.size + 1 + 1 := by omega
          have n6 : ¬ w.heap.size + 1 + 1 = wo.heap.size := by omega
          have hlw : w.heap.size < wo.heap.size := by omega
          obtain ⟨psy, csy, hys, _⟩ := id HLS2.out
          subst hys
          obtain ⟨psa, csa, hya, _⟩ := id HLA.out
          subst hya
          clear hslo ha1 has hb2 hs2 yf rf zf x0 xf
          go_wp2_with fail
          have hN := nextM_mk (mark := markS) rfl HB2.out HS2.out HA2.out
          have L1 := HLS2.out.later hN.1
          have L2 := HLA.out.later hN.1
          have B0 := HSP.out.below.trans (hN.1.mono HSP.out.below.size)
          have sy : ∀ j c W', Lent callL markC 59 (w.heap.size + 1 + 1 + 1) W' (.slice psy sc.length csy) sc → Lent callL markC 59 (w.heap.size + 1 + 1 + 1) (World.setCell W' ⟨w.heap.size + 1 + 1, j, none⟩ c) (.slice psy sc.length csy) sc := fun j c W' h => h.setCell (fun g hg => by have := HYO.out g hg; simp; omega) (by simp) c
          have sr : ∀ j c W', Lent callL markC 59 (w.heap.size + 1 + 1 + 1) W' (.slice psy sc.length csy) sc → Lent callL markC 59 (w.heap.size + 1 + 1 + 1) (World.setCell W' ⟨w.heap.size + 1, j, none⟩ c) (.slice psy sc.length csy) sc := fun j c W' h => h.setCell (fun g hg => by have := HYO.out g hg; simp; omega) (by simp) c
          have ay : ∀ j c W', Lent ansL markA 31 (w.heap.size + 1 + 1 + 1) W' (.slice psa an.length csa) an → Lent ansL markA 31 (w.heap.size + 1 + 1 + 1) (World.setCell W' ⟨w.heap.size + 1 + 1, j, none⟩ c) (.slice psa an.length csa) an := fun j c W' h => h.setCell (fun g hg => by have := HYA.out g hg; simp; omega) (by simp) c
          have ar : ∀ j c W', Lent ansL markA 31 (w.heap.size + 1 + 1 + 1) W' (.slice psa an.length csa) an → Lent ansL markA 31 (w.heap.size + 1 + 1 + 1) (World.setCell W' ⟨w.heap.size + 1, j, none⟩ c) (.slice psa an.length csa) an := fun j c W' h => h.setCell (fun g hg => by have := HYA.out g hg; simp; omega) (by simp) c
          refine bodyPost_ret (v := .agg #[.slice psy sc.length csy, .slice psa an.length csa, .slice (some ⟨wo.heap.size, 0, none⟩) tr.length (tr.length + 1)]) (by simp [results, Try.results14, go_sem, *]) rfl
            ⟨_, _, wo.heap.size, rfl, (sr _ _ _ (sr _ _ _ (sr _ _ _ (sy _ _ _ L1)))).mono (by omega), (ar _ _ _ (ar _ _ _ (ar _ _ _ (ay _ _ _ L2)))).mono (by omega), by omega, ?_, ?_⟩
          · exact (((hN.2.1.setCell (by simp; omega) _).setCell (by simp; omega) _).setCell (by simp; omega) _).setCell (by simp; omega) _
          · exact (((B0.setCell (by simp; omega) _).setCell (by simp) _).setCell (by simp) _).setCell (by simp) _

end Go.Proofs.Yteniopbmkooomaa
