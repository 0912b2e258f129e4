/-
  Slices in memory, and slices of slices; what alike, begun and goesOn of package history do.
-/
import Derived.Test.YteniopbmkooomaaExpl
import Derived.Deep.RegionHeld3
namespace Go.Proofs.Yteniopbmkooomaa
open Go.RowKit Hi Go.Deep Go.Maps

/-- A slice holds a list, n cells an element. -/
def SL {α : Type} (n : Nat) (enc : α → List Value) (w : World) (v : Value) (l : List α) : Prop :=
  ∃ p cap, v = .slice p l.length cap ∧ l.length ≤ cap ∧ cap ≤ maxLen ∧ ∀ i a, l[i]? = some a → ∃ blk off, p = some ⟨blk, off, none⟩ ∧ blk < w.heap.size ∧ w.rangeAt blk (off + i * n) (enc a)

/-- A slice holds slices that hold lists. -/
def SS {α : Type} (n : Nat) (enc : α → List Value) (w : World) (v : Value) (ll : List (List α)) : Prop :=
  ∃ p cap, v = .slice p ll.length cap ∧ ll.length ≤ cap ∧ cap ≤ maxLen ∧ ∀ i l, ll[i]? = some l → ∃ blk off vi, p = some ⟨blk, off, none⟩ ∧ w.cell? ⟨blk, off + i, none⟩ = some vi ∧ SL n enc w vi l

theorem SL.later {α : Type} {n : Nat} {enc : α → List Value} {w w' : World} {v : Value} {l : List α} (hb : Below w.heap.size w w') (h : SL n enc w v l) : SL n enc w' v l := by
  obtain ⟨p, cap, rfl, h1, h2, h3⟩ := h
  refine ⟨p, cap, rfl, h1, h2, fun i a hi => ?_⟩
  obtain ⟨blk, off, e, hlt, hr⟩ := h3 i a hi
  exact ⟨blk, off, e, Nat.lt_of_lt_of_le hlt hb.size, range_later hb hr hlt⟩

theorem SS.later {α : Type} {n : Nat} {enc : α → List Value} {w w' : World} {v : Value} {ll : List (List α)} (hb : Below w.heap.size w w') (h : SS n enc w v ll) : SS n enc w' v ll := by
  obtain ⟨p, cap, rfl, h1, h2, h3⟩ := h
  refine ⟨p, cap, rfl, h1, h2, fun i l hi => ?_⟩
  obtain ⟨blk, off, vi, e, hc, hs⟩ := h3 i l hi
  exact ⟨blk, off, vi, e, by rw [hb.cell (p := ⟨blk, off + i, none⟩) (World.block_lt_of_cell? _ _ hc)]; exact hc, hs.later hb⟩

/-- Calls, answers, steps. -/
structure Call where
  op : Int
  a : Int
  b : Int
  c : Int
structure Step where
  thr : Int
  cel : Int
  op : Int
  old : Int
  new : Int
def callL (c : Call) : List Value := [I c.op, I c.a, I c.b, I c.c]
def ansL (a : Int × Int) : List Value := [I a.1, I a.2]
def stepL (s : Step) : List Value := [I s.thr, I s.cel, I s.op, I s.old, I s.new]
abbrev stepV (s : Step) : Value := .agg #[I s.thr, I s.cel, I s.op, I s.old, I s.new]
abbrev callV (c : Call) : Value := .agg #[I c.op, I c.a, I c.b, I c.c]

/-- As many answers as calls, everywhere. -/
def Alike (sc : List (List Call)) (an : List (List (Int × Int))) : Prop := sc.length = an.length ∧ ∀ i, i < sc.length → (sc.getD i []).length = (an.getD i []).length

theorem getD_some {α : Type} {l : List α} {i : Nat} (h : i < l.length) (d : α) : l[i]? = some (l.getD i d) := by
  rw [List.getD_eq_getElem?_getD, List.getElem?_eq_getElem h]; rfl

set_option maxHeartbeats 1000000 in
set_option maxRecDepth 100000 in
theorem alike_any (sv av : Value) (sc : List (List Call)) (an : List (List (Int × Int))) (w : World) (hs : SS 4 callL w sv sc) (ha : SS 2 ansL w av an) :
    Calls Try.prog 37 #[sv, av] w fun e w' => RetB e (Alike sc an) ∧ w' = w := by
  obtain ⟨p, cap, rfl, h1, h2, h3⟩ := hs
  obtain ⟨q, cap2, rfl, g1, g2, g3⟩ := ha
  unfold maxLen at h2 g2
  by_cases hl : sc.length = an.length
  · have hl' : ((sc.length : Int) != (an.length : Int)) = false := by simp [hl]
    have HL : Hid (sc.length = an.length) := hl
    clear hl
    go_enter Try.func37, Try.ntmps37
    go_wp2
    go_loop [14] (fun i => ∃ k : Nat, k ≤ sc.length ∧ i = .int .i64 k ∧ ∀ i, i < k → (sc.getD i []).length = (an.getD i []).length) (fun i => sc.length - (intOf i).toNat)
    case atStart => exact ⟨0, Nat.zero_le _, rfl, fun i hi => absurd hi (Nat.not_lt_zero _)⟩
    case round =>
      obtain ⟨k, hk, rfl, hso⟩ := hrel
      by_cases hlt : k < sc.length
      · obtain ⟨blk, off, vi, rfl, hc, ⟨p2, cp2, rfl, i1, i2, _⟩⟩ := h3 k _ (getD_some hlt [])
        obtain ⟨blk', off', vi', rfl, hc', ⟨p3, cp3, rfl, j1, j2, _⟩⟩ := g3 k _ (getD_some (by have := HL.out; omega) [])
        have hlt2 : k < an.length := by have := HL.out; omega
        unfold maxLen at i2 j2
        have HSO : Hid (∀ i, i < k → (sc.getD i []).length = (an.getD i []).length) := hso
        clear hso h3 g3
        generalize hna : (sc.getD k []).length = na at hc i1
        generalize hnb : (an.getD k []).length = nb at hc' j1
        have HNA : Hid ((sc.getD k []).length = na) := hna
        have HNB : Hid ((an.getD k []).length = nb) := hnb
        clear hna hnb
        by_cases he : na = nb
        · have HEQ : Hid (na = nb) := he
          have he' : ((na : Int) != (nb : Int)) = false := by simp [he]
          clear he
          go_wp2
          go_round
          case rel => exact ⟨k + 1, by omega, by go_num, upto_succ HSO.out (HNA.out.trans (HEQ.out.trans HNB.out.symm))⟩
          case measure => simp [intOf]; omega
        · have HEQ : Hid (¬ na = nb) := he
          have he' : ((na : Int) != (nb : Int)) = true := by simpa using (by omega : ¬ ((na : Int) = (nb : Int)))
          clear he
          go_wp2
          go_ret
          exact ⟨retB_no rfl (fun h => HEQ.out (HNA.out.symm.trans ((h.2 k hlt).trans HNB.out))), rfl⟩
      · go_wp2
        go_ret
        have : k = sc.length := by omega
        subst this
        exact ⟨retB_yes rfl ⟨HL.out, hso⟩, rfl⟩
  · have hl' : ((sc.length : Int) != (an.length : Int)) = true := by simpa using (by omega : ¬ ((sc.length : Int) = (an.length : Int)))
    have HL : Hid (¬ sc.length = an.length) := hl
    clear hl
    go_enter Try.func37, Try.ntmps37
    go_wp2
    go_ret
    exact ⟨retB_no rfl (fun h => HL.out h.1), rfl⟩

/-- The event of a call that has begun. -/
def begunEv (t k : Int) (c : Call) : Ev := ⟨t, c.op, c.a, c.b, k, -1, 4, 0⟩

set_option maxHeartbeats 400000 in
theorem begun_any (t k : Int) (c : Call) (w : World) :
    Calls Try.prog 39 #[I t, I k, callV c] w fun e w' => e = .returned (evV (begunEv t k c)) ∧ Below w.heap.size w w' := by
  go_enter Try.func39, Try.ntmps39
  go_wp2
  refine bodyPost_ret (v := evV (begunEv t k c)) (by simp [results, Try.results39, go_sem, begunEv]) rfl ⟨rfl, ?_⟩
  repeat (first | exact Below.refl _ _ | refine Below.alloc ?_ (by simp; try omega) _)

set_option maxHeartbeats 1000000 in
theorem goesOn_begin (bt t b e : Nat) (s : Step) (av : Value) (al : List (Int × Int)) (w : World) (hop : s.op = 9) (hb : (b : Int) ≤ 4611686018427387904)
    (c0 : w.cell? ⟨bt, t * 3, none⟩ = some (I b)) (f0 : w.frozen? ⟨bt, t * 3, none⟩ = false) (c1 : w.cell? ⟨bt, t * 3 + 1, none⟩ = some (I e)) (w0 : World) (ha : SL 2 ansL w0 av al) :
    Calls Try.prog 38 #[.pointer (some ⟨bt, t * 3, none⟩), stepV s, av] w fun ed w' => RetB ed (b = e ∧ b < al.length ∧ s.old = b ∧ s.new = 0) ∧
      w' = (w.setCell ⟨bt, t * 3, none⟩ (I (b + 1 : Nat))).alloc (.cells #[I s.thr, I s.cel, I s.op, I s.old, I s.new] 45) := by
  obtain ⟨q, cap2, rfl, g1, g2, g3⟩ := ha
  unfold maxLen at g2
  have lt := World.block_lt_of_cell? _ _ c0
  simp only [] at lt
  have hop' : (s.op == 9) = true := by simpa using hop
  have HOP : Hid (s.op = 9) := hop
  clear g3 hop
  by_cases h1 : b = e
  · have h1' : ((b : Int) == (e : Int)) = true := by simp [h1]
    have H1 : Hid (b = e) := h1
    clear h1
    by_cases h2 : b < al.length
    · by_cases h3 : s.old = b
      · have h3' : (s.old == (b : Int)) = true := by simpa using h3
        have H3 : Hid (s.old = b) := h3
        clear h3
        go_enter Try.func38, Try.ntmps38
        go_wp2
        go_ret
        exact ⟨⟨_, rfl, by simp [H1.out, H3.out]; have := H1.out; omega⟩, by simp⟩
      · have h3' : (s.old == (b : Int)) = false := by simpa using h3
        have H3 : Hid (¬ s.old = b) := h3
        clear h3
        go_enter Try.func38, Try.ntmps38
        go_wp2
        go_ret
        exact ⟨retB_no rfl (fun h => H3.out h.2.2.1), by simp⟩
    · go_enter Try.func38, Try.ntmps38
      go_wp2
      go_ret
      exact ⟨retB_no rfl (fun h => by omega), by simp⟩
  · have h1' : ((b : Int) == (e : Int)) = false := by simpa using (by omega : ¬ ((b : Int) = (e : Int)))
    have H1 : Hid (¬ b = e) := h1
    clear h1
    go_enter Try.func38, Try.ntmps38
    go_wp2
    go_ret
    exact ⟨retB_no rfl (fun h => H1.out h.1), by simp⟩

set_option maxHeartbeats 1000000 in
theorem goesOn_end (bt t b e : Nat) (s : Step) (av : Value) (al : List (Int × Int)) (w : World) (hop : s.op = 10) (he : (e : Int) ≤ 4611686018427387904) (hbl : b ≤ al.length)
    (c0 : w.cell? ⟨bt, t * 3, none⟩ = some (I b)) (c1 : w.cell? ⟨bt, t * 3 + 1, none⟩ = some (I e)) (f1 : w.frozen? ⟨bt, t * 3 + 1, none⟩ = false) (w0 : World) (hw0 : Below w0.heap.size w0 w) (hbt : w0.heap.size ≤ bt) (ha : SL 2 ansL w0 av al) :
    Calls Try.prog 38 #[.pointer (some ⟨bt, t * 3, none⟩), stepV s, av] w fun ed w' => RetB ed (e < b ∧ s.old = e ∧ s.new = (al.getD e (0, 0)).1) ∧
      ∃ q, w' = ((w.setCell ⟨bt, t * 3 + 1, none⟩ (I (e + 1 : Nat))).alloc (.cells #[I s.thr, I s.cel, I s.op, I s.old, I s.new] 45)).drewN q := by
  obtain ⟨p, cap2, rfl, g1, g2, g3⟩ := ha
  unfold maxLen at g2
  have lt := World.block_lt_of_cell? _ _ c0
  simp only [] at lt
  have hop' : (s.op == 9) = false := by rw [hop]; rfl
  have HOP : Hid (s.op = 10) := hop
  clear hop
  by_cases h1 : e < b
  · by_cases h3 : s.old = e
    · have h3' : (s.old == (e : Int)) = true := by simpa using h3
      have H3 : Hid (s.old = e) := h3
      clear h3
      obtain ⟨blk, off, rfl, hlt, hr⟩ := g3 e _ (getD_some (by omega) (0, 0))
      generalize hx : al.getD e (0, 0) = x at hr
      have HX : Hid (al.getD e (0, 0) = x) := hx
      have cx := range_later hw0 hr hlt 0 _ rfl
      simp only [Nat.add_zero] at cx
      have hne : ¬ bt = blk := by omega
      have hne2 : ¬ blk = bt := by omega
      have lb : blk < w.heap.size := by have := hw0.size; omega
      have hel : e < al.length := by omega
      clear g3 hx hr
      go_enter Try.func38, Try.ntmps38
      go_wp2_with fail
      go_quiet (fail)
      go_wp2
      go_ret
      exact ⟨⟨_, rfl, by simp [H3.out, h1]⟩, _, rfl⟩
    · have h3' : (s.old == (e : Int)) = false := by simpa using h3
      have H3 : Hid (¬ s.old = e) := h3
      clear h3 g3
      go_enter Try.func38, Try.ntmps38
      go_wp2_with fail
      go_quiet (fail)
      go_wp2
      go_ret
      exact ⟨retB_no rfl (fun h => H3.out h.2.1), _, rfl⟩
  · clear g3
    have h1' : decide ((e : Int) < (b : Int)) = false := by simp; omega
    go_enter Try.func38, Try.ntmps38
    go_wp2_with fail
    go_quiet (fail)
    go_wp2
    go_ret
    exact ⟨retB_no rfl (fun h => h1 h.1), _, rfl⟩

end Go.Proofs.Yteniopbmkooomaa
