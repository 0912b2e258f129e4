/- Code walked alone, piece by piece; frames as lists of slots; memory that stays. -/
import Derived.Test.YtgohfdgkihoilaaRows
import Derived.Test.YtgohfdgkihoilaaAk
import Derived.WalkKit
import Derived.WalkSpells
import Derived.WalkLawsBesides
import Derived.Deep.QuietTactic
import Derived.BigQuiet
import Derived.Deep.MidRow
import Derived.Deep.LoopGhost
import Derived.Deep.RegionHeld3
import Derived.Deep.RegionLaw
import Derived.Deep.AppendLies
import Derived.BigRegion
import Derived.Maps.OwnSet
import Derived.Maps.OwnOps
import Derived.DeepKeys4
import Derived.Deep.SlicePairs
set_option linter.unusedSimpArgs false
set_option linter.unusedVariables false
namespace Go.Proofs.Ytgohfdgkihoilaa.Rcp
open Go Go.RowKit Go.Deep Go.Maps

abbrev I (n : Int) : Value := .int .i64 n
abbrev Bl (b : Bool) : Value := .bool b
abbrev P1 (b : Nat) : Value := .pointer (some ⟨b, 0, none⟩)

def seq1 : Code → Code | .seq x _ => x | c => c
def seq2 : Code → Code | .seq _ y => y | c => c
def condA : Code → Code | .cond _ x _ => x | c => c
def condB : Code → Code | .cond _ _ y => y | c => c
def blockC : Code → Code | .block _ c => c | c => c
def loopC : Code → Code | .loop c => c | c => c

def lits (u : Nat → Value) : Nat → Nat → List Value
  | _, 0 => []
  | s, n + 1 => u s :: lits u (s + 1) n
theorem lits_get (u : Nat → Value) : ∀ (n s i : Nat), (lits u s n)[i]? = if i < n then some (u (s + i)) else none
  | 0, s, i => by simp [lits]
  | n + 1, s, 0 => by simp [lits]
  | n + 1, s, i + 1 => by
    have := lits_get u n (s + 1) i
    simp only [lits, List.getElem?_cons_succ, this, Nat.add_lt_add_iff_right]
    rw [show s + 1 + i = s + (i + 1) by omega]
theorem litN {n : Nat} {a : Act} (h : a.tmps.size = n) (hd : a.defers = []) : ∃ u : Nat → Value, a = { tmps := (lits u 0 n).toArray, defers := [] } ∧ ∀ i, a.tmps.getD i undef = u i := by
  obtain ⟨⟨l⟩, ds⟩ := a
  simp only at hd h
  subst hd
  refine ⟨fun i => (Array.mk l).getD i undef, ?_, fun i => rfl⟩
  have e : l = lits (fun i => (Array.mk l).getD i undef) 0 n := by
    apply List.ext_getElem?
    intro i
    rw [lits_get]
    have hl : l.length = n := h
    by_cases hi : i < n
    · rw [if_pos hi, List.getElem?_eq_getElem (by omega)]
      simp [Array.getD, hl, hi]
    · rw [if_neg hi, List.getElem?_eq_none (by omega)]
  exact congrArg (fun x => ({ tmps := x.toArray, defers := [] } : Act)) e
/-- Slots of a frame of n slots. -/
def Fl (n : Nat) (l : List (Nat × Value)) (a : Act) : Prop := a.tmps.size = n ∧ a.defers = [] ∧ ∀ p ∈ l, a.tmps.getD p.1 undef = p.2
theorem Fl.sub {n : Nat} {l l' : List (Nat × Value)} {a : Act} (h : Fl n l a) (hs : ∀ p ∈ l', p ∈ l) : Fl n l' a := ⟨h.1, h.2.1, fun p hp => h.2.2 p (hs p hp)⟩
theorem Fl.at {n : Nat} {l : List (Nat × Value)} {a : Act} (h : Fl n l a) (k : Nat) (v : Value) (hs : (k, v) ∈ l) : a.eval (.tmp k) = v := h.2.2 (k, v) hs
theorem Fl.hd {n k : Nat} {c : Bool} {l : List (Nat × Value)} {a : Act} (h : Fl n ((k, .bool c) :: l) a) (hc : c = true) : a.eval (.tmp k) = .bool true := by subst hc; exact h.2.2 (k, .bool true) (.head _)
theorem Fl.hf {n k : Nat} {c : Bool} {l : List (Nat × Value)} {a : Act} (h : Fl n ((k, .bool c) :: l) a) (hc : c = false) : a.eval (.tmp k) = .bool false := by subst hc; exact h.2.2 (k, .bool false) (.head _)
theorem Fl.tl {n : Nat} {x : Nat × Value} {l : List (Nat × Value)} {a : Act} (h : Fl n (x :: l) a) : Fl n l a := ⟨h.1, h.2.1, fun p hp => h.2.2 p (.tail _ hp)⟩
theorem fl_enter (xs : Array Value) (m NT : Nat) (h : xs.size + m = NT) (l : List (Nat × Value)) (hl : ∀ p ∈ l, xs[p.1]? = some p.2) : Fl NT l { tmps := xs ++ Array.replicate m undef, defers := [] } := by
  refine ⟨by simp [h], rfl, fun p hp => ?_⟩
  have h1 := hl p hp
  have h2 : (xs ++ Array.replicate m undef)[p.1]? = some p.2 := by rw [Array.getElem?_append_left (Array.getElem?_eq_some_iff.1 h1).1]; exact h1
  rw [Array.getD_eq_getD_getElem?, h2]
  rfl

/-- It returns, and of what it returns this holds. -/
abbrev Ret (R : Value → World → Prop) : Ending → World → Prop := fun e w' => ∃ v, e = .returned v ∧ R v w'
theorem fin1 {fn : Func} {t : Tmp} {NT : Nat} {l : List (Nat × Value)} {a : Act} {w : World} {R : Value → World → Prop} (hr : fn.results = #[.tmp t]) (hA : Fl NT l a) (v : Value) (hv : (t, v) ∈ l) (h : R v w) : bodyPost Try.prog fn (Ret R) .ret a w :=
  bodyPost_ret (results_tmp hr _ _ _) hA.2.1 ⟨_, rfl, by rw [hA.2.2 (t, v) hv]; exact h⟩
theorem fin2 {fn : Func} {t u : Tmp} {NT : Nat} {l : List (Nat × Value)} {a : Act} {w : World} {R : Value → World → Prop} (hr : fn.results = #[.tmp t, .tmp u]) (hA : Fl NT l a) (v v2 : Value) (hv : (t, v) ∈ l) (hv2 : (u, v2) ∈ l) (h : R (.tuple #[v, v2]) w) : bodyPost Try.prog fn (Ret R) .ret a w :=
  bodyPost_ret (results_tmp2 hr _ _ _) hA.2.1 ⟨_, rfl, by rw [hA.2.2 (t, v) hv, hA.2.2 (u, v2) hv2]; exact h⟩
theorem fin0 {fn : Func} {NT : Nat} {l : List (Nat × Value)} {a : Act} {w : World} {R : Value → World → Prop} (hr : fn.results = #[]) (hA : Fl NT l a) (h : R (.tuple #[]) w) : bodyPost Try.prog fn (Ret R) .ret a w :=
  bodyPost_ret (results_none hr _ _ _) hA.2.1 ⟨_, rfl, h⟩
theorem fin0n {fn : Func} {NT : Nat} {l : List (Nat × Value)} {a : Act} {w : World} {R : Value → World → Prop} (hr : fn.results = #[]) (hA : Fl NT l a) (h : R (.tuple #[]) w) : bodyPost Try.prog fn (Ret R) .normal a w :=
  bodyPost_end (results_none hr _ _ _) hA.2.1 ⟨_, rfl, h⟩

section
variable {P : Program} {Q : Exit → Act → World → Prop} {a : Act} {w : World} {x y c : Code} {R : Act → World → Prop}
/-- A piece, and what follows it. -/
theorem wp_then (h : x.wp P (fun e a' w' => e = .normal ∧ R a' w') a w) (k : ∀ a' w', R a' w' → y.wp P Q a' w') : (Code.seq x y).wp P Q a w :=
  wp_seq (wp_mono h (fun e a w h => by obtain ⟨rfl, hr⟩ := h; exact k a w hr))
/-- A piece, the last one. -/
theorem wp_last (h : x.wp P (fun e a' w' => e = .normal ∧ R a' w') a w) (k : ∀ a' w', R a' w' → Q .normal a' w') : x.wp P Q a w :=
  wp_mono h (fun e a w h => by obtain ⟨rfl, hr⟩ := h; exact k a w hr)
/-- A loop that is left by its head's test. -/
theorem wp_while {id : Nat} {hd body : Code} {t : Nat} (I : Nat → Act → World → Prop) (n : Nat) (h0 : I n a w)
    (head : ∀ n a w, I n a w → ∃ (J : Act → World → Prop), hd.wp P (fun e a' w' => e = .normal ∧ J a' w') a w ∧
      ∀ a' w', J a' w' → (a'.eval (.tmp t) = .bool false ∧ Q .normal a' w') ∨ (a'.eval (.tmp t) = .bool true ∧ body.wp P (Exit.then (fun a'' w'' => ∃ n', n' < n ∧ I n' a'' w'') (Exit.inBlock id Q)) a' w')) :
    (Code.block id (.loop (.seq (.seq hd (.cond (.tmp t) .skip (.exit id))) body))).wp P Q a w := by
  refine wp_block (wp_loop_ghost I n h0 fun n a w hI => ?_)
  obtain ⟨J, h1, h2⟩ := head n a w hI
  refine wp_seq (wp_then h1 fun a' w' hJ => ?_)
  rcases h2 a' w' hJ with ⟨e, hq⟩ | ⟨e, hb⟩
  · refine wp_cond_false e (wp_exit ?_)
    show if id = id then Q .normal a' w' else _
    rw [if_pos rfl]
    exact hq
  · exact wp_cond_true e (wp_skip hb)
/-- The same, of a range. -/
theorem wp_range {id : Nat} {hd body : Code} {t : Nat} (I : Nat → Act → World → Prop) (n : Nat) (h0 : I n a w)
    (head : ∀ n a w, I n a w → ∃ (J : Act → World → Prop), hd.wp P (fun e a' w' => e = .normal ∧ J a' w') a w ∧
      ∀ a' w', J a' w' → (a'.eval (.tmp t) = .bool false ∧ Q .normal a' w') ∨ (a'.eval (.tmp t) = .bool true ∧ body.wp P (Exit.then (fun a'' w'' => ∃ n', n' < n ∧ I n' a'' w'') (Exit.inBlock id Q)) a' w')) :
    (Code.block id (.loop (.seq hd (.seq (.cond (.tmp t) .skip (.exit id)) body)))).wp P Q a w := by
  refine wp_block (wp_loop_ghost I n h0 fun n a w hI => ?_)
  obtain ⟨J, h1, h2⟩ := head n a w hI
  refine wp_then h1 fun a' w' hJ => ?_
  rcases h2 a' w' hJ with ⟨e, hq⟩ | ⟨e, hb⟩
  · refine wp_seq (wp_cond_false e (wp_exit ?_))
    show if id = id then Q .normal a' w' else _
    rw [if_pos rfl]
    exact hq
  · exact wp_seq (wp_cond_true e (wp_skip hb))
theorem wp_nil (h : Q .normal a w) : Code.skip.wp P Q a w := wp_skip h
end

/-- What stands in the blocks of Z stays. -/
structure Kp (Z : Nat → Prop) (w w' : World) : Prop where
  os : w'.os = w.os
  tape : w'.tape = w.tape
  output : w'.output = w.output
  size : w.heap.size ≤ w'.heap.size
  block : ∀ k, Z k → w'.heap[k]? = w.heap[k]?
section
variable {Z Z' : Nat → Prop} {a b c w w' : World}
theorem Kp.refl (Z : Nat → Prop) (w : World) : Kp Z w w := ⟨rfl, rfl, rfl, Nat.le_refl _, fun _ _ => rfl⟩
theorem Kp.trans (h : Kp Z a b) (k : Kp Z b c) : Kp Z a c := ⟨k.os.trans h.os, k.tape.trans h.tape, k.output.trans h.output, Nat.le_trans h.size k.size, fun i hi => (k.block i hi).trans (h.block i hi)⟩
theorem Kp.mono (h : Kp Z w w') (hZ : ∀ i, Z' i → Z i) : Kp Z' w w' := ⟨h.os, h.tape, h.output, h.size, fun i hi => h.block i (hZ i hi)⟩
theorem Kp.below (h : Below w.heap.size w w') (hZ : ∀ i, Z i → i < w.heap.size) : Kp Z w w' := ⟨h.os, h.tape, h.output, h.size, fun i hi => h.block i (hZ i hi)⟩
theorem Kp.toBelow {B : Nat} (h : Kp (fun i => i < B) w w') : Below B w w' := ⟨h.os, h.tape, h.output, h.size, h.block⟩
theorem Kp.ofBelow {B : Nat} (h : Below B w w') : Kp (fun i => i < B) w w' := ⟨h.os, h.tape, h.output, h.size, h.block⟩
theorem Kp.heap (h1 : w'.os = w.os) (h2 : w'.tape = w.tape) (h3 : w'.output = w.output) (h4 : w'.heap = w.heap) : Kp Z w w' := ⟨h1, h2, h3, by rw [h4]; exact Nat.le_refl _, fun _ _ => by rw [h4]⟩
theorem Kp.drewN (w : World) (n : Nat) : Kp Z w (w.drewN n) := ⟨rfl, rfl, rfl, Nat.le_refl _, fun _ _ => rfl⟩
theorem Kp.drew (w : World) : Kp Z w w.drew := ⟨rfl, rfl, rfl, Nat.le_refl _, fun _ _ => rfl⟩
theorem Kp.alloc (hZ : ∀ i, Z i → i < w.heap.size) (o : Obj) : Kp Z w (w.alloc o) := ⟨rfl, rfl, rfl, by simp, fun k hk => Below.heap_alloc _ _ _ (hZ k hk)⟩
theorem Kp.setCell {p : Addr} (hp : ¬ Z p.block) (u : Value) : Kp Z w (w.setCell p u) := ⟨rfl, rfl, rfl, by simp [World.setCell], fun k hk => Below.heap_setCell _ _ _ _ (fun e => hp (e ▸ hk))⟩
theorem Kp.grown {row : Option Nat} (hg : w.grownBy w' row) (hZ : ∀ i, Z i → i < w.heap.size) (hr : ∀ k, row = some k → ¬ Z k) : Kp Z w w' :=
  ⟨hg.os, hg.tape, hg.output, hg.size, fun k hk => hg.block k (hZ k hk) (fun e => hr k e.symm hk)⟩
theorem Kp.cell (h : Kp Z w w') {p : Addr} {v : Value} (hp : Z p.block) (hc : w.cell? p = some v) : w'.cell? p = some v := by
  rw [World.cell?_of_block (w := w) (h.block p.block hp)]; exact hc
theorem Kp.range (h : Kp Z w w') {b o : Nat} {cs : List Value} (hb : Z b) (hc : w.rangeAt b o cs) : w'.rangeAt b o cs := fun j v hj => h.cell hb (hc j v hj)
theorem Kp.lt (h : Kp Z w w') (hZ : ∀ i, Z i → i < w.heap.size) : ∀ i, Z i → i < w'.heap.size := fun i hi => Nat.lt_of_lt_of_le (hZ i hi) h.size
end

/-- A slice of ints, in blocks of Z. -/
def IL (Z : Nat → Prop) (w : World) (v : Value) (ns : List Int) : Prop :=
  ∃ p cap, v = .slice p ns.length cap ∧ ns.length ≤ 9223372036854775807 ∧ ∀ i x, ns[i]? = some x → ∃ blk off, p = some ⟨blk, off, none⟩ ∧ Z blk ∧ w.cell? ⟨blk, off + i, none⟩ = some (I x)
theorem IL.kp {Z : Nat → Prop} {w w' : World} {v : Value} {ns : List Int} (k : Kp Z w w') (h : IL Z w v ns) : IL Z w' v ns := by
  obtain ⟨p, cap, rfl, h1, h2⟩ := h
  refine ⟨p, cap, rfl, h1, fun i x hi => ?_⟩
  obtain ⟨blk, off, e, hz, hc⟩ := h2 i x hi
  exact ⟨blk, off, e, hz, k.cell hz hc⟩
theorem IL.mono {Z Z' : Nat → Prop} {w : World} {v : Value} {ns : List Int} (hZ : ∀ i, Z i → Z' i) (h : IL Z w v ns) : IL Z' w v ns := by
  obtain ⟨p, cap, rfl, h1, h2⟩ := h
  refine ⟨p, cap, rfl, h1, fun i x hi => ?_⟩
  obtain ⟨blk, off, e, hz, hc⟩ := h2 i x hi
  exact ⟨blk, off, e, hZ _ hz, hc⟩
abbrev rcL (nv : Value) (r : Rc) : List Value := [nv, I r.level, I r.act, I r.value, I r.fin]
abbrev rcC (nv : Value) (r : Rc) : Array Value := #[nv, I r.level, I r.act, I r.value, I r.fin]
/-- A slice of recipes, in blocks of Z. -/
def RL (Z : Nat → Prop) (w : World) (v : Value) (l : List Rc) : Prop :=
  ∃ p cap, v = .slice p l.length cap ∧ l.length ≤ 9223372036854775807 ∧ ∀ i r, l[i]? = some r → ∃ blk off nv, p = some ⟨blk, off, none⟩ ∧ Z blk ∧ w.rangeAt blk (off + i * 5) (rcL nv r) ∧ IL Z w nv r.needs
theorem RL.kp {Z : Nat → Prop} {w w' : World} {v : Value} {l : List Rc} (k : Kp Z w w') (h : RL Z w v l) : RL Z w' v l := by
  obtain ⟨p, cap, rfl, h1, h2⟩ := h
  refine ⟨p, cap, rfl, h1, fun i x hi => ?_⟩
  obtain ⟨blk, off, nv, e, hz, hc, hn⟩ := h2 i x hi
  exact ⟨blk, off, nv, e, hz, k.range hz hc, hn.kp k⟩
theorem RL.mono {Z Z' : Nat → Prop} {w : World} {v : Value} {l : List Rc} (hZ : ∀ i, Z i → Z' i) (h : RL Z w v l) : RL Z' w v l := by
  obtain ⟨p, cap, rfl, h1, h2⟩ := h
  refine ⟨p, cap, rfl, h1, fun i x hi => ?_⟩
  obtain ⟨blk, off, nv, e, hz, hc, hn⟩ := h2 i x hi
  exact ⟨blk, off, nv, e, hZ _ hz, hc, hn.mono hZ⟩
theorem getD_some {α : Type} {l : List α} {i : Nat} (h : i < l.length) (d : α) : l[i]? = some (l.getD i d) := by
  rw [List.getD_eq_getElem?_getD, List.getElem?_eq_getElem h]; rfl
/-- A recipe's cells. -/
theorem RL.at {Z : Nat → Prop} {w : World} {p : Option Addr} {n cap : Nat} {l : List Rc} (h : RL Z w (.slice p n cap) l) {k : Nat} (hk : k < l.length) : ∃ blk off nv, p = some ⟨blk, off, none⟩ ∧ Z blk ∧ w.rangeAt blk (off + k * 5) (rcL nv (l.getD k r0)) ∧ IL Z w nv (l.getD k r0).needs ∧
    w.cell? ⟨blk, off + k * 5, none⟩ = some nv ∧ w.cell? ⟨blk, off + k * 5 + 1, none⟩ = some (I (l.getD k r0).level) ∧ w.cell? ⟨blk, off + k * 5 + 2, none⟩ = some (I (l.getD k r0).act) ∧ w.cell? ⟨blk, off + k * 5 + 3, none⟩ = some (I (l.getD k r0).value) ∧ w.cell? ⟨blk, off + k * 5 + 4, none⟩ = some (I (l.getD k r0).fin) := by
  obtain ⟨p', cap', e, h1, h2⟩ := h
  cases e
  obtain ⟨blk, off, nv, e, hz, hc, hn⟩ := h2 k _ (getD_some hk r0)
  exact ⟨blk, off, nv, e, hz, hc, hn, by simpa using hc 0 _ rfl, hc 1 _ rfl, hc 2 _ rfl, hc 3 _ rfl, hc 4 _ rfl⟩
theorem IL.at {Z : Nat → Prop} {w : World} {p : Option Addr} {n cap : Nat} {l : List Int} (h : IL Z w (.slice p n cap) l) {k : Nat} (hk : k < l.length) : ∃ blk off, p = some ⟨blk, off, none⟩ ∧ Z blk ∧ w.cell? ⟨blk, off + k, none⟩ = some (I (l.getD k 0)) := by
  obtain ⟨p', cap', e, h1, h2⟩ := h
  cases e
  exact h2 k _ (getD_some hk 0)
theorem IL.len {Z : Nat → Prop} {w : World} {p : Option Addr} {n cap : Nat} {l : List Int} (h : IL Z w (.slice p n cap) l) : n = l.length ∧ l.length ≤ 9223372036854775807 := by
  obtain ⟨p', cap', e, h1, h2⟩ := h
  cases e
  exact ⟨rfl, h1⟩
theorem RL.len {Z : Nat → Prop} {w : World} {p : Option Addr} {n cap : Nat} {l : List Rc} (h : RL Z w (.slice p n cap) l) : n = l.length ∧ l.length ≤ 9223372036854775807 := by
  obtain ⟨p', cap', e, h1, h2⟩ := h
  cases e
  exact ⟨rfl, h1⟩

/-! maps -/
theorem lawI : Keyed Try.prog 3 := int_keyed Try.underlying3
theorem zero72 (w : World) : (zeroValue 72).run Try.prog w = .ok (.agg #[]) w := by kernel_rfl
theorem zero3 (w : World) : (zeroValue 3).run Try.prog w = .ok (.int .i64 0) w := by kernel_rfl
abbrev kI (k : Int) : Lit := .int .i64 k
def wfI (k : Int) : Prop := -9223372036854775808 ≤ k ∧ k ≤ 9223372036854775807
theorem keyI {k : Int} (h : wfI k) : keyOf Try.prog 3 (I k) = some (kI k) := keyOf_int_mk Try.underlying3 (WalkArith.wf_i64 h)
/-- A map that is a set of ints. -/
def SetM (w : World) (b n : Nat) (U : Int → Prop) : Prop := ∃ D : DataW Unit, w.ownsMap Try.prog 3 unitElem b n D ∧ ∀ k, wfI k → (Maps.has D (kI k) = true ↔ U k)
/-- A map from ints to ints. -/
def MapM (w : World) (b n : Nat) (T : Int → Prop) (V : Int → Int) : Prop := ∃ D : DataW Unit, w.ownsMap Try.prog 3 (plainElem Try.prog 3) b n D ∧ ∀ k, wfI k → (Maps.has D (kI k) = true ↔ T k) ∧ (T k → D.atKey (kI k) (.lit (.int .i64 0)) = .lit (.int .i64 (V k))) ∧ (¬ T k → D.atKey (kI k) (.lit (.int .i64 0)) = .lit (.int .i64 0))
end Go.Proofs.Ytgohfdgkihoilaa.Rcp
