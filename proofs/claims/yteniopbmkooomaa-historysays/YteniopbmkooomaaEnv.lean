/-
  What stands in memory while a search goes on: the captured variables, and the map of what was tried in vain.
-/
import Derived.Test.YteniopbmkooomaaRanks
import Derived.Maps.OwnSet
import Derived.DeepKeys4
namespace Go.Proofs.Yteniopbmkooomaa
open Go.RowKit Hi Go.Deep Go.Maps

abbrev P1 (b : Nat) : Value := .pointer (some ⟨b, 0, none⟩)

/-- From w to w' only the map in block bm was changed, and memory was made. -/
def Frm (bm : Nat) (w w' : World) : Prop := w.grownBy w' (some bm) ∧ ∃ es c, w.heap[bm]? = some (.map es c)

theorem Frm.ne {bm : Nat} {w w' : World} (h : Frm bm w w') {a : Addr} {v : Value} (hc : w.cell? a = some v) : a.block ≠ bm := fun e => by
  obtain ⟨_, es, c, hm⟩ := h
  unfold World.cell? at hc
  rw [e, hm] at hc
  simp at hc
theorem Frm.cell {bm : Nat} {w w' : World} (h : Frm bm w w') {a : Addr} {v : Value} (hc : w.cell? a = some v) : w'.cell? a = some v := by
  have hlt := World.block_lt_of_cell? _ _ hc
  rw [World.cell?_of_block (w := w) (h.1.block a.block hlt (fun e => h.ne hc (Option.some.inj e)))]
  exact hc
theorem Frm.range {bm : Nat} {w w' : World} (h : Frm bm w w') {b o : Nat} {cs : List Value} (hc : w.rangeAt b o cs) : w'.rangeAt b o cs := fun j v hj => h.cell (hc j v hj)
theorem Frm.row {bm : Nat} {w w' : World} (h : Frm bm w w') {b : Nat} {t : TypeId} {n : Nat} {f : Nat → Value} (hr : w.rowIs b t n f) : w'.rowIs b t n f := by
  refine hr.of_block (h.1.block b hr.lt fun e => ?_)
  obtain ⟨c, hc, _⟩ := hr
  obtain ⟨_, es, k, hm⟩ := h
  have := Option.some.inj e
  subst this
  rw [hc] at hm; cases hm
theorem Frm.evs {bm : Nat} {w w' : World} (h : Frm bm w w') {v : Value} {l : List Ev} (hE : Evs w v l) : Evs w' v l := by
  obtain ⟨p, cap, rfl, h1, h2, h3⟩ := hE
  refine ⟨p, cap, rfl, h1, h2, fun i hi => ?_⟩
  obtain ⟨blk, off, e, hr⟩ := h3 i hi
  exact ⟨blk, off, e, h.range hr⟩
theorem Frm.outs {σ : Type} {enc : σ → List Value} {n : Nat} {bm : Nat} {w w' : World} (h : Frm bm w w') {v : Value} {l : List ((Int × Int) × σ)} (hE : Outs n enc w v l) : Outs n enc w' v l := by
  obtain ⟨p, rfl, h3⟩ := hE
  refine ⟨p, rfl, fun i o hi => ?_⟩
  obtain ⟨blk, e, hr⟩ := h3 i o hi
  exact ⟨blk, e, h.range hr⟩
theorem Frm.lt {bm : Nat} {w w' : World} (h : Frm bm w w') : bm < w.heap.size := by
  obtain ⟨_, es, c, hm⟩ := h
  exact (Array.getElem?_eq_some_iff.1 hm).1
theorem Frm.trans {bm : Nat} {a b c : World} (h : Frm bm a b) (k : Frm bm b c) : Frm bm a c :=
  ⟨⟨k.1.os.trans h.1.os, k.1.tape.trans h.1.tape, k.1.output.trans h.1.output, Nat.le_trans h.1.size k.1.size, fun i hi hn => (k.1.block i (Nat.lt_of_lt_of_le hi h.1.size) hn).trans (h.1.block i hi hn)⟩, h.2⟩
theorem Frm.below {bm : Nat} {a b c : World} (h : Frm bm a b) (k : Below b.heap.size b c) : Frm bm a c :=
  ⟨⟨k.os.trans h.1.os, k.tape.trans h.1.tape, k.output.trans h.1.output, Nat.le_trans h.1.size k.size, fun i hi hn => (k.block i (Nat.lt_of_lt_of_le hi h.1.size)).trans (h.1.block i hi hn)⟩, h.2⟩
theorem Frm.alloc {bm : Nat} {a b : World} (h : Frm bm a b) (o : Obj) : Frm bm a (b.alloc o) := h.below (below_alloc (Below.refl _ _) o)
theorem Frm.drew {bm : Nat} {a b : World} (h : Frm bm a b) : Frm bm a b.drew := ⟨⟨h.1.os, h.1.tape, h.1.output, h.1.size, h.1.block⟩, h.2⟩
theorem below_drewN {B : Nat} {a w : World} (h : Below B a w) (n : Nat) : Below B a (w.drewN n) := h.trans ⟨rfl, rfl, rfl, Nat.le_refl _, fun _ _ => rfl⟩
theorem Frm.drewN {bm : Nat} {a b : World} (h : Frm bm a b) (n : Nat) : Frm bm a (b.drewN n) := h.below (below_drewN (Below.refl _ _) n)
theorem Frm.refl {bm : Nat} {w : World} {es : Array MapEntry} {c : Nat} (h : w.heap[bm]? = some (.map es c)) : Frm bm w w :=
  ⟨⟨rfl, rfl, rfl, Nat.le_refl _, fun _ _ _ => rfl⟩, es, c, h⟩

/-- The map in block bm holds only keys of which Q holds. -/
def Vain (K : TypeId) (Q : Value → Prop) (w : World) (bm n : Nat) : Prop :=
  ∃ D : DataW Unit, w.ownsMap Try.prog K unitElem bm n D ∧ ∀ key kl, keyOf Try.prog K key = some kl → Maps.has D kl = true → Q key

theorem Vain.frm {K : TypeId} {Q : Value → Prop} {w : World} {bm n : Nat} (h : Vain K Q w bm n) : Frm bm w w := by
  obtain ⟨D, ⟨es, c, hb, _⟩, _⟩ := h
  exact Frm.refl hb
theorem Vain.below {K : TypeId} {Q : Value → Prop} {w w' : World} {bm n : Nat} (h : Vain K Q w bm n) (k : Below w.heap.size w w') : Vain K Q w' bm n := by
  have hf := h.frm
  obtain ⟨D, ⟨es, c, hb, r⟩, hQ⟩ := h
  exact ⟨D, ⟨es, c, (k.block bm hf.lt).trans hb, r⟩, hQ⟩
theorem Vain.alloc {K : TypeId} {Q : Value → Prop} {w : World} {bm n : Nat} (h : Vain K Q w bm n) (o : Obj) : Vain K Q (w.alloc o) bm n := h.below (below_alloc (Below.refl _ _) o)
theorem Vain.drew {K : TypeId} {Q : Value → Prop} {w : World} {bm n : Nat} (h : Vain K Q w bm n) : Vain K Q w.drew bm n := h
theorem Vain.drewN {K : TypeId} {Q : Value → Prop} {w : World} {bm n : Nat} (h : Vain K Q w bm n) (q : Nat) : Vain K Q (w.drewN q) bm n := h.below (below_drewN (Below.refl _ _) q)
theorem Vain.mono {K : TypeId} {Q : Value → Prop} {w : World} {bm n m : Nat} (h : Vain K Q w bm n) (hm : n ≤ m) : Vain K Q w bm m := by
  obtain ⟨D, hD, hQ⟩ := h
  exact ⟨D, hD.mono hm, hQ⟩
theorem Vain.made (K : TypeId) (Q : Value → Prop) (w : World) : Vain K Q (w.alloc (.map #[] 0)) w.heap.size 0 :=
  ⟨.map [], World.ownsMap_made w _ _ _, fun _ _ _ h => by cases h⟩

/-- Behind a store of a key of which Q holds. -/
theorem vain_put {K : TypeId} (law : Keyed Try.prog K) {Q : Value → Prop} {D : DataW Unit} (hQ : ∀ key kl, keyOf Try.prog K key = some kl → Maps.has D kl = true → Q key)
    {key : Value} {kl : Lit} (hk : keyOf Try.prog K key = some kl) (hq : Q key) : ∀ key' kl', keyOf Try.prog K key' = some kl' → Maps.has (D.put kl (.agg [])) kl' = true → Q key' := by
  intro key' kl' hk' hh
  by_cases e : kl' = kl
  · subst e
    rw [law.inj hk' hk]
    exact hq
  · rw [Maps.has_put_other e] at hh
    exact hQ key' kl' hk' hh

/-- What the captured variables of a search hold. -/
structure Env (fs : Nat) (fa : Value) (l : List Ev) (bn bv bl bb ba bs bm bk : Nat) (v : Value) (w : World) : Prop where
  cn : w.cell? ⟨bn, 0, none⟩ = some (U (maskOf (overB l) l.length))
  cv : w.cell? ⟨bv, 0, none⟩ = some (.map (some bm))
  cl : w.cell? ⟨bl, 0, none⟩ = some v
  cb : w.cell? ⟨bb, 0, none⟩ = some (.slice (some ⟨bk, 0, none⟩) l.length l.length)
  ca : w.cell? ⟨ba, 0, none⟩ = some fa
  cs : w.cell? ⟨bs, 0, none⟩ = some (.func (.func fs) #[] #[P1 bn, P1 bv, P1 bl, P1 bb, P1 ba, P1 bs])
  ev : Evs w v l
  row : w.rowIs bk 95 l.length (fun i => U (maskOf (aheadB l i) l.length))

theorem Env.frm {fs : Nat} {fa : Value} {l : List Ev} {bn bv bl bb ba bs bm bk : Nat} {v : Value} {w w' : World} (h : Env fs fa l bn bv bl bb ba bs bm bk v w) (f : Frm bm w w') : Env fs fa l bn bv bl bb ba bs bm bk v w' :=
  ⟨f.cell h.cn, f.cell h.cv, f.cell h.cl, f.cell h.cb, f.cell h.ca, f.cell h.cs, f.evs h.ev, f.row h.row⟩

/-- The search finds nothing through event i. -/
def NoVia {σ : Type} (ways : Ways σ) (l : List Ev) (T : Nat) (s : σ) (i : Nat) : Prop :=
  T.testBit i = false → (∀ k, k < l.length → evAhead (l.getD k ev0) (l.getD i ev0) = true → T.testBit k = true) → ∀ o, o ∈ ways s (l.getD i ev0) → Helps (l.getD i ev0) s o → ¬ GoesH ways l (T ||| 2 ^ i) o.2

theorem goesH_no {σ : Type} {ways : Ways σ} {l : List Ev} {T : Nat} {s : σ} (hd : ¬ ∀ i, i < l.length → (l.getD i ev0).over = true → T.testBit i = true) (h : ∀ i, i < l.length → NoVia ways l T s i) : ¬ GoesH ways l T s := by
  rw [goesH_step]
  rintro (h0 | ⟨i, h1, h2, h3, o, h4, h5, h6, h7⟩)
  · exact hd h0
  · exact h i h1 h2 h3 o h4 ⟨h5, h6⟩ h7

theorem goesH_via {σ : Type} {ways : Ways σ} {l : List Ev} {T : Nat} {s : σ} {i : Nat} (h1 : i < l.length) (h2 : T.testBit i = false) (h3 : ∀ k, k < l.length → evAhead (l.getD k ev0) (l.getD i ev0) = true → T.testBit k = true)
    {o : (Int × Int) × σ} (h4 : o ∈ ways s (l.getD i ev0)) (h5 : Helps (l.getD i ev0) s o) (h6 : GoesH ways l (T ||| 2 ^ i) o.2) : GoesH ways l T s :=
  goesH_step.2 (.inr ⟨i, h1, h2, h3, o, h4, h5.1, h5.2, h6⟩)

theorem goesH_done {σ : Type} {ways : Ways σ} {l : List Ev} {T : Nat} {s : σ} (hd : ∀ i, i < l.length → (l.getD i ev0).over = true → T.testBit i = true) : GoesH ways l T s := goesH_step.2 (.inl hd)

theorem needed_iff {l : List Ev} {T : Nat} (h12 : l.length ≤ 12) (hT : T < 2 ^ 64) : bits .andNot .u64 (maskOf (overB l) l.length : Int) (T : Int) = 0 ↔ ∀ i, i < l.length → (l.getD i ev0).over = true → T.testBit i = true := by
  rw [andNot_zero (mask64 _ h12) hT]
  constructor
  · intro h i hi ho
    exact h i (by rw [testBit_mask]; simp [hi]; exact ho)
  · intro h i hi
    rw [testBit_mask] at hi
    simp at hi
    exact h i hi.1 hi.2
theorem behind_iff {l : List Ev} {T i : Nat} (h12 : l.length ≤ 12) (hT : T < 2 ^ 64) : bits .andNot .u64 (maskOf (aheadB l i) l.length : Int) (T : Int) = 0 ↔ ∀ k, k < l.length → evAhead (l.getD k ev0) (l.getD i ev0) = true → T.testBit k = true := by
  rw [andNot_zero (mask64 _ h12) hT]
  constructor
  · intro h k hk ho
    exact h k (by rw [testBit_mask]; simp [hk]; exact ho)
  · intro h k hk
    rw [testBit_mask] at hk
    simp at hk
    exact h k hk.1 hk.2

theorem or_lt {T i n : Nat} (hT : T < 2 ^ n) (hi : i < n) : T ||| 2 ^ i < 2 ^ n := Nat.or_lt_two_pow hT (Nat.pow_lt_pow_right (by omega) hi)

theorem laidOut : laidOutB Try.prog = true := by kernel_rfl
theorem law101 : Keyed Try.prog 101 := Keyed.of_law (deep_law_laid laidOut (m := 3) (by omega) (of_decide_eq_true (by kernel_rfl)) (by kernel_rfl) (by kernel_rfl))

/-- An int that fits in 64 bits. -/
def Fits (x : Int) : Prop := -9223372036854775808 ≤ x ∧ x ≤ 9223372036854775807
theorem wrap_fits (n : Int) : Fits (wrap64 n) := by unfold wrap64 Fits; omega

/-- A cell of the same kind, that is well formed. -/
def SameK (c c0 : Value) : Prop := (∃ q n n0, c = .int q n ∧ c0 = .int q n0 ∧ (Lit.int q n).wf = true) ∨ ∃ b b0, c = .bool b ∧ c0 = .bool b0
def SameKs (cs cs0 : List Value) : Prop := cs.length = cs0.length ∧ ∀ (i : Nat) (c c0 : Value), cs[i]? = some c → cs0[i]? = some c0 → SameK c c0

theorem SameKs.part {cs cs0 : List Value} (h : SameKs cs cs0) (o n : Nat) : SameKs ((cs.drop o).take n) ((cs0.drop o).take n) := by
  refine ⟨by simp [h.1], fun i c c0 hc hc0 => ?_⟩
  rw [List.getElem?_take] at hc hc0
  split at hc
  · rename_i hi
    rw [if_pos hi, List.getElem?_drop] at hc0
    rw [List.getElem?_drop] at hc
    exact h.2 _ c c0 hc hc0
  · cases hc

theorem mapM_isSome {α β : Type} (f : α → Option β) : ∀ l : List α, (l.mapM f).isSome = true ↔ ∀ x ∈ l, (f x).isSome = true
  | [] => by simp
  | a :: r => by
    have ih := mapM_isSome f r
    rw [List.mapM_cons]
    cases ha : f a <;> cases hr : List.mapM f r <;> simp_all

theorem keyLits_same (P : Program) : ∀ (d : Nat) (t : TypeId) (cs cs0 : List Value), SameKs cs cs0 → (P.keyLits d t cs0).isSome = true → (P.keyLits d t cs).isSome = true
  | 0, _, _, _, _, h => by simp [Program.keyLits] at h
  | d + 1, t, cs, cs0, hk, h => by
    unfold Program.keyLits at h ⊢
    cases hu : P.underlying t with
    | none => simp [hu] at h
    | some u =>
      rw [hu] at h
      cases u
      case bool =>
        match cs0, cs, hk, h with
        | [c0], [c], hk, h =>
          rcases hk.2 0 c c0 rfl rfl with ⟨q, n, n0, rfl, rfl, _⟩ | ⟨b, b0, rfl, rfl⟩
          · simp at h
          · rfl
        | [c0], [], hk, h => simp [SameKs] at hk
        | [c0], _ :: _ :: _, hk, h => simp [SameKs] at hk
        | [], _, hk, h => simp at h
        | _ :: _ :: _, _, hk, h => simp at h
      case int q =>
        match cs0, cs, hk, h with
        | [c0], [c], hk, h =>
          rcases hk.2 0 c c0 rfl rfl with ⟨q', n, n0, rfl, rfl, hw⟩ | ⟨b, b0, rfl, rfl⟩
          · simp only at h ⊢
            split at h
            · rename_i hq
              obtain ⟨rfl, _⟩ := hq
              rw [if_pos ⟨rfl, hw⟩]; rfl
            · cases h
          · simp at h
        | [c0], [], hk, h => simp [SameKs] at hk
        | [c0], _ :: _ :: _, hk, h => simp [SameKs] at hk
        | [], _, hk, h => simp at h
        | _ :: _ :: _, _, hk, h => simp at h
      case string =>
        match cs0, cs, hk, h with
        | [c0], [c], hk, h =>
          rcases hk.2 0 c c0 rfl rfl with ⟨q', n, n0, rfl, rfl, hw⟩ | ⟨b, b0, rfl, rfl⟩ <;> simp at h
        | [c0], [], hk, h => simp [SameKs] at hk
        | [c0], _ :: _ :: _, hk, h => simp [SameKs] at hk
        | [], _, hk, h => simp at h
        | _ :: _ :: _, _, hk, h => simp at h
      case array n e =>
        simp only at h ⊢
        split at h
        · rename_i hl
          rw [if_pos (hk.1.trans hl)]
          rw [Option.isSome_map, mapM_isSome] at h ⊢
          exact fun i hi => keyLits_same P d e _ _ (hk.part _ _) (h i hi)
        · cases h
      case struct fs =>
        simp only at h ⊢
        split at h
        · rename_i hl
          rw [if_pos ⟨hk.1.trans hl.1, hl.2⟩]
          rw [Option.isSome_map, mapM_isSome] at h ⊢
          exact fun f hf => keyLits_same P d f.type _ _ (hk.part _ _) (h f hf)
        · cases h
      all_goals simp at h

/-- A key that is made as another one that can be read. -/
theorem key_same {P : Program} {K : TypeId} {cs cs0 : List Value} (hk : SameKs cs cs0) (hw : (match P.underlying K with | some (.array _ _) | some (.struct _) => true | _ => false) = true)
    (h : (keyOf P K (.agg cs0.toArray)).isSome = true) : ∃ kl, keyOf P K (.agg cs.toArray) = some kl := by
  have hf : (Value.agg cs.toArray).formed P K = (Value.agg cs0.toArray).formed P K := by simp [Value.formed, hk.1]
  have key : (keyOf P K (.agg cs.toArray)).isSome = true := by
    unfold keyOf at h ⊢
    split at hw
    all_goals first
      | (cases hw; done)
      | (rename_i hu
         simp only [hu] at h ⊢
         rw [hf]
         split at h
         · rename_i hc
           rw [if_pos hc]
           rw [Option.isSome_map] at h ⊢
           exact keyLits_same P _ K _ _ (by simpa [Value.cells] using hk) h
         · cases h)
  exact Option.isSome_iff_exists.1 key

theorem wf_u (T : Nat) (h : T < 2 ^ 64) : (Lit.int .u64 T).wf = true := by
  have e1 : IntKind.min .u64 = 0 := by decide
  have e2 : IntKind.max .u64 = 18446744073709551615 := by decide
  simp only [Lit.wf, e1, e2, Bool.and_eq_true, decide_eq_true_eq]; omega
theorem wf_i (s : Int) (h : Fits s) : (Lit.int .i64 s).wf = true := by
  have e1 : IntKind.min .i64 = -9223372036854775808 := by decide
  have e2 : IntKind.max .i64 = 9223372036854775807 := by decide
  unfold Fits at h
  simp only [Lit.wf, e1, e2, Bool.and_eq_true, decide_eq_true_eq]; omega

theorem key101 (T : Nat) (s : Int) (hT : T < 2 ^ 64) (hs : Fits s) : ∃ kl, keyOf Try.prog 101 (.agg #[U T, I s]) = some kl := by
  refine key_same (cs := [U T, I s]) (cs0 := [U 0, I 0]) ⟨rfl, fun i c c0 h h0 => ?_⟩ (by kernel_rfl) (by kernel_rfl)
  match i, h, h0 with
  | 0, h, h0 =>
    simp at h h0; subst h h0
    exact .inl ⟨_, _, _, rfl, rfl, wf_u T hT⟩
  | 1, h, h0 =>
    simp at h h0; subst h h0
    exact .inl ⟨_, _, _, rfl, rfl, wf_i s hs⟩

theorem zero102 (w : World) : (zeroValue 102).run Try.prog w = .ok (.agg #[]) w := by kernel_rfl

end Go.Proofs.Yteniopbmkooomaa
