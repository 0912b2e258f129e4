/- CellAdds returns true, whatever the schedule, the start and the numbers, and leaves what it was given as it was: of the law's statement as given, with no condition of our own. Part 30 of 34. (Joined, by program, of: Trail, Tail3, Ins, AddP.) -/
import Derived.Test.YtfjjoohflcchnaaCellAdds29
import Derived.BigQuiet
set_option linter.unusedSimpArgs false
set_option linter.unusedVariables false
namespace Go.Proofs.Ytfjjoohflcchnaa
open Go Go.Lift Go.Conc Go.RowKit
open Go.ConcN (upd upd_same upd_ne)

/-- A step of a trace. -/
structure Stp where
  th : Int
  ce : Int
  op : Int
  ol : Int
  ne : Int
def flat (L : List Stp) : List Value := L.flatMap fun s => [I s.th, I s.ce, I s.op, I s.ol, I s.ne]
theorem flat_app (a b : List Stp) : flat (a ++ b) = flat a ++ flat b := List.flatMap_append
theorem flat_get : ∀ (L : List Stp) (k : Nat) (s : Stp), L[k]? = some s → (flat L)[k * 5]? = some (I s.th) ∧ (flat L)[k * 5 + 1]? = some (I s.ce) ∧ (flat L)[k * 5 + 2]? = some (I s.op) ∧ (flat L)[k * 5 + 3]? = some (I s.ol) ∧ (flat L)[k * 5 + 4]? = some (I s.ne)
  | b :: l, 0, a, h => by obtain rfl : b = a := by simpa using h
                          exact ⟨rfl, rfl, rfl, rfl, rfl⟩
  | b :: l, k + 1, a, h => by
    have := flat_get l k a (by simpa using h)
    have e : flat (b :: l) = I b.th :: I b.ce :: I b.op :: I b.ol :: I b.ne :: flat l := rfl
    rw [e]
    have e0 : ∀ j, (I b.th :: I b.ce :: I b.op :: I b.ol :: I b.ne :: flat l)[j + 5]? = (flat l)[j]? := fun j => rfl
    rw [show (k + 1) * 5 = k * 5 + 5 by omega, show k * 5 + 5 + 1 = (k * 5 + 1) + 5 by omega, show k * 5 + 5 + 2 = (k * 5 + 2) + 5 by omega, show k * 5 + 5 + 3 = (k * 5 + 3) + 5 by omega, show k * 5 + 5 + 4 = (k * 5 + 4) + 5 by omega]
    simp only [e0]
    exact this
theorem flat_one (L : List Stp) : ∀ u ∈ flat L, u.oneCell' = true := fun u hu => by
  simp only [flat, List.mem_flatMap] at hu
  obtain ⟨s, _, hu⟩ := hu
  simp only [List.mem_cons, List.not_mem_nil, or_false] at hu
  rcases hu with rfl | rfl | rfl | rfl | rfl <;> rfl

/-- A step of a cell: what stands there then; none: it did not begin where the one ahead left it. -/
def rstep (now : List Int) (s : Stp) : Option (List Int) :=
  if s.op < 1 ∨ 5 < s.op then some now
  else if 0 ≤ s.ce ∧ now[s.ce.toNat]? = some s.ol ∧ (s.op = 1 → s.ne = s.ol) then some (now.set s.ce.toNat s.ne) else none
def replay : List Int → List Stp → Option (List Int)
  | now, [] => some now
  | now, s :: L => match rstep now s with
    | some n => replay n L
    | none => none
theorem replay_app (a b : List Stp) : ∀ now, replay now (a ++ b) = (replay now a).bind fun n => replay n b := by
  induction a with
  | nil => intro now; rfl
  | cons s a ih =>
    intro now
    simp only [List.cons_append, replay]
    cases rstep now s with
    | none => rfl
    | some n => exact ih n
theorem replay_quiet (now : List Int) : ∀ (L : List Stp), (∀ s ∈ L, s.op < 1 ∨ 5 < s.op) → replay now L = some now
  | [], _ => rfl
  | s :: L, h => by
    have : rstep now s = some now := by unfold rstep; rw [if_pos (h s (List.mem_cons_self))]
    simp only [replay, this]
    exact replay_quiet now L (fun x hx => h x (List.mem_cons_of_mem _ hx))

def InR (x : Int) : Prop := -9223372036854775808 ≤ x ∧ x < 9223372036854775808
/-- A call's numbers are ints. -/
def Cl.ok (c : Cl) : Prop := InR c.cb ∧ InR c.cc
def Ph.ok : Ph → Prop
  | .turn r _ _ => (∀ c ∈ r, c.ok) ∧ ∀ c r', r = c :: r' → 1 ≤ c.po ∧ c.po ≤ 6
  | .wait r _ _ => ∀ c ∈ r, c.ok
  | .done _ => True

/-- The trace so far leads from the values to what stands in the cells now. -/
structure TrS (xs : List Int) (S : TS) (K : List (Nat × Int)) : Prop where
  tr : ∃ L, S.tr = flat L ∧ S.n = L.length ∧ replay xs L = some (K.map (·.2))
  inr : ∀ c ∈ K, InR c.2
structure Trail (xs : List Int) (p : PSt) : Prop where
  at_ : TrS xs p.S p.K
  ok : ∀ i, (p.l i).ok

/-- What is added to a trace. -/
structure Adds (S S' : TS) (L : List Stp) : Prop where
  tr : S'.tr = S.tr ++ flat L
  n : S'.n = S.n + L.length
theorem Adds.refl (S : TS) : Adds S S [] := ⟨by simp [flat], rfl⟩
theorem Adds.trans {S S1 S2 : TS} {L L' : List Stp} (h : Adds S S1 L) (k : Adds S1 S2 L') : Adds S S2 (L ++ L') := ⟨by rw [k.tr, h.tr, flat_app, List.append_assoc], by rw [k.n, h.n, List.length_append, Nat.add_assoc]⟩
theorem adds_noted (S : TS) (tv : Value) (i : Nat) (op ce ol ne : Int) : Adds S (noted S tv i op ce ol ne) [⟨i, ce, op, ol, ne⟩] := ⟨rfl, rfl⟩
theorem adds_did (S : TS) (tv : Value) (i : Nat) (t : Thr) (b a : Int) : Adds S (didS S tv i t b a) [⟨i, t.ce, t.op, b, a⟩] := by
  unfold didS
  split <;> exact ⟨rfl, rfl⟩
theorem wrap_in (x : Int) : InR (wrap64 x) := by
  unfold InR wrap64
  omega
section
variable {xs : List Int} {S S' : TS} {K : List (Nat × Int)} {L : List Stp}
theorem TrS.quiet (h : TrS xs S K) (a : Adds S S' L) (q : ∀ s ∈ L, s.op < 1 ∨ 5 < s.op) : TrS xs S' K := by
  obtain ⟨L0, h1, h2, h3⟩ := h.tr
  refine ⟨⟨L0 ++ L, by rw [a.tr, h1, flat_app], by rw [a.n, h2, List.length_append], ?_⟩, h.inr⟩
  rw [replay_app, h3]
  exact replay_quiet _ L q
theorem cellAt_get {j : Nat} (hj : j < K.length) : K[j]? = some (cellAt K j) := by
  unfold cellAt
  rw [List.getElem?_eq_getElem hj]
  rfl
theorem TrS.step (h : TrS xs S K) {th : Int} {j : Nat} {op x y : Int} (hj : j < K.length) (hop : ¬ (op < 1 ∨ 5 < op)) (a : Adds S S' [⟨th, j, op, x, y⟩]) (hx : (cellAt K j).2 = x) (hy : InR y) (h1 : op = 1 → y = x) : TrS xs S' (K.set j ((cellAt K j).1, y)) := by
  obtain ⟨L0, g1, g2, g3⟩ := h.tr
  refine ⟨⟨L0 ++ [⟨th, j, op, x, y⟩], by rw [a.tr, g1, flat_app], by rw [a.n, g2, List.length_append], ?_⟩, fun c hc => ?_⟩
  · rw [replay_app, g3]
    show replay (K.map (·.2)) [⟨th, j, op, x, y⟩] = _
    have e : rstep (K.map (·.2)) ⟨th, j, op, x, y⟩ = some ((K.map (·.2)).set j y) := by
      unfold rstep
      rw [if_neg hop, if_pos ⟨Int.natCast_nonneg _, by
        show (K.map (·.2))[((j : Int)).toNat]? = some x
        rw [Int.toNat_natCast, List.getElem?_map, cellAt_get hj, ← hx]
        rfl, h1⟩]
      rfl
    simp only [replay, e]
    rw [List.map_set]
  · rcases List.mem_or_eq_of_mem_set hc with h2 | rfl
    · exact h.inr c h2
    · exact hy
end

end Go.Proofs.Ytfjjoohflcchnaa

namespace Go.Proofs.Ytfjjoohflcchnaa
open Go Go.Lift Go.Conc Go.RowKit

noncomputable def B3 : Code := Try.f3.body.getD .skip
noncomputable def T3 : Code := seq2 (seq2 (seq2 (seq2 B3)))
def lis (u : Nat → Value) : Nat → Nat → List Value
  | _, 0 => []
  | s, n + 1 => u s :: lis u (s + 1) n
theorem lis_get (u : Nat → Value) : ∀ (n s i : Nat), (lis u s n)[i]? = if i < n then some (u (s + i)) else none
  | 0, s, i => by simp [lis]
  | n + 1, s, 0 => by simp [lis]
  | n + 1, s, i + 1 => by
    have := lis_get u n (s + 1) i
    simp only [lis, List.getElem?_cons_succ, this, Nat.add_lt_add_iff_right]
    rw [show s + 1 + i = s + (i + 1) by omega]
theorem litN {n : Nat} {a : Act} (h : a.tmps.size = n) (hd : a.defers = []) : ∃ u : Nat → Value, a = { tmps := (lis u 0 n).toArray, defers := [] } ∧ ∀ i, a.tmps.getD i undef = u i := by
  obtain ⟨⟨l⟩, ds⟩ := a
  simp only at hd h
  subst hd
  refine ⟨fun i => (Array.mk l).getD i undef, ?_, fun i => rfl⟩
  have e : l = lis (fun i => (Array.mk l).getD i undef) 0 n := by
    apply List.ext_getElem?
    intro i
    rw [lis_get]
    have hl : l.length = n := h
    by_cases hi : i < n
    · rw [if_pos hi, List.getElem?_eq_getElem (by omega)]
      simp [Array.getD, hl, hi]
    · rw [if_neg hi, List.getElem?_eq_none (by omega)]
  exact congrArg (fun x => ({ tmps := x.toArray, defers := [] } : Act)) e

/-- The frame there. -/
structure F3 (s1 : Value) (wb : Nat) (E : Int) (a : Act) : Prop where
  size : a.tmps.size = 93
  defers : a.defers = []
  t1 : a.tmps.getD 1 undef = s1
  t7 : a.tmps.getD 7 undef = .bool true
  t8 : a.tmps.getD 8 undef = Pt wb 0
  t10 : a.tmps.getD 10 undef = I E

/-- A row of ints. -/
def RI (u : World) (g : Nat) (cur : List Int) : Prop := ∃ C, u.heap[g]? = some (.cells C 3 (0, 0)) ∧ ∀ (j : Nat) (x : Int), cur[j]? = some x → C[j]? = some (I x)
theorem RI.cell {u : World} {g : Nat} {cur : List Int} (h : RI u g cur) {j : Nat} {x : Int} (hj : cur[j]? = some x) : u.cell? ⟨g, j, none⟩ = some (I x) ∧ u.frozen? ⟨g, j, none⟩ = false := by
  obtain ⟨C, h1, h2⟩ := h
  exact ⟨by simp [World.cell?, h1, h2 j x hj], by simp [World.frozen?, h1]⟩
theorem RI.set {u u' : World} {g : Nat} {cur : List Int} (h : RI u g cur) {j : Nat} (y : Int) (he : u'.heap[g]? = (u.setCell ⟨g, j, none⟩ (I y)).heap[g]?) (hj : j < cur.length) : RI u' g (cur.set j y) := by
  obtain ⟨C, h1, h2⟩ := h
  refine ⟨_, by rw [he]; exact heap_setCell_same h1 (I y), fun k x hk => ?_⟩
  rw [List.getElem?_set] at hk
  rw [Array.getElem?_setIfInBounds]
  split at hk
  · rename_i e
    subst e
    cases hk
    have : j < C.size := by
      obtain ⟨x, hx⟩ : ∃ x, cur[j]? = some x := ⟨_, List.getElem?_eq_getElem hj⟩
      exact (Array.getElem?_eq_some_iff.1 (h2 j x hx)).1
    rw [if_pos rfl, if_pos this]
  · rename_i e
    rw [if_neg e]
    exact h2 k x hk
theorem RI.stay {u u' : World} {g : Nat} {cur : List Int} (h : RI u g cur) (he : u'.heap[g]? = u.heap[g]?) : RI u' g cur := by
  obtain ⟨C, h1, h2⟩ := h
  exact ⟨C, by rw [he]; exact h1, h2⟩

/-- What is known in the loop: the trace at tg, the numbers at g. -/
structure In3 (v : World) (L : List Stp) (tg g n k : Nat) (u : World) : Prop where
  now : ∃ cur, RI u g cur ∧ cur.length = n ∧ ∃ fin, replay cur (L.drop k) = some fin
  tr : ∀ j x, (flat L)[j]? = some x → u.cell? ⟨tg, j, none⟩ = some x
  old : Grows v u
theorem In3.next {v u u' : World} {L : List Stp} {tg g n k : Nat} (h : In3 v L tg g n k u) (hg : v.heap.size ≤ g) (htg : tg ≠ g) (hcur : ∃ cur, RI u' g cur ∧ cur.length = n ∧ ∃ fin, replay cur (L.drop (k + 1)) = some fin)
    (hs : u.heap.size ≤ u'.heap.size) (ho : ∀ b, b < u.heap.size → b ≠ g → u'.heap[b]? = u.heap[b]?) (h1 : u'.os = u.os) (h2 : u'.output = u.output) : In3 v L tg g n (k + 1) u' := by
  refine ⟨hcur, fun j x hj => ?_, ⟨Nat.le_trans h.old.size hs, fun b hb => ?_, h1.trans h.old.os, h2.trans h.old.output⟩⟩
  · have := h.tr j x hj
    rw [World.cell?_of_block (w := u) (w' := u') (ho tg (World.block_lt_of_cell? _ _ this) htg)]
    exact this
  · rw [ho b (by have := h.old.size; omega) (by omega), h.old.old b hb]

end Go.Proofs.Ytfjjoohflcchnaa

namespace Go.Proofs.Ytfjjoohflcchnaa
open Go Go.Lift Go.Conc Go.RowKit

theorem turns_n {nk m : Nat} {p p' : PSt} (h : Turns nk m p p') : Good nk p → p'.S.n + mu p' ≤ p.S.n + mu p := by
  induction h with
  | stop => intro _; exact Nat.le_refl _
  | step e _ ih =>
    intro g
    obtain ⟨g1, _, h2⟩ := pturn_mu g e
    have := ih g1
    omega
theorem turns_wb {nk m : Nat} {p p' : PSt} (h : Turns nk m p p') : p'.S.wb = p.S.wb := by
  induction h with
  | stop => rfl
  | @step n p p1 p' e _ ih =>
    rw [ih]
    unfold pturn at e
    split at e
    · split at e
      · cases e; rfl
      · cases e
    · cases e
      show (resume _ _ _ _ _).1.wb = _
      rw [(resume_sta _ _ _ _ _).wb]
      show (picked p.S).wb = _
      unfold picked
      split <;> rfl
theorem hires_wb {nk k : Nat} {ss : List Scr} {S S' : TS} {l l' : Nat → Ph} (h : Hires nk k ss S l S' l') : S'.wb = S.wb := by
  induction h with
  | nil => rfl
  | cons tv tb gc h ih => rw [ih, (flow_sta _ _ _ _ _ _ _).wb]; rfl
theorem play_small {nk m : Nat} {ss : List Scr} {S S1 : TS} {l0 l1 : Nat → Ph} {K : List (Nat × Int)} {p' : PSt} (h : Hires nk 0 ss S l0 S1 l1) (hT : Turns nk m ⟨S1, K, l1⟩ p') (h0 : S.thr = []) (h8 : ss.length ≤ 8) (hl : lens ss ≤ 512) (hn : S.n = 0) : p'.S.n ≤ 13329 ∧ p'.S.wb = S.wb := by
  obtain ⟨a1, a2, a3, a4⟩ := hires_good h (by rw [h0]; rfl) (by omega) (fun i t ht => by rw [h0] at ht; cases ht)
  have g : Good nk ⟨S1, K, l1⟩ := ⟨by show S1.thr.length ≤ 8; omega, a2⟩
  have hm := mu_le ⟨S1, K, l1⟩ g.len
  rw [h0] at a4
  simp only [List.length_nil, List.range_zero, List.map_nil, List.sum_nil] at a4
  have hm2 : mu ⟨S1, K, l1⟩ ≤ 12305 := by
    refine Nat.le_trans hm ?_
    show 17 + 24 * ((List.range S1.thr.length).map fun i => (l1 i).left).sum ≤ 12305
    omega
  have := turns_n hT g
  have k3 : p'.S.n + mu p' ≤ S1.n + mu ⟨S1, K, l1⟩ := this
  exact ⟨by omega, by rw [turns_wb hT]; exact hires_wb h⟩

/-- Where a list of ints lies that came in. -/
structure InI (W : World) (p : Option Addr) (b o : Nat) (xs : List Int) : Prop where
  at_ : 0 < xs.length → p = some ⟨b, o, none⟩
  cell : ∀ k x, xs[k]? = some x → W.cell? ⟨b, o + k, none⟩ = some (I x)
  inr : ∀ x ∈ xs, InR x
  len : xs.length ≤ 17592186043904
theorem InI.grows {W W' : World} {p : Option Addr} {b o : Nat} {xs : List Int} (h : InI W p b o xs) (g : Grows W W') : InI W' p b o xs :=
  ⟨h.at_, fun k x hk => g.cell (h.cell k x hk), h.inr, h.len⟩
/-- Where scripts lie that came in. -/
structure InS (W : World) (p : Option Addr) (b o n : Nat) (pc : Nat → Option Addr) (ln cp rb : Nat → Nat) (cl : Nat → List Cl) : Prop where
  at_ : 0 < n → p = some ⟨b, o, none⟩
  row : ∀ k, k < n → W.cell? ⟨b, o + k, none⟩ = some (.slice (pc k) (ln k) (cp k))
  len : ∀ j, j < n → (cl j).length = ln j
  pq : ∀ j, j < n → 0 < ln j → pc j = some ⟨rb j, roOf (pc j), none⟩
  call : ∀ j, j < n → ∀ (k : Nat) (c : Cl), (cl j)[k]? = some c → W.cell? ⟨rb j, roOf (pc j) + k * 4, none⟩ = some (I c.po) ∧ W.cell? ⟨rb j, roOf (pc j) + k * 4 + 1, none⟩ = some (I c.ca) ∧ W.cell? ⟨rb j, roOf (pc j) + k * 4 + 2, none⟩ = some (I c.cb) ∧ W.cell? ⟨rb j, roOf (pc j) + k * 4 + 3, none⟩ = some (I c.cc)
  ok : ∀ j, j < n → ∀ c ∈ cl j, InR c.ca ∧ c.ok
  n : n ≤ 17592186043904
theorem InS.grows {W W' : World} {p : Option Addr} {b o n : Nat} {pc : Nat → Option Addr} {ln cp rb : Nat → Nat} {cl : Nat → List Cl} (h : InS W p b o n pc ln cp rb cl) (g : Grows W W') : InS W' p b o n pc ln cp rb cl :=
  ⟨h.at_, fun k hk => g.cell (h.row k hk), h.len, h.pq, fun j hj k c hc => by
    have := h.call j hj k c hc
    exact ⟨g.cell this.1, g.cell this.2.1, g.cell this.2.2.1, g.cell this.2.2.2⟩, h.ok, h.n⟩

theorem lens_scrs (N n xb rk ck : Nat) (K : List (Nat × Int)) (pc : Nat → Option Addr) (ln cp rb : Nat → Nat) (cl : Nat → List Cl) (hl : ∀ j, j < n → (cl j).length ≤ 64) : lens (scrs N n xb rk ck K pc ln cp rb cl) ≤ 64 * n := by
  unfold lens scrs
  rw [List.map_map]
  have : ∀ (m j : Nat), j + m ≤ n → ((List.range' j m).map ((fun s : Scr => s.calls.length) ∘ scrOf N n xb rk ck (K.map (·.1)) pc ln cp rb cl)).sum ≤ 64 * m := by
    intro m
    induction m with
    | zero => intro j _; simp
    | succ m ih =>
      intro j hj
      rw [List.range'_succ, List.map_cons, List.sum_cons]
      have h1 := ih (j + 1) (by omega)
      have h2 : ((fun s : Scr => s.calls.length) ∘ scrOf N n xb rk ck (K.map (·.1)) pc ln cp rb cl) j ≤ 64 := hl j (by omega)
      omega
  exact this n 0 (by omega)
theorem scrs_len (N n xb rk ck : Nat) (K : List (Nat × Int)) (pc : Nat → Option Addr) (ln cp rb : Nat → Nat) (cl : Nat → List Cl) : (scrs N n xb rk ck K pc ln cp rb cl).length = n := by simp [scrs]
/-- The world is new: the scripts lie there for Play. -/
theorem asked_of {W v : World} {p : Option Addr} {b o n : Nat} {pc : Nat → Option Addr} {ln cp rb : Nat → Nat} {cl : Nat → List Cl} (h : InS W p b o n pc ln cp rb cl) {xs : List Int} {wb bk : Nat} {sc : Value} (hn : IsNew W xs wb bk sc v) (h64 : ∀ j, j < n → ln j ≤ 64) (h0 : 0 < n) : Asked v (newS wb bk W.heap.size sc xs) n b o pc ln cp rb cl := by
  have g := h.grows hn.old
  have far : ∀ (a : Addr) (x : Value), W.cell? a = some x → ¬ Own (newS wb bk W.heap.size sc xs) [] a.block := fun a x ha ho => by
    have := hn.new _ (.inl ho)
    have := World.block_lt_of_cell? _ _ ha
    omega
  refine ⟨fun j hj => ⟨h.len j hj, h64 j hj⟩, g.row, far _ _ (h.row 0 h0), fun j hj hl => ⟨h.pq j hj hl, ?_⟩, g.call, fun j hj c hc => (h.ok j hj c hc).1⟩
  obtain ⟨c, hc⟩ : ∃ c, (cl j)[0]? = some c := ⟨_, List.getElem?_eq_getElem (by rw [h.len j hj]; exact hl)⟩
  exact far _ _ (h.call j hj 0 c hc).1

end Go.Proofs.Ytfjjoohflcchnaa

namespace Go.Proofs.Ytfjjoohflcchnaa
open Go Go.Lift Go.Conc Go.RowKit
open Go.ConcN (upd upd_same upd_ne)

def addCl (n : Nat) : Cl := ⟨5, 0, n, 0⟩
def untCl (start : Int) : Cl := ⟨6, 0, wrap64 (start - 1), 0⟩
/-- A thread's script. -/
def addS (start : Int) (az : Nat → List Nat) (i : Nat) : List Cl := (az i).map addCl ++ if i = 0 then [untCl start] else []
/-- What a trace's last Add has left. -/
def lastAdd : Int → List Stp → Int
  | x, [] => x
  | x, s :: L => lastAdd (if s.op = 5 then s.ne else x) L
theorem lastAdd_app (a b : List Stp) : ∀ x, lastAdd x (a ++ b) = lastAdd (lastAdd x a) b := by
  induction a with
  | nil => intro x; rfl
  | cons s a ih => intro x; exact ih _
theorem lastAdd_quiet (x : Int) : ∀ (L : List Stp), (∀ s ∈ L, s.op ≠ 5) → lastAdd x L = x
  | [], _ => rfl
  | s :: L, h => by
    show lastAdd (if s.op = 5 then s.ne else x) L = x
    rw [if_neg (h s List.mem_cons_self)]
    exact lastAdd_quiet x L (fun y hy => h y (List.mem_cons_of_mem _ hy))

/-- Where a thread is whose Adds so far made these sums. -/
def PhA (start : Int) (az : Nat → List Nat) (i : Nat) (A : List Nat) : Ph → Prop
  | .turn rest ii ans => rest = (addS start az i).drop ii ∧ rest ≠ [] ∧ ii ≤ (addS start az i).length ∧ A.length = min ii (az i).length ∧ ans.length = (addS start az i).length ∧ ∀ (k x : Nat), A[k]? = some x → ans[k]? = some (0, wrap64 (start + x))
  | .wait _ _ _ => False
  | .done ans => A.length = (az i).length ∧ ans.length = (addS start az i).length ∧ ∀ (k x : Nat), A[k]? = some x → ans[k]? = some (0, wrap64 (start + x))

/-- What has been done so far: the sum s; A: the sums that each thread's Adds made. -/
structure AddI (start : Int) (az : Nat → List Nat) (n cb : Nat) (A : Nat → List Nat) (s : Nat) (p : PSt) : Prop where
  K : p.K = [(cb, wrap64 (start + s))]
  ph : ∀ i, i < n → PhA start az i (A i) (p.l i)
  le : ∀ i, i < n → ∀ x ∈ A i, x ≤ s
  own : ∀ i, i < n → (A i).Pairwise (· ≠ ·)
  dis : ∀ i j, i < n → j < n → i ≠ j → ∀ x ∈ A i, ∀ y ∈ A j, x ≠ y
  left : s + ((List.range n).map fun i => ((az i).drop (A i).length).sum).sum = ((List.range n).map fun i => (az i).sum).sum
  tr : ∃ L, p.S.tr = flat L ∧ p.S.n = L.length ∧ lastAdd start L = (if s = 0 then start else wrap64 (start + s))

theorem addS_get {start : Int} {az : Nat → List Nat} {i ii : Nat} {c : Cl} (h : (addS start az i)[ii]? = some c) : (∃ m, (az i)[ii]? = some m ∧ c = addCl m) ∨ (ii = (az i).length ∧ i = 0 ∧ c = untCl start) := by
  unfold addS at h
  rw [List.getElem?_append] at h
  split at h
  · rw [List.getElem?_map] at h
    cases hm : (az i)[ii]? with
    | none => rw [hm] at h; cases h
    | some m => rw [hm] at h; cases h; exact .inl ⟨m, rfl, rfl⟩
  · rename_i hl
    simp only [List.length_map] at hl h
    split at h
    · rename_i h0
      right
      have : ii - (az i).length = 0 := by
        have := (List.getElem?_eq_some_iff.1 h).1
        simp at this
        omega
      rw [this] at h
      cases h
      exact ⟨by omega, h0, rfl⟩
    · cases h

theorem sum_upd (f g : Nat → Nat) (d i : Nat) : ∀ k, i < k → (∀ j, j < k → j ≠ i → g j = f j) → g i + d = f i → ((List.range k).map g).sum + d = ((List.range k).map f).sum
  | k + 1, hi, h, hd => by
    rw [List.range_succ, List.map_append, List.map_append, List.sum_append, List.sum_append]
    simp only [List.map_cons, List.map_nil, List.sum_cons, List.sum_nil]
    by_cases hk : i = k
    · subst hk
      have : (List.range i).map g = (List.range i).map f := List.map_congr_left (fun j hj => h j (by have := List.mem_range.1 hj; omega) (by have := List.mem_range.1 hj; omega))
      rw [this]
      omega
    · have := sum_upd f g d i k (by omega) (fun j hj hn => h j (by omega) hn) hd
      have h1 := h k (by omega) (fun e => hk e.symm)
      omega

/-- From the loop's head to the next seat. -/
theorem flow_add (start : Int) (az : Nat → List Nat) (i ii : Nat) (A : List Nat) (ans : List (Int × Int)) (S : TS) (hi : ii ≤ (addS start az i).length) (hA : A.length = min ii (az i).length) (hl : ans.length = (addS start az i).length) (ha : ∀ (k x : Nat), A[k]? = some x → ans[k]? = some (0, wrap64 (start + x))) :
    PhA start az i A (flow i 1 ((addS start az i).drop ii) ii false ans S).2 ∧ ∃ L, Adds S (flow i 1 ((addS start az i).drop ii) ii false ans S).1 L ∧ ∀ s ∈ L, s.op ≠ 5 := by
  cases h : (addS start az i).drop ii with
  | nil =>
    have : (addS start az i).length ≤ ii := List.drop_eq_nil_iff.1 h
    refine ⟨⟨?_, hl, ha⟩, [], ⟨(by simp [flat]; rfl), rfl⟩, fun _ h => nomatch h⟩
    have : (az i).length ≤ (addS start az i).length := by unfold addS; simp
    omega
  | cons c rest =>
    have hg : (addS start az i)[ii]? = some c := by
      have := congrArg (·[0]?) h
      simpa using this
    have hpo : 1 ≤ c.po ∧ c.po ≤ 6 := by
      rcases addS_get hg with ⟨m, _, rfl⟩ | ⟨_, _, rfl⟩
      · exact ⟨(by decide : (1 : Int) ≤ 5), (by decide : (5 : Int) ≤ 6)⟩
      · exact ⟨(by decide : (1 : Int) ≤ 6), (by decide : (6 : Int) ≤ 6)⟩
    rw [flow_cons, if_pos hpo]
    refine ⟨⟨h.symm, by simp, hi, hA, hl, ha⟩, [⟨i, -1, 9, ii, 0⟩], ⟨rfl, rfl⟩, fun s hs => ?_⟩
    have := List.mem_singleton.1 hs
    subst this
    exact (by decide : (9 : Int) ≠ 5)

theorem back_add (start : Int) (az : Nat → List Nat) (i ii : Nat) (A : List Nat) (ans : List (Int × Int)) (x : Int) (S : TS) (K : List (Nat × Int)) (hi : ii < (addS start az i).length) (hA : A.length = min (ii + 1) (az i).length) (hl : ans.length = (addS start az i).length) (ha : ∀ (k y : Nat), A[k]? = some y → (ans.set ii (0, x))[k]? = some (0, wrap64 (start + y))) (rest : List Cl) (hr : rest = (addS start az i).drop (ii + 1)) :
    PhA start az i A (back i 1 rest ii ans 0 x S K).2.2 ∧ (back i 1 rest ii ans 0 x S K).2.1 = K ∧ ∃ L, Adds S (back i 1 rest ii ans 0 x S K).1 L ∧ ∀ s ∈ L, s.op ≠ 5 := by
  subst hr
  obtain ⟨f1, L, f2, f3⟩ := flow_add start az i (ii + 1) A (ans.set ii (0, x)) (noted S undef i 10 (-1) ii 0) hi hA (by simpa using hl) ha
  refine ⟨f1, rfl, _, (adds_noted S undef i 10 (-1) ii 0).trans f2, fun s hs => ?_⟩
  simp only [List.cons_append, List.nil_append, List.mem_cons] at hs
  rcases hs with rfl | hs
  · exact (by decide : (10 : Int) ≠ 5)
  · exact f3 s hs

theorem wrap_add (a b : Int) : wrap64 (wrap64 a + b) = wrap64 (a + b) := by unfold wrap64; omega
theorem wrap_apart {start : Int} {x y : Nat} (hx : x ≤ 1000000) (hy : y ≤ 1000000) (h : wrap64 (start + x) = wrap64 (start + y)) : x = y := by unfold wrap64 at h; omega
theorem wrap_not {start : Int} {x : Nat} (hx : x ≤ 1000000) : wrap64 (start + x) ≠ wrap64 (start - 1) := by unfold wrap64; omega

section
variable {start : Int} {az : Nat → List Nat} {n cb : Nat} {A : Nat → List Nat} {s : Nat} {p p1 : PSt}
theorem AddI.sum_le (h : AddI start az n cb A s p) (hb : ((List.range n).map fun i => (az i).sum).sum ≤ 1000000) : s ≤ 1000000 := by have := h.left; omega

/-- A thread goes: an Add, or the last look. -/
theorem resume_add (h : AddI start az n cb A s p) (hpos : ∀ i, i < n → ∀ m ∈ az i, 0 < m) (hb : ((List.range n).map fun i => (az i).sum).sum ≤ 1000000) {i : Nat} (hi : i < n) {t : Thr} (S : TS) (hS : ∃ L, S.tr = flat L ∧ S.n = L.length ∧ lastAdd start L = (if s = 0 then start else wrap64 (start + s))) (ht : S.thr[i]? = some t) (hf : FitsN 1 (p.l i) t) :
    ∃ A' s', AddI start az n cb A' s' ⟨(resume i 1 (p.l i) S p.K).1, (resume i 1 (p.l i) S p.K).2.1, upd p.l i (resume i 1 (p.l i) S p.K).2.2⟩ := by
  have eth : thrI S i = t := thrI_of ht
  have hph := h.ph i hi
  match hpl : p.l i, hph, hf with
  | .turn (c :: rest) ii ans, hph, hf =>
    obtain ⟨h1, _, h2, h3, h4, h5⟩ := hph
    have hg : (addS start az i)[ii]? = some c := by
      have := congrArg (·[0]?) h1
      simpa using this.symm
    have hlt : ii < (addS start az i).length := (List.getElem?_eq_some_iff.1 hg).1
    have hrest : rest = (addS start az i).drop (ii + 1) := by
      have := congrArg List.tail h1
      simpa using this
    rw [h.K]
    rcases addS_get hg with ⟨m, hm, rfl⟩ | ⟨hii, h0, rfl⟩
    · have hml : ii < (az i).length := (List.getElem?_eq_some_iff.1 hm).1
      have hAl : (A i).length = ii := by omega
      have ew : which 0 1 = 0 := rfl
      have er : resume i 1 (.turn (addCl m :: rest) ii ans) S [(cb, wrap64 (start + s))] = back i 1 rest ii ans 0 (wrap64 (start + ((s + m : Nat) : Int))) (didS S undef i t (wrap64 (wrap64 (wrap64 (start + s) + m) - m)) (wrap64 (wrap64 (start + s) + m))) [(cb, wrap64 (start + ((s + m : Nat) : Int)))] := by
        rw [resume_turn, if_neg (fun h => by have := h.1; simp [addCl] at this), eth]
        have e2 : wrap64 (start + ((s + m : Nat) : Int)) = wrap64 (wrap64 (start + s) + m) := by rw [wrap_add, Int.natCast_add, Int.add_assoc]
        rw [e2]
        rfl
      rw [er]
      have hm0 : 0 < m := hpos i hi m (List.mem_of_getElem? hm)
      have hget : ∀ (k y : Nat), (A i ++ [s + m])[k]? = some y → (ans.set ii (0, wrap64 (start + ((s + m : Nat) : Int))))[k]? = some (0, wrap64 (start + y)) := fun k y hk => by
        rw [List.getElem?_append] at hk
        split at hk
        · rename_i hlt'
          rw [List.getElem?_set, if_neg (by omega)]
          exact h5 k y hk
        · have hk0 : k - (A i).length = 0 := by
            have := (List.getElem?_eq_some_iff.1 hk).1
            simp at this
            omega
          rw [hk0] at hk
          cases hk
          rw [List.getElem?_set, if_pos (by omega), if_pos (by omega)]
      obtain ⟨b1, b2, L', b3, b4⟩ := back_add start az i ii (A i ++ [s + m]) ans (wrap64 (start + ((s + m : Nat) : Int))) (didS S undef i t (wrap64 (wrap64 (wrap64 (start + s) + m) - m)) (wrap64 (wrap64 (start + s) + m))) [(cb, wrap64 (start + ((s + m : Nat) : Int)))] hlt (by simp; omega) h4 hget rest hrest
      refine ⟨upd A i (A i ++ [s + m]), s + m, ⟨?_, fun j hj => ?_, fun j hj x hx => ?_, fun j hj => ?_, fun j j' hj hj' hne x hx y hy => ?_, ?_, ?_⟩⟩
      · exact b2
      · show PhA start az j (upd A i (A i ++ [s + m]) j) (upd p.l i _ j)
        by_cases e : j = i
        · subst e; rw [upd_same, upd_same]; exact b1
        · rw [upd_ne _ _ e, upd_ne _ _ e]; exact h.ph j hj
      · by_cases e : j = i
        · subst e
          rw [upd_same] at hx
          rcases List.mem_append.1 hx with hx | hx
          · have := h.le j hj x hx; omega
          · have := List.mem_singleton.1 hx; omega
        · rw [upd_ne _ _ e] at hx
          have := h.le j hj x hx; omega
      · by_cases e : j = i
        · subst e
          rw [upd_same, List.pairwise_append]
          refine ⟨h.own j hj, List.pairwise_singleton _ _, fun x hx y hy => ?_⟩
          have := List.mem_singleton.1 hy
          have := h.le j hj x hx
          omega
        · rw [upd_ne _ _ e]; exact h.own j hj
      · by_cases e : j = i
        · subst e
          rw [upd_same] at hx
          rw [upd_ne _ _ (fun e => hne e.symm)] at hy
          rcases List.mem_append.1 hx with hx | hx
          · exact h.dis j j' hj hj' hne x hx y hy
          · have := List.mem_singleton.1 hx
            have := h.le j' hj' y hy
            omega
        · rw [upd_ne _ _ e] at hx
          by_cases e' : j' = i
          · subst e'
            rw [upd_same] at hy
            rcases List.mem_append.1 hy with hy | hy
            · exact h.dis j j' hj hj' hne x hx y hy
            · have := List.mem_singleton.1 hy
              have := h.le j hj x hx
              omega
          · rw [upd_ne _ _ e'] at hy
            exact h.dis j j' hj hj' hne x hx y hy
      · have hd : ((az i).drop ii).sum = m + ((az i).drop (ii + 1)).sum := by
          rw [List.drop_eq_getElem_cons hml]
          rw [List.getElem?_eq_getElem hml] at hm
          rw [Option.some.inj hm]
          simp
        have := sum_upd (fun j => ((az j).drop (A j).length).sum) (fun j => ((az j).drop (upd A i (A i ++ [s + m]) j).length).sum) m i n hi (fun j _ hne => by rw [upd_ne _ _ hne]) (by
          rw [upd_same, List.length_append, hAl, hd]
          simp
          omega)
        have hle := h.left
        omega
      · obtain ⟨L, l1, l2, l3⟩ := hS
        have a0 := adds_did S undef i t (wrap64 (wrap64 (wrap64 (start + s) + m) - m)) (wrap64 (wrap64 (start + s) + m))
        have a1 := a0.trans b3
        refine ⟨L ++ ([⟨i, t.ce, t.op, wrap64 (wrap64 (wrap64 (start + s) + m) - m), wrap64 (wrap64 (start + s) + m)⟩] ++ L'), (by rw [flat_app, ← l1]; exact a1.tr), (by rw [List.length_append, ← l2]; exact a1.n), ?_⟩
        rw [lastAdd_app, lastAdd_app, if_neg (by omega)]
        have hop : t.op = 5 := hf.1
        show lastAdd (lastAdd (if t.op = 5 then wrap64 (wrap64 (start + s) + m) else lastAdd start L) []) L' = _
        rw [if_pos hop]
        show lastAdd (wrap64 (wrap64 (start + s) + m)) L' = _
        rw [lastAdd_quiet _ L' b4, wrap_add, Int.natCast_add, Int.add_assoc]
    · have ew : which 0 1 = 0 := rfl
      have hs := h.sum_le hb
      have hne : wrap64 (start + s) ≠ wrap64 (start - 1) := wrap_not hs
      have er : resume i 1 (.turn (untCl start :: rest) ii ans) S [(cb, wrap64 (start + s))] = back i 1 rest ii ans 0 0 (didS S undef i t (wrap64 (start + s)) (wrap64 (start + s))) [(cb, wrap64 (start + s))] := by
        rw [resume_turn, if_neg (fun h => hne h.2), eth]
        rfl
      rw [er]
      have hAl : (A i).length = (az i).length := by omega
      obtain ⟨b1, b2, L', b3, b4⟩ := back_add start az i ii (A i) ans 0 (didS S undef i t (wrap64 (start + s)) (wrap64 (start + s))) [(cb, wrap64 (start + s))] hlt (by omega) h4 (fun k y hk => by
        have hkl := (List.getElem?_eq_some_iff.1 hk).1
        rw [List.getElem?_set, if_neg (by omega)]
        exact h5 k y hk) rest hrest
      refine ⟨A, s, ⟨?_, fun j hj => ?_, h.le, h.own, h.dis, h.left, ?_⟩⟩
      · exact b2
      · show PhA start az j (A j) (upd p.l i _ j)
        by_cases e : j = i
        · subst e; rw [upd_same]; exact b1
        · rw [upd_ne _ _ e]; exact h.ph j hj
      · obtain ⟨L, l1, l2, l3⟩ := hS
        have a0 := adds_did S undef i t (wrap64 (start + s)) (wrap64 (start + s))
        have a1 := a0.trans b3
        refine ⟨L ++ ([⟨i, t.ce, t.op, wrap64 (start + s), wrap64 (start + s)⟩] ++ L'), (by rw [flat_app, ← l1]; exact a1.tr), (by rw [List.length_append, ← l2]; exact a1.n), ?_⟩
        rw [lastAdd_app, lastAdd_app]
        have hop : t.op = 1 := hf.1
        show lastAdd (lastAdd (if t.op = 5 then wrap64 (start + s) else lastAdd start L) []) L' = _
        rw [if_neg (by rw [hop]; decide)]
        show lastAdd (lastAdd start L) L' = _
        rw [lastAdd_quiet _ L' b4]
        exact l3
  | .turn [] _ _, _, hf => exact hf.elim
  | .wait _ _ _, hph, _ => exact hph.elim
  | .done ans, hph, hf =>
    have e : resume i 1 (.done ans) S p.K = (S, p.K, .done ans) := rfl
    rw [e]
    refine ⟨A, s, ⟨h.K, fun j hj => ?_, h.le, h.own, h.dis, h.left, hS⟩⟩
    show PhA start az j (A j) (upd p.l i (.done ans) j)
    by_cases ej : j = i
    · subst ej; rw [upd_same]; exact hph
    · rw [upd_ne _ _ ej]; exact h.ph j hj

theorem pturn_add (h : AddI start az n cb A s p) (hpos : ∀ i, i < n → ∀ m ∈ az i, 0 < m) (hb : ((List.range n).map fun i => (az i).sum).sum ≤ 1000000) (hn : p.S.thr.length = n) (g : Good 1 p) (e : pturn 1 p = some p1) : (∃ A' s', AddI start az n cb A' s' p1) ∧ p1.S.thr.length = n := by
  unfold pturn at e
  split at e
  · split at e
    · rename_i hw
      exfalso
      unfold waits2 at hw
      rw [List.any_eq_true] at hw
      obtain ⟨i, hi, hst⟩ := hw
      cases ht : p.S.thr[i]? with
      | none => rw [ht] at hst; cases hst
      | some t =>
        rw [ht] at hst
        have hst : t.st = 2 := by simpa using hst
        have hin : i < n := by rw [← hn]; exact (List.getElem?_eq_some_iff.1 ht).1
        have h1 := (g.sit i t ht).2
        have h2 := h.ph i hin
        match hpl : p.l i, h1, h2 with
        | .turn _ _ _, h1, _ => have : t.st = 1 := h1; omega
        | .wait _ _ _, _, h2 => exact h2
        | .done _, h1, _ => have : t.st = 3 := h1; omega
    · cases e
  · rename_i h0
    obtain ⟨t, ht, hrd⟩ := nextI_in h0
    generalize hi : nextI p.S = i at ht e
    have eth : thrI p.S i = t := thrI_of ht
    rw [eth] at e
    have hin : i < n := by rw [← hn]; exact (List.getElem?_eq_some_iff.1 ht).1
    obtain ⟨hfit, hst⟩ := g.sit i t ht
    have hfit0 : FitsN 1 (p.l i) { t with st := 0 } := by
      match hpl : p.l i, hfit, hst with
      | .turn (c :: _) _ _, hf, _ => exact hf
      | .turn [] _ _, hf, _ => exact hf
      | .wait (c :: _) _ _, hf, _ => exact hf
      | .wait [] _ _, hf, _ => exact hf
      | .done _, _, hst =>
        exfalso
        have : t.st = 3 := hst
        simp [rdy, this] at hrd
    have hk := going_keeps (S := p.S) (i := i) (t := t)
    have key := resume_add h hpos hb hin (going p.S i t) (by rw [hk.2.2.1, hk.2.2.2]; exact h.tr) (going_thr ht) hfit0
    cases e
    refine ⟨key, ?_⟩
    show (resume i 1 (p.l i) (going p.S i t) p.K).1.thr.length = n
    rw [(resume_sta _ _ _ _ _).len, going_len, hn]

theorem turns_add {m : Nat} {p' : PSt} (h : Turns 1 m p p') (hpos : ∀ i, i < n → ∀ m ∈ az i, 0 < m) (hb : ((List.range n).map fun i => (az i).sum).sum ≤ 1000000) : ∀ {A : Nat → List Nat} {s : Nat}, p.S.thr.length = n → Good 1 p → AddI start az n cb A s p → ∃ A' s', AddI start az n cb A' s' p' := by
  induction h with
  | stop => intro A s _ _ h; exact ⟨A, s, h⟩
  | @step k p p1 p' e _ ih =>
    intro A s hn g h
    obtain ⟨⟨A', s', h'⟩, hn'⟩ := pturn_add h hpos hb hn g e
    obtain ⟨g1, _, _⟩ := pturn_mu g e
    exact ih hn' g1 h'
end

theorem hires_add (start : Int) (az : Nat → List Nat) {k : Nat} {ss : List Scr} {S S' : TS} {l l' : Nat → Ph} (h : Hires 1 k ss S l S' l') : (∀ (j : Nat) (s : Scr), ss[j]? = some s → s.calls = addS start az (k + j) ∧ s.ans.length = (addS start az (k + j)).length) → (∀ i, i < k → PhA start az i [] (l i)) →
    (∃ L, Adds S S' L ∧ ∀ s ∈ L, s.op ≠ 5) ∧ ∀ i, i < k + ss.length → PhA start az i [] (l' i) := by
  induction h with
  | nil => intro _ hl; exact ⟨⟨[], Adds.refl _, fun _ h => nomatch h⟩, fun i hi => hl i (by simpa using hi)⟩
  | @cons k s ss S S' l l' tv tb gc h ih =>
    intro hs hl
    obtain ⟨c1, c2⟩ := hs 0 s rfl
    rw [Nat.add_zero] at c1 c2
    have f := flow_add start az k 0 [] s.ans (hiredS S tv tb gc) (Nat.zero_le _) (by simp) c2 (fun k x hk => by simp at hk)
    rw [List.drop_zero, ← c1] at f
    obtain ⟨f1, L, f2, f3⟩ := f
    obtain ⟨⟨L', i1, i2⟩, i3⟩ := ih (fun j s' hj => by
      have := hs (j + 1) s' hj
      rw [show k + (j + 1) = k + 1 + j by omega] at this
      exact this) (fun i hi => by
      by_cases e : i = k
      · subst e; rw [upd_same]; exact f1
      · rw [upd_ne _ _ e]; exact hl i (by omega))
    refine ⟨⟨L ++ L', ?_, fun x hx => (List.mem_append.1 hx).elim (f3 x) (i2 x)⟩, fun i hi => i3 i (by simp only [List.length_cons] at hi; omega)⟩
    have : Adds S (flow k 1 s.calls 0 false s.ans (hiredS S tv tb gc)).1 L := ⟨f2.tr, f2.n⟩
    exact this.trans i1

/-- The sum of all that is added. -/
def total (az : Nat → List Nat) (n : Nat) : Nat := ((List.range n).map fun i => (az i).sum).sum
theorem play_adds {start : Int} {az : Nat → List Nat} {n cb m : Nat} {ss : List Scr} {S S1 : TS} {l0 l1 : Nat → Ph} {p' : PSt} (hstart : InR start) (h : Hires 1 0 ss S l0 S1 l1) (hT : Turns 1 m ⟨S1, [(cb, start)], l1⟩ p') (h0 : S.thr = []) (hn8 : n ≤ 8) (hss : ss.length = n) (hn : S.n = 0) (htr : S.tr = [])
    (hs : ∀ (j : Nat) (s : Scr), ss[j]? = some s → s.calls = addS start az j ∧ s.ans.length = (addS start az j).length) (hpos : ∀ i, i < n → ∀ m ∈ az i, 0 < m) (hb : total az n ≤ 1000000) (hdone : ∀ j, j < n → ∃ a, p'.l j = .done a) :
    ∃ A : Nat → List Nat, (∀ j, j < n → ∃ ans, p'.l j = .done ans ∧ ans.length = (addS start az j).length ∧ (A j).length = (az j).length ∧ (∀ (k x : Nat), (A j)[k]? = some x → ans[k]? = some (0, wrap64 (start + x))) ∧ (∀ x ∈ A j, x ≤ 1000000) ∧ (A j).Pairwise (· ≠ ·)) ∧
      (∀ i j, i < n → j < n → i ≠ j → ∀ x ∈ A i, ∀ y ∈ A j, x ≠ y) ∧ ∃ L, p'.S.tr = flat L ∧ p'.S.n = L.length ∧ lastAdd start L = wrap64 (start + total az n) := by
  obtain ⟨a1, a2, a3, a4⟩ := hires_good h (by rw [h0]; rfl) (by omega) (fun i t ht => by rw [h0] at ht; cases ht)
  have g : Good 1 ⟨S1, [(cb, start)], l1⟩ := ⟨by show S1.thr.length ≤ 8; omega, a2⟩
  have hw0 : wrap64 start = start := by unfold InR at hstart; unfold wrap64; omega
  obtain ⟨⟨L, b1, b2⟩, b3⟩ := hires_add start az h (fun j s hj => by rw [Nat.zero_add]; exact hs j s hj) (fun i hi => by omega)
  rw [hss] at b3
  have i0 : AddI start az n cb (fun _ => []) 0 ⟨S1, [(cb, start)], l1⟩ := by
    refine ⟨?_, fun i hi => b3 i (by omega), fun _ _ x hx => (nomatch hx), fun _ _ => List.Pairwise.nil, fun _ _ _ _ _ x hx => (nomatch hx), ?_, L, ?_, ?_, ?_⟩
    · show [(cb, start)] = [(cb, wrap64 (start + ((0 : Nat) : Int)))]
      rw [Int.natCast_zero, Int.add_zero, hw0]
    · simp
    · show S1.tr = flat L
      rw [b1.tr, htr, List.nil_append]
    · show S1.n = L.length
      rw [b1.n, hn, Nat.zero_add]
    · rw [lastAdd_quiet _ L b2]; rfl
  obtain ⟨A, s, hI⟩ := turns_add hT hpos hb (by show S1.thr.length = n; omega) g i0
  have hlen : ∀ j, j < n → (A j).length = (az j).length := fun j hj => by
    obtain ⟨a, ha⟩ := hdone j hj
    have := hI.ph j hj
    rw [ha] at this
    exact this.1
  have hs0 : ((List.range n).map fun i => ((az i).drop (A i).length).sum).sum = 0 := by
    have : (List.range n).map (fun i => ((az i).drop (A i).length).sum) = (List.range n).map (fun _ => 0) := List.map_congr_left (fun i hi => by
      rw [hlen i (List.mem_range.1 hi)]
      simp)
    rw [this]
    have z : ∀ l : List Nat, (l.map fun _ => 0).sum = 0 := fun l => by
      induction l with
      | nil => rfl
      | cons _ l ih => rw [List.map_cons, List.sum_cons, ih]
    exact z _
  have hs : s = total az n := by
    have := hI.left
    rw [hs0] at this
    exact this
  refine ⟨A, fun j hj => ?_, hI.dis, ?_⟩
  · obtain ⟨a, ha⟩ := hdone j hj
    have := hI.ph j hj
    rw [ha] at this
    exact ⟨a, ha, this.2.1, this.1, this.2.2, fun x hx => by have := hI.le j hj x hx; omega, hI.own j hj⟩
  · obtain ⟨L', c1, c2, c3⟩ := hI.tr
    refine ⟨L', c1, c2, ?_⟩
    rw [c3]
    split
    · rename_i e
      rw [← hs, e, Int.natCast_zero, Int.add_zero, hw0]
    · rw [hs]
end Go.Proofs.Ytfjjoohflcchnaa
