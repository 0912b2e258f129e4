/- The statement CellAdds of the package butlerlaw02 (cell), in full form: for every input the law answers true, and its arguments read behind the call as before; no conditions. Part 31 of 36. (Joined, by program, of: Trail, Tail3, Ins.) -/
import Derived.Test.YtmgaojbfmohboaaCellAdds30
import Derived.BigQuiet

/- What the trace of a cell's Play tells: each step of a cell begins where the one ahead left it. -/
set_option linter.unusedSimpArgs false
set_option linter.unusedVariables false
namespace Go.Proofs.Ytmgaojbfmohboaa
open Go Go.Lift Go.Conc Go.RowKit
open Go.ConcN (upd upd_same upd_ne)

/-- A step of a trace. -/
structure Stp where
  th : Int
  ce : Int
  op : Int
  ol : Int
  ne : Int
def flat (L : List Stp) : List Value := L.flatMap fun s => [I s.th, I s.ce, I s.op, I s.ol, I s.ne]
theorem flat_app (a b : List Stp) : flat (a ++ b) = flat a ++ flat b := List.flatMap_append
theorem flat_len (L : List Stp) : (flat L).length = L.length * 5 := by
  induction L with
  | nil => rfl
  | cons a l ih => simp only [flat, List.flatMap_cons, List.length_append, List.length_cons, List.length_nil] at ih ⊢; omega
theorem flat_get : ∀ (L : List Stp) (k : Nat) (s : Stp), L[k]? = some s → (flat L)[k * 5]? = some (I s.th) ∧ (flat L)[k * 5 + 1]? = some (I s.ce) ∧ (flat L)[k * 5 + 2]? = some (I s.op) ∧ (flat L)[k * 5 + 3]? = some (I s.ol) ∧ (flat L)[k * 5 + 4]? = some (I s.ne)
  | b :: l, 0, a, h => by obtain rfl : b = a := by simpa using h
                          exact ⟨rfl, rfl, rfl, rfl, rfl⟩
  | b :: l, k + 1, a, h => by
    have := flat_get l k a (by simpa using h)
    have e : flat (b :: l) = I b.th :: I b.ce :: I b.op :: I b.ol :: I b.ne :: flat l := rfl
    rw [e]
    have e0 : ∀ j, (I b.th :: I b.ce :: I b.op :: I b.ol :: I b.ne :: flat l)[j + 5]? = (flat l)[j]? := fun j => rfl
    rw [show (k + 1) * 5 = k * 5 + 5 by omega, show k * 5 + 5 + 1 = (k * 5 + 1) + 5 by omega, show k * 5 + 5 + 2 = (k * 5 + 2) + 5 by omega, show k * 5 + 5 + 3 = (k * 5 + 3) + 5 by omega, show k * 5 + 5 + 4 = (k * 5 + 4) + 5 by omega]
    simp only [e0]
    exact this
theorem flat_one (L : List Stp) : ∀ u ∈ flat L, u.oneCell' = true := fun u hu => by
  simp only [flat, List.mem_flatMap] at hu
  obtain ⟨s, _, hu⟩ := hu
  simp only [List.mem_cons, List.not_mem_nil, or_false] at hu
  rcases hu with rfl | rfl | rfl | rfl | rfl <;> rfl

/-- A step of a cell: what stands there then; none: it did not begin where the one ahead left it. -/
def rstep (now : List Int) (s : Stp) : Option (List Int) :=
  if s.op < 1 ∨ 5 < s.op then some now
  else if 0 ≤ s.ce ∧ now[s.ce.toNat]? = some s.ol ∧ (s.op = 1 → s.ne = s.ol) then some (now.set s.ce.toNat s.ne) else none
def replay : List Int → List Stp → Option (List Int)
  | now, [] => some now
  | now, s :: L => match rstep now s with
    | some n => replay n L
    | none => none
theorem replay_app (a b : List Stp) : ∀ now, replay now (a ++ b) = (replay now a).bind fun n => replay n b := by
  induction a with
  | nil => intro now; rfl
  | cons s a ih =>
    intro now
    simp only [List.cons_append, replay]
    cases rstep now s with
    | none => rfl
    | some n => exact ih n
theorem replay_quiet (now : List Int) : ∀ (L : List Stp), (∀ s ∈ L, s.op < 1 ∨ 5 < s.op) → replay now L = some now
  | [], _ => rfl
  | s :: L, h => by
    have : rstep now s = some now := by unfold rstep; rw [if_pos (h s (List.mem_cons_self))]
    simp only [replay, this]
    exact replay_quiet now L (fun x hx => h x (List.mem_cons_of_mem _ hx))

def InR (x : Int) : Prop := -9223372036854775808 ≤ x ∧ x < 9223372036854775808
/-- A call's numbers are ints. -/
def Cl.ok (c : Cl) : Prop := InR c.cb ∧ InR c.cc
def Ph.ok : Ph → Prop
  | .turn r _ _ => (∀ c ∈ r, c.ok) ∧ ∀ c r', r = c :: r' → 1 ≤ c.po ∧ c.po ≤ 6
  | .wait r _ _ => ∀ c ∈ r, c.ok
  | .done _ => True

/-- The trace so far leads from the values to what stands in the cells now. -/
structure TrS (xs : List Int) (S : TS) (K : List (Nat × Int)) : Prop where
  tr : ∃ L, S.tr = flat L ∧ S.n = L.length ∧ replay xs L = some (K.map (·.2))
  inr : ∀ c ∈ K, InR c.2
structure Trail (xs : List Int) (p : PSt) : Prop where
  at_ : TrS xs p.S p.K
  ok : ∀ i, (p.l i).ok

/-- What is added to a trace. -/
structure Adds (S S' : TS) (L : List Stp) : Prop where
  tr : S'.tr = S.tr ++ flat L
  n : S'.n = S.n + L.length
theorem Adds.refl (S : TS) : Adds S S [] := ⟨by simp [flat], rfl⟩
theorem Adds.trans {S S1 S2 : TS} {L L' : List Stp} (h : Adds S S1 L) (k : Adds S1 S2 L') : Adds S S2 (L ++ L') := ⟨by rw [k.tr, h.tr, flat_app, List.append_assoc], by rw [k.n, h.n, List.length_append, Nat.add_assoc]⟩
theorem adds_noted (S : TS) (tv : Value) (i : Nat) (op ce ol ne : Int) : Adds S (noted S tv i op ce ol ne) [⟨i, ce, op, ol, ne⟩] := ⟨rfl, rfl⟩
theorem adds_did (S : TS) (tv : Value) (i : Nat) (t : Thr) (b a : Int) : Adds S (didS S tv i t b a) [⟨i, t.ce, t.op, b, a⟩] := by
  unfold didS
  split <;> exact ⟨rfl, rfl⟩
theorem flow_adds (i nk : Nat) : ∀ (rest : List Cl) (ii : Nat) (sk : Bool) (ans : List (Int × Int)) (S : TS), (∀ c ∈ rest, c.ok) → ∃ L, Adds S (flow i nk rest ii sk ans S).1 L ∧ (∀ s ∈ L, s.op < 1 ∨ 5 < s.op) ∧ (flow i nk rest ii sk ans S).2.ok
  | [], ii, sk, ans, S, _ => by cases sk <;> exact ⟨[], ⟨(by simp [flat]; rfl), rfl⟩, (fun _ h => nomatch h), trivial⟩
  | c :: rest, ii, true, ans, S, h => flow_adds i nk rest (ii + 1) true _ S (fun x hx => h x (List.mem_cons_of_mem _ hx))
  | c :: rest, ii, false, ans, S, h => by
    rw [flow_cons]
    split
    · exact ⟨[⟨i, -1, 9, ii, 0⟩], ⟨rfl, rfl⟩, fun s hs => by
        have := List.mem_singleton.1 hs
        subst this
        right; exact (by decide : (5 : Int) < 9), h, fun c' r' e => by
        cases e
        exact ‹_›⟩
    · obtain ⟨L, h1, h2, h3⟩ := flow_adds i nk rest (ii + 1) false (ans.set ii (1, 0)) (noted (noted S undef i 9 (-1) ii 0) undef i 10 (-1) ii 1) (fun x hx => h x (List.mem_cons_of_mem _ hx))
      refine ⟨_, ((adds_noted S undef i 9 (-1) ii 0).trans (adds_noted _ undef i 10 (-1) ii 1)).trans h1, fun s hs => ?_, h3⟩
      simp only [List.cons_append, List.nil_append, List.mem_cons] at hs
      rcases hs with rfl | rfl | hs
      · right; exact (by decide : (5 : Int) < 9)
      · right; exact (by decide : (5 : Int) < 10)
      · exact h2 s hs

theorem wrap_in (x : Int) : InR (wrap64 x) := by
  unfold InR wrap64
  omega
theorem wrap_back {x n : Int} (hx : InR x) : wrap64 (wrap64 (x + n) - n) = x := by
  unfold InR at hx
  unfold wrap64
  omega

/-- A step that a turn does. -/
theorem eff_step {c : Cl} {x : Int} (hx : InR x) (hc : c.ok) : (effC c x).1.1 = x ∧ (effC c x).1.2 = (effC c x).2.1 ∧ InR (effC c x).2.1 ∧ (opn c.po = 1 → (effC c x).2.1 = x) := by
  unfold effC opn
  obtain ⟨h1, h2⟩ := hc
  split
  · rename_i e
    exact ⟨rfl, rfl, h1, fun h => by rw [e] at h; simp at h⟩
  · split
    · rename_i e
      exact ⟨rfl, rfl, h1, fun h => by rw [e] at h; simp at h⟩
    · split
      · rename_i e
        unfold effCas
        split
        · rename_i ex
          exact ⟨ex.symm, rfl, h2, fun h => by rw [e] at h; simp at h⟩
        · exact ⟨rfl, rfl, hx, fun _ => rfl⟩
      · split
        · rename_i e
          exact ⟨wrap_back hx, rfl, wrap_in _, fun h => by rw [e] at h; simp at h⟩
        · exact ⟨rfl, rfl, hx, fun _ => rfl⟩

theorem opn_in {po : Int} (h : 1 ≤ po ∧ po ≤ 6) : ¬ (opn po < 1 ∨ 5 < opn po) := by
  unfold opn
  split <;> omega

section
variable {xs : List Int} {S S' : TS} {K : List (Nat × Int)} {L : List Stp}
theorem TrS.quiet (h : TrS xs S K) (a : Adds S S' L) (q : ∀ s ∈ L, s.op < 1 ∨ 5 < s.op) : TrS xs S' K := by
  obtain ⟨L0, h1, h2, h3⟩ := h.tr
  refine ⟨⟨L0 ++ L, by rw [a.tr, h1, flat_app], by rw [a.n, h2, List.length_append], ?_⟩, h.inr⟩
  rw [replay_app, h3]
  exact replay_quiet _ L q
theorem cellAt_get {j : Nat} (hj : j < K.length) : K[j]? = some (cellAt K j) := by
  unfold cellAt
  rw [List.getElem?_eq_getElem hj]
  rfl
theorem kset_cellAt {j : Nat} (hj : j < K.length) : K.set j (cellAt K j) = K := by
  have : cellAt K j = K[j] := by unfold cellAt; rw [List.getElem?_eq_getElem hj]; rfl
  rw [this]
  exact List.set_getElem_self hj
theorem TrS.step (h : TrS xs S K) {th : Int} {j : Nat} {op x y : Int} (hj : j < K.length) (hop : ¬ (op < 1 ∨ 5 < op)) (a : Adds S S' [⟨th, j, op, x, y⟩]) (hx : (cellAt K j).2 = x) (hy : InR y) (h1 : op = 1 → y = x) : TrS xs S' (K.set j ((cellAt K j).1, y)) := by
  obtain ⟨L0, g1, g2, g3⟩ := h.tr
  refine ⟨⟨L0 ++ [⟨th, j, op, x, y⟩], by rw [a.tr, g1, flat_app], by rw [a.n, g2, List.length_append], ?_⟩, fun c hc => ?_⟩
  · rw [replay_app, g3]
    show replay (K.map (·.2)) [⟨th, j, op, x, y⟩] = _
    have e : rstep (K.map (·.2)) ⟨th, j, op, x, y⟩ = some ((K.map (·.2)).set j y) := by
      unfold rstep
      rw [if_neg hop, if_pos ⟨Int.natCast_nonneg _, by
        show (K.map (·.2))[((j : Int)).toNat]? = some x
        rw [Int.toNat_natCast, List.getElem?_map, cellAt_get hj, ← hx]
        rfl, h1⟩]
      rfl
    simp only [replay, e]
    rw [List.map_set]
  · rcases List.mem_or_eq_of_mem_set hc with h2 | rfl
    · exact h.inr c h2
    · exact hy
theorem adds_wait (S : TS) (i : Nat) (t : Thr) (s o c : Int) : Adds S (waiting S i t s o c) [] := ⟨by simp [flat]; rfl, rfl⟩
theorem adds_going (S : TS) (i : Nat) (t : Thr) : Adds S (going S i t) [] := by
  have := going_keeps (S := S) (i := i) (t := t)
  exact ⟨by rw [this.2.2.2]; simp [flat], this.2.2.1⟩
theorem adds_stuck (S : TS) (tv : Value) : Adds S (stuckS S tv) [⟨-1, -1, 7, 0, 0⟩] := ⟨rfl, rfl⟩
theorem back_trail (i nk : Nat) {rest : List Cl} (hok : ∀ c ∈ rest, c.ok) (ii : Nat) (ans : List (Int × Int)) (e x : Int) (h : TrS xs S K) : TrS xs (back i nk rest ii ans e x S K).1 K ∧ (back i nk rest ii ans e x S K).2.1 = K ∧ (back i nk rest ii ans e x S K).2.2.ok := by
  obtain ⟨L, h1, h2, h3⟩ := flow_adds i nk rest (ii + 1) (e == 4) (ans.set ii (e, x)) (noted S undef i 10 (-1) ii e) hok
  refine ⟨h.quiet ((adds_noted S undef i 10 (-1) ii e).trans h1) (fun s hs => ?_), rfl, h3⟩
  simp only [List.cons_append, List.nil_append, List.mem_cons] at hs
  rcases hs with rfl | hs
  · right; exact (by decide : (5 : Int) < 10)
  · exact h2 s hs
theorem resume_trail (i : Nat) (l : Ph) (S : TS) (t : Thr) (hk : 0 < K.length) (ht : S.thr[i]? = some t) (hl : (∃ r k a, l = .turn r k a) ∨ ∃ r k a, l = .wait r k a) (hf : FitsN K.length l t) (hok : l.ok) (h : TrS xs S K) :
    TrS xs (resume i K.length l S K).1 (resume i K.length l S K).2.1 ∧ (resume i K.length l S K).2.2.ok ∧ (resume i K.length l S K).2.1.length = K.length := by
  have eth : thrI S i = t := thrI_of ht
  match l, hf, hl, hok with
  | .turn (c :: rest) ii ans, hf, _, hok =>
    have hj := which_lt c.ca hk
    have hin := hok.2 c rest rfl
    have hr : ∀ x ∈ rest, x.ok := fun x hx => hok.1 x (List.mem_cons_of_mem _ hx)
    have hx : InR (cellAt K (which c.ca K.length)).2 := h.inr _ (List.mem_of_getElem? (cellAt_get hj))
    have hst := eff_step hx (hok.1 c List.mem_cons_self)
    rw [resume_turn, eth]
    split
    · rename_i hc
      have a0 := adds_did S undef i t c.cb c.cb
      rw [hf.1, hf.2] at a0
      have h0 : TrS xs (didS S undef i t c.cb c.cb) K := by
        have := h.step hj (opn_in hin) a0 hc.2 (by rw [← hc.2]; exact hx) (fun _ => rfl)
        rw [show ((cellAt K (which c.ca K.length)).1, c.cb) = cellAt K (which c.ca K.length) by rw [← hc.2], kset_cellAt hj] at this
        exact this
      split
      · obtain ⟨b1, b2, b3⟩ := back_trail i K.length hr ii ans 4 0 h0
        rw [b2]
        exact ⟨b1, b3, rfl⟩
      · exact ⟨h0.quiet (adds_wait _ _ _ _ _ _) (fun _ h => by cases h), hok.1, rfl⟩
    · have a0 := adds_did S undef i t (effC c (cellAt K (which c.ca K.length)).2).1.1 (effC c (cellAt K (which c.ca K.length)).2).1.2
      rw [hf.1, hf.2] at a0
      have h0 := h.step hj (opn_in hin) a0 hst.1.symm (by rw [hst.2.1]; exact hst.2.2.1) (fun e => by rw [hst.2.1, hst.2.2.2 e, hst.1])
      rw [hst.2.1] at h0
      obtain ⟨b1, b2, b3⟩ := back_trail i K.length hr ii ans (ansC c (cellAt K (which c.ca K.length)).2).1 (ansC c (cellAt K (which c.ca K.length)).2).2 h0
      rw [hst.2.1, b2]
      exact ⟨b1, b3, by simp⟩
  | .wait (c :: rest) ii ans, hf, _, hok =>
    have hr : ∀ x ∈ rest, x.ok := fun x hx => hok x (List.mem_cons_of_mem _ hx)
    rw [resume_wait, eth]
    split
    · obtain ⟨b1, b2, b3⟩ := back_trail i K.length hr ii ans 4 0 h
      rw [b2]
      exact ⟨b1, b3, rfl⟩
    · refine ⟨h.quiet ((adds_noted S undef i 6 (which c.ca K.length) 0 0).trans (adds_wait _ _ _ _ _ _)) (fun s hs => ?_), ⟨hok, fun c' r' e => ?_⟩, rfl⟩
      · simp only [List.append_nil, List.mem_singleton] at hs
        subst hs
        right; exact (by decide : (5 : Int) < 6)
      · cases e
        have : c.po = 6 := hf
        omega
  | .turn [] _ _, hf, _, _ => exact hf.elim
  | .wait [] _ _, hf, _, _ => exact hf.elim
  | .done _, _, hl, _ => exact absurd hl (by simp)
end

theorem pturn_trail {xs : List Int} {p p1 : PSt} (hk : 0 < p.K.length) (g : Good p.K.length p) (h : Trail xs p) (e : pturn p.K.length p = some p1) : Trail xs p1 ∧ p1.K.length = p.K.length := by
  unfold pturn at e
  split at e
  · split at e
    · cases e
      exact ⟨⟨h.at_.quiet (adds_stuck p.S undef) (fun s hs => by
        have := List.mem_singleton.1 hs
        subst this
        right; exact (by decide : (5 : Int) < 7)), h.ok⟩, rfl⟩
    · cases e
  · rename_i h0
    obtain ⟨t, ht, hrd⟩ := nextI_in h0
    generalize hi : nextI p.S = i at ht e
    have eth : thrI p.S i = t := thrI_of ht
    rw [eth] at e
    obtain ⟨hfit, hst⟩ := g.sit i t ht
    have hl : (∃ r k a, p.l i = .turn r k a) ∨ ∃ r k a, p.l i = .wait r k a := by
      match hpl : p.l i, hst with
      | .turn r k a, _ => exact .inl ⟨r, k, a, rfl⟩
      | .wait r k a, _ => exact .inr ⟨r, k, a, rfl⟩
      | .done a, hst =>
        exfalso
        have : t.st = 3 := hst
        simp [rdy, this] at hrd
    obtain ⟨r1, r2, r3⟩ := resume_trail (xs := xs) (K := p.K) i (p.l i) (going p.S i t) { t with st := 0 } hk (going_thr ht) hl (fits_st0 hl hfit) (h.ok i) (h.at_.quiet (adds_going _ _ _) (fun _ h => by cases h))
    cases e
    refine ⟨⟨r1, fun j => ?_⟩, r3⟩
    show (upd p.l i _ j).ok
    by_cases hj : j = i
    · subst hj; rw [upd_same]; exact r2
    · rw [upd_ne _ _ hj]; exact h.ok j

theorem turns_trail {xs : List Int} {nk m : Nat} {p p' : PSt} (h : Turns nk m p p') : nk = p.K.length → 0 < p.K.length → Good nk p → Trail xs p → Trail xs p' ∧ p'.K.length = p.K.length := by
  induction h with
  | stop => intro _ _ _ h; exact ⟨h, rfl⟩
  | @step n p p1 p' e _ ih =>
    intro hnk hk g h
    subst hnk
    obtain ⟨t1, t2⟩ := pturn_trail hk g h e
    obtain ⟨g1, _, _⟩ := pturn_mu g e
    obtain ⟨r1, r2⟩ := ih t2.symm (by omega) g1 t1
    exact ⟨r1, r2.trans t2⟩

theorem hires_trail {nk k : Nat} {ss : List Scr} {S S' : TS} {l l' : Nat → Ph} (h : Hires nk k ss S l S' l') (hss : ∀ s ∈ ss, ∀ c ∈ s.calls, c.ok) (hl : ∀ i, (l i).ok) : (∃ L, Adds S S' L ∧ ∀ s ∈ L, s.op < 1 ∨ 5 < s.op) ∧ ∀ i, (l' i).ok := by
  induction h with
  | nil => exact ⟨⟨[], Adds.refl _, fun _ h => by cases h⟩, hl⟩
  | @cons k s ss S S' l l' tv tb gc h ih =>
    obtain ⟨L, f1, f2, f3⟩ := flow_adds k nk s.calls 0 false s.ans (hiredS S tv tb gc) (hss s List.mem_cons_self)
    obtain ⟨⟨L', i1, i2⟩, i3⟩ := ih (fun s hs => hss s (List.mem_cons_of_mem _ hs)) (fun i => by
      by_cases hi : i = k
      · subst hi; rw [upd_same]; exact f3
      · rw [upd_ne _ _ hi]; exact hl i)
    refine ⟨⟨L ++ L', ?_, fun s hs => (List.mem_append.1 hs).elim (f2 s) (i2 s)⟩, i3⟩
    have : Adds S (flow k nk s.calls 0 false s.ans (hiredS S tv tb gc)).1 L := ⟨f1.tr, f1.n⟩
    exact this.trans i1

/-- What a Play's trace tells. -/
theorem play_trail {ss : List Scr} {S S1 : TS} {l0 l1 : Nat → Ph} {K : List (Nat × Int)} {m : Nat} {p' : PSt} (h : Hires K.length 0 ss S l0 S1 l1) (hT : Turns K.length m ⟨S1, K, l1⟩ p') (hk : 0 < K.length) (h0 : S.thr = []) (h8 : ss.length ≤ 8) (hn : S.n = 0) (htr : S.tr = []) (hl0 : ∀ i, (l0 i).ok) (hss : ∀ s ∈ ss, ∀ c ∈ s.calls, c.ok) (hin : ∀ c ∈ K, InR c.2) :
    ∃ L, p'.S.tr = flat L ∧ p'.S.n = L.length ∧ ∃ now, replay (K.map (·.2)) L = some now := by
  obtain ⟨a1, a2, a3, a4⟩ := hires_good h (by rw [h0]; rfl) (by omega) (fun i t ht => by rw [h0] at ht; cases ht)
  have g : Good K.length ⟨S1, K, l1⟩ := ⟨by show S1.thr.length ≤ 8; omega, a2⟩
  obtain ⟨⟨L, b1, b2⟩, b3⟩ := hires_trail h hss hl0
  have t0 : TrS (K.map (·.2)) S K := ⟨⟨[], htr, hn, rfl⟩, hin⟩
  obtain ⟨r1, _⟩ := turns_trail hT rfl hk g ⟨t0.quiet b1 b2, b3⟩
  obtain ⟨L', c1, c2, c3⟩ := r1.at_.tr
  exact ⟨L', c1, c2, _, c3⟩
end Go.Proofs.Ytmgaojbfmohboaa

/- The law CellRows (3): what it does behind its Play, walked alone. -/
set_option linter.unusedSimpArgs false
set_option linter.unusedVariables false
namespace Go.Proofs.Ytmgaojbfmohboaa
open Go Go.Lift Go.Conc Go.RowKit

noncomputable def B3 : Code := Try.f3.body.getD .skip
noncomputable def c30 : Code := seq1 B3
noncomputable def c31 : Code := seq1 (seq2 B3)
noncomputable def c32 : Code := seq1 (seq2 (seq2 B3))
noncomputable def c33 : Code := seq1 (seq2 (seq2 (seq2 B3)))
noncomputable def T3 : Code := seq2 (seq2 (seq2 (seq2 B3)))
theorem eB3 : B3 = .seq c30 (.seq c31 (.seq c32 (.seq c33 T3))) := by kernel_rfl
theorem fine30 : fineCode Try.prog true LO c30 := fineCode_ask callO extT (by kernel_rfl)
theorem fine32 : fineCode Try.prog true LO c32 := fineCode_ask callO extT (by kernel_rfl)
theorem fineT3 : fineCode Try.prog true LO T3 := fineCode_ask callO extT (by kernel_rfl)

def lis (u : Nat → Value) : Nat → Nat → List Value
  | _, 0 => []
  | s, n + 1 => u s :: lis u (s + 1) n
theorem lis_get (u : Nat → Value) : ∀ (n s i : Nat), (lis u s n)[i]? = if i < n then some (u (s + i)) else none
  | 0, s, i => by simp [lis]
  | n + 1, s, 0 => by simp [lis]
  | n + 1, s, i + 1 => by
    have := lis_get u n (s + 1) i
    simp only [lis, List.getElem?_cons_succ, this, Nat.add_lt_add_iff_right]
    rw [show s + 1 + i = s + (i + 1) by omega]
theorem litN {n : Nat} {a : Act} (h : a.tmps.size = n) (hd : a.defers = []) : ∃ u : Nat → Value, a = { tmps := (lis u 0 n).toArray, defers := [] } ∧ ∀ i, a.tmps.getD i undef = u i := by
  obtain ⟨⟨l⟩, ds⟩ := a
  simp only at hd h
  subst hd
  refine ⟨fun i => (Array.mk l).getD i undef, ?_, fun i => rfl⟩
  have e : l = lis (fun i => (Array.mk l).getD i undef) 0 n := by
    apply List.ext_getElem?
    intro i
    rw [lis_get]
    have hl : l.length = n := h
    by_cases hi : i < n
    · rw [if_pos hi, List.getElem?_eq_getElem (by omega)]
      simp [Array.getD, hl, hi]
    · rw [if_neg hi, List.getElem?_eq_none (by omega)]
  exact congrArg (fun x => ({ tmps := x.toArray, defers := [] } : Act)) e

/-- The frame there. -/
structure F3 (s1 : Value) (wb : Nat) (E : Int) (a : Act) : Prop where
  size : a.tmps.size = 93
  defers : a.defers = []
  t1 : a.tmps.getD 1 undef = s1
  t7 : a.tmps.getD 7 undef = .bool true
  t8 : a.tmps.getD 8 undef = Pt wb 0
  t10 : a.tmps.getD 10 undef = I E

set_option maxHeartbeats 2000000 in
set_option maxRecDepth 100000 in
/-- Play has refused. -/
theorem tail3_no {v : World} {s1 : Value} {wb : Nat} {E : Int} {a : Act} (hE : ¬ E = 0) (hA : F3 s1 wb E a) :
    T3.wp Try.prog (fun e a w' => e = .ret ∧ a.tmps.getD 6 undef = .bool true ∧ Grows v w') a v := by
  have HG : Hid (Grows v v) := ⟨⟨Nat.le_refl _, fun _ _ => rfl, rfl, rfl⟩⟩
  obtain ⟨u, rfl, hg⟩ := litN hA.size hA.defers
  have u1 := (hg 1).symm.trans hA.t1
  have u7 := (hg 7).symm.trans hA.t7
  have u8 := (hg 8).symm.trans hA.t8
  have u10 := (hg 10).symm.trans hA.t10
  clear hg hA
  show Code.wp Try.prog (seq2 (seq2 (seq2 (seq2 B3)))) _ _ _
  unfold B3 Try.f3 seq2
  simp only [Option.getD_some, lis, Nat.reduceAdd, u1, u7, u8, u10]
  clear u1 u7 u8 u10
  go_wp2_with fail
  exact HG.out

/-- A row of ints. -/
def RI (u : World) (g : Nat) (cur : List Int) : Prop := ∃ C, u.heap[g]? = some (.cells C 3 (0, 0)) ∧ ∀ (j : Nat) (x : Int), cur[j]? = some x → C[j]? = some (I x)
theorem RI.cell {u : World} {g : Nat} {cur : List Int} (h : RI u g cur) {j : Nat} {x : Int} (hj : cur[j]? = some x) : u.cell? ⟨g, j, none⟩ = some (I x) ∧ u.frozen? ⟨g, j, none⟩ = false := by
  obtain ⟨C, h1, h2⟩ := h
  exact ⟨by simp [World.cell?, h1, h2 j x hj], by simp [World.frozen?, h1]⟩
theorem RI.set {u u' : World} {g : Nat} {cur : List Int} (h : RI u g cur) {j : Nat} (y : Int) (he : u'.heap[g]? = (u.setCell ⟨g, j, none⟩ (I y)).heap[g]?) (hj : j < cur.length) : RI u' g (cur.set j y) := by
  obtain ⟨C, h1, h2⟩ := h
  refine ⟨_, by rw [he]; exact heap_setCell_same h1 (I y), fun k x hk => ?_⟩
  rw [List.getElem?_set] at hk
  rw [Array.getElem?_setIfInBounds]
  split at hk
  · rename_i e
    subst e
    cases hk
    have : j < C.size := by
      obtain ⟨x, hx⟩ : ∃ x, cur[j]? = some x := ⟨_, List.getElem?_eq_getElem hj⟩
      exact (Array.getElem?_eq_some_iff.1 (h2 j x hx)).1
    rw [if_pos rfl, if_pos this]
  · rename_i e
    rw [if_neg e]
    exact h2 k x hk
theorem RI.stay {u u' : World} {g : Nat} {cur : List Int} (h : RI u g cur) (he : u'.heap[g]? = u.heap[g]?) : RI u' g cur := by
  obtain ⟨C, h1, h2⟩ := h
  exact ⟨C, by rw [he]; exact h1, h2⟩

/-- What is known in the loop: the trace at tg, the numbers at g. -/
structure In3 (v : World) (L : List Stp) (tg g n k : Nat) (u : World) : Prop where
  now : ∃ cur, RI u g cur ∧ cur.length = n ∧ ∃ fin, replay cur (L.drop k) = some fin
  tr : ∀ j x, (flat L)[j]? = some x → u.cell? ⟨tg, j, none⟩ = some x
  old : Grows v u
theorem In3.next {v u u' : World} {L : List Stp} {tg g n k : Nat} (h : In3 v L tg g n k u) (hg : v.heap.size ≤ g) (htg : tg ≠ g) (hcur : ∃ cur, RI u' g cur ∧ cur.length = n ∧ ∃ fin, replay cur (L.drop (k + 1)) = some fin)
    (hs : u.heap.size ≤ u'.heap.size) (ho : ∀ b, b < u.heap.size → b ≠ g → u'.heap[b]? = u.heap[b]?) (h1 : u'.os = u.os) (h2 : u'.output = u.output) : In3 v L tg g n (k + 1) u' := by
  refine ⟨hcur, fun j x hj => ?_, ⟨Nat.le_trans h.old.size hs, fun b hb => ?_, h1.trans h.old.os, h2.trans h.old.output⟩⟩
  · have := h.tr j x hj
    rw [World.cell?_of_block (w := u) (w' := u') (ho tg (World.block_lt_of_cell? _ _ this) htg)]
    exact this
  · rw [ho b (by have := h.old.size; omega) (by omega), h.old.old b hb]

theorem drop_get {L : List Stp} {k : Nat} {s : Stp} (h : L[k]? = some s) : L.drop k = s :: L.drop (k + 1) := by
  have hk := (List.getElem?_eq_some_iff.1 h).1
  rw [List.drop_eq_getElem_cons hk]
  rw [List.getElem?_eq_getElem hk] at h
  rw [Option.some.inj h]

set_option maxHeartbeats 4000000 in
set_option maxRecDepth 100000 in
theorem tail3_yes {v : World} {S : TS} (h : Rep zn S v) (L : List Stp) (htr : S.tr = flat L) (hn : S.n = L.length) (hn1 : S.n ≤ 1000000) (xs : List Int) (vb vo vcap : Nat) (hx0 : 0 < xs.length) (hx1 : xs.length ≤ 17592186043904) (hv : ∀ k x, xs[k]? = some x → v.cell? ⟨vb, vo + k, none⟩ = some (I x)) (hre : ∃ fin, replay xs L = some fin) {a : Act} (hA : F3 (.slice (some ⟨vb, vo, none⟩) xs.length vcap) S.wb 0 a) :
    T3.wp Try.prog (fun e a w' => e = .ret ∧ a.tmps.getD 6 undef = .bool true ∧ Grows v w') a v := by
  have hvl : vb < v.heap.size := by
    obtain ⟨x, hx⟩ : ∃ x, xs[0]? = some x := ⟨_, List.getElem?_eq_getElem hx0⟩
    have := World.block_lt_of_cell? _ _ (hv 0 x hx)
    exact this
  have hnews : ∀ u : World, u.heap[vb]? = v.heap[vb]? → ∀ j y, (xs.map I)[j]? = some y → u.cell? ((⟨vb, vo, none⟩ : Addr).add j) = some y := fun u hu j y hj => by
    have hadd : (⟨vb, vo, none⟩ : Addr).add j = ⟨vb, vo + j, none⟩ := by unfold Addr.add; split <;> simp_all
    rw [hadd, World.cell?_of_block (w := v) (w' := u) hu]
    rw [List.getElem?_map] at hj
    cases hk : xs[j]? with
    | none => rw [hk] at hj; cases hj
    | some x =>
      rw [hk] at hj
      cases hj
      exact hv j x hk
  have H1 : Hid (∀ u ∈ xs.map I, u.oneCell' = true) := ⟨fun u hu => by
    simp only [List.mem_map] at hu
    obtain ⟨x, _, rfl⟩ := hu
    rfl⟩
  have HW : Hid (∀ u : World, u.heap[vb]? = v.heap[vb]? → ∀ j y, (xs.map I)[j]? = some y → u.cell? ((⟨vb, vo, none⟩ : Addr).add j) = some y) := ⟨hnews⟩
  have HX : Hid (0 < xs.length ∧ xs.length ≤ 17592186043904 ∧ vb < v.heap.size) := ⟨⟨hx0, hx1, hvl⟩⟩
  have HR : Hid (Rep zn S v ∧ S.tr = flat L ∧ S.n = L.length ∧ S.n ≤ 1000000) := ⟨⟨h, htr, hn, hn1⟩⟩
  have HF : Hid (∃ fin, replay xs L = some fin) := ⟨hre⟩
  obtain ⟨j0, hj, hj0, hj1, hj2⟩ := info_parts info3
  clear hnews hv h htr hn hn1 hre hx0 hx1 hvl
  obtain ⟨u, rfl, hg⟩ := litN hA.size hA.defers
  have u1 := (hg 1).symm.trans hA.t1
  have u7 := (hg 7).symm.trans hA.t7
  have u8 := (hg 8).symm.trans hA.t8
  have u10 := (hg 10).symm.trans hA.t10
  clear hg hA
  show Code.wp Try.prog (seq2 (seq2 (seq2 (seq2 B3)))) _ _ _
  unfold B3 Try.f3 seq2
  simp only [Option.getD_some, lis, Nat.reduceAdd, u1, u7, u8, u10]
  clear u1 u7 u8 u10
  have HO : Hid ((v.alloc (.cells #[] 3)).ownsRow v.heap.size 3 1 (.slice (some ⟨v.heap.size, 0, none⟩) 0 0) 0 []) := ⟨⟨rfl, .inr ⟨v.heap.size, 0, #[], rfl, Nat.le_refl _, Array.getElem?_push_size, Nat.le_refl _, Nat.zero_le _, rfl, rfl⟩⟩⟩
  go_wp2_with (first
    | (refine wpList_append_lies _ rfl (.tmp 32) (.tmp 33) 22 rfl v.heap.size 3 j0 _ 1 8 Try.underlying22 hj hj0 hj1 hj2 rfl (by decide) (.slice (some ⟨v.heap.size, 0, none⟩) 0 0) 0 [] rfl HO.out ⟨vb, vo, none⟩ xs.length vcap (xs.map I) rfl (by simp) (HW.out _ (by show (v.heap.push _)[vb]? = _; rw [Array.getElem?_push, if_neg (by have := HX.out; omega)])) H1.out HX.out.1 (by have := HX.out; unfold maxLen; omega) (by have := HX.out; omega) (by show v.heap.size ≤ (v.heap.push _).size; simp) _ rfl ?_
       intro g cpg w6 hown6 hgrow6 hat6 hlt6))
  have g6 : Grows v w6 := by
    refine ⟨Nat.le_trans (by show v.heap.size ≤ (v.heap.push _).size; simp) hgrow6.size, fun b hb => ?_, hgrow6.os, hgrow6.output⟩
    rw [hgrow6.block b (by show b < (v.heap.push _).size; simp; omega) (fun e => by have : b = v.heap.size := Option.some.inj e; omega)]
    show (v.heap.push _)[b]? = _
    rw [Array.getElem?_push, if_neg (by omega)]
  have hrow6 : RI w6 g xs ∧ v.heap.size ≤ g := by
    rcases hown6.2 with ⟨e, _⟩ | ⟨g', cap', cur, e, hb, hh, _, _, _, ht⟩
    · cases e
    · cases e
      refine ⟨⟨cur, hh, fun j x hj => ?_⟩, hb⟩
      have hjl : j < xs.length := (List.getElem?_eq_some_iff.1 hj).1
      have : (cur.toList.take ((0 + xs.length) * 1))[j]? = some (I x) := by rw [ht]; simp [hj]
      rw [List.getElem?_take_of_lt (by omega)] at this
      simpa using this
  have H9 : Hid (Calls Try.prog 9 #[Pt S.wb 0] w6 (fun e w' => ∃ r, e = .returned r ∧ ∃ p tg cap, r = .slice p L.length cap ∧ (0 < L.length → p = some ⟨tg, 0, none⟩ ∧ w6.heap.size ≤ tg) ∧ (∀ j u, (flat L)[j]? = some u → w'.cell? ⟨tg, j, none⟩ = some u) ∧ Grows w6 w')) := ⟨by
    obtain ⟨hr, h1, h2, h3⟩ := HR.out
    have := (body9A (z := zn) (S := S) (v := w6) (hr.grows g6.size g6.old) (by omega) (by rw [h1]; exact flat_one L)).calls Try.func9 rfl
    rw [h2, h1] at this
    exact this⟩
  have HG6 : Hid (Grows v w6 ∧ RI w6 g xs ∧ v.heap.size ≤ g ∧ g < w6.heap.size) := ⟨⟨g6, hrow6.1, hrow6.2, hlt6⟩⟩
  clear hown6 hgrow6 hat6 hlt6 g6 hrow6 HO
  go_wp2_with (first
    | (go_at_call 9; refine H9.out.mono ?_; rintro e w7 ⟨_, rfl, p9, tg, cap9, rfl, hp9, htr9, hgr9⟩))
  have H0 : Hid (In3 v L tg g xs.length 0 w7 ∧ v.heap.size ≤ g ∧ (0 < L.length → p9 = some ⟨tg, 0, none⟩ ∧ tg ≠ g)) := by
    obtain ⟨h1, h2, h3, h4⟩ := HG6.out
    exact ⟨⟨⟨xs, h2.stay (hgr9.old g h4), rfl, HF.out⟩, htr9, h1.trans' hgr9⟩, h3, fun h0 => ⟨(hp9 h0).1, by have := (hp9 h0).2; omega⟩⟩
  have hLl : (L.length : Int) < 9223372036854775808 := by have := HR.out; omega
  clear H9 HG6 HF HW H1 HX hp9 htr9 hgr9
  go_loopw [13] (fun i u => ∃ k : Nat, k ≤ L.length ∧ i = .int .i64 k ∧ In3 v L tg g xs.length k u) (fun i _ => L.length - (intOf i).toNat)
  case atStart => exact ⟨0, Nat.zero_le _, rfl, H0.out.1⟩
  case round =>
    obtain ⟨k, hk, rfl, hI⟩ := hrel
    have HI : Hid (In3 v L tg g xs.length k wr) := ⟨hI⟩
    by_cases hlt : k < L.length
    · obtain ⟨s, hs⟩ : ∃ s, L[k]? = some s := ⟨_, List.getElem?_eq_getElem hlt⟩
      obtain ⟨cur, hcur, hlen, fin, hrep⟩ := hI.now
      rw [drop_get hs] at hrep
      obtain ⟨nx, hnx, hrep⟩ : ∃ nx, rstep cur s = some nx ∧ replay nx (L.drop (k + 1)) = some fin := by
        simp only [replay] at hrep
        cases hr : rstep cur s with
        | none => rw [hr] at hrep; cases hrep
        | some nx => rw [hr] at hrep; exact ⟨nx, rfl, hrep⟩
      obtain ⟨f0, f1, f2, f3, f4⟩ := flat_get L k s hs
      have t0 := hI.tr _ _ f0
      have t1 := hI.tr _ _ f1
      have t2 := hI.tr _ _ f2
      have t3 := hI.tr _ _ f3
      have t4 := hI.tr _ _ f4
      have hp := (H0.out.2.2 (by omega)).1
      subst hp
      have hlt' : (k : Int) < (L.length : Int) := by omega
      have HC : Hid (RI wr g cur ∧ cur.length = xs.length ∧ replay nx (L.drop (k + 1)) = some fin ∧ L[k]? = some s) := ⟨⟨hcur, hlen, hrep, hs⟩⟩
      have hgw : g < wr.heap.size := by obtain ⟨C, h1, _⟩ := hcur; exact (Array.getElem?_eq_some_iff.1 h1).1
      clear f0 f1 f2 f3 f4 hlen hrep hs hI
      unfold rstep at hnx
      by_cases hq : s.op < 1 ∨ 5 < s.op
      · rw [if_pos hq] at hnx
        obtain rfl := Option.some.inj hnx
        have HN : Hid (∀ u, u.heap.size = wr.heap.size + 1 → (∀ b, b < wr.heap.size → u.heap[b]? = wr.heap[b]?) → u.os = wr.os → u.output = wr.output → In3 v L tg g xs.length (k + 1) u) := ⟨fun u h1 h2 h3 h4 => HI.out.next H0.out.2.1 (H0.out.2.2 (by omega)).2 ⟨_, HC.out.1.stay (h2 g hgw), HC.out.2.1, _, HC.out.2.2.1⟩ (by omega) (fun b hb _ => h2 b hb) h3 h4⟩
        clear HI hcur hnx
        rcases hq with hq | hq
        · go_wp2_with fail
          go_roundw
          case rel =>
            refine ⟨k + 1, by omega, by go_num, HN.out _ ?_ (fun b hb => ?_) rfl rfl⟩
            · show (wr.heap.push _).size = _
              simp
            · show (wr.heap.push _)[b]? = _
              rw [Array.getElem?_push, if_neg (by omega)]
          case measure => simp [intOf]; omega
        · have hq1 : ¬ s.op < 1 := by omega
          go_wp2_with fail
          go_roundw
          case rel =>
            refine ⟨k + 1, by omega, by go_num, HN.out _ ?_ (fun b hb => ?_) rfl rfl⟩
            · show (wr.heap.push _).size = _
              simp
            · show (wr.heap.push _)[b]? = _
              rw [Array.getElem?_push, if_neg (by omega)]
          case measure => simp [intOf]; omega
      · rw [if_neg hq] at hnx
        by_cases hq2 : 0 ≤ s.ce ∧ cur[s.ce.toNat]? = some s.ol ∧ (s.op = 1 → s.ne = s.ol)
        · rw [if_pos hq2] at hnx
          obtain rfl := Option.some.inj hnx
          obtain ⟨z1, z2, z3⟩ := hq2
          obtain ⟨th, ce, op, ol, ne⟩ := s
          simp only at *
          obtain ⟨j, rfl⟩ := Int.eq_ofNat_of_zero_le z1
          rw [Int.toNat_natCast] at z2
          have hq1 : decide (op < 1) = false := by simp; omega
          have hq5 : decide (5 < op) = false := by simp; omega
          have hcl : j < cur.length := (List.getElem?_eq_some_iff.1 z2).1
          obtain ⟨cc1, cc2⟩ := hcur.cell z2
          have hjx : j < xs.length := by have := HC.out.2.1; omega
          have hce : (j : Int) < (xs.length : Int) := by omega
          have cb1 : decide ((j : Int) < 0) = false := by simp
          have cb2 : decide ((xs.length : Int) ≤ (j : Int)) = false := by simp; omega
          have cb3 : (ol != ol) = false := by simp
          have cb4 : decide (xs.length ≤ j) = false := by simp; omega
          have cb5 : ¬ xs.length ≤ j := by omega
          have HN : Hid (∀ u, u.heap.size = wr.heap.size + 1 → u.heap[g]? = (wr.setCell ⟨g, j, none⟩ (I ne)).heap[g]? → (∀ b, b < wr.heap.size → b ≠ g → u.heap[b]? = wr.heap[b]?) → u.os = wr.os → u.output = wr.output → In3 v L tg g xs.length (k + 1) u) := ⟨fun u h1 h5 h2 h3 h4 => HI.out.next H0.out.2.1 (H0.out.2.2 (by omega)).2 ⟨_, HC.out.1.set ne h5 hcl, by rw [List.length_set]; exact HC.out.2.1, _, by have := HC.out.2.2.1; rw [Int.toNat_natCast] at this; exact this⟩ (by omega) h2 h3 h4⟩
          have hgN : g ≠ wr.heap.size := by omega
          have HZ : Hid (op = 1 → ne = ol) := ⟨z3⟩
          clear HI hcur hnx z2 hq HC z3 z1 hrep
          by_cases h1 : op = 1
          · have z4 := HZ.out h1
            have g1 : (op == 1) = true := by simp [h1]
            have g2 : (ne != ol) = false := by simp [z4]
            clear h1 z4
            go_wp2_with fail
            go_quiet (fail)
            go_wp2_with fail
            go_roundw
            case rel =>
              refine ⟨k + 1, by omega, by go_num, HN.out _ ?_ ?_ (fun b hb hbg => ?_) rfl rfl⟩
              · simp only [World.setCell, Array.size_modify]
                show (wr.heap.push _).size = _
                simp
              · simp only [World.setCell, Array.getElem?_modify]
                have : ∀ o : Obj, (wr.heap.push o)[g]? = wr.heap[g]? := fun o => by rw [Array.getElem?_push, if_neg hgN]
                simp only [World.drewN, World.alloc, this]
              · rw [Below.heap_setCell _ _ _ _ hbg]
                show (wr.heap.push _)[b]? = _
                rw [Array.getElem?_push, if_neg (by omega)]
            case measure => simp [intOf]; omega
          · have g1 : (op == 1) = false := by simp [h1]
            clear h1
            go_wp2_with fail
            go_quiet (fail)
            go_wp2_with fail
            go_roundw
            case rel =>
              refine ⟨k + 1, by omega, by go_num, HN.out _ ?_ ?_ (fun b hb hbg => ?_) rfl rfl⟩
              · simp only [World.setCell, Array.size_modify]
                show (wr.heap.push _).size = _
                simp
              · simp only [World.setCell, Array.getElem?_modify]
                have : ∀ o : Obj, (wr.heap.push o)[g]? = wr.heap[g]? := fun o => by rw [Array.getElem?_push, if_neg hgN]
                simp only [World.drewN, World.alloc, this]
              · rw [Below.heap_setCell _ _ _ _ hbg]
                show (wr.heap.push _)[b]? = _
                rw [Array.getElem?_push, if_neg (by omega)]
            case measure => simp [intOf]; omega
        · rw [if_neg hq2] at hnx
          cases hnx
    · have hkk : k = L.length := by omega
      subst hkk
      clear H0
      go_wp2_with fail
      exact HI.out.old
end Go.Proofs.Ytmgaojbfmohboaa

/- What came in: lists of numbers, scripts; what Play asks of them. -/
set_option linter.unusedSimpArgs false
set_option linter.unusedVariables false
namespace Go.Proofs.Ytmgaojbfmohboaa
open Go Go.Lift Go.Conc Go.RowKit

theorem turns_n {nk m : Nat} {p p' : PSt} (h : Turns nk m p p') : Good nk p → p'.S.n + mu p' ≤ p.S.n + mu p := by
  induction h with
  | stop => intro _; exact Nat.le_refl _
  | step e _ ih =>
    intro g
    obtain ⟨g1, _, h2⟩ := pturn_mu g e
    have := ih g1
    omega
theorem turns_wb {nk m : Nat} {p p' : PSt} (h : Turns nk m p p') : p'.S.wb = p.S.wb := by
  induction h with
  | stop => rfl
  | @step n p p1 p' e _ ih =>
    rw [ih]
    unfold pturn at e
    split at e
    · split at e
      · cases e; rfl
      · cases e
    · cases e
      show (resume _ _ _ _ _).1.wb = _
      rw [(resume_sta _ _ _ _ _).wb]
      show (picked p.S).wb = _
      unfold picked
      split <;> rfl
theorem hires_wb {nk k : Nat} {ss : List Scr} {S S' : TS} {l l' : Nat → Ph} (h : Hires nk k ss S l S' l') : S'.wb = S.wb := by
  induction h with
  | nil => rfl
  | cons tv tb gc h ih => rw [ih, (flow_sta _ _ _ _ _ _ _).wb]; rfl
theorem play_small {nk m : Nat} {ss : List Scr} {S S1 : TS} {l0 l1 : Nat → Ph} {K : List (Nat × Int)} {p' : PSt} (h : Hires nk 0 ss S l0 S1 l1) (hT : Turns nk m ⟨S1, K, l1⟩ p') (h0 : S.thr = []) (h8 : ss.length ≤ 8) (hl : lens ss ≤ 512) (hn : S.n = 0) : p'.S.n ≤ 13329 ∧ p'.S.wb = S.wb := by
  obtain ⟨a1, a2, a3, a4⟩ := hires_good h (by rw [h0]; rfl) (by omega) (fun i t ht => by rw [h0] at ht; cases ht)
  have g : Good nk ⟨S1, K, l1⟩ := ⟨by show S1.thr.length ≤ 8; omega, a2⟩
  have hm := mu_le ⟨S1, K, l1⟩ g.len
  rw [h0] at a4
  simp only [List.length_nil, List.range_zero, List.map_nil, List.sum_nil] at a4
  have hm2 : mu ⟨S1, K, l1⟩ ≤ 12305 := by
    refine Nat.le_trans hm ?_
    show 17 + 24 * ((List.range S1.thr.length).map fun i => (l1 i).left).sum ≤ 12305
    omega
  have := turns_n hT g
  have k3 : p'.S.n + mu p' ≤ S1.n + mu ⟨S1, K, l1⟩ := this
  exact ⟨by omega, by rw [turns_wb hT]; exact hires_wb h⟩

/-- Where a list of ints lies that came in. -/
structure InI (W : World) (p : Option Addr) (b o : Nat) (xs : List Int) : Prop where
  at_ : 0 < xs.length → p = some ⟨b, o, none⟩
  cell : ∀ k x, xs[k]? = some x → W.cell? ⟨b, o + k, none⟩ = some (I x)
  inr : ∀ x ∈ xs, InR x
  len : xs.length ≤ 17592186043904
theorem InI.grows {W W' : World} {p : Option Addr} {b o : Nat} {xs : List Int} (h : InI W p b o xs) (g : Grows W W') : InI W' p b o xs :=
  ⟨h.at_, fun k x hk => g.cell (h.cell k x hk), h.inr, h.len⟩
/-- Where scripts lie that came in. -/
structure InS (W : World) (p : Option Addr) (b o n : Nat) (pc : Nat → Option Addr) (ln cp rb : Nat → Nat) (cl : Nat → List Cl) : Prop where
  at_ : 0 < n → p = some ⟨b, o, none⟩
  row : ∀ k, k < n → W.cell? ⟨b, o + k, none⟩ = some (.slice (pc k) (ln k) (cp k))
  len : ∀ j, j < n → (cl j).length = ln j
  pq : ∀ j, j < n → 0 < ln j → pc j = some ⟨rb j, roOf (pc j), none⟩
  call : ∀ j, j < n → ∀ (k : Nat) (c : Cl), (cl j)[k]? = some c → W.cell? ⟨rb j, roOf (pc j) + k * 4, none⟩ = some (I c.po) ∧ W.cell? ⟨rb j, roOf (pc j) + k * 4 + 1, none⟩ = some (I c.ca) ∧ W.cell? ⟨rb j, roOf (pc j) + k * 4 + 2, none⟩ = some (I c.cb) ∧ W.cell? ⟨rb j, roOf (pc j) + k * 4 + 3, none⟩ = some (I c.cc)
  ok : ∀ j, j < n → ∀ c ∈ cl j, InR c.ca ∧ c.ok
  n : n ≤ 17592186043904
theorem InS.grows {W W' : World} {p : Option Addr} {b o n : Nat} {pc : Nat → Option Addr} {ln cp rb : Nat → Nat} {cl : Nat → List Cl} (h : InS W p b o n pc ln cp rb cl) (g : Grows W W') : InS W' p b o n pc ln cp rb cl :=
  ⟨h.at_, fun k hk => g.cell (h.row k hk), h.len, h.pq, fun j hj k c hc => by
    have := h.call j hj k c hc
    exact ⟨g.cell this.1, g.cell this.2.1, g.cell this.2.2.1, g.cell this.2.2.2⟩, h.ok, h.n⟩

theorem lens_scrs (N n xb rk ck : Nat) (K : List (Nat × Int)) (pc : Nat → Option Addr) (ln cp rb : Nat → Nat) (cl : Nat → List Cl) (hl : ∀ j, j < n → (cl j).length ≤ 64) : lens (scrs N n xb rk ck K pc ln cp rb cl) ≤ 64 * n := by
  unfold lens scrs
  rw [List.map_map]
  have : ∀ (m j : Nat), j + m ≤ n → ((List.range' j m).map ((fun s : Scr => s.calls.length) ∘ scrOf N n xb rk ck (K.map (·.1)) pc ln cp rb cl)).sum ≤ 64 * m := by
    intro m
    induction m with
    | zero => intro j _; simp
    | succ m ih =>
      intro j hj
      rw [List.range'_succ, List.map_cons, List.sum_cons]
      have h1 := ih (j + 1) (by omega)
      have h2 : ((fun s : Scr => s.calls.length) ∘ scrOf N n xb rk ck (K.map (·.1)) pc ln cp rb cl) j ≤ 64 := hl j (by omega)
      omega
  exact this n 0 (by omega)
theorem scrs_len (N n xb rk ck : Nat) (K : List (Nat × Int)) (pc : Nat → Option Addr) (ln cp rb : Nat → Nat) (cl : Nat → List Cl) : (scrs N n xb rk ck K pc ln cp rb cl).length = n := by simp [scrs]
theorem scrs_calls {N n xb rk ck : Nat} {K : List (Nat × Int)} {pc : Nat → Option Addr} {ln cp rb : Nat → Nat} {cl : Nat → List Cl} {s : Scr} (hs : s ∈ scrs N n xb rk ck K pc ln cp rb cl) : ∃ j, j < n ∧ s.calls = cl j := by
  simp only [scrs, List.mem_map, List.mem_range'] at hs
  obtain ⟨j, ⟨i, hi, rfl⟩, rfl⟩ := hs
  exact ⟨_, by omega, rfl⟩

/-- The world is new: the scripts lie there for Play. -/
theorem asked_of {W v : World} {p : Option Addr} {b o n : Nat} {pc : Nat → Option Addr} {ln cp rb : Nat → Nat} {cl : Nat → List Cl} (h : InS W p b o n pc ln cp rb cl) {xs : List Int} {wb bk : Nat} {sc : Value} (hn : IsNew W xs wb bk sc v) (h64 : ∀ j, j < n → ln j ≤ 64) (h0 : 0 < n) : Asked v (newS wb bk W.heap.size sc xs) n b o pc ln cp rb cl := by
  have g := h.grows hn.old
  have far : ∀ (a : Addr) (x : Value), W.cell? a = some x → ¬ Own (newS wb bk W.heap.size sc xs) [] a.block := fun a x ha ho => by
    have := hn.new _ (.inl ho)
    have := World.block_lt_of_cell? _ _ ha
    omega
  refine ⟨fun j hj => ⟨h.len j hj, h64 j hj⟩, g.row, far _ _ (h.row 0 h0), fun j hj hl => ⟨h.pq j hj hl, ?_⟩, g.call, fun j hj c hc => (h.ok j hj c hc).1⟩
  obtain ⟨c, hc⟩ : ∃ c, (cl j)[0]? = some c := ⟨_, List.getElem?_eq_getElem (by rw [h.len j hj]; exact hl)⟩
  exact far _ _ (h.call j hj 0 c hc).1

end Go.Proofs.Ytmgaojbfmohboaa
