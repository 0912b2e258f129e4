/- ChainRing: of a ring the last who writes down is told, under every schedule. Part 20 of 37. (Joined, by program, of: GView, Alone.) -/
import Derived.Test.YtfjjoohflcchnaaChainRing14
import Derived.Test.YtfjjoohflcchnaaChainRing19
set_option linter.unusedSimpArgs false
set_option linter.unusedVariables false
namespace Go.Proofs.Ytfjjoohflcchnaa.Gen
open Go Go.Lift Go.Conc Go.RowKit
open Go.ConcN (upd upd_same upd_ne)

/-- A step of a trace. -/
structure Stp where
  th : Int
  ce : Int
  op : Int
  ol : Int
  ne : Int
def flat (L : List Stp) : List Value := L.flatMap fun s => [I s.th, I s.ce, I s.op, I s.ol, I s.ne]
theorem flat_app (a b : List Stp) : flat (a ++ b) = flat a ++ flat b := List.flatMap_append
theorem flat_get : ∀ (L : List Stp) (k : Nat) (s : Stp), L[k]? = some s → (flat L)[k * 5]? = some (I s.th) ∧ (flat L)[k * 5 + 1]? = some (I s.ce) ∧ (flat L)[k * 5 + 2]? = some (I s.op) ∧ (flat L)[k * 5 + 3]? = some (I s.ol) ∧ (flat L)[k * 5 + 4]? = some (I s.ne)
  | b :: l, 0, a, h => by obtain rfl : b = a := by simpa using h
                          exact ⟨rfl, rfl, rfl, rfl, rfl⟩
  | b :: l, k + 1, a, h => by
    have := flat_get l k a (by simpa using h)
    have e : flat (b :: l) = I b.th :: I b.ce :: I b.op :: I b.ol :: I b.ne :: flat l := rfl
    rw [e]
    have e0 : ∀ j, (I b.th :: I b.ce :: I b.op :: I b.ol :: I b.ne :: flat l)[j + 5]? = (flat l)[j]? := fun j => rfl
    rw [show (k + 1) * 5 = k * 5 + 5 by omega, show k * 5 + 5 + 1 = (k * 5 + 1) + 5 by omega, show k * 5 + 5 + 2 = (k * 5 + 2) + 5 by omega, show k * 5 + 5 + 3 = (k * 5 + 3) + 5 by omega, show k * 5 + 5 + 4 = (k * 5 + 4) + 5 by omega]
    simp only [e0]
    exact this
theorem flat_one (L : List Stp) : ∀ u ∈ flat L, u.oneCell' = true := fun u hu => by
  simp only [flat, List.mem_flatMap] at hu
  obtain ⟨s, _, hu⟩ := hu
  simp only [List.mem_cons, List.not_mem_nil, or_false] at hu
  rcases hu with rfl | rfl | rfl | rfl | rfl <;> rfl

/-- The state's trace has grown by these. -/
structure Adds (S S' : TS) (X : List Stp) : Prop where
  tr : S'.tr = S.tr ++ flat X
  n : S'.n = S.n + X.length
theorem Adds.refl (S : TS) : Adds S S [] := ⟨by simp [flat], rfl⟩
theorem Adds.trans {S S1 S2 : TS} {L L' : List Stp} (h : Adds S S1 L) (k : Adds S1 S2 L') : Adds S S2 (L ++ L') := ⟨by rw [k.tr, h.tr, flat_app, List.append_assoc], by rw [k.n, h.n, List.length_append, Nat.add_assoc]⟩
theorem adds_noted (S : TS) (tv : Value) (i : Nat) (op ce ol ne : Int) : Adds S (noted S tv i op ce ol ne) [⟨i, ce, op, ol, ne⟩] := ⟨rfl, rfl⟩
theorem adds_did (S : TS) (tv : Value) (i : Nat) (t : Thr) (b a : Int) : Adds S (didS S tv i t b a) [⟨i, t.ce, t.op, b, a⟩] := by
  unfold didS
  split <;> exact ⟨rfl, rfl⟩

section
variable {mc : Mc}
/-- From a call's beginning to the next seat: what is noted. -/
inductive Fw (mc : Mc) (i : Nat) (stk : Bool) : List Cl → Nat → Bool → List (Int × Int) → List Stp → Ph → Prop
  | nil {ii : Nat} {sk : Bool} {ans : List (Int × Int)} : Fw mc i stk [] ii sk ans [] (.done ans)
  | skip {c : Cl} {rest : List Cl} {ii : Nat} {ans : List (Int × Int)} {X : List Stp} {l : Ph} : Fw mc i stk rest (ii + 1) true (ans.set ii (4, 0)) X l → Fw mc i stk (c :: rest) ii true ans X l
  | ans {c : Cl} {rest : List Cl} {ii : Nat} {ans : List (Int × Int)} {X : List Stp} {l : Ph} {e x : Int} : mc.start i c = .ans e x → Fw mc i stk rest (ii + 1) (e == 4) (ans.set ii (e, x)) X l → Fw mc i stk (c :: rest) ii false ans (⟨i, -1, 9, ii, 0⟩ :: ⟨i, -1, 10, ii, e⟩ :: X) l
  | turn {c : Cl} {rest : List Cl} {ii : Nat} {ans : List (Int × Int)} {op : Int} {j : Nat} {q : Q} : mc.start i c = .turn op j q → Fw mc i stk (c :: rest) ii false ans [⟨i, -1, 9, ii, 0⟩] (.turn op j q rest ii ans)
  | wait {c : Cl} {rest : List Cl} {ii : Nat} {ans : List (Int × Int)} {j : Nat} {q : Q} : mc.start i c = .wait j q → stk = false → Fw mc i stk (c :: rest) ii false ans [⟨i, -1, 9, ii, 0⟩] (.wait j q rest ii ans)
  | waits {c : Cl} {rest : List Cl} {ii : Nat} {ans : List (Int × Int)} {X : List Stp} {l : Ph} {j : Nat} {q : Q} : mc.start i c = .wait j q → stk = true → Fw mc i stk rest (ii + 1) ((mc.stuck q).1 == 4) (ans.set ii (mc.stuck q)) X l → Fw mc i stk (c :: rest) ii false ans (⟨i, -1, 9, ii, 0⟩ :: ⟨i, -1, 10, ii, (mc.stuck q).1⟩ :: X) l
/-- From the middle of a call to the next seat. -/
inductive On (mc : Mc) (i : Nat) (stk : Bool) (rest : List Cl) (ii : Nat) (ans : List (Int × Int)) : Nx → List Stp → Ph → Prop
  | ans {e x : Int} {X : List Stp} {l : Ph} : Fw mc i stk rest (ii + 1) (e == 4) (ans.set ii (e, x)) X l → On mc i stk rest ii ans (.ans e x) (⟨i, -1, 10, ii, e⟩ :: X) l
  | turn {op : Int} {j : Nat} {q : Q} : On mc i stk rest ii ans (.turn op j q) [] (.turn op j q rest ii ans)
  | wait {j : Nat} {q : Q} : stk = false → On mc i stk rest ii ans (.wait j q) [] (.wait j q rest ii ans)
  | waits {j : Nat} {q : Q} {X : List Stp} {l : Ph} : stk = true → Fw mc i stk rest (ii + 1) ((mc.stuck q).1 == 4) (ans.set ii (mc.stuck q)) X l → On mc i stk rest ii ans (.wait j q) (⟨i, -1, 10, ii, (mc.stuck q).1⟩ :: X) l

/-- What a thread's row tells where it awaits. -/
def Aw (chg : List Int) (l : Ph) (t : Thr) : Prop := ∀ (j : Nat) (q : Q) (r : List Cl) (k : Nat) (a : List (Int × Int)), l = .wait j q r k a → t.ce = (j : Int) ∧ t.se = chgOf chg j

theorem flow_fw (i : Nat) : ∀ (rest : List Cl) (ii : Nat) (sk : Bool) (ans : List (Int × Int)) (S : TS) (t : Thr), S.thr[i]? = some t → ∃ X, Fw mc i S.stk rest ii sk ans X (flow i mc rest ii sk ans S).2 ∧ Adds S (flow i mc rest ii sk ans S).1 X ∧ (flow i mc rest ii sk ans S).1.chg = S.chg ∧ Aw S.chg (flow i mc rest ii sk ans S).2 (thrI (flow i mc rest ii sk ans S).1 i)
  | [], ii, sk, ans, S, t, ht => by cases sk <;> exact ⟨[], .nil, ⟨by simp [flat]; rfl, rfl⟩, rfl, fun j q r k a h => by cases h⟩
  | c :: rest, ii, true, ans, S, t, ht => by
    obtain ⟨X, h1, h2⟩ := flow_fw i rest (ii + 1) true (ans.set ii (4, 0)) S t ht
    exact ⟨X, .skip h1, h2⟩
  | c :: rest, ii, false, ans, S, t, ht => by
    unfold flow
    cases h : mc.start i c with
    | ans e x =>
      obtain ⟨X, h1, h2, h3, h4⟩ := flow_fw i rest (ii + 1) (e == 4) (ans.set ii (e, x)) (noted (noted S undef i 9 (-1) ii 0) undef i 10 (-1) ii e) t ht
      exact ⟨_, .ans h h1, ((adds_noted S undef i 9 (-1) ii 0).trans (adds_noted _ undef i 10 (-1) ii e)).trans h2, h3, h4⟩
    | turn op j q =>
      exact ⟨_, .turn h, ⟨rfl, rfl⟩, rfl, fun j q r k a h => by cases h⟩
    | wait j q =>
      simp only
      cases hs : S.stk with
      | true =>
        rw [if_pos rfl]
        obtain ⟨X, h1, h2, h3, h4⟩ := flow_fw i rest (ii + 1) ((mc.stuck q).1 == 4) (ans.set ii (mc.stuck q)) (noted (noted S undef i 9 (-1) ii 0) undef i 10 (-1) ii (mc.stuck q).1) t ht
        have hs' : (noted (noted S undef i 9 (-1) ii 0) undef i 10 (-1) ii (mc.stuck q).1).stk = true := hs
        rw [hs'] at h1
        exact ⟨_, .waits h rfl h1, ((adds_noted S undef i 9 (-1) ii 0).trans (adds_noted _ undef i 10 (-1) ii (mc.stuck q).1)).trans h2, h3, h4⟩
      | false =>
        rw [if_neg (by decide)]
        refine ⟨_, .wait h rfl, ⟨rfl, rfl⟩, rfl, fun j' q' r k a h => ?_⟩
        cases h
        have e : thrI (waiting (noted S undef i 9 (-1) ii 0) i (thrI S i) 2 6 j) i = { thrI S i with st := 2, ce := j, op := 6, se := chgOf S.chg j } := thrI_of (set_get (S := noted S undef i 9 (-1) ii 0) ht)
        rw [e]
        exact ⟨rfl, rfl⟩
theorem back_fw (i : Nat) (rest : List Cl) (ii : Nat) (ans : List (Int × Int)) (a : Int × Int) (S : TS) (K : List (Nat × Int)) (t : Thr) (ht : S.thr[i]? = some t) : ∃ X, Fw mc i S.stk rest (ii + 1) (a.1 == 4) (ans.set ii a) X (back i mc rest ii ans a S K).2.2 ∧ Adds S (back i mc rest ii ans a S K).1 (⟨i, -1, 10, ii, a.1⟩ :: X) ∧ (back i mc rest ii ans a S K).1.chg = S.chg ∧ Aw S.chg (back i mc rest ii ans a S K).2.2 (thrI (back i mc rest ii ans a S K).1 i) ∧ (back i mc rest ii ans a S K).2.1 = K := by
  obtain ⟨X, h1, h2, h3, h4⟩ := flow_fw (mc := mc) i rest (ii + 1) (a.1 == 4) (ans.set ii a) (noted S undef i 10 (-1) ii a.1) t ht
  exact ⟨X, h1, (adds_noted S undef i 10 (-1) ii a.1).trans h2, h3, h4, rfl⟩
theorem on_fw (i : Nat) (rest : List Cl) (ii : Nat) (ans : List (Int × Int)) (S : TS) (K : List (Nat × Int)) (x : Nx) (t : Thr) (ht : S.thr[i]? = some t) : ∃ X, On mc i S.stk rest ii ans x X (on i mc rest ii ans S K x).2.2 ∧ Adds S (on i mc rest ii ans S K x).1 X ∧ (on i mc rest ii ans S K x).1.chg = S.chg ∧ Aw S.chg (on i mc rest ii ans S K x).2.2 (thrI (on i mc rest ii ans S K x).1 i) ∧ (on i mc rest ii ans S K x).2.1 = K := by
  cases x with
  | ans e y =>
    obtain ⟨X, h1, h2, h3, h4, h5⟩ := back_fw (mc := mc) i rest ii ans (e, y) S K t ht
    exact ⟨_, .ans h1, h2, h3, h4, h5⟩
  | turn op j q => exact ⟨[], .turn, ⟨by simp [flat]; rfl, rfl⟩, rfl, fun j q r k a h => (by cases h), rfl⟩
  | wait j q =>
    rw [on_wait]
    cases hs : S.stk with
    | true =>
      rw [if_pos rfl]
      obtain ⟨X, h1, h2, h3, h4, h5⟩ := back_fw (mc := mc) i rest ii ans (mc.stuck q) S K t ht
      rw [hs] at h1
      exact ⟨_, .waits rfl h1, h2, h3, h4, h5⟩
    | false =>
      rw [if_neg (by decide)]
      refine ⟨[], .wait rfl, ⟨by simp [flat]; rfl, rfl⟩, rfl, fun j' q' r k a h => ?_, rfl⟩
      cases h
      have e : thrI (waiting S i (thrI S i) 2 6 j) i = { thrI S i with st := 2, ce := j, op := 6, se := chgOf S.chg j } := thrI_of (set_get ht)
      rw [e]
      exact ⟨rfl, rfl⟩

/-- A run, seen from outside. -/
structure Vw where
  K : List Int
  stk : Bool
  chg : List Int
  se : Nat → Int
  l : Nat → Ph
  L : List Stp
/-- A cell is counted as changed. -/
def bump (chg : List Int) (j : Nat) (o n : Int) : List Int := if o ≠ n ∧ j < chg.length then chg.modify j (fun x => wrap64 (x + 1)) else chg
/-- The others are as they were. -/
structure Els (i : Nat) (l' : Ph) (v v1 : Vw) : Prop where
  l : v1.l = upd v.l i l'
  oth : ∀ k, k ≠ i → v1.se k = v.se k
  own : ∀ j q r k a, l' = .wait j q r k a → v1.se i = chgOf v1.chg j
/-- A move. -/
inductive Mv (mc : Mc) (N : Nat) (v v1 : Vw) : Prop
  | stuck : v.stk = false → (∀ i, i < N → (∃ a, v.l i = .done a) ∨ ∃ j q r k a, v.l i = .wait j q r k a ∧ chgOf v.chg j = v.se i) → (∃ i, i < N ∧ ∃ j q r k a, v.l i = .wait j q r k a) →
      v1 = { v with stk := true, L := v.L ++ [⟨-1, -1, 7, 0, 0⟩] } → Mv mc N v v1
  | turn (i : Nat) (op : Int) (j : Nat) (q : Q) (rest : List Cl) (ii : Nat) (ans : List (Int × Int)) (X : List Stp) (l' : Ph) : i < N → v.l i = .turn op j q rest ii ans → On mc i v.stk rest ii ans (mc.turn q (v.K.getD j 0)).2.2 X l' → Els i l' v v1 →
      v1.K = v.K.set j (mc.turn q (v.K.getD j 0)).2.1 → v1.stk = v.stk → v1.chg = bump v.chg j (mc.turn q (v.K.getD j 0)).1.1 (mc.turn q (v.K.getD j 0)).1.2 → v1.L = v.L ++ ⟨i, j, op, (mc.turn q (v.K.getD j 0)).1.1, (mc.turn q (v.K.getD j 0)).1.2⟩ :: X → Mv mc N v v1
  | wake (i j : Nat) (q : Q) (rest : List Cl) (ii : Nat) (ans : List (Int × Int)) (X : List Stp) (l' : Ph) : i < N → v.l i = .wait j q rest ii ans → v.stk = false → chgOf v.chg j ≠ v.se i → On mc i false rest ii ans (mc.woke q) X l' → Els i l' v v1 →
      v1.K = v.K → v1.stk = false → v1.chg = v.chg → v1.L = v.L ++ ⟨i, j, 6, 0, 0⟩ :: X → Mv mc N v v1
  | free (i j : Nat) (q : Q) (rest : List Cl) (ii : Nat) (ans : List (Int × Int)) (X : List Stp) (l' : Ph) : i < N → v.l i = .wait j q rest ii ans → v.stk = true → Fw mc i true rest (ii + 1) ((mc.stuck q).1 == 4) (ans.set ii (mc.stuck q)) X l' → Els i l' v v1 →
      v1.K = v.K → v1.stk = true → v1.chg = v.chg → v1.L = v.L ++ ⟨i, -1, 10, ii, (mc.stuck q).1⟩ :: X → Mv mc N v v1

/-- The run p is seen as v. -/
structure Seen (p : PSt) (v : Vw) : Prop where
  K : v.K = p.K.map (·.2)
  stk : v.stk = p.S.stk
  chg : v.chg = p.S.chg
  se : ∀ i, v.se i = (thrI p.S i).se
  l : v.l = p.l
  tr : p.S.tr = flat v.L
  n : p.S.n = v.L.length
  ce : ∀ i t, p.S.thr[i]? = some t → ∀ (j : Nat) (q : Q) (r : List Cl) (k : Nat) (a : List (Int × Int)), p.l i = .wait j q r k a → t.ce = (j : Int)

theorem getD_cell (K : List (Nat × Int)) (j : Nat) : (K.map (·.2)).getD j 0 = (cellAt K j).2 := by
  unfold cellAt
  rw [List.getD_eq_getElem?_getD, List.getElem?_map]
  cases K[j]? <;> rfl

theorem pturn_mv (M : Met mc) {p p1 : PSt} {v : Vw} (g : Gd M p) (s : Seen p v) (e : pturn mc p = some p1) : ∃ v1, Mv mc p.S.thr.length v v1 ∧ Seen p1 v1 := by
  unfold pturn at e
  split at e
  · rename_i h0
    split at e
    · rename_i hw
      cases e
      have hall : ∀ i t, p.S.thr[i]? = some t → rdy p.S t = false := fun i t ht => by
        cases hr : rdy p.S t with
        | false => rfl
        | true =>
          have : i ∈ rdyIds p.S p.S.thr.length := by
            unfold rdyIds
            rw [List.mem_filter]
            exact ⟨List.mem_range.2 (List.getElem?_eq_some_iff.1 ht).1, by rw [ht]; exact hr⟩
          rw [h0] at this; cases this
      unfold waits2 at hw
      rw [List.any_eq_true] at hw
      obtain ⟨i, hi, hst⟩ := hw
      have hi := List.mem_range.1 hi
      obtain ⟨t, ht⟩ : ∃ t, p.S.thr[i]? = some t := ⟨_, List.getElem?_eq_getElem hi⟩
      rw [ht] at hst
      have hst : t.st = 2 := by simpa using hst
      have hs : p.S.stk = false := by
        have := hall i t ht
        cases hs : p.S.stk with
        | false => rfl
        | true => simp [rdy, hst, hs] at this
      refine ⟨{ v with stk := true, L := v.L ++ [⟨-1, -1, 7, 0, 0⟩] }, .stuck (by rw [s.stk]; exact hs) (fun k hk => ?_) ⟨i, hi, ?_⟩ rfl, ⟨s.K, rfl, s.chg, s.se, s.l, ?_, ?_, s.ce⟩⟩
      · obtain ⟨tk, htk⟩ : ∃ t, p.S.thr[k]? = some t := ⟨_, List.getElem?_eq_getElem hk⟩
        have hnr := hall k tk htk
        obtain ⟨_, h2, _⟩ := g.sit k tk htk
        have hce := s.ce k tk htk
        rw [s.l, s.chg, s.se k, thrI_of htk]
        match hl : p.l k, h2 with
        | .done a, _ => exact .inl ⟨a, rfl⟩
        | .turn _ _ _ _ _ _, h2 =>
          have h2 : tk.st = 1 := h2
          simp [rdy, h2] at hnr
        | .wait j q r kk a, h2 =>
          have h2 : tk.st = 2 := h2
          have e1 := hce j q r kk a hl
          refine .inr ⟨j, q, r, kk, a, rfl, ?_⟩
          have : chgOf p.S.chg tk.ce = tk.se := by simpa [rdy, h2, hs] using hnr
          rw [← e1]
          exact this
      · obtain ⟨_, h2, _⟩ := g.sit i t ht
        rw [s.l]
        match hl : p.l i, h2 with
        | .done a, h2 => have h2 : t.st = 3 := h2; omega
        | .turn _ _ _ _ _ _, h2 => have h2 : t.st = 1 := h2; omega
        | .wait j q r kk a, _ => exact ⟨j, q, r, kk, a, rfl⟩
      · show p.S.tr ++ _ = flat (v.L ++ _)
        rw [flat_app, s.tr]
        rfl
      · show p.S.n + 1 = (v.L ++ _).length
        rw [List.length_append, s.n]
        rfl
    · cases e
  · rename_i h0
    obtain ⟨t, ht, hrd⟩ := nextI_in h0
    generalize hi : nextI p.S = i at ht e
    have eth : thrI p.S i = t := thrI_of ht
    rw [eth] at e
    obtain ⟨hfit, hst, hsi⟩ := g.sit i t ht
    have hl : ∀ a, p.l i ≠ .done a := fun a ha => by
      rw [ha] at hst
      have : t.st = 3 := hst
      simp [rdy, this] at hrd
    have hk := going_keeps (S := p.S) (i := i) (t := t)
    have hgt := going_thr ht
    have sta := resume_sta i mc (p.l i) (going p.S i t) p.K
    have hilt : i < p.S.thr.length := (List.getElem?_eq_some_iff.1 ht).1
    have hoth : ∀ j, j ≠ i → (resume i mc (p.l i) (going p.S i t) p.K).1.thr[j]? = p.S.thr[j]? := fun j hj => by rw [sta.oth j hj, going_oth hj]
    have hstk : (resume i mc (p.l i) (going p.S i t) p.K).1.stk = p.S.stk := by rw [sta.stk, hk.2.1]
    cases e
    have seen : ∀ (Y : List Stp) (chg' : List Int) (K' : List Int), Adds (going p.S i t) (resume i mc (p.l i) (going p.S i t) p.K).1 Y → (resume i mc (p.l i) (going p.S i t) p.K).1.chg = chg' → (resume i mc (p.l i) (going p.S i t) p.K).2.1.map (·.2) = K' → Aw chg' (resume i mc (p.l i) (going p.S i t) p.K).2.2 (thrI (resume i mc (p.l i) (going p.S i t) p.K).1 i) →
        Seen ⟨(resume i mc (p.l i) (going p.S i t) p.K).1, (resume i mc (p.l i) (going p.S i t) p.K).2.1, upd p.l i (resume i mc (p.l i) (going p.S i t) p.K).2.2⟩ ⟨K', p.S.stk, chg', fun k => (thrI (resume i mc (p.l i) (going p.S i t) p.K).1 k).se, upd p.l i (resume i mc (p.l i) (going p.S i t) p.K).2.2, v.L ++ Y⟩ ∧
        Els i (resume i mc (p.l i) (going p.S i t) p.K).2.2 v ⟨K', p.S.stk, chg', fun k => (thrI (resume i mc (p.l i) (going p.S i t) p.K).1 k).se, upd p.l i (resume i mc (p.l i) (going p.S i t) p.K).2.2, v.L ++ Y⟩ := fun Y chg' K' ha hc hK hA => by
      refine ⟨⟨hK.symm, hstk.symm, hc.symm, fun _ => rfl, rfl, ?_, ?_, fun k tk htk j q r kk a hl => ?_⟩, ⟨by rw [s.l], fun k hne => ?_, fun j q r k a h => (hA j q r k a h).2⟩⟩
      · show (resume i mc (p.l i) (going p.S i t) p.K).1.tr = _
        rw [ha.tr, hk.2.2.2, s.tr, flat_app]
      · show (resume i mc (p.l i) (going p.S i t) p.K).1.n = _
        rw [ha.n, hk.2.2.1, s.n, List.length_append]
      · have htk : (resume i mc (p.l i) (going p.S i t) p.K).1.thr[k]? = some tk := htk
        have hl : upd p.l i (resume i mc (p.l i) (going p.S i t) p.K).2.2 k = .wait j q r kk a := hl
        by_cases hne : k = i
        · subst hne
          rw [upd_same] at hl
          have := (hA j q r kk a hl).1
          rw [thrI_of htk] at this
          exact this
        · rw [upd_ne _ _ hne] at hl
          rw [hoth k hne] at htk
          exact s.ce k tk htk j q r kk a hl
      · show (thrI (resume i mc (p.l i) (going p.S i t) p.K).1 k).se = _
        rw [s.se k]
        unfold thrI
        rw [hoth k hne]
    match hpl : p.l i, hl, hfit, hst with
    | .done a, hl, _, _ => exact absurd rfl (hl a)
    | .turn op j q rest ii ans, _, hfit, hst =>
      have hvl : v.l i = .turn op j q rest ii ans := by rw [s.l]; exact hpl
      have hx : v.K.getD j 0 = (cellAt p.K j).2 := by rw [s.K]; exact getD_cell _ _
      have ht0 : thrI (going p.S i t) i = { t with st := 0 } := thrI_of hgt
      rw [hpl] at seen
      rw [resume_turn] at seen ⊢
      rw [ht0] at seen ⊢
      obtain ⟨X, o1, o2, o3, o4, o5⟩ := on_fw (mc := mc) i rest ii ans (didS (going p.S i t) undef i { t with st := 0 } (mc.turn q (cellAt p.K j).2).1.1 (mc.turn q (cellAt p.K j).2).1.2) (p.K.set j ((cellAt p.K j).1, (mc.turn q (cellAt p.K j).2).2.1)) (mc.turn q (cellAt p.K j).2).2.2 { t with st := 0 } (did_thr hgt)
      have hadd := (adds_did (going p.S i t) undef i { t with st := 0 } (mc.turn q (cellAt p.K j).2).1.1 (mc.turn q (cellAt p.K j).2).1.2).trans o2
      have ho : t.op = op := hfit.1
      have hc : t.ce = j := hfit.2
      have hadd : Adds (going p.S i t) (on i mc rest ii ans (didS (going p.S i t) undef i { t with st := 0 } (mc.turn q (cellAt p.K j).2).1.1 (mc.turn q (cellAt p.K j).2).1.2) (p.K.set j ((cellAt p.K j).1, (mc.turn q (cellAt p.K j).2).2.1)) (mc.turn q (cellAt p.K j).2).2.2).1 (⟨i, j, op, (mc.turn q (cellAt p.K j).2).1.1, (mc.turn q (cellAt p.K j).2).1.2⟩ :: X) := by
        rw [← ho, ← hc]
        exact hadd
      have hchg : (didS (going p.S i t) undef i { t with st := 0 } (mc.turn q (cellAt p.K j).2).1.1 (mc.turn q (cellAt p.K j).2).1.2).chg = bump p.S.chg j (mc.turn q (cellAt p.K j).2).1.1 (mc.turn q (cellAt p.K j).2).1.2 := by
        unfold didS bump
        by_cases hb : (mc.turn q (cellAt p.K j).2).1.1 ≠ (mc.turn q (cellAt p.K j).2).1.2 ∧ j < p.S.chg.length
        · rw [if_pos ⟨hb.1, by show (0 : Int) ≤ t.ce; omega, by show t.ce < ((going p.S i t).chg.length : Int); rw [hk.1]; omega⟩, if_pos hb]
          show (going p.S i t).chg.modify t.ce.toNat _ = _
          rw [hk.1, hc]
          rfl
        · rw [if_neg (fun h => hb ⟨h.1, by have h3 : t.ce < ((going p.S i t).chg.length : Int) := h.2.2; rw [hk.1] at h3; omega⟩), if_neg hb]
          exact hk.1
      have hds : (didS (going p.S i t) undef i { t with st := 0 } (mc.turn q (cellAt p.K j).2).1.1 (mc.turn q (cellAt p.K j).2).1.2).stk = p.S.stk := by rw [(sta_did (i := i) _ _ _ _ _).stk, hk.2.1]
      rw [hchg] at o3 o4
      rw [hds] at o1
      obtain ⟨z1, z2⟩ := seen _ _ _ hadd o3 (by rw [o5]) o4
      refine ⟨_, .turn i op j q rest ii ans X _ hilt hvl (by rw [s.stk, hx]; exact o1) z2 ?_ s.stk.symm (by rw [hx, s.chg]) (by rw [hx]), z1⟩
      show (p.K.set j _).map (·.2) = _
      rw [s.K, List.map_set, ← s.K, hx]
    | .wait j q rest ii ans, _, hfit, hst =>
      have hvl : v.l i = .wait j q rest ii ans := by rw [s.l]; exact hpl
      have hst : t.st = 2 := hst
      have hce := s.ce i t ht j q rest ii ans hpl
      rw [hpl] at seen
      rw [resume_wait] at seen ⊢
      cases hs : p.S.stk with
      | true =>
        have hs' : (going p.S i t).stk = true := by rw [hk.2.1]; exact hs
        rw [if_pos hs'] at seen ⊢
        obtain ⟨X, o1, o2, o3, o4, o5⟩ := back_fw (mc := mc) i rest ii ans (mc.stuck q) (going p.S i t) p.K { t with st := 0 } hgt
        rw [hs'] at o1
        rw [hk.1] at o3 o4
        obtain ⟨z1, z2⟩ := seen _ _ _ o2 o3 (by rw [o5]) o4
        exact ⟨_, .free i j q rest ii ans X _ hilt hvl (by rw [s.stk]; exact hs) o1 z2 s.K.symm hs s.chg.symm rfl, z1⟩
      | false =>
        have hs' : (going p.S i t).stk = false := by rw [hk.2.1]; exact hs
        rw [if_neg (by rw [hs']; decide)] at seen ⊢
        obtain ⟨X, o1, o2, o3, o4, o5⟩ := on_fw (mc := mc) i rest ii ans (noted (going p.S i t) undef i 6 j 0 0) p.K (mc.woke q) { t with st := 0 } hgt
        have hs2 : (noted (going p.S i t) undef i 6 j 0 0).stk = false := hs'
        rw [hs2] at o1
        have hc2 : (noted (going p.S i t) undef i 6 j 0 0).chg = p.S.chg := hk.1
        rw [hc2] at o3 o4
        obtain ⟨z1, z2⟩ := seen _ _ _ ((adds_noted (going p.S i t) undef i 6 j 0 0).trans o2) o3 (by rw [o5]) o4
        refine ⟨_, .wake i j q rest ii ans X _ hilt hvl (by rw [s.stk]; exact hs) ?_ o1 z2 s.K.symm hs s.chg.symm rfl, z1⟩
        rw [s.chg, s.se i, eth, ← hce]
        simpa [rdy, hst, hs] using hrd

/-- What the moves keep holds at the end; and there all have ended. -/
theorem turns_mv (M : Met mc) {Inv : Vw → Prop} {N : Nat} (hI : ∀ v v1, Inv v → Mv mc N v v1 → Inv v1) {m : Nat} {p p' : PSt} (h : Turns mc m p p') : ∀ v, p.S.thr.length = N → Gd M p → Seen p v → Inv v → ∃ v', Inv v' ∧ Seen p' v' ∧ p'.S.thr.length = N ∧ ∀ i, i < N → ∃ a, v'.l i = .done a := by
  induction h with
  | @stop p hs =>
    intro v hN g s hv
    refine ⟨v, hv, s, hN, fun i hi => ?_⟩
    obtain ⟨t, ht⟩ : ∃ t, p.S.thr[i]? = some t := ⟨_, List.getElem?_eq_getElem (by omega)⟩
    obtain ⟨_, h2, _⟩ := g.sit i t ht
    unfold pturn at hs
    split at hs
    · rename_i h0
      split at hs
      · cases hs
      · rename_i hw
        rw [s.l]
        match hl : p.l i, h2 with
        | .done a, _ => exact ⟨a, rfl⟩
        | .turn _ _ _ _ _ _, h2 =>
          have h2 : t.st = 1 := h2
          have : i ∈ rdyIds p.S p.S.thr.length := by
            unfold rdyIds
            rw [List.mem_filter]
            exact ⟨List.mem_range.2 (by omega), by rw [ht]; simp [rdy, h2]⟩
          rw [h0] at this; cases this
        | .wait _ _ _ _ _, h2 =>
          have h2 : t.st = 2 := h2
          exfalso
          apply hw
          unfold waits2
          rw [List.any_eq_true]
          exact ⟨i, List.mem_range.2 (by omega), by rw [ht]; simp [h2]⟩
    · cases hs
  | @step n p p1 p' e _ ih =>
    intro v hN g s hv
    obtain ⟨v1, m1, s1⟩ := pturn_mv M g s e
    rw [hN] at m1
    have hlen : p1.S.thr.length = N := by
      unfold pturn at e
      split at e
      · split at e
        · cases e; exact hN
        · cases e
      · cases e
        show (resume _ _ _ _ _).1.thr.length = _
        rw [(resume_sta _ _ _ _ _).len, going_len, hN]
    exact ih v1 hlen (pturn_mu M g e).1 s1 (hI v v1 hv m1)

/-- Hiring, seen from outside: each thread comes to its first seat. -/
inductive Hi (mc : Mc) : Nat → List (List Cl) → Vw → Vw → Prop
  | nil {k : Nat} {v : Vw} : Hi mc k [] v v
  | cons {k : Nat} {c : List Cl} {cs : List (List Cl)} {v v1 v2 : Vw} {X : List Stp} {l' : Ph} : Fw mc k v.stk c 0 false (List.replicate c.length (0, 0)) X l' → v1.K = v.K → v1.stk = v.stk → v1.chg = v.chg → v1.L = v.L ++ X → Els k l' v v1 → Hi mc (k + 1) cs v1 v2 → Hi mc k (c :: cs) v v2
theorem hires_hi {k : Nat} {ss : List (Scr mc)} {S S' : TS} {l l' : Nat → Ph} {K : List (Nat × Int)} (h : Hires mc k ss S l S' l') : ∀ v, S.thr.length = k → (∀ s ∈ ss, s.ans = List.replicate s.calls.length (0, 0)) → Seen ⟨S, K, l⟩ v → ∃ v', Hi mc k (ss.map (·.calls)) v v' ∧ Seen ⟨S', K, l'⟩ v' := by
  induction h with
  | nil => exact fun v _ _ s => ⟨v, .nil, s⟩
  | @cons k s ss S S' l l' tv tb gc h ih =>
    intro v hk ha sn
    have hlen : (hiredS S tv tb gc).thr.length = k + 1 := by simp [hiredS, hk]
    have ht0 : (hiredS S tv tb gc).thr[k]? = some ⟨tb, gc, 0, 0, 0, 0⟩ := by simp [hiredS, hk]
    have sta := flow_sta k mc s.calls 0 false s.ans (hiredS S tv tb gc)
    obtain ⟨X, f1, f2, f3, f4⟩ := flow_fw (mc := mc) k s.calls 0 false s.ans (hiredS S tv tb gc) _ ht0
    have hold : ∀ i, i ≠ k → (flow k mc s.calls 0 false s.ans (hiredS S tv tb gc)).1.thr[i]? = (hiredS S tv tb gc).thr[i]? := fun i hi => sta.oth i hi
    have hth : ∀ i, i ≠ k → thrI (flow k mc s.calls 0 false s.ans (hiredS S tv tb gc)).1 i = thrI S i := fun i hi => by
      unfold thrI
      rw [hold i hi]
      by_cases hik : i < k
      · simp [hiredS, List.getElem?_append, hk, hik]
      · have h1 : (hiredS S tv tb gc).thr[i]? = none := List.getElem?_eq_none (by rw [hlen]; omega)
        have h2 : S.thr[i]? = none := List.getElem?_eq_none (by omega)
        rw [h1, h2]
    have e1 : s.ans = List.replicate s.calls.length (0, 0) := ha s (List.mem_cons_self ..)
    have hsn : Seen ⟨(flow k mc s.calls 0 false s.ans (hiredS S tv tb gc)).1, K, upd l k (flow k mc s.calls 0 false s.ans (hiredS S tv tb gc)).2⟩ ⟨v.K, v.stk, v.chg, fun i => (thrI (flow k mc s.calls 0 false s.ans (hiredS S tv tb gc)).1 i).se, upd l k (flow k mc s.calls 0 false s.ans (hiredS S tv tb gc)).2, v.L ++ X⟩ := by
      refine ⟨sn.K, ?_, ?_, fun _ => rfl, rfl, ?_, ?_, fun i t ht j q r kk a hl => ?_⟩
      · show v.stk = (flow k mc s.calls 0 false s.ans (hiredS S tv tb gc)).1.stk
        rw [sta.stk]
        exact sn.stk
      · show v.chg = (flow k mc s.calls 0 false s.ans (hiredS S tv tb gc)).1.chg
        rw [f3]
        exact sn.chg
      · show (flow k mc s.calls 0 false s.ans (hiredS S tv tb gc)).1.tr = _
        rw [f2.tr, flat_app]
        have : (hiredS S tv tb gc).tr = flat v.L := sn.tr
        rw [this]
      · show (flow k mc s.calls 0 false s.ans (hiredS S tv tb gc)).1.n = _
        rw [f2.n, List.length_append]
        have : (hiredS S tv tb gc).n = v.L.length := sn.n
        rw [this]
      · have ht : (flow k mc s.calls 0 false s.ans (hiredS S tv tb gc)).1.thr[i]? = some t := ht
        have hl : upd l k (flow k mc s.calls 0 false s.ans (hiredS S tv tb gc)).2 i = .wait j q r kk a := hl
        by_cases hik : i = k
        · subst hik
          rw [upd_same] at hl
          have := (f4 j q r kk a hl).1
          rw [thrI_of ht] at this
          exact this
        · rw [upd_ne _ _ hik] at hl
          rw [hold i hik] at ht
          refine sn.ce i t ?_ j q r kk a hl
          have : i < k := by
            have := (List.getElem?_eq_some_iff.1 ht).1
            omega
          simpa [hiredS, List.getElem?_append, hk, this] using ht
    obtain ⟨v', h1, h2⟩ := ih _ (by rw [sta.len, hlen]) (fun s' hs' => ha s' (List.mem_cons_of_mem _ hs')) hsn
    refine ⟨v', .cons (v1 := ⟨v.K, v.stk, v.chg, fun i => (thrI (flow k mc s.calls 0 false s.ans (hiredS S tv tb gc)).1 i).se, upd l k (flow k mc s.calls 0 false s.ans (hiredS S tv tb gc)).2, v.L ++ X⟩) (X := X) ?_ rfl rfl rfl rfl ⟨by rw [sn.l], fun i hi => ?_, fun j q r kk a hl => ?_⟩ h1, h2⟩
    · rw [← e1]
      have : v.stk = S.stk := sn.stk
      rw [this]
      exact f1
    · show (thrI (flow k mc s.calls 0 false s.ans (hiredS S tv tb gc)).1 i).se = _
      rw [hth i hi]
      exact (sn.se i).symm
    · have := (f4 j q r kk a hl).2
      show (thrI (flow k mc s.calls 0 false s.ans (hiredS S tv tb gc)).1 k).se = chgOf v.chg j
      rw [this]
      have : v.chg = S.chg := sn.chg
      rw [this]
      rfl
end
end Go.Proofs.Ytfjjoohflcchnaa.Gen

namespace Go.Proofs.Ytfjjoohflcchnaa
open Go Go.Lift Go.Conc Go.RowKit

/-- Main is alone. -/
structure Alone (gs : Array Goroutine) (w : World) (T : Trace) (q : Nat → Nat) : Prop where
  left : Leavers Try.prog T gs q
  past : ∃ B, B ≤ w.heap.size ∧ Past (fun _ => False) B T

theorem alone_goes {gs : Array Goroutine} {w : World} {T : Trace} {q : Nat → Nat} (A : Alone gs w T q) {a : Goroutine} {Stop : Goroutine → World → Prop} (hg : gs[0]? = some a) (sl : Option (Nat × Nat)) (hG : GoesI Try.prog true (DT (ScZ zn) (fun _ => False)) Stop a w) :
    ∃ (N' : Nat) (gs' : Array Goroutine) (a' : Goroutine) (w' : World) (sl' : Option (Nat × Nat)) (T' : Trace) (q' : Nat → Nat), runNT Try.prog N' (crowd gs w sl) T = (.next (crowd gs' w' sl'), T') ∧ gs'.size = gs.size ∧ gs'[0]? = some a' ∧ Stop a' w' ∧ Alone gs' w' T' q' := by
  obtain ⟨B, hB, hP⟩ := A.past
  have hno : ∀ a, ¬ ScZ zn a := fun a ha => by have := ha.2; cases this
  have C0 : Ring Try.prog (KC (ScZ zn) (fun _ => undef)) (StillC (ScZ zn)) B (fun g => g = 0) (fun _ => none) 0 T gs w q := ring_begin (fun x hx => by obtain ⟨a, _, h⟩ := hx; exact absurd h (hno a)) A.left hP (fun a ha => absurd ha (hno a))
  obtain ⟨N1, gs1, a1, w1, sl1, T1, q1, B1, r1, z1, h1, hs1, ⟨hB1, hB1b, hB1c⟩, C1⟩ := hold_goes (Inb := fun _ => none) (Mem := fun g => g = 0) (h := 0) (fun w d h => kc_at w d h) (dh_of_dt (fun i s c e => by cases e)) hG gs sl T q B hg C0
  obtain ⟨hL, hP'⟩ := ring_end C1 rfl (fun _ _ => rfl)
  exact ⟨N1, gs1, a1, w1, sl1, T1, q1, r1, z1, h1, hs1, hL, B1, by omega, hP'⟩

end Go.Proofs.Ytfjjoohflcchnaa
