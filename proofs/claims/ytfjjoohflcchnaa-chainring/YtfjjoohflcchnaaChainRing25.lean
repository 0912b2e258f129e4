/- ChainRing: of a ring the last who writes down is told, under every schedule. Part 25 of 37. (Joined, by program, of: ChM, ChI, ChR.) -/
import Derived.Test.YtfjjoohflcchnaaChainRing20
import Derived.Test.YtfjjoohflcchnaaChainRing24
set_option linter.unusedSimpArgs false
set_option linter.unusedVariables false
namespace Go.Proofs.Ytfjjoohflcchnaa.Gen
open Go Go.Lift Go.Conc Go.RowKit
open Go.ConcN (upd upd_same upd_ne)

/-- The key that a number means. -/
def keyH (n : Nat) (x : Int) : Nat := which x n
theorem keyH_lt {n : Nat} (h : 0 < n) (x : Int) : keyH n x < n := which_lt x h
theorem keyH_int {n : Nat} (h : 0 < n) (x : Int) : (keyH n x : Int) = x % (n : Int) := which_emod x h
/-- At the loop's head. -/
def nxH (n fr x k : Nat) : Nx := if k < n then (if x = fr then .ans 0 1 else .turn 1 x (1, [(fr : Int), (k : Int), (x : Int)])) else .ans 0 0
/-- 0: it writes down; 1: it looks. -/
def mcH (n : Nat) : Mc where
  start _ c := if c.po = 1 then .turn 2 (keyH n c.ca) (0, [(keyH n c.ca : Int), (keyH n c.cb : Int)]) else .ans 1 0
  turn q x :=
    if q.1 = 0 then ((x, ((((q.2.getD 1 0).toNat % n : Nat) + 1 : Nat) : Int)), ((((q.2.getD 1 0).toNat % n : Nat) + 1 : Nat) : Int), nxH n (q.2.getD 0 0).toNat (q.2.getD 1 0).toNat 0)
    else ((x, x), x, if x = 0 then .ans 0 0 else nxH n (q.2.getD 0 0).toNat (x - 1).toNat ((q.2.getD 1 0).toNat + 1))
  woke _ := .ans 1 0
  stuck _ := (4, 0)
  bnd := true
  ok _ x := 0 < n → 0 ≤ x ∧ x ≤ n
  okt q j x h := by
    intro hn
    have hm := Nat.mod_lt (q.2.getD 1 0).toNat hn
    by_cases e : q.1 = 0
    · simp only [e, if_true]
      omega
    · simp only [e, if_false]
      exact h hn

/-- What the laws count along a trace. -/
structure Rh where
  cnt : Nat → Nat
  call : Nat → Nat
  last : Option (Nat × Nat)
def rh0 : Rh := ⟨fun _ => 0, fun _ => 0, none⟩
def caOf (cl : Nat → List Cl) (i k : Nat) : Int := match (cl i)[k]? with | some c => c.ca | none => 0
theorem caOf_eq {cl : Nat → List Cl} {i k : Nat} {c : Cl} (h : (cl i)[k]? = some c) : caOf cl i k = c.ca := by unfold caOf; rw [h]
def rsH (cl : Nat → List Cl) (r : Rh) (s : Stp) : Rh :=
  if s.op = 9 then { r with cnt := upd r.cnt s.th.toNat 0, call := upd r.call s.th.toNat s.ol.toNat }
  else { r with cnt := upd r.cnt s.th.toNat (r.cnt s.th.toNat + 1), last := if s.op = 2 ∧ caOf cl s.th.toNat (r.call s.th.toNat) < 12 then some (s.th.toNat, r.call s.th.toNat) else r.last }
def repH (cl : Nat → List Cl) (L : List Stp) : Rh := L.foldl (rsH cl) rh0
theorem repH_app (cl : Nat → List Cl) (A B : List Stp) : repH cl (A ++ B) = B.foldl (rsH cl) (repH cl A) := List.foldl_append
theorem repH_one (cl : Nat → List Cl) (A : List Stp) (s : Stp) : repH cl (A ++ [s]) = rsH cl (repH cl A) s := by rw [repH_app]; rfl
section
variable {cl : Nat → List Cl} {r : Rh} {i : Nat}
theorem rsH_begin (k : Nat) : rsH cl r ⟨i, -1, 9, k, 0⟩ = { r with cnt := upd r.cnt i 0, call := upd r.call i k } := by
  simp [rsH]
theorem rsH_end (k : Nat) (e : Int) : rsH cl r ⟨i, -1, 10, k, e⟩ = { r with cnt := upd r.cnt i (r.cnt i + 1) } := by
  simp [rsH]
theorem rsH_look (j : Nat) (x y : Int) : rsH cl r ⟨i, j, 1, x, y⟩ = { r with cnt := upd r.cnt i (r.cnt i + 1) } := by
  simp [rsH]
theorem rsH_put (j : Nat) (x y : Int) : rsH cl r ⟨i, j, 2, x, y⟩ = { r with cnt := upd r.cnt i (r.cnt i + 1), last := if caOf cl i (r.call i) < 12 then some (i, r.call i) else r.last } := by
  simp [rsH]
end

/-- A way. -/
inductive Rc (E : Nat → Nat → Prop) : Nat → Nat → Prop
  | one {a b : Nat} : E a b → Rc E a b
  | step {a b c : Nat} : Rc E a b → E b c → Rc E a c
/-- It was written down. -/
def Kn (K : List Int) (a : Nat) : Prop := ∃ x, K[a]? = some x ∧ x ≠ 0
/-- How many calls of a thread are answered. -/
def upC (calls : List Cl) : Ph → Nat
  | .turn _ _ _ _ ii _ => ii
  | .wait _ _ _ ii _ => ii
  | .done _ => calls.length
/-- Where a thread sits. -/
def HSeat (n : Nat) (E : Nat → Nat → Prop) (calls : List Cl) (r : Rh) (K : List Int) (i : Nat) : Ph → Prop
  | .turn op j q rest ii ans => rest = calls.drop (ii + 1) ∧ r.call i = ii ∧ ∃ c, calls[ii]? = some c ∧ c.po = 1 ∧
      ((op = 2 ∧ j = keyH n c.ca ∧ q = (0, [(keyH n c.ca : Int), (keyH n c.cb : Int)]) ∧ r.cnt i = 0) ∨
       (op = 1 ∧ ∃ k : Nat, q = (1, [(keyH n c.ca : Int), (k : Int), (j : Int)]) ∧ j < n ∧ k < n ∧ r.cnt i = 1 + k ∧ Rc E (keyH n c.ca) j ∧ Kn K (keyH n c.ca)))
  | .wait _ _ _ _ _ => False
  | .done _ => True
theorem HSeat.oth {n : Nat} {E : Nat → Nat → Prop} {calls : List Cl} {r r' : Rh} {K K' : List Int} {i : Nat} {l : Ph} (h : HSeat n E calls r K i l) (h1 : r'.cnt i = r.cnt i) (h2 : r'.call i = r.call i) (h3 : ∀ a, Kn K a → Kn K' a) : HSeat n E calls r' K' i l := by
  cases l with
  | done a => trivial
  | wait j q rest ii ans => exact h
  | turn op j q rest ii ans =>
    obtain ⟨a1, a2, c, a3, a4, a5⟩ := h
    refine ⟨a1, h2.trans a2, c, a3, a4, ?_⟩
    rcases a5 with ⟨b1, b2, b3, b4⟩ | ⟨b1, k, b2, b3, b4, b5, b6, b7⟩
    · exact .inl ⟨b1, b2, b3, h1.trans b4⟩
    · exact .inr ⟨b1, k, b2, b3, b4, h1.trans b5, b6, h3 _ b7⟩
/-- What a step says, behind which the count is r. -/
def StR (N n : Nat) (cl : Nat → List Cl) (r : Rh) (st : Stp) : Prop :=
  ∃ i : Nat, st.th = i ∧ i < N ∧ r.call i < (cl i).length ∧ (st.op ≠ 10 → r.cnt i ≤ n + 1) ∧ (st.op = 9 → 0 ≤ st.ol)
/-- .. of each step, from r on. -/
def StsR (N n : Nat) (cl : Nat → List Cl) : Rh → List Stp → Prop
  | _, [] => True
  | r, st :: X => StR N n cl (rsH cl r st) st ∧ StsR N n cl (rsH cl r st) X
theorem StsR.app {N n : Nat} {cl : Nat → List Cl} : ∀ {A B : List Stp} {r : Rh}, StsR N n cl r A → StsR N n cl (A.foldl (rsH cl) r) B → StsR N n cl r (A ++ B)
  | [], _, _, _, h => h
  | st :: A, B, r, h, k => ⟨h.1, StsR.app h.2 k⟩
theorem StsR.more {N N' n : Nat} (hN : N ≤ N') {cl : Nat → List Cl} : ∀ {A : List Stp} {r : Rh}, StsR N n cl r A → StsR N' n cl r A
  | [], _, _ => trivial
  | st :: A, r, h => ⟨by obtain ⟨i, a, b, c⟩ := h.1; exact ⟨i, a, by omega, c⟩, h.2.more hN⟩
theorem StsR.at {N n : Nat} {cl : Nat → List Cl} : ∀ {L : List Stp} {r : Rh}, StsR N n cl r L → ∀ (k : Nat) (st : Stp), L[k]? = some st → StR N n cl ((L.take (k + 1)).foldl (rsH cl) r) st
  | [], _, _, k, st, h => by simp at h
  | s :: L, r, h, 0, st, e => by
    simp at e
    subst e
    exact h.1
  | s :: L, r, h, k + 1, st, e => by
    have := StsR.at h.2 k st (by simpa using e)
    simpa using this

/-- From a call's beginning to the next seat. -/
structure FwH (n : Nat) (E : Nat → Nat → Prop) (cl : Nat → List Cl) (i ii : Nat) (ans : List (Int × Int)) (r r' : Rh) (K : List Int) (X : List Stp) (l : Ph) : Prop where
  seat : HSeat n E (cl i) r' K i l
  oth : ∀ k, k ≠ i → r'.cnt k = r.cnt k ∧ r'.call k = r.call k
  last : r'.last = r.last
  len : l.ans.length = (cl i).length
  xs : ∀ N, i < N → StsR N n cl r X
  up : ii ≤ upC (cl i) l
  old : ∀ k, k < ii → l.ans[k]? = ans[k]?
  zer : ∀ (k : Nat) (a : Int × Int), l.ans[k]? = some a → a.2 ≠ 0 → ans[k]? = some a
  sto : ∀ (k : Nat) (c : Cl), ii ≤ k → k < upC (cl i) l → (cl i)[k]? = some c → c.po ≠ 1
  loo : ∀ op j q rest kk a, l = .turn op j q rest kk a → op = 2
theorem mcH_ans {n i : Nat} {c : Cl} {e x : Int} (h : (mcH n).start i c = .ans e x) : e = 1 ∧ x = 0 ∧ c.po ≠ 1 := by
  unfold mcH at h
  simp only at h
  split at h
  · cases h
  · rename_i hp
    cases h
    exact ⟨rfl, rfl, hp⟩
theorem mcH_turn {n i : Nat} {c : Cl} {op : Int} {j : Nat} {q : Q} (h : (mcH n).start i c = .turn op j q) : c.po = 1 ∧ op = 2 ∧ j = keyH n c.ca ∧ q = (0, [(keyH n c.ca : Int), (keyH n c.cb : Int)]) := by
  unfold mcH at h
  simp only at h
  split at h
  · rename_i hp
    cases h
    exact ⟨hp, rfl, rfl, rfl⟩
  · cases h
theorem mcH_wait {n i : Nat} {c : Cl} {j : Nat} {q : Q} : ¬ (mcH n).start i c = .wait j q := fun h => by
  unfold mcH at h
  simp only at h
  split at h <;> cases h

theorem fw_H {n : Nat} {E : Nat → Nat → Prop} {cl : Nat → List Cl} {i : Nat} {stk : Bool} {rest : List Cl} {ii : Nat} {sk : Bool} {ans : List (Int × Int)} {X : List Stp} {l : Ph} (h : Fw (mcH n) i stk rest ii sk ans X l) : ∀ (r : Rh) (K : List Int), rest = (cl i).drop ii → ii ≤ (cl i).length → ans.length = (cl i).length → sk = false → FwH n E cl i ii ans r (X.foldl (rsH cl) r) K X l := by
  induction h with
  | @nil ii sk ans =>
    intro r K hr hl ha hs
    have e : ii = (cl i).length := by
      have := congrArg List.length hr
      simp at this
      omega
    exact ⟨trivial, fun _ _ => ⟨rfl, rfl⟩, rfl, ha, fun _ _ => trivial, by show ii ≤ (cl i).length; exact hl, fun _ _ => rfl, fun _ _ h _ => h, fun k c h1 h2 _ => by have h2 : k < (cl i).length := h2; omega, fun _ _ _ _ _ _ h => by cases h⟩
  | skip _ _ =>
    intro r K hr hl ha hs
    cases hs
  | @ans c rest ii ans X l e x hst h ih =>
    intro r K hr hl ha hs
    have hlt : ii < (cl i).length := by
      have := congrArg List.length hr
      simp at this
      omega
    have hc : (cl i)[ii]? = some c := by
      have : ((cl i).drop ii)[0]? = some c := by rw [← hr]; rfl
      simpa using this
    have hr' : rest = (cl i).drop (ii + 1) := by
      have := congrArg List.tail hr
      simpa [List.tail_drop] using this
    obtain ⟨rfl, rfl, hp⟩ := mcH_ans hst
    have f := ih (rsH cl (rsH cl r ⟨i, -1, 9, ii, 0⟩) ⟨i, -1, 10, ii, 1⟩) K hr' (by omega) (by simpa using ha) rfl
    have e1 := rsH_begin (cl := cl) (r := r) (i := i) ii
    have e2 := rsH_end (cl := cl) (r := rsH cl r ⟨i, -1, 9, ii, 0⟩) (i := i) ii 1
    refine ⟨f.seat, fun k hk => ?_, ?_, f.len, fun N hN => ⟨⟨i, rfl, hN, ?_, fun _ => ?_, fun _ => ?_⟩, ⟨i, rfl, hN, ?_, fun h => absurd rfl h, fun h => absurd (show (10 : Int) = 9 from h) (by decide)⟩, f.xs N hN⟩, by have := f.up; omega, fun k hk => ?_, fun k a h1 h2 => ?_, fun k c' h1 h2 h3 => ?_, f.loo⟩
    · obtain ⟨q1, q2⟩ := f.oth k hk
      refine ⟨q1.trans ?_, q2.trans ?_⟩
      · rw [e2, e1]; show upd (upd r.cnt i 0) i _ k = _; rw [upd_ne _ _ hk, upd_ne _ _ hk]
      · rw [e2, e1]; exact upd_ne _ _ hk
    · refine f.last.trans ?_
      rw [e2, e1]
    · rw [e1]; show upd r.call i ii i < _; rw [upd_same]; exact hlt
    · rw [e1]; show upd r.cnt i 0 i ≤ _; rw [upd_same]; omega
    · show (0 : Int) ≤ ii; omega
    · rw [e2, e1]; show upd r.call i ii i < _; rw [upd_same]; exact hlt
    · rw [f.old k (by omega), List.getElem?_set, if_neg (by omega)]
    · have := f.zer k a h1 h2
      rw [List.getElem?_set] at this
      split at this
      · rename_i e
        split at this
        · cases this; exact absurd rfl h2
        · cases this
      · exact this
    · by_cases e : k = ii
      · subst e
        rw [hc] at h3
        cases h3
        exact hp
      · exact f.sto k c' (by omega) h2 h3
  | @turn c rest ii ans op j q hst =>
    intro r K hr hl ha hs
    have hlt : ii < (cl i).length := by
      have := congrArg List.length hr
      simp at this
      omega
    have hc : (cl i)[ii]? = some c := by
      have : ((cl i).drop ii)[0]? = some c := by rw [← hr]; rfl
      simpa using this
    have hr' : rest = (cl i).drop (ii + 1) := by
      have := congrArg List.tail hr
      simpa [List.tail_drop] using this
    obtain ⟨hp, rfl, rfl, rfl⟩ := mcH_turn hst
    have e1 := rsH_begin (cl := cl) (r := r) (i := i) ii
    refine ⟨?_, fun k hk => ?_, ?_, ha, fun N hN => ⟨⟨i, rfl, hN, ?_, fun _ => ?_, fun _ => ?_⟩, trivial⟩, Nat.le_refl _, fun _ _ => rfl, fun _ _ h _ => h, fun k c' h1 h2 _ => by have h2 : k < ii := h2; omega, fun _ _ _ _ _ _ h => by cases h; rfl⟩
    · show HSeat n E (cl i) (rsH cl r ⟨i, -1, 9, ii, 0⟩) K i _
      rw [e1]
      exact ⟨hr', by show upd r.call i ii i = ii; rw [upd_same], c, hc, hp, .inl ⟨rfl, rfl, rfl, by show upd r.cnt i 0 i = 0; rw [upd_same]⟩⟩
    · show (rsH cl r ⟨i, -1, 9, ii, 0⟩).cnt k = _ ∧ (rsH cl r ⟨i, -1, 9, ii, 0⟩).call k = _
      rw [e1]
      exact ⟨upd_ne _ _ hk, upd_ne _ _ hk⟩
    · show (rsH cl r ⟨i, -1, 9, ii, 0⟩).last = _
      rw [e1]
    · rw [e1]; show upd r.call i ii i < _; rw [upd_same]; exact hlt
    · rw [e1]; show upd r.cnt i 0 i ≤ _; rw [upd_same]; omega
    · show (0 : Int) ≤ ii; omega
  | wait hst _ =>
    intro r K hr hl ha hs
    exact absurd hst mcH_wait
  | waits hst hs' _ _ =>
    intro r K hr hl ha hs
    exact absurd hst mcH_wait
end Go.Proofs.Ytfjjoohflcchnaa.Gen

namespace Go.Proofs.Ytfjjoohflcchnaa.Gen
open Go Go.Lift Go.Conc Go.RowKit
open Go.ConcN (upd upd_same upd_ne)

structure HI (N n : Nat) (E : Nat → Nat → Prop) (cl : Nat → List Cl) (v : Vw) : Prop where
  kl : v.K.length = n
  cel : ∀ (j : Nat) (x : Int), v.K[j]? = some x → x = 0 ∨ ∃ b : Nat, x = (b : Int) + 1 ∧ b < n ∧ E j b
  stk : v.stk = false
  seat : ∀ i, i < N → HSeat n E (cl i) (repH cl v.L) v.K i (v.l i)
  alen : ∀ i, i < N → (v.l i).ans.length = (cl i).length
  sto : ∀ i, i < N → ∀ (k : Nat) (c : Cl), k < upC (cl i) (v.l i) → (cl i)[k]? = some c → c.po = 1 → Kn v.K (keyH n c.ca)
  told : ∀ i, i < N → ∀ (k : Nat) (a : Int × Int), (v.l i).ans[k]? = some a → a.2 ≠ 0 → ∃ c, (cl i)[k]? = some c ∧ Rc E (keyH n c.ca) (keyH n c.ca)
  stp : StsR N n cl rh0 v.L
/-- A cell in which something is written down. -/
theorem kn_set {K : List Int} {j : Nat} {y : Int} (hy : y ≠ 0) {a : Nat} (h : Kn K a) : Kn (K.set j y) a := by
  obtain ⟨x, h1, h2⟩ := h
  have hl := (List.getElem?_eq_some_iff.1 h1).1
  by_cases e : j = a
  · subst e
    exact ⟨y, by rw [List.getElem?_set, if_pos rfl, if_pos hl], hy⟩
  · exact ⟨x, by rw [List.getElem?_set, if_neg e]; exact h1, h2⟩
theorem set_getD {K : List Int} {j : Nat} (hj : j < K.length) : K.set j (K.getD j 0) = K ∧ K[j]? = some (K.getD j 0) := by
  have h : K[j]? = some (K.getD j 0) := by rw [List.getD_eq_getElem?_getD, List.getElem?_eq_getElem hj]; rfl
  refine ⟨?_, h⟩
  apply List.ext_getElem?
  intro k
  rw [List.getElem?_set]
  split
  · rename_i e
    subst e
    first | exact h.symm | rw [if_pos hj, h]
  · rfl

/-- What comes next is an answer, or a look. -/
def NxG (n : Nat) (E : Nat → Nat → Prop) (a cn : Nat) (nx : Nx) : Prop := (∃ z : Int, nx = .ans 0 z ∧ (z ≠ 0 → Rc E a a)) ∨ (∃ k x' : Nat, nx = .turn 1 x' (1, [(a : Int), (k : Int), (x' : Int)]) ∧ x' < n ∧ k < n ∧ cn = k ∧ Rc E a x')
/-- A thread's turn: of its step s, and of what follows in the same turn. -/
theorem HI.move {N n : Nat} {E : Nat → Nat → Prop} {cl : Nat → List Cl} {v v1 : Vw} (h : HI N n E cl v) {i : Nat} (hi : i < N) {op : Int} {j : Nat} {q : Q} {rest : List Cl} {ii : Nat} {ans : List (Int × Int)} (hl : v.l i = .turn op j q rest ii ans)
    {x y : Int} {nx : Nx} {X : List Stp} {l' : Ph} {c : Cl} (hc : (cl i)[ii]? = some c) (hp : c.po = 1) (hrest : rest = (cl i).drop (ii + 1)) (hcall : (repH cl v.L).call i = ii) (hop : op = 1 ∨ op = 2)
    (ho : On (mcH n) i false rest ii ans nx X l') (e : Els i l' v v1) (hst : v1.stk = v.stk) (hL : v1.L = v.L ++ ⟨i, j, op, x, y⟩ :: X)
    (kl : v1.K.length = n) (cel : ∀ (j : Nat) (x : Int), v1.K[j]? = some x → x = 0 ∨ ∃ b : Nat, x = (b : Int) + 1 ∧ b < n ∧ E j b) (hkn : ∀ a, Kn v.K a → Kn v1.K a) (hme : Kn v1.K (keyH n c.ca)) (hcnt : (repH cl v.L).cnt i ≤ n)
    (hnx : NxG n E (keyH n c.ca) ((repH cl v.L).cnt i) nx) : HI N n E cl v1 := by
  have hlt : ii < (cl i).length := (List.getElem?_eq_some_iff.1 hc).1
  have hal : ans.length = (cl i).length := by have := h.alen i hi; rw [hl] at this; exact this
  have hr1 : ∀ k, k ≠ i → (rsH cl (repH cl v.L) ⟨i, j, op, x, y⟩).cnt k = (repH cl v.L).cnt k ∧ (rsH cl (repH cl v.L) ⟨i, j, op, x, y⟩).call k = (repH cl v.L).call k := fun k hk => by
    rcases hop with rfl | rfl
    · rw [rsH_look]; exact ⟨upd_ne _ _ hk, rfl⟩
    · rw [rsH_put]; exact ⟨upd_ne _ _ hk, rfl⟩
  have hr2 : (rsH cl (repH cl v.L) ⟨i, j, op, x, y⟩).cnt i = (repH cl v.L).cnt i + 1 ∧ (rsH cl (repH cl v.L) ⟨i, j, op, x, y⟩).call i = ii := by
    rcases hop with rfl | rfl
    · rw [rsH_look]; exact ⟨upd_same _ _ _, hcall⟩
    · rw [rsH_put]; exact ⟨upd_same _ _ _, hcall⟩
  have hS1 : ∀ N', i < N' → StR N' n cl (rsH cl (repH cl v.L) ⟨i, j, op, x, y⟩) ⟨i, j, op, x, y⟩ := fun N' hN => ⟨i, rfl, hN, by rw [hr2.2]; exact hlt, fun _ => by rw [hr2.1]; omega, fun e9 => by
    have e9 : op = 9 := e9
    rcases hop with rfl | rfl <;> simp at e9⟩
  rcases hnx with ⟨z, rfl, hz⟩ | ⟨k, x', rfl, hx', hk, hkc, hrc⟩
  · cases ho with
    | @ans _ _ X2 _ hfw =>
      have f := fw_H (E := E) (cl := cl) hfw (rsH cl (rsH cl (repH cl v.L) ⟨i, j, op, x, y⟩) ⟨i, -1, 10, ii, 0⟩) v1.K hrest (by omega) (by rw [List.length_set]; exact hal) rfl
      have e2 := rsH_end (cl := cl) (r := rsH cl (repH cl v.L) ⟨i, j, op, x, y⟩) (i := i) ii 0
      have hrep : repH cl v1.L = List.foldl (rsH cl) (rsH cl (rsH cl (repH cl v.L) ⟨i, j, op, x, y⟩) ⟨i, -1, 10, ii, 0⟩) X2 := by
        rw [hL, repH_app]; rfl
      rw [← hrep] at f
      have hup := f.up
      have hoth : ∀ k, k ≠ i → (repH cl v1.L).cnt k = (repH cl v.L).cnt k ∧ (repH cl v1.L).call k = (repH cl v.L).call k := fun k hk => by
        obtain ⟨q1, q2⟩ := f.oth k hk
        rw [e2] at q1 q2
        exact ⟨(q1.trans (upd_ne _ _ hk)).trans (hr1 k hk).1, q2.trans (hr1 k hk).2⟩
      refine ⟨kl, cel, by rw [hst]; exact h.stk, fun m hm => ?_, fun m hm => ?_, fun m hm k c' h1 h2 h3 => ?_, fun m hm k a h1 h2 => ?_, ?_⟩
      · rw [e.l]
        by_cases hne : m = i
        · subst hne; rw [upd_same]; exact f.seat
        · rw [upd_ne _ _ hne]
          exact (h.seat m hm).oth (hoth m hne).1 (hoth m hne).2 hkn
      · rw [e.l]
        by_cases hne : m = i
        · subst hne; rw [upd_same]; exact f.len
        · rw [upd_ne _ _ hne]; exact h.alen m hm
      · rw [e.l] at h1
        by_cases hne : m = i
        · subst hne
          rw [upd_same] at h1
          by_cases h4 : k < ii
          · exact hkn _ (h.sto m hm k c' (by rw [hl]; exact h4) h2 h3)
          · by_cases h5 : k = ii
            · subst h5
              rw [hc] at h2
              cases h2
              exact hme
            · exact absurd h3 (f.sto k c' (by omega) h1 h2)
        · rw [upd_ne _ _ hne] at h1
          exact hkn _ (h.sto m hm k c' h1 h2 h3)
      · rw [e.l] at h1
        by_cases hne : m = i
        · subst hne
          rw [upd_same] at h1
          have h3 := f.zer k a h1 h2
          rw [List.getElem?_set] at h3
          split at h3
          · rename_i h4
            subst h4
            split at h3
            · cases h3
              exact ⟨c, hc, hz h2⟩
            · cases h3
          · exact h.told m hm k a (by rw [hl]; exact h3) h2
        · rw [upd_ne _ _ hne] at h1
          exact h.told m hm k a h1 h2
      · rw [hL]
        refine h.stp.app ⟨hS1 N hi, ⟨i, rfl, hi, ?_, fun h => absurd rfl h, fun h => absurd (show (10 : Int) = 9 from h) (by decide)⟩, f.xs N hi⟩
        show (rsH cl (rsH cl (repH cl v.L) ⟨i, j, op, x, y⟩) ⟨i, -1, 10, ii, 0⟩).call i < _
        rw [e2]
        show (rsH cl (repH cl v.L) ⟨i, j, op, x, y⟩).call i < _
        rw [hr2.2]
        exact hlt
  · cases ho
    have hrep : repH cl v1.L = rsH cl (repH cl v.L) ⟨i, j, op, x, y⟩ := by rw [hL, repH_one]
    refine ⟨kl, cel, by rw [hst]; exact h.stk, fun m hm => ?_, fun m hm => ?_, fun m hm k c' h1 h2 h3 => ?_, fun m hm k a h1 h2 => ?_, ?_⟩
    · rw [e.l]
      by_cases hne : m = i
      · subst hne
        rw [upd_same, hrep]
        exact ⟨hrest, hr2.2, c, hc, hp, .inr ⟨rfl, k, rfl, hx', hk, by rw [hr2.1]; omega, hrc, hme⟩⟩
      · rw [upd_ne _ _ hne, hrep]
        exact (h.seat m hm).oth (hr1 m hne).1 (hr1 m hne).2 hkn
    · rw [e.l]
      by_cases hne : m = i
      · subst hne; rw [upd_same]; exact hal
      · rw [upd_ne _ _ hne]; exact h.alen m hm
    · rw [e.l] at h1
      by_cases hne : m = i
      · subst hne
        rw [upd_same] at h1
        exact hkn _ (h.sto m hm k c' (by rw [hl]; exact h1) h2 h3)
      · rw [upd_ne _ _ hne] at h1
        exact hkn _ (h.sto m hm k c' h1 h2 h3)
    · rw [e.l] at h1
      by_cases hne : m = i
      · subst hne
        rw [upd_same] at h1
        exact h.told m hm k a (by rw [hl]; exact h1) h2
      · rw [upd_ne _ _ hne] at h1
        exact h.told m hm k a h1 h2
    · rw [hL]
      exact h.stp.app ⟨hS1 N hi, trivial⟩

theorem nxH_cases (n fr x k : Nat) (P : Nx → Prop) (h1 : k < n → x = fr → P (.ans 0 1)) (h2 : k < n → x ≠ fr → P (.turn 1 x (1, [(fr : Int), (k : Int), (x : Int)]))) (h3 : n ≤ k → P (.ans 0 0)) : P (nxH n fr x k) := by
  unfold nxH
  split
  · split
    · exact h1 (by assumption) (by assumption)
    · exact h2 (by assumption) (by assumption)
  · exact h3 (by omega)
/-- The machine's two turns. -/
theorem mcH_put {n a b : Nat} (hb : b < n) (x : Int) : (mcH n).turn (0, [(a : Int), (b : Int)]) x = ((x, (b : Int) + 1), (b : Int) + 1, nxH n a b 0) := by
  have e : ((b : Int) % (n : Int)) = b := Int.emod_eq_of_lt (by omega) (by omega)
  simp [mcH, Nat.mod_eq_of_lt hb, e]
theorem mcH_look {n a k j : Nat} (x : Int) : (mcH n).turn (1, [(a : Int), (k : Int), (j : Int)]) x = ((x, x), x, if x = 0 then .ans 0 0 else nxH n a (x - 1).toNat (k + 1)) := by
  simp [mcH]

theorem chain_mv {N n : Nat} (h0 : 0 < n) {E : Nat → Nat → Prop} {cl : Nat → List Cl} (hE : ∀ i, i < N → ∀ c ∈ cl i, c.po = 1 → E (keyH n c.ca) (keyH n c.cb)) {v v1 : Vw} (h : HI N n E cl v) (m : Mv (mcH n) N v v1) : HI N n E cl v1 := by
  cases m with
  | stuck hs hall hex e =>
    obtain ⟨i, hi, j, q, r, k, a, hl⟩ := hex
    have := h.seat i hi
    rw [hl] at this
    exact this.elim
  | wake i j q rest ii ans X l' hi hl _ _ _ _ _ _ _ _ =>
    have := h.seat i hi
    rw [hl] at this
    exact this.elim
  | free i j q rest ii ans X l' hi hl _ _ _ _ _ _ _ =>
    have := h.seat i hi
    rw [hl] at this
    exact this.elim
  | turn i op j q rest ii ans X l' hi hl ho e hK hst hchg hL =>
    have hs := h.seat i hi
    rw [hl] at hs
    obtain ⟨hrest, hcall, c, hc, hp, h5⟩ := hs
    have hcm : c ∈ cl i := List.mem_of_getElem? hc
    have hEc := hE i hi c hcm hp
    rw [h.stk] at ho
    rcases h5 with ⟨rfl, rfl, rfl, hcn⟩ | ⟨rfl, k, rfl, hj, hk, hcn, hrc, hkn⟩
    · -- it writes down
      have hb := keyH_lt h0 c.cb
      have ha := keyH_lt h0 c.ca
      rw [mcH_put hb] at ho hK hL
      have hK : v1.K = v.K.set (keyH n c.ca) ((keyH n c.cb : Int) + 1) := hK
      have hy : ((keyH n c.cb : Int) + 1) ≠ 0 := by omega
      refine h.move hi hl hc hp hrest hcall (.inr rfl) ho e hst hL (by rw [hK, List.length_set]; exact h.kl) (fun j x hx => ?_) (fun a ha => by rw [hK]; exact kn_set hy ha) ?_ (by omega) ?_
      · rw [hK, List.getElem?_set] at hx
        split at hx
        · rename_i e1
          subst e1
          split at hx
          · cases hx
            exact .inr ⟨keyH n c.cb, rfl, hb, hEc⟩
          · cases hx
        · exact h.cel j x hx
      · exact ⟨_, by rw [hK, List.getElem?_set, if_pos rfl, if_pos (by rw [h.kl]; exact ha)], hy⟩
      · show NxG n E (keyH n c.ca) _ (nxH n (keyH n c.ca) (keyH n c.cb) 0)
        refine nxH_cases n _ _ _ (NxG n E (keyH n c.ca) _) (fun h1 h2 => .inl ⟨1, rfl, fun _ => ?_⟩) (fun h1 h2 => .inr ⟨0, _, rfl, hb, h0, hcn, .one hEc⟩) (fun h1 => by omega)
        have := Rc.one hEc
        rw [h2] at this
        exact this
    · -- it looks
      have hjs : j < v.K.length := by rw [h.kl]; exact hj
      obtain ⟨g1, g2⟩ := set_getD hjs
      generalize v.K.getD j 0 = x at *
      rw [mcH_look] at ho hK hL
      have hK : v1.K = v.K := hK.trans g1
      refine h.move hi hl hc hp hrest hcall (.inl rfl) ho e hst hL (by rw [hK]; exact h.kl) (by rw [hK]; exact h.cel) (fun a ha => by rw [hK]; exact ha) (by rw [hK]; exact hkn) (by omega) ?_
      show NxG n E (keyH n c.ca) _ (if x = 0 then .ans 0 0 else nxH n (keyH n c.ca) (x - 1).toNat (k + 1))
      by_cases hx : x = 0
      · rw [if_pos hx]
        exact .inl ⟨0, rfl, fun h => absurd rfl h⟩
      · rw [if_neg hx]
        rcases h.cel j x g2 with h1 | ⟨b, rfl, hb, hEb⟩
        · exact absurd h1 hx
        · have e1 : ((b : Int) + 1 - 1).toNat = b := by omega
          rw [e1]
          have hrc' := Rc.step hrc hEb
          refine nxH_cases n _ _ _ (NxG n E (keyH n c.ca) _) (fun h1 h2 => .inl ⟨1, rfl, fun _ => ?_⟩) (fun h1 h2 => .inr ⟨k + 1, _, rfl, hb, h1, by omega, hrc'⟩) (fun h1 => .inl ⟨0, rfl, fun h => absurd rfl h⟩)
          rw [h2] at hrc'
          exact hrc'

theorem hi_chain {n : Nat} {E : Nat → Nat → Prop} {cl : Nat → List Cl} {k : Nat} {cs : List (List Cl)} {v v' : Vw} (h : Hi (mcH n) k cs v v') : cs = (List.range' k cs.length).map cl → HI k n E cl v → HI (k + cs.length) n E cl v' := by
  induction h with
  | nil => exact fun _ hv => hv
  | @cons k c cs v v1 v2 X l' hF e1 e2 e3 e4 e5 _ ih =>
    intro hc hv
    rw [List.length_cons, List.range'_succ, List.map_cons] at hc
    obtain ⟨hc1, hc2⟩ := List.cons.inj hc
    rw [hv.stk] at hF
    have f := fw_H (E := E) (cl := cl) (i := k) hF (repH cl v.L) v.K (by rw [hc1]; rfl) (Nat.zero_le _) (by rw [List.length_replicate, hc1]) rfl
    rw [← repH_app, ← e4] at f
    have hl : v1.l = upd v.l k l' := e5.l
    have := ih hc2 ⟨by rw [e1]; exact hv.kl, by rw [e1]; exact hv.cel, by rw [e2]; exact hv.stk, fun i hi => ?_, fun i hi => ?_, fun i hi m c' h1 h2 h3 => ?_, fun i hi m a h1 h2 => ?_, ?_⟩
    · rw [show k + (c :: cs).length = k + 1 + cs.length by simp only [List.length_cons]; omega]
      exact this
    · rw [hl, e1]
      by_cases hne : i = k
      · subst hne; rw [upd_same]; exact f.seat
      · rw [upd_ne _ _ hne]; exact (hv.seat i (by omega)).oth (f.oth i hne).1 (f.oth i hne).2 (fun _ h => h)
    · rw [hl]
      by_cases hne : i = k
      · subst hne; rw [upd_same]; exact f.len
      · rw [upd_ne _ _ hne]; exact hv.alen i (by omega)
    · rw [hl] at h1
      rw [e1]
      by_cases hne : i = k
      · subst hne
        rw [upd_same] at h1
        exact absurd h3 (f.sto m c' (Nat.zero_le _) h1 h2)
      · rw [upd_ne _ _ hne] at h1
        exact hv.sto i (by omega) m c' h1 h2 h3
    · rw [hl] at h1
      by_cases hne : i = k
      · subst hne
        rw [upd_same] at h1
        have h3 := f.zer m a h1 h2
        rw [List.getElem?_replicate] at h3
        split at h3
        · cases h3; exact absurd rfl h2
        · cases h3
      · rw [upd_ne _ _ hne] at h1
        exact hv.told i (by omega) m a h1 h2
    · rw [e4]
      exact (hv.stp.more (Nat.le_succ k)).app (f.xs (k + 1) (by omega))
end Go.Proofs.Ytfjjoohflcchnaa.Gen

namespace Go.Proofs.Ytfjjoohflcchnaa.Gen
open Go Go.Lift Go.Conc Go.RowKit
open Go.ConcN (upd upd_same upd_ne)

/-- The ring's keys, one behind the other. -/
def rg (R : List Nat) (i : Nat) : Nat := R.getD (i % R.length) 0
theorem rg_turn (R : List Nat) (i : Nat) : rg R (i + R.length) = rg R i := by unfold rg; rw [Nat.add_mod_right]
theorem rg_mem {R : List Nat} (h : 0 < R.length) (i : Nat) : rg R i ∈ R := by
  unfold rg
  have hl := Nat.mod_lt i h
  rw [List.getD_eq_getElem?_getD, List.getElem?_eq_getElem hl]
  exact List.getElem_mem hl
theorem rg_inj {R : List Nat} (nd : R.Nodup) {i j : Nat} (hi : i < R.length) (hj : j < R.length) (h : rg R i = rg R j) : i = j := by
  unfold rg at h
  rw [Nat.mod_eq_of_lt hi, Nat.mod_eq_of_lt hj, List.getD_eq_getElem?_getD, List.getD_eq_getElem?_getD, List.getElem?_eq_getElem hi, List.getElem?_eq_getElem hj] at h
  have h : R[i] = R[j] := h
  have hp := List.pairwise_iff_getElem.1 nd
  rcases Nat.lt_trichotomy i j with h1 | h1 | h1
  · exact absurd h (hp i j hi hj h1)
  · exact h1
  · exact absurd h.symm (hp j i hj hi h1)
/-- .. by whatever number. -/
theorem rg_next {R : List Nat} (nd : R.Nodup) (h0 : 0 < R.length) {i j : Nat} (h : rg R i = rg R j) : rg R (i + 1) = rg R (j + 1) := by
  have e : ∀ k, rg R k = rg R (k % R.length) := fun k => by unfold rg; rw [Nat.mod_mod]
  rw [e i, e j] at h
  have := rg_inj nd (Nat.mod_lt i h0) (Nat.mod_lt j h0) h
  unfold rg
  rw [Nat.add_mod, this, ← Nat.add_mod]
/-- What the scripts ask. -/
structure Rg (N n : Nat) (R : List Nat) (cl : Nat → List Cl) : Prop where
  pos : 0 < R.length
  le : R.length ≤ n
  nd : R.Nodup
  yes : ∀ i, i < N → ∀ c ∈ cl i, c.ca < 12 → ∃ i0, keyH n c.ca = rg R i0 ∧ keyH n c.cb = rg R (i0 + 1)
  no : ∀ i, i < N → ∀ c ∈ cl i, ¬ c.ca < 12 → ∀ i0, keyH n c.ca ≠ rg R i0
  all : ∀ i0, ∃ i, i < N ∧ ∃ c ∈ cl i, c.po = 1 ∧ keyH n c.ca = rg R i0
/-- The last one's call: told, or on its way round. -/
def RGood (R : List Nat) (calls : List Cl) (k : Nat) (l : Ph) : Prop :=
  (k < upC calls l ∧ l.ans[k]? = some (0, 1)) ∨ ∃ (kk i0 : Nat) (rest : List Cl) (ans : List (Int × Int)), l = .turn 1 (rg R (i0 + 1 + kk)) (1, [(rg R i0 : Int), (kk : Int), (rg R (i0 + 1 + kk) : Int)]) rest k ans ∧ kk + 1 < R.length
structure RI (N n : Nat) (R : List Nat) (cl : Nat → List Cl) (v : Vw) : Prop where
  cel : ∀ (i0 : Nat) (x : Int), v.K[rg R i0]? = some x → x = 0 ∨ x = (rg R (i0 + 1) : Int) + 1
  good : (∀ i0, Kn v.K (rg R i0)) → ∃ i k, i < N ∧ (repH cl v.L).last = some (i, k) ∧ k < (cl i).length ∧ RGood R (cl i) k (v.l i)

theorem on_last {n i : Nat} {E : Nat → Nat → Prop} {cl : Nat → List Cl} {rest : List Cl} {ii : Nat} {ans : List (Int × Int)} {z : Int} {X : List Stp} {l' : Ph} (hfw : Fw (mcH n) i false rest (ii + 1) ((0 : Int) == 4) (ans.set ii (0, z)) X l') (hrest : rest = (cl i).drop (ii + 1)) (hlt : ii < (cl i).length) (hal : ans.length = (cl i).length) (r : Rh) (K : List Int) :
    ((⟨i, -1, 10, ii, 0⟩ :: X).foldl (rsH cl) r).last = r.last ∧ ii < upC (cl i) l' ∧ l'.ans[ii]? = some (0, z) ∧ ∀ k, k < ii → l'.ans[k]? = ans[k]? := by
  have f := fw_H (E := E) (cl := cl) hfw (rsH cl r ⟨i, -1, 10, ii, 0⟩) K hrest (by omega) (by rw [List.length_set]; exact hal) rfl
  refine ⟨?_, by have := f.up; omega, ?_, fun k hk => ?_⟩
  · refine f.last.trans ?_
    rw [rsH_end]
  · rw [f.old ii (by omega), List.getElem?_set, if_pos rfl, if_pos (by omega)]
  · rw [f.old k (by omega), List.getElem?_set, if_neg (by omega)]

theorem ring_mv {N n : Nat} {R : List Nat} {E : Nat → Nat → Prop} {cl : Nat → List Cl} (hR : Rg N n R cl) {v v1 : Vw} (h : HI N n E cl v) (hr : RI N n R cl v) (m : Mv (mcH n) N v v1) : RI N n R cl v1 := by
  have h0 : 0 < n := Nat.lt_of_lt_of_le hR.pos hR.le
  cases m with
  | stuck hs hall hex e =>
    obtain ⟨i, hi, j, q, r, k, a, hl⟩ := hex
    have := h.seat i hi
    rw [hl] at this
    exact this.elim
  | wake i j q rest ii ans X l' hi hl _ _ _ _ _ _ _ _ =>
    have := h.seat i hi
    rw [hl] at this
    exact this.elim
  | free i j q rest ii ans X l' hi hl _ _ _ _ _ _ _ =>
    have := h.seat i hi
    rw [hl] at this
    exact this.elim
  | turn i op j q rest ii ans X l' hi hl ho e hK hst hchg hL =>
    have hs := h.seat i hi
    rw [hl] at hs
    obtain ⟨hrest, hcall, c, hc, hp, h5⟩ := hs
    have hcm : c ∈ cl i := List.mem_of_getElem? hc
    have hlt : ii < (cl i).length := (List.getElem?_eq_some_iff.1 hc).1
    have hal : ans.length = (cl i).length := by have := h.alen i hi; rw [hl] at this; exact this
    have hl1 : v1.l i = l' := by rw [e.l, upd_same]
    rw [h.stk] at ho
    -- the others' calls, and this thread's older ones
    have keep : ∀ {nx : Nx} {s : Stp}, On (mcH n) i false rest ii ans nx X l' → ((∃ z, nx = .ans 0 z) ∨ ∃ j' q', nx = .turn 1 j' q') → v1.L = v.L ++ s :: X →
        (repH cl v1.L).last = (rsH cl (repH cl v.L) s).last ∧ (∀ i' k, i' < N → RGood R (cl i') k (v.l i') → (i' = i → k ≠ ii) → RGood R (cl i') k (v1.l i')) := by
      intro nx s ho hnx hL
      have hstay : (∀ k, k < ii → k < upC (cl i) l' ∧ l'.ans[k]? = ans[k]?) → ∀ i' k, i' < N → RGood R (cl i') k (v.l i') → (i' = i → k ≠ ii) → RGood R (cl i') k (v1.l i') := fun hk i' k hi' hg hne => by
        by_cases hii : i' = i
        · subst hii
          rw [hl] at hg
          rw [hl1]
          rcases hg with ⟨g1, g2⟩ | ⟨kk, i0, rest', ans', g1, g2⟩
          · have g1 : k < ii := g1
            exact .inl ⟨(hk k g1).1, by rw [(hk k g1).2]; exact g2⟩
          · cases g1
            exact absurd rfl (hne rfl)
        · rw [e.l, upd_ne _ _ hii]; exact hg
      rcases hnx with ⟨z, rfl⟩ | ⟨j', q', rfl⟩
      · cases ho with
        | @ans _ _ X2 _ hfw =>
          obtain ⟨f1, f2, f3, f4⟩ := on_last (E := E) (cl := cl) hfw hrest hlt hal (rsH cl (repH cl v.L) s) v.K
          refine ⟨?_, hstay fun k hk => ⟨by omega, f4 k hk⟩⟩
          rw [hL, repH_app]
          exact f1
      · cases ho
        refine ⟨by rw [hL, repH_one], hstay fun k hk => ⟨hk, rfl⟩⟩
    rcases h5 with ⟨rfl, rfl, rfl, hcn⟩ | ⟨rfl, k, rfl, hj, hk, hcn, hrc, hkn⟩
    · -- it writes down
      have hb := keyH_lt h0 c.cb
      have ha := keyH_lt h0 c.ca
      rw [mcH_put hb] at ho hK hL
      have hK : v1.K = v.K.set (keyH n c.ca) ((keyH n c.cb : Int) + 1) := hK
      have ho : On (mcH n) i false rest ii ans (nxH n (keyH n c.ca) (keyH n c.cb) 0) X l' := ho
      obtain ⟨k1, k2⟩ := keep ho (nxH_cases n _ _ _ (fun nx => (∃ z, nx = .ans 0 z) ∨ ∃ j' q', nx = .turn 1 j' q') (fun _ _ => .inl ⟨_, rfl⟩) (fun _ _ => .inr ⟨_, _, rfl⟩) (fun _ => .inl ⟨_, rfl⟩)) hL
      rw [rsH_put, hcall, caOf_eq hc] at k1
      by_cases h12 : c.ca < 12
      · obtain ⟨i0, r1, r2⟩ := hR.yes i hi c hcm h12
        refine ⟨fun i1 x hx => ?_, fun _ => ⟨i, ii, hi, by rw [k1, if_pos h12], hlt, ?_⟩⟩
        · rw [hK, List.getElem?_set] at hx
          split at hx
          · rename_i e1
            split at hx
            · cases hx
              right
              rw [r2, rg_next hR.nd hR.pos (r1.symm.trans e1)]
            · cases hx
          · exact hr.cel i1 x hx
        · rw [hl1]
          revert ho
          refine nxH_cases n _ _ _ (fun nx => On (mcH n) i false rest ii ans nx X l' → RGood R (cl i) ii l') (fun _ h2 ho => ?_) (fun _ h2 ho => ?_) (fun h1 => by omega)
          · cases ho with
            | ans hfw =>
              obtain ⟨f1, f2, f3, f4⟩ := on_last (E := E) (cl := cl) hfw hrest hlt hal (repH cl v.L) v.K
              exact .inl ⟨f2, f3⟩
          · cases ho
            refine .inr ⟨0, i0, rest, ans, ?_, ?_⟩
            · rw [r1, r2]
            · rcases Nat.lt_or_ge (0 + 1) R.length with h3 | h3
              · exact h3
              · exfalso
                apply h2
                have := hR.pos
                have e1 : R.length = 1 := by omega
                rw [r1, r2]
                have := rg_turn R i0
                rw [e1] at this
                exact this
      · have hno := hR.no i hi c hcm h12
        have hcell : ∀ i1, v1.K[rg R i1]? = v.K[rg R i1]? := fun i1 => by rw [hK, List.getElem?_set, if_neg (hno i1)]
        refine ⟨fun i1 x hx => by rw [hcell] at hx; exact hr.cel i1 x hx, fun hfull => ?_⟩
        obtain ⟨i', k', g1, g2, g3, g4⟩ := hr.good (fun i1 => by obtain ⟨x, x1, x2⟩ := hfull i1; exact ⟨x, by rw [← hcell]; exact x1, x2⟩)
        refine ⟨i', k', g1, by rw [k1, if_neg h12]; exact g2, g3, k2 i' k' g1 g4 (fun ei ek => ?_)⟩
        subst ei
        subst ek
        rw [hl] at g4
        rcases g4 with ⟨g, _⟩ | ⟨_, _, _, _, g, _⟩
        · exact Nat.lt_irrefl _ g
        · cases g
    · -- it looks
      have hjs : j < v.K.length := by rw [h.kl]; exact hj
      obtain ⟨g1, g2⟩ := set_getD hjs
      generalize v.K.getD j 0 = x at *
      rw [mcH_look] at ho hK hL
      have hK : v1.K = v.K := hK.trans g1
      have ho : On (mcH n) i false rest ii ans (if x = 0 then .ans 0 0 else nxH n (keyH n c.ca) (x - 1).toNat (k + 1)) X l' := ho
      obtain ⟨k1, k2⟩ := keep ho (by
        split
        · exact .inl ⟨_, rfl⟩
        · exact nxH_cases n _ _ _ (fun nx => (∃ z, nx = .ans 0 z) ∨ ∃ j' q', nx = .turn 1 j' q') (fun _ _ => .inl ⟨_, rfl⟩) (fun _ _ => .inr ⟨_, _, rfl⟩) (fun _ => .inl ⟨_, rfl⟩)) hL
      rw [rsH_look] at k1
      refine ⟨by rw [hK]; exact hr.cel, fun hfull => ?_⟩
      rw [hK] at hfull
      obtain ⟨i', k', p1, p2, p3, p4⟩ := hr.good hfull
      refine ⟨i', k', p1, k1.trans p2, p3, ?_⟩
      by_cases hsame : i' = i ∧ k' = ii
      · obtain ⟨rfl, rfl⟩ := hsame
        rw [hl] at p4
        rw [hl1]
        rcases p4 with ⟨g, _⟩ | ⟨kk, i0, rest', ans', g, hkk⟩
        · exact absurd g (Nat.lt_irrefl _)
        · injection g with _ gj gq _ _ _
          injection gq with _ gq
          injection gq with q1 gq
          injection gq with q2 gq
          have q1 : keyH n c.ca = rg R i0 := by omega
          have q2 : k = kk := by omega
          subst q2
          rw [gj] at g2
          obtain ⟨y, y1, y2⟩ := hfull (i0 + 1 + k)
          rw [g2] at y1
          cases y1
          rcases hr.cel (i0 + 1 + k) _ g2 with hx | hx
          · exact absurd hx y2
          · rw [if_neg y2] at ho
            have e1 : (x - 1).toNat = rg R (i0 + 1 + (k + 1)) := by rw [hx]; show _ = rg R (i0 + 1 + k + 1); omega
            rw [e1] at ho
            have hle := hR.le
            revert ho
            refine nxH_cases n _ _ _ (fun nx => On (mcH n) i' false rest k' ans nx X l' → RGood R (cl i') k' l') (fun _ h2 ho => ?_) (fun _ h2 ho => ?_) (fun h1 => by omega)
            · cases ho with
              | ans hfw =>
                obtain ⟨f1, f2, f3, f4⟩ := on_last (E := E) (cl := cl) hfw hrest hlt hal (repH cl v.L) v.K
                exact .inl ⟨f2, f3⟩
            · cases ho
              refine .inr ⟨k + 1, i0, rest, ans, by rw [q1], ?_⟩
              rcases Nat.lt_or_ge (k + 1 + 1) R.length with h3 | h3
              · exact h3
              · exfalso
                apply h2
                rw [q1, show i0 + 1 + (k + 1) = i0 + R.length by omega, rg_turn]
      · exact k2 i' k' p1 p4 (fun ei ek => hsame ⟨ei, ek⟩)
theorem hi_K {mc : Mc} {k : Nat} {cs : List (List Cl)} {v v' : Vw} (h : Hi mc k cs v v') : v'.K = v.K := by
  induction h with
  | nil => rfl
  | cons _ e1 _ _ _ _ _ ih => exact ih.trans e1
theorem ri_zero {N n : Nat} {R : List Nat} {cl : Nat → List Cl} {v : Vw} (h : v.K = List.replicate n 0) : RI N n R cl v := by
  refine ⟨fun i0 x hx => ?_, fun hf => ?_⟩
  · rw [h, List.getElem?_replicate] at hx
    split at hx
    · cases hx; exact .inl rfl
    · cases hx
  · obtain ⟨x, h1, h2⟩ := hf 0
    rw [h, List.getElem?_replicate] at h1
    split at h1
    · cases h1; exact absurd rfl h2
    · cases h1
/-- At the end. -/
theorem ring_end {N n : Nat} {R : List Nat} {E : Nat → Nat → Prop} {cl : Nat → List Cl} (hR : Rg N n R cl) {v : Vw} (h : HI N n E cl v) (hr : RI N n R cl v) (hd : ∀ i, i < N → ∃ a, v.l i = .done a) : ∃ i k, i < N ∧ (repH cl v.L).last = some (i, k) ∧ k < (cl i).length ∧ (v.l i).ans[k]? = some (0, 1) := by
  obtain ⟨i, k, h1, h2, h3, h4⟩ := hr.good (fun i0 => by
    obtain ⟨i, hi, c, hc, hp, e⟩ := hR.all i0
    obtain ⟨k, hk⟩ := List.getElem?_of_mem hc
    obtain ⟨a, ha⟩ := hd i hi
    rw [← e]
    exact h.sto i hi k c (by rw [ha]; exact (List.getElem?_eq_some_iff.1 hk).1) hk hp)
  refine ⟨i, k, h1, h2, h3, ?_⟩
  obtain ⟨a, ha⟩ := hd i h1
  rw [ha] at h4 ⊢
  rcases h4 with ⟨_, h4⟩ | ⟨_, _, _, _, h4, _⟩
  · exact h4
  · cases h4
end Go.Proofs.Ytfjjoohflcchnaa.Gen
