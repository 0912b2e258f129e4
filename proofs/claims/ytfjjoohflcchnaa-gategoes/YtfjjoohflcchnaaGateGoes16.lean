/- GateGoes: for every schedule and all rows of numbers, the Play of scripts in which each Enter has a Leave of its own behind it, ahead of the next Shut, leaves nobody stuck and nobody in; no conditions. Part 16 of 37. (Joined, by program, of: GPure, GHome, GDrive1.) -/
import Derived.Test.YtfjjoohflcchnaaGateGoes09
import Derived.Test.YtfjjoohflcchnaaGateGoes13
import Derived.Test.YtfjjoohflcchnaaGateGoes15
set_option linter.unusedSimpArgs false
set_option linter.unusedVariables false
namespace Go.Proofs.Ytfjjoohflcchnaa.Gen
open Go Go.Lift Go.Conc Go.RowKit

/-- A call of a script. -/
structure Cl where
  po : Int
  ca : Int
  cb : Int
  cc : Int
/-- Where a call is: a place, and what it has in mind. -/
abbrev Q := Nat × List Int
/-- What comes next: an answer, a turn for an Op at cell j, an Await of cell j. -/
inductive Nx where
  | ans (e x : Int)
  | turn (op : Int) (j : Nat) (q : Q)
  | wait (j : Nat) (q : Q)
/-- A package's calls: 'turn q x': what it notes, what it writes, and what comes next where x stands; 'stuck q': its answer where its Await was in vain. -/
structure Mc where
  start : Cl → Nx
  turn : Q → Int → (Int × Int) × Int × Nx
  woke : Q → Nx
  stuck : Q → Int × Int
/-- Where a thread sits: at a turn of call ii, at an Await of it, or nowhere any more; 'rest': the calls behind it. -/
inductive Ph where
  | turn (op : Int) (j : Nat) (q : Q) (rest : List Cl) (ii : Nat) (ans : List (Int × Int))
  | wait (j : Nat) (q : Q) (rest : List Cl) (ii : Nat) (ans : List (Int × Int))
  | done (ans : List (Int × Int))
def Ph.ans : Ph → List (Int × Int)
  | .turn _ _ _ _ _ a => a
  | .wait _ _ _ _ a => a
  | .done a => a

/-- The state without the place of its trace. -/
def nv (S : TS) : TS := { S with tv := undef }
def thrI (S : TS) (i : Nat) : Thr := (S.thr[i]?).getD ⟨0, 0, 0, 0, 0, 0⟩
def cellAt (K : List (Nat × Int)) (j : Nat) : Nat × Int := (K[j]?).getD (0, 0)

/-- From the loop's head to the next seat. -/
def flow (i : Nat) (m : Mc) : List Cl → Nat → Bool → List (Int × Int) → TS → TS × Ph
  | [], _, _, ans, S => (ended S i (thrI S i), .done ans)
  | _ :: rest, ii, true, ans, S => flow i m rest (ii + 1) true (ans.set ii (4, 0)) S
  | c :: rest, ii, false, ans, S =>
    match m.start c with
    | .ans e x => flow i m rest (ii + 1) (e == 4) (ans.set ii (e, x)) (noted (noted S undef i 9 (-1) ii 0) undef i 10 (-1) ii e)
    | .turn op j q => (waiting (noted S undef i 9 (-1) ii 0) i (thrI S i) 1 op j, .turn op j q rest ii ans)
    | .wait j q =>
      if S.stk then flow i m rest (ii + 1) ((m.stuck q).1 == 4) (ans.set ii (m.stuck q)) (noted (noted S undef i 9 (-1) ii 0) undef i 10 (-1) ii (m.stuck q).1)
      else (waiting (noted S undef i 9 (-1) ii 0) i (thrI S i) 2 6 j, .wait j q rest ii ans)
/-- A call has its answer. -/
def back (i : Nat) (m : Mc) (rest : List Cl) (ii : Nat) (ans : List (Int × Int)) (a : Int × Int) (S : TS) (K : List (Nat × Int)) : TS × List (Nat × Int) × Ph :=
  ((flow i m rest (ii + 1) (a.1 == 4) (ans.set ii a) (noted S undef i 10 (-1) ii a.1)).1, K, (flow i m rest (ii + 1) (a.1 == 4) (ans.set ii a) (noted S undef i 10 (-1) ii a.1)).2)
/-- From the middle of a call to the next seat. -/
def on (i : Nat) (m : Mc) (rest : List Cl) (ii : Nat) (ans : List (Int × Int)) (S : TS) (K : List (Nat × Int)) : Nx → TS × List (Nat × Int) × Ph
  | .ans e x => back i m rest ii ans (e, x) S K
  | .turn op j q => (waiting S i (thrI S i) 1 op j, K, .turn op j q rest ii ans)
  | .wait j q => if S.stk then back i m rest ii ans (m.stuck q) S K else (waiting S i (thrI S i) 2 6 j, K, .wait j q rest ii ans)
/-- From a seat to the next one. -/
def resume (i : Nat) (m : Mc) : Ph → TS → List (Nat × Int) → TS × List (Nat × Int) × Ph
  | .turn _ j q rest ii ans, S, K => on i m rest ii ans (didS S undef i (thrI S i) (m.turn q (cellAt K j).2).1.1 (m.turn q (cellAt K j).2).1.2) (K.set j ((cellAt K j).1, (m.turn q (cellAt K j).2).2.1)) (m.turn q (cellAt K j).2).2.2
  | .wait j q rest ii ans, S, K => if S.stk then back i m rest ii ans (m.stuck q) S K else on i m rest ii ans (noted S undef i 6 j 0 0) K (m.woke q)
  | p, S, K => (S, K, p)

theorem flow_cons (i : Nat) (m : Mc) (c : Cl) (rest : List Cl) (ii : Nat) (ans : List (Int × Int)) (S : TS) (K : List (Nat × Int)) : flow i m (c :: rest) ii false ans S = ((on i m rest ii ans (noted S undef i 9 (-1) ii 0) K (m.start c)).1, (on i m rest ii ans (noted S undef i 9 (-1) ii 0) K (m.start c)).2.2) := by
  unfold flow
  cases h : m.start c with
  | ans e x => rfl
  | turn op j q => rfl
  | wait j q =>
    show (if S.stk then _ else _) = ((if S.stk then _ else _ : TS × List (Nat × Int) × Ph).1, (if S.stk then _ else _ : TS × List (Nat × Int) × Ph).2.2)
    split <;> rfl

theorem resume_turn (i : Nat) (m : Mc) (op : Int) (j : Nat) (q : Q) (rest : List Cl) (ii : Nat) (ans : List (Int × Int)) (S : TS) (K : List (Nat × Int)) : resume i m (.turn op j q rest ii ans) S K = on i m rest ii ans (didS S undef i (thrI S i) (m.turn q (cellAt K j).2).1.1 (m.turn q (cellAt K j).2).1.2) (K.set j ((cellAt K j).1, (m.turn q (cellAt K j).2).2.1)) (m.turn q (cellAt K j).2).2.2 := rfl
theorem resume_wait (i : Nat) (m : Mc) (j : Nat) (q : Q) (rest : List Cl) (ii : Nat) (ans : List (Int × Int)) (S : TS) (K : List (Nat × Int)) : resume i m (.wait j q rest ii ans) S K = if S.stk then back i m rest ii ans (m.stuck q) S K else on i m rest ii ans (noted S undef i 6 j 0 0) K (m.woke q) := rfl
theorem on_wait (i : Nat) (m : Mc) (j : Nat) (q : Q) (rest : List Cl) (ii : Nat) (ans : List (Int × Int)) (S : TS) (K : List (Nat × Int)) : on i m rest ii ans S K (.wait j q) = if S.stk then back i m rest ii ans (m.stuck q) S K else (waiting S i (thrI S i) 2 6 j, K, .wait j q rest ii ans) := rfl

section
variable {S : TS} {i : Nat} {m : Mc}
theorem thrI_of {t : Thr} (h : S.thr[i]? = some t) : thrI S i = t := by unfold thrI; rw [h]; rfl
theorem nv_did (tv : Value) (t : Thr) (b a : Int) : nv (didS S tv i t b a) = didS (nv S) undef i t b a := by
  show nv (if b ≠ a ∧ 0 ≤ t.ce ∧ t.ce < S.chg.length then _ else _) = if b ≠ a ∧ 0 ≤ t.ce ∧ t.ce < S.chg.length then _ else _
  split <;> rfl
/-- What a thread's going leaves as it is. -/
structure Sta (i : Nat) (S S' : TS) : Prop where
  wb : S'.wb = S.wb
  bk : S'.bk = S.bk
  base : S'.base = S.base
  us : S'.us = S.us
  la : S'.la = S.la
  sc : S'.sc = S.sc
  cv : S'.cv = S.cv
  ths : S'.ths = S.ths
  sched : S'.sched = S.sched
  stk : S'.stk = S.stk
  ran : S'.ran = S.ran
  n : S.n ≤ S'.n
  chg : S'.chg.length = S.chg.length
  len : S'.thr.length = S.thr.length
  oth : ∀ j, j ≠ i → S'.thr[j]? = S.thr[j]?
  own : ∀ t, S.thr[i]? = some t → ∃ t', S'.thr[i]? = some t' ∧ t'.tb = t.tb ∧ t'.gc = t.gc
theorem Sta.refl (i : Nat) (S : TS) : Sta i S S := ⟨rfl, rfl, rfl, rfl, rfl, rfl, rfl, rfl, rfl, rfl, rfl, Nat.le_refl _, rfl, rfl, fun _ _ => rfl, fun t h => ⟨t, h, rfl, rfl⟩⟩
theorem Sta.trans {S S' S'' : TS} (h : Sta i S S') (k : Sta i S' S'') : Sta i S S'' := by
  refine ⟨k.wb.trans h.wb, k.bk.trans h.bk, k.base.trans h.base, k.us.trans h.us, k.la.trans h.la, k.sc.trans h.sc, k.cv.trans h.cv, k.ths.trans h.ths, k.sched.trans h.sched, k.stk.trans h.stk, k.ran.trans h.ran, Nat.le_trans h.n k.n, k.chg.trans h.chg, k.len.trans h.len, fun j hj => (k.oth j hj).trans (h.oth j hj), fun t ht => ?_⟩
  obtain ⟨t1, h1, h2, h3⟩ := h.own t ht
  obtain ⟨t2, k1, k2, k3⟩ := k.own t1 h1
  exact ⟨t2, k1, k2.trans h2, k3.trans h3⟩
theorem sta_noted (S : TS) (tv : Value) (op ce ol ne : Int) : Sta i S (noted S tv i op ce ol ne) := ⟨rfl, rfl, rfl, rfl, rfl, rfl, rfl, rfl, rfl, rfl, rfl, Nat.le_succ _, rfl, rfl, fun _ _ => rfl, fun t h => ⟨t, h, rfl, rfl⟩⟩
theorem sta_set (S : TS) (t' : Thr) (h1 : ∀ t, S.thr[i]? = some t → t'.tb = t.tb ∧ t'.gc = t.gc) : Sta i S { S with thr := S.thr.set i t' } := by
  refine ⟨rfl, rfl, rfl, rfl, rfl, rfl, rfl, rfl, rfl, rfl, rfl, Nat.le_refl _, rfl, by simp, fun j hj => ?_, fun t h => ⟨t', ?_, h1 t h⟩⟩
  · show (S.thr.set i t')[j]? = _
    rw [List.getElem?_set, if_neg (fun e => hj e.symm)]
  · have hi : i < S.thr.length := (List.getElem?_eq_some_iff.1 h).1
    show (S.thr.set i t')[i]? = _
    rw [List.getElem?_set, if_pos rfl, if_pos hi]
theorem sta_wait (S : TS) (s o c : Int) : Sta i S (waiting S i (thrI S i) s o c) := sta_set S _ (fun t h => by rw [thrI_of h]; exact ⟨rfl, rfl⟩)
theorem sta_ended (S : TS) : Sta i S (ended S i (thrI S i)) := sta_set S _ (fun t h => by rw [thrI_of h]; exact ⟨rfl, rfl⟩)
theorem sta_did (S : TS) (tv : Value) (t : Thr) (b a : Int) : Sta i S (didS S tv i t b a) := by
  unfold didS
  split
  · exact ⟨rfl, rfl, rfl, rfl, rfl, rfl, rfl, rfl, rfl, rfl, rfl, Nat.le_succ _, by simp [counted, noted], rfl, fun _ _ => rfl, fun t h => ⟨t, h, rfl, rfl⟩⟩
  · exact sta_noted _ _ _ _ _ _
theorem flow_sta (i : Nat) (m : Mc) : ∀ (rest : List Cl) (ii : Nat) (sk : Bool) (ans : List (Int × Int)) (S : TS), Sta i S (flow i m rest ii sk ans S).1
  | [], ii, sk, ans, S => by cases sk <;> exact sta_ended S
  | c :: rest, ii, true, ans, S => flow_sta i m rest (ii + 1) true _ S
  | c :: rest, ii, false, ans, S => by
    unfold flow
    split
    · exact ((sta_noted S _ _ _ _ _).trans (sta_noted _ _ _ _ _ _)).trans (flow_sta i m rest (ii + 1) _ _ _)
    · exact (sta_noted S _ _ _ _ _).trans (sta_wait (noted S undef i 9 (-1) ii 0) _ _ _)
    · split
      · exact ((sta_noted S _ _ _ _ _).trans (sta_noted _ _ _ _ _ _)).trans (flow_sta i m rest (ii + 1) _ _ _)
      · exact (sta_noted S _ _ _ _ _).trans (sta_wait (noted S undef i 9 (-1) ii 0) _ _ _)
theorem back_sta (rest : List Cl) (ii : Nat) (ans : List (Int × Int)) (a : Int × Int) (K : List (Nat × Int)) (S : TS) : Sta i S (back i m rest ii ans a S K).1 :=
  (sta_noted S _ _ _ _ _).trans (flow_sta i m rest (ii + 1) _ _ _)
theorem on_sta (rest : List Cl) (ii : Nat) (ans : List (Int × Int)) (K : List (Nat × Int)) (S : TS) (x : Nx) : Sta i S (on i m rest ii ans S K x).1 := by
  cases x with
  | ans e x => exact back_sta _ _ _ _ _ _
  | turn op j q => exact sta_wait S _ _ _
  | wait j q =>
    rw [on_wait]
    split
    · exact back_sta _ _ _ _ _ _
    · exact sta_wait S _ _ _
theorem resume_sta (i : Nat) (m : Mc) (l : Ph) (S : TS) (K : List (Nat × Int)) : Sta i S (resume i m l S K).1 := by
  match l with
  | .done ans => exact Sta.refl _ _
  | .turn op j q rest ii ans => exact (sta_did S _ _ _ _).trans (on_sta _ _ _ _ _ _)
  | .wait j q rest ii ans =>
    rw [resume_wait]
    split
    · exact back_sta _ _ _ _ _ _
    · exact (sta_noted S _ _ _ _ _).trans (on_sta _ _ _ _ _ _)
end

/-- A script's answers as a row. -/
def arow (ans : List (Int × Int)) : List Value := ans.flatMap fun a => [I a.1, I a.2]
theorem arow_len (ans : List (Int × Int)) : (arow ans).length = ans.length * 2 := by
  induction ans with
  | nil => rfl
  | cons a l ih => simp only [arow, List.flatMap_cons, List.length_append, List.length_cons, List.length_nil] at ih ⊢; omega
theorem arow_get : ∀ (ans : List (Int × Int)) (k : Nat) (a : Int × Int), ans[k]? = some a → (arow ans)[k * 2]? = some (I a.1) ∧ (arow ans)[k * 2 + 1]? = some (I a.2)
  | b :: l, 0, a, h => by obtain rfl : b = a := by simpa using h
                          exact ⟨rfl, rfl⟩
  | b :: l, k + 1, a, h => by
    have := arow_get l k a (by simpa using h)
    have e : arow (b :: l) = I b.1 :: I b.2 :: arow l := rfl
    rw [e, show (k + 1) * 2 = (k * 2 + 1) + 1 by omega, show (k * 2 + 1) + 1 + 1 = (k * 2 + 1 + 1) + 1 by omega]
    simpa using this
theorem arow_set : ∀ (ans : List (Int × Int)) (k : Nat) (e x : Int), k < ans.length → arow (ans.set k (e, x)) = ((arow ans).set (k * 2) (I e)).set (k * 2 + 1) (I x)
  | b :: l, 0, e, x, _ => rfl
  | b :: l, k + 1, e, x, h => by
    have := arow_set l k e x (by simpa using h)
    have e1 : ∀ (b : Int × Int) (l : List (Int × Int)), arow (b :: l) = I b.1 :: I b.2 :: arow l := fun _ _ => rfl
    rw [List.set_cons_succ, e1, this, e1, show (k + 1) * 2 = (k * 2 + 1) + 1 by omega, show (k * 2 + 1) + 1 + 1 = (k * 2 + 1 + 1) + 1 by omega]
    simp only [List.set_cons_succ]
end Go.Proofs.Ytfjjoohflcchnaa.Gen

namespace Go.Proofs.Ytfjjoohflcchnaa.Gen
open Go Go.Lift Go.Conc Go.RowKit
variable {mc : Mc}

/-- The place at which a row begins in its block. -/
def roOf : Option Addr → Nat
  | some a => a.off
  | none => 0
/-- What stays of a thread: its goroutine h, its number i, its row, channel and box, its script, its row of answers, the function that carries its calls out, what of the Play's memory it reads (it stays as it is), the world's cells, the package's calls. -/
structure Fix (mc : Mc) where
  h : Nat
  i : Nat
  tb : Nat
  gc : Nat
  bb : Nat
  calls : List Cl
  pc : Option Addr
  rb : Nat
  cap : Nat
  asl : Value
  ab : Nat
  cap2 : Nat
  aty : TypeId
  fid : FuncId
  caps : Array Value
  pk : Nat → Option Obj
  kb : List Nat
namespace Fix
def csl (X : Fix mc) : Value := .slice X.pc X.calls.length X.cap
abbrev ro (X : Fix mc) : Nat := roOf X.pc
abbrev F (X : Fix mc) : Value := .func (.func X.fid) #[] X.caps
/-- What it reads of its own. -/
abbrev Pr (X : Fix mc) (b : Nat) : Prop := b = X.bb ∨ b = X.rb ∨ b = X.ab ∨ X.pk b ≠ none
structure Ok (X : Fix mc) : Prop where
  h : 0 < X.h
  n : (X.calls.length : Int) < 9223372036854775808
  ca : ∀ c ∈ X.calls, -9223372036854775808 ≤ c.ca ∧ c.ca < 9223372036854775808
  pc : 0 < X.calls.length → X.pc = some ⟨X.rb, X.ro, none⟩
  asl : 0 < X.calls.length → X.asl = .slice (some ⟨X.ab, 0, none⟩) X.calls.length X.cap2
  e0 : X.calls.length = 0 → X.rb = X.bb ∧ X.ab = X.bb
  ne : 0 < X.calls.length → X.ab ≠ X.bb ∧ X.ab ≠ X.rb ∧ X.pk X.ab = none
  pk : ∀ b o, X.pk b = some o → ∃ c e f, o = .cells c e f
end Fix

/-- What a thread has in mind lies there. -/
def Has (M : Nat → Option Obj) (v : World) : Prop := ∀ b o, M b = some o → v.heap[b]? = some o
structure PM (X : Fix mc) (ans : List (Int × Int)) (v : World) : Prop where
  box : v.cell? ⟨X.bb, 0, none⟩ = some (Pt X.tb 0)
  call : ∀ (k : Nat) (c : Cl), X.calls[k]? = some c → v.cell? ⟨X.rb, X.ro + k * 4, none⟩ = some (I c.po) ∧ v.cell? ⟨X.rb, X.ro + k * 4 + 1, none⟩ = some (I c.ca) ∧ v.cell? ⟨X.rb, X.ro + k * 4 + 2, none⟩ = some (I c.cb) ∧ v.cell? ⟨X.rb, X.ro + k * 4 + 3, none⟩ = some (I c.cc)
  row : 0 < X.calls.length → v.heap[X.ab]? = some (.cells (arow ans).toArray X.aty (0, 0))
  len : ans.length = X.calls.length
  pk : Has X.pk v
theorem PM.stay {X : Fix mc} {ans : List (Int × Int)} {v v' : World} (h : PM X ans v) (hs : ∀ b, X.Pr b → v'.heap[b]? = v.heap[b]?) : PM X ans v' := by
  have hc : ∀ (a : Addr) (x : Value), X.Pr a.block → v.cell? a = some x → v'.cell? a = some x := fun a x hb ha => by rw [World.cell?_of_block (hs a.block hb)]; exact ha
  refine ⟨hc _ _ (.inl rfl) h.box, fun k c hk => ?_, fun h0 => by rw [hs X.ab (.inr (.inr (.inl rfl)))]; exact h.row h0, h.len, fun b o hb => by rw [hs b (.inr (.inr (.inr (by rw [hb]; simp))))]; exact h.pk b o hb⟩
  have := h.call k c hk
  exact ⟨hc _ _ (.inr (.inl rfl)) this.1, hc _ _ (.inr (.inl rfl)) this.2.1, hc _ _ (.inr (.inl rfl)) this.2.2.1, hc _ _ (.inr (.inl rfl)) this.2.2.2⟩

/-- What it has in mind tells it all that it reads. -/
structure Sees (X : Fix mc) (E : Nat → Prop) (M : Nat → Option Obj) (ans : List (Int × Int)) : Prop where
  ex : ∀ b, E b → M b ≠ none
  dom : ∀ b, M b ≠ none → X.Pr b ∨ E b
  apart : ∀ b, E b → ¬ X.Pr b
  pm : ∀ v, Has M v → PM X ans v
  pr : ∀ b, X.Pr b → M b ≠ none
  row : ∀ b o, M b = some o → ∃ c e f, o = .cells c e f
/-- The world where it gives the turn back. -/
def Gv (X : Fix mc) (z : Nat → Option Nat) (Ch : Nat → Prop) (S : TS) (K : List (Nat × Int)) (v : World) (E : Nat → Prop) (σ : TS) (κ : List (Nat × Int)) (M' : Nat → Option Obj) (w' : World) : Prop :=
  ∃ v' S', Rel z v' w' ∧ NoRow Ch v' ∧ nv S' = σ ∧ EvoP (fun b => b = X.ab ∨ E b) z S K v S' κ v' ∧ Has M' v' ∧ ∀ b, M' b ≠ none → ¬ Own S' κ b
noncomputable def seatOf (X : Fix mc) (Hm : Ph → (Nat → Prop) → (Nat → Option Obj) → Goroutine → Prop) : Ph → (Nat → Prop) → (Nat → Option Obj) → Option Seat
  | .done _, _, _ => none
  | l, E, M => some (seatT X.gc (Hm l E M))
def Gives (X : Fix mc) (Hm : Ph → (Nat → Prop) → (Nat → Option Obj) → Goroutine → Prop) (z : Nat → Option Nat) (cont : Addr → Value) (Ch : Nat → Prop) (S : TS) (K : List (Nat × Int)) (v : World) (E : Nat → Prop) (σ : TS) (κ : List (Nat × Int)) (l' : Ph) (E' : Nat → Prop) (M' : Nat → Option Obj) (g' : Goroutine) (w' : World) : Prop :=
  Sees X E' M' l'.ans ∧ (∀ b, E' b → E b ∨ v.heap.size ≤ b) ∧ Lift.AtGive Try.prog (KC (ScZ z) cont) (StillC (ScZ z)) X.h S.bk (.agg #[]) (seatOf X Hm l' E' M') (Gv X z Ch S K v E σ κ M') g' w'
def Fits (X : Fix mc) : Ph → Thr → Prop
  | .turn op j _ _ _ _, t => t.op = op ∧ t.ce = j
  | _, _ => True
/-- Served, it goes on; this holds n times. -/
def Home (X : Fix mc) : Nat → Ph → (Nat → Prop) → (Nat → Option Obj) → Goroutine → Prop
  | 0, _, _, _, _ => True
  | n + 1, l, E, M, g => ∀ (z : Nat → Option Nat) (Ch : Nat → Prop) (Stop : Goroutine → World → Prop) (cont : Addr → Value) (y : Value) (w v : World) (S : TS) (K : List (Nat × Int)) (t : Thr), Rel z v w → NoRow Ch v → Mem z S K v → S.thr[X.i]? = some t → t.tb = X.tb → t.gc = X.gc → Fits X l t → K.map (·.1) = X.kb → z X.tb = some 2 → cont ⟨X.tb, 2, none⟩ = .chan (some X.gc) →
      Has M v → (∀ b, M b ≠ none → ¬ Own S K b) → (resume X.i mc l (nv S) K).1.n * 40 ≤ 140737488355328 →
      (∀ g' w' E' M', Gives X (Home X n) z cont Ch S K v E (resume X.i mc l (nv S) K).1 (resume X.i mc l (nv S) K).2.1 (resume X.i mc l (nv S) K).2.2 E' M' g' w' → Stop g' w') →
      GoesI Try.prog (X.h == 0) (DT (ScZ z) Ch) Stop (Go.Conc.served g y) w

theorem atGive_mono {K : World → Prop} {Still : Loc → Prop} {h c : Nat} {v : Value} {o : Option Seat} {F F' : World → Prop} {a : Goroutine} {w : World} (hF : F w → F' w) (hg : Lift.AtGive Try.prog K Still h c v o F a w) : Lift.AtGive Try.prog K Still h c v o F' a w :=
  ⟨hg.1, hF hg.2.1, hg.2.2⟩

section
variable {Pr Pr' : Nat → Prop} {z : Nat → Option Nat} {S S' S'' : TS} {K K' K'' : List (Nat × Int)} {v v' v'' : World}
/-- Stretches add up, what is new counting as one's own. -/
theorem _root_.Go.Proofs.Ytfjjoohflcchnaa.EvoP.join (h : EvoP Pr z S K v S' K' v') (k : EvoP Pr' z S' K' v' S'' K'' v'') (hp : ∀ b, Pr' b → Pr b ∨ v.heap.size ≤ b) : EvoP Pr z S K v S'' K'' v'' := by
  refine ⟨k.mem, k.blks.trans h.blks, ⟨k.fr.os.trans h.fr.os, k.fr.output.trans h.fr.output, Nat.le_trans h.fr.size k.fr.size, fun x hx hs => ?_⟩, fun b hb => ?_⟩
  · rw [k.fr.block x (Nat.lt_of_lt_of_le hx h.fr.size) (fun hi => ?_), h.fr.block x hx hs]
    rcases hi with hi | hi
    · exact (h.new x hi).elim (fun h => hs (.inl h)) (fun hle => by omega)
    · exact (hp x hi).elim (fun h => hs (.inr h)) (fun hle => by omega)
  · rcases k.new b hb with h1 | h1
    · exact h.new b h1
    · exact .inr (Nat.le_trans h.fr.size h1)
theorem _root_.Go.Proofs.Ytfjjoohflcchnaa.EvoP.grows (h : EvoP Pr z S K v S' K' v') {u : World} (g : Grows v' u) (k : EvoP Pr' z S' K' u S'' K'' v'') (hp : ∀ b, Pr' b → Pr b ∨ v.heap.size ≤ b) : EvoP Pr z S K v S'' K'' v'' := by
  refine ⟨k.mem, k.blks.trans h.blks, ⟨(k.fr.os.trans g.os).trans h.fr.os, (k.fr.output.trans g.output).trans h.fr.output, Nat.le_trans h.fr.size (Nat.le_trans g.size k.fr.size), fun x hx hs => ?_⟩, fun b hb => ?_⟩
  · have hx' := Nat.lt_of_lt_of_le hx h.fr.size
    rw [k.fr.block x (Nat.lt_of_lt_of_le hx' g.size) (fun hi => ?_), g.old x hx', h.fr.block x hx hs]
    rcases hi with hi | hi
    · exact (h.new x hi).elim (fun h => hs (.inl h)) (fun hle => by omega)
    · exact (hp x hi).elim (fun h => hs (.inr h)) (fun hle => by omega)
  · rcases k.new b hb with h1 | h1
    · exact h.new b h1
    · exact .inr (Nat.le_trans h.fr.size (Nat.le_trans g.size h1))
theorem _root_.Go.Proofs.Ytfjjoohflcchnaa.EvoP.keeps (h : EvoP Pr z S K v S' K' v') {b : Nat} (hb : b < v.heap.size) (ho : ¬ Own S K b) (hp : ¬ Pr b) : v'.heap[b]? = v.heap[b]? ∧ ¬ Own S' K' b :=
  ⟨h.fr.block b hb (fun hi => hi.elim ho hp), fun hi => (h.new b hi).elim ho (fun hle => by omega)⟩
theorem _root_.Go.Proofs.Ytfjjoohflcchnaa.Grows.trans' {a b c : World} (h : Grows a b) (k : Grows b c) : Grows a c := ⟨Nat.le_trans h.size k.size, fun x hx => by rw [k.old x (Nat.lt_of_lt_of_le hx h.size), h.old x hx], k.os.trans h.os, k.output.trans h.output⟩
theorem Gives.join {X : Fix mc} {Hm : Ph → (Nat → Prop) → (Nat → Option Obj) → Goroutine → Prop} {cont : Addr → Value} {Ch : Nat → Prop} {E E1 E' : Nat → Prop} {M' : Nat → Option Obj} {σ : TS} {κ : List (Nat × Int)} {l' : Ph} {g' : Goroutine} {w' : World}
    (h : EvoP (fun b => b = X.ab ∨ E b) z S K v S' K' v') (hbk : S'.bk = S.bk) (he : ∀ b, E1 b → E b ∨ v.heap.size ≤ b) (k : Gives X Hm z cont Ch S' K' v' E1 σ κ l' E' M' g' w') : Gives X Hm z cont Ch S K v E σ κ l' E' M' g' w' := by
  obtain ⟨k1, k2, k3⟩ := k
  rw [hbk] at k3
  refine ⟨k1, fun b hb => ?_, atGive_mono (fun hF => ?_) k3⟩
  · rcases k2 b hb with h1 | h1
    · exact he b h1
    · exact .inr (Nat.le_trans h.fr.size h1)
  · obtain ⟨v2, S2, q1, q2, q3, q4, q5⟩ := hF
    refine ⟨v2, S2, q1, q2, q3, h.join q4 (fun b hb => ?_), q5⟩
    rcases hb with rfl | hb
    · exact .inl (.inl rfl)
    · exact (he b hb).imp .inr id
end

/-- What a world holds of what it reads. -/
def mind (X : Fix mc) (v : World) (b : Nat) : Option Obj := if X.Pr b then v.heap[b]? else none
/-- .. and what a call that is under way has for its own. -/
def mindO (X : Fix mc) (v : World) (Mo : Nat → Option Obj) (b : Nat) : Option Obj := if Mo b ≠ none then Mo b else mind X v b

/-- A script's last word: behind its last call the thread ends. -/
def CarryEnds (X : Fix mc) (cs : List Frame) : Prop :=
  ∀ (z : Nat → Option Nat) (Ch : Nat → Prop) (Stop : Goroutine → World → Prop) (cont : Addr → Value) (w v : World) (S : TS) (K : List (Nat × Int)) (t : Thr) (sk : Bool) (u : Nat → Value), Rel z v w → NoRow Ch v → Mem z S K v → S.thr[X.i]? = some t → t.tb = X.tb → v.cell? ⟨X.bb, 0, none⟩ = some (Pt X.tb 0) → ¬ Own S K X.bb →
    (∀ g w', GiveE z cont X.h S.bk (Then z Ch S K v (ended S X.i t) K) g w' → Stop g w') →
    GoesI Try.prog (X.h == 0) (DT (ScZ z) Ch) Stop (G (cFr X.tb X.csl X.F X.asl X.calls.length X.calls.length sk u) cs) w
/-- A call has its answer: it is noted and written down. -/
def Answers (X : Fix mc) (cs : List Frame) (ii : Nat) (ans : List (Int × Int)) (cu : Value → Goroutine) : Prop :=
  ∀ (z : Nat → Option Nat) (Ch : Nat → Prop) (Stop : Goroutine → World → Prop) (w v : World) (S : TS) (K : List (Nat × Int)) (t : Thr) (e x : Int), Rel z v w → NoRow Ch v → Mem z S K v → S.thr[X.i]? = some t → t.tb = X.tb → (S.n + 1) * 40 ≤ 140737488355328 → PM X ans v → (∀ b, X.Pr b → ¬ Own S K b) →
    (∀ v' w' tv u', Rel z v' w' → NoRow Ch v' → EvoP (fun b => b = X.ab) z S K v (noted S tv X.i 10 (-1) ii e) K v' → PM X (ans.set ii (e, x)) v' → GoesI Try.prog (X.h == 0) (DT (ScZ z) Ch) Stop (G (cFr X.tb X.csl X.F X.asl X.calls.length (ii + 1) (e == 4) u') cs) w') →
    GoesI Try.prog (X.h == 0) (DT (ScZ z) Ch) Stop (cu (.agg #[I e, I x])) w

section
variable {X : Fix mc} {ans : List (Int × Int)} {v v' : World}
theorem row_of_cell {a : Addr} {x : Value} (h : v.cell? a = some x) : ∃ c e f, v.heap[a.block]? = some (.cells c e f) := by
  unfold World.cell? at h
  cases hh : v.heap[a.block]? with
  | none => rw [hh] at h; cases h
  | some o =>
    rw [hh] at h
    cases o with
    | cells c e f => exact ⟨c, e, f, rfl⟩
    | _ => cases h
theorem PM.isrow (h : PM X ans v) (ok : X.Ok) {b : Nat} (hb : X.Pr b) : ∃ c e f, v.heap[b]? = some (.cells c e f) := by
  have hbb := row_of_cell h.box
  rcases hb with rfl | rfl | rfl | hb
  · exact hbb
  · by_cases hc : X.calls.length = 0
    · rw [(ok.e0 hc).1]; exact hbb
    · have h0 : 0 < X.calls.length := by omega
      exact row_of_cell (h.call 0 (X.calls[0]) (by simp [h0])).1
  · by_cases hc : X.calls.length = 0
    · rw [(ok.e0 hc).2]; exact hbb
    · exact ⟨_, _, _, h.row (by omega)⟩
  · obtain ⟨o, ho⟩ := Option.ne_none_iff_exists'.1 hb
    obtain ⟨c, e, f, rfl⟩ := ok.pk b o ho
    exact ⟨c, e, f, h.pk b _ ho⟩
theorem PM.lt (h : PM X ans v) (ok : X.Ok) {b : Nat} (hb : X.Pr b) : b < v.heap.size := by
  obtain ⟨c, e, f, hh⟩ := h.isrow ok hb
  exact (Array.getElem?_eq_some_iff.1 hh).1
theorem mind_row (h : PM X ans v) (ok : X.Ok) {b : Nat} {o : Obj} (hb : mind X v b = some o) : ∃ c e f, o = .cells c e f := by
  unfold mind at hb
  split at hb
  · rename_i hp
    obtain ⟨c, e, f, hh⟩ := h.isrow ok hp
    rw [hh] at hb
    cases hb
    exact ⟨c, e, f, rfl⟩
  · cases hb
theorem PM.set (h : PM X ans v) {ii : Nat} (hi : ii < X.calls.length) (e x : Int) (hab : v'.heap[X.ab]? = ((v.setCell ⟨X.ab, ii * 2, none⟩ (I e)).setCell ⟨X.ab, ii * 2 + 1, none⟩ (I x)).heap[X.ab]?) (hs : ∀ b, X.Pr b → b ≠ X.ab → v'.heap[b]? = v.heap[b]?) (hne : X.ab ≠ X.bb ∧ X.ab ≠ X.rb ∧ X.pk X.ab = none) : PM X (ans.set ii (e, x)) v' := by
  have h0 : 0 < X.calls.length := by omega
  have hc : ∀ (a : Addr) (y : Value), X.Pr a.block → a.block ≠ X.ab → v.cell? a = some y → v'.cell? a = some y := fun a y hb hn ha => by rw [World.cell?_of_block (hs a.block hb hn)]; exact ha
  refine ⟨hc _ _ (.inl rfl) (Ne.symm hne.1) h.box, fun k c hk => ?_, fun _ => ?_, by simpa using h.len, fun b o hb => by rw [hs b (.inr (.inr (.inr (by rw [hb]; simp)))) (fun e => by rw [e, hne.2.2] at hb; cases hb)]; exact h.pk b o hb⟩
  · have := h.call k c hk
    exact ⟨hc _ _ (.inr (.inl rfl)) (Ne.symm hne.2.1) this.1, hc _ _ (.inr (.inl rfl)) (Ne.symm hne.2.1) this.2.1, hc _ _ (.inr (.inl rfl)) (Ne.symm hne.2.1) this.2.2.1, hc _ _ (.inr (.inl rfl)) (Ne.symm hne.2.1) this.2.2.2⟩
  · rw [hab, heap_setCell_same (heap_setCell_same (h.row h0) (I e)) (I x), arow_set _ _ _ _ (by rw [h.len]; exact hi)]
    simp
theorem PM.cells (h : PM X ans v) {ii : Nat} (hi : ii < X.calls.length) : ∃ y0 y1, v.cell? ⟨X.ab, ii * 2, none⟩ = some (I y0) ∧ v.cell? ⟨X.ab, ii * 2 + 1, none⟩ = some (I y1) ∧ v.frozen? ⟨X.ab, ii * 2, none⟩ = false ∧ v.frozen? ⟨X.ab, ii * 2 + 1, none⟩ = false := by
  have h0 := h.row (by omega)
  have hl : ii < ans.length := by rw [h.len]; exact hi
  have := arow_get ans ii ans[ii] (by simp [hl])
  refine ⟨ans[ii].1, ans[ii].2, ?_, ?_, ?_, ?_⟩
  · simp [World.cell?, h0, this.1]
  · simp [World.cell?, h0, this.2]
  · simp [World.frozen?, h0]
  · simp [World.frozen?, h0]
theorem has_mind (hl : ∀ b, X.Pr b → b < v.heap.size) {M : Nat → Option Obj} (hM : ∀ b o, mind X v b = some o → M b = some o) (h : Has M v') : ∀ b, X.Pr b → v'.heap[b]? = v.heap[b]? := fun b hb => by
  have e : v.heap[b]? = some v.heap[b]! := by simp [hl b hb]
  rw [e]
  exact h b _ (hM b _ (by unfold mind; rw [if_pos hb, e]))
theorem sees_mind (h : PM X ans v) (ok : X.Ok) : Sees X (fun _ => False) (mind X v) ans := by
  refine ⟨fun _ h => h.elim, fun b hb => ?_, fun _ h => h.elim, fun v' hM => h.stay (has_mind (fun b hb => h.lt ok hb) (fun _ _ h => h) hM), fun b hb => ?_, fun b o hb => mind_row h ok hb⟩
  · unfold mind at hb
    split at hb
    · exact .inl ‹_›
    · exact absurd rfl hb
  · unfold mind
    rw [if_pos hb]
    simp [h.lt ok hb]
theorem sees_mindO (h : PM X ans v) (ok : X.Ok) {Mo : Nat → Option Obj} (h1 : ∀ b, Mo b ≠ none → ¬ X.Pr b) (h2 : ∀ b o, Mo b = some o → ∃ c e f, o = .cells c e f) : Sees X (fun b => Mo b ≠ none) (mindO X v Mo) ans := by
  refine ⟨fun b hb => ?_, fun b hb => ?_, fun b hb hp => h1 b hb hp, fun v' hM => h.stay (has_mind (fun b hb => h.lt ok hb) (fun b o hb => ?_) hM), fun b hb => ?_, fun b o hb => ?_⟩
  · unfold mindO; rw [if_pos hb]; exact hb
  · unfold mindO at hb
    split at hb
    · exact .inr ‹_›
    · unfold mind at hb
      split at hb
      · exact .inl ‹_›
      · exact absurd rfl hb
  · unfold mindO
    have hpr : X.Pr b := by
      unfold mind at hb
      split at hb
      · assumption
      · cases hb
    rw [if_neg (fun e => h1 b e hpr)]
    exact hb
  · unfold mindO mind
    rw [if_neg (fun e => h1 b e hb), if_pos hb]
    simp [h.lt ok hb]
  · unfold mindO at hb
    split at hb
    · exact h2 b o hb
    · exact mind_row h ok hb
end
end Go.Proofs.Ytfjjoohflcchnaa.Gen

namespace Go.Proofs.Ytfjjoohflcchnaa.Gen
open Go Go.Lift Go.Conc Go.RowKit
open Go.ConcN (upd upd_same upd_ne)
variable {mc : Mc}

/-- A thread's row tells where it sits. -/
def FitsN : Ph → Thr → Prop
  | .turn op j _ _ _ _, t => t.op = op ∧ t.ce = j
  | .wait _ _ _ _ _, _ => True
  | .done _, t => t.st = 3
theorem FitsN.fits {X : Fix mc} {l : Ph} {t : Thr} (h : FitsN l t) : Fits X l t := by
  match l, h with
  | .turn _ _ _ _ _ _, h => exact h
  | .wait _ _ _ _ _, _ => trivial
  | .done _, _ => trivial
/-- .. and how it waits. -/
def StN : Ph → Thr → Prop
  | .turn _ _ _ _ _ _, t => t.st = 1
  | .wait _ _ _ _ _, t => t.st = 2
  | .done _, t => t.st = 3
theorem set_get {S : TS} {i : Nat} {t t' : Thr} (ht : S.thr[i]? = some t) : (S.thr.set i t')[i]? = some t' := by
  have hi : i < S.thr.length := (List.getElem?_eq_some_iff.1 ht).1
  rw [List.getElem?_set, if_pos rfl, if_pos hi]
theorem did_thr {S : TS} {i : Nat} {tv : Value} {t t0 : Thr} {b a : Int} (ht : S.thr[i]? = some t0) : (didS S tv i t b a).thr[i]? = some t0 := by
  unfold didS
  split <;> exact ht
theorem flow_fs (i : Nat) (m : Mc) : ∀ (rest : List Cl) (ii : Nat) (sk : Bool) (ans : List (Int × Int)) (S : TS) (t : Thr), S.thr[i]? = some t → ∃ t', (flow i m rest ii sk ans S).1.thr[i]? = some t' ∧ FitsN (flow i m rest ii sk ans S).2 t' ∧ StN (flow i m rest ii sk ans S).2 t'
  | [], ii, sk, ans, S, t, ht => ⟨{ thrI S i with st := 3 }, set_get ht, rfl, rfl⟩
  | c :: rest, ii, true, ans, S, t, ht => flow_fs i m rest (ii + 1) true _ S t ht
  | c :: rest, ii, false, ans, S, t, ht => by
    unfold flow
    split
    · exact flow_fs i m rest (ii + 1) _ _ _ t ht
    · exact ⟨_, set_get (S := noted S undef i 9 (-1) ii 0) ht, ⟨rfl, rfl⟩, rfl⟩
    · split
      · exact flow_fs i m rest (ii + 1) _ _ _ t ht
      · exact ⟨_, set_get (S := noted S undef i 9 (-1) ii 0) ht, trivial, rfl⟩
theorem on_fs (i : Nat) (m : Mc) (rest : List Cl) (ii : Nat) (ans : List (Int × Int)) (S : TS) (K : List (Nat × Int)) (x : Nx) (t : Thr) (ht : S.thr[i]? = some t) : ∃ t', (on i m rest ii ans S K x).1.thr[i]? = some t' ∧ FitsN (on i m rest ii ans S K x).2.2 t' ∧ StN (on i m rest ii ans S K x).2.2 t' := by
  cases x with
  | ans e x => exact flow_fs i m rest (ii + 1) _ _ (noted S undef i 10 (-1) ii e) t ht
  | turn op j q => exact ⟨_, set_get ht, ⟨rfl, rfl⟩, rfl⟩
  | wait j q =>
    rw [on_wait]
    split
    · exact flow_fs i m rest (ii + 1) _ _ (noted S undef i 10 (-1) ii _) t ht
    · exact ⟨_, set_get ht, trivial, rfl⟩
theorem resume_fs (i : Nat) (m : Mc) (S : TS) (K : List (Nat × Int)) (t : Thr) (ht : S.thr[i]? = some t) (l : Ph) (hl : ∀ a, l ≠ .done a) : ∃ t', (resume i m l S K).1.thr[i]? = some t' ∧ FitsN (resume i m l S K).2.2 t' ∧ StN (resume i m l S K).2.2 t' := by
  match l, hl with
  | .turn op j q rest ii ans, _ => rw [resume_turn]; exact on_fs _ _ _ _ _ _ _ _ t (did_thr ht)
  | .wait j q rest ii ans, _ =>
    rw [resume_wait]
    split
    · exact flow_fs i m rest (ii + 1) _ _ (noted S undef i 10 (-1) ii _) t ht
    · exact on_fs _ _ _ _ _ _ _ _ t ht
  | .done a, hl => exact absurd rfl (hl a)

/-- The run's state: the world, its cells, where the threads sit. -/
structure PSt where
  S : TS
  K : List (Nat × Int)
  l : Nat → Ph
/-- Who goes next. -/
def nextI (S : TS) : Nat := ((rdyIds S S.thr.length)[pickAt S (rdyIds S S.thr.length)]?).getD 0
/-- A turn; none: all have ended. -/
def pturn (nk : Mc) (p : PSt) : Option PSt :=
  if rdyIds p.S p.S.thr.length = [] then
    if waits2 p.S p.S.thr.length then some ⟨stuckS p.S undef, p.K, p.l⟩ else none
  else
    some ⟨(resume (nextI p.S) nk (p.l (nextI p.S)) (going p.S (nextI p.S) (thrI p.S (nextI p.S))) p.K).1, (resume (nextI p.S) nk (p.l (nextI p.S)) (going p.S (nextI p.S) (thrI p.S (nextI p.S))) p.K).2.1, upd p.l (nextI p.S) (resume (nextI p.S) nk (p.l (nextI p.S)) (going p.S (nextI p.S) (thrI p.S (nextI p.S))) p.K).2.2⟩

section
variable {z : Nat → Option Nat} {Ch : Nat → Prop} {cont : Addr → Value} {v w : World} {c : Nat}
theorem kc_chan (hz : z c = none) (h : KC (ScZ z) cont w) (cap : Nat) (buf : Array Value) (cl : Bool) (a b : Nat) (tm : Bool) : KC (ScZ z) cont (w.setChan c cap buf cl a b tm) := fun x hx => by
  have hne : c ≠ x.block := fun e => by rw [e, hx.2] at hz; cases hz
  rw [World.cell?_of_block (heap_setChan_ne w cap buf cl a b tm hne)]
  exact h x hx
theorem rel_chan (hr : Rel z v w) (hz : z c = none) (cap : Nat) (buf : Array Value) (cl : Bool) (a b : Nat) (tm : Bool) (d : Nat) : Rel z (v.setChan c cap buf cl a b tm) ((w.at d).setChan c cap buf cl a b tm) := by
  refine ⟨fun r => ?_, fun r n x e f hzr hh => ?_, fun r n hzr => by simpa [World.setChan] using hr.low r n hzr, hr.os, hr.output⟩
  · by_cases e : c = r
    · subst e
      rw [hz]
      have hs := hr.size
      by_cases hlt : c < v.heap.size
      · have hlw : c < (w.at d).heap.size := by show c < w.heap.size; omega
        rw [heap_setChan_self (w.at d) (Array.getElem?_eq_getElem hlw), heap_setChan_self v (Array.getElem?_eq_getElem hlt)]
        rfl
      · have : ¬ c < w.heap.size := by omega
        simp [World.setChan, World.at, hlt, this]
    · rw [heap_setChan_ne _ _ _ _ _ _ _ e, heap_setChan_ne _ _ _ _ _ _ _ e]
      exact hr.heap r
  · have hne : c ≠ r := fun e => by rw [e, hzr] at hz; cases hz
    rw [heap_setChan_ne _ _ _ _ _ _ _ hne] at hh
    exact hr.kept r n x e f hzr hh
theorem has_chan {M : Nat → Option Obj} (h : Has M v) (hrow : ∀ b o, M b = some o → ∃ x e f, o = .cells x e f) (hc : ∃ o, v.heap[c]? = some o ∧ ∀ x e f, o ≠ .cells x e f) (cap : Nat) (buf : Array Value) (cl : Bool) (a b : Nat) (tm : Bool) : Has M (v.setChan c cap buf cl a b tm) := fun y o ho => by
  have hne : c ≠ y := fun e => by
    subst e
    obtain ⟨x, e, f, rfl⟩ := hrow _ o ho
    obtain ⟨o', h1, h2⟩ := hc
    rw [h _ _ ho] at h1
    cases h1
    exact h2 _ _ _ rfl
  rw [heap_setChan_ne _ _ _ _ _ _ _ hne]
  exact h y o ho
end
end Go.Proofs.Ytfjjoohflcchnaa.Gen
