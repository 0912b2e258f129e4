/- LockAlone: for every schedule and all scripts, what threads are told together under the lock is what one thread would be told that makes the calls in the order of the tickets; no conditions. Part 28 of 34. (Joined, by program, of: LokPk, LokInv, LokB.) -/
import Derived.Test.YtfjjoohflcchnaaLockAlone16
import Derived.Test.YtfjjoohflcchnaaLockAlone22
import Derived.Test.YtfjjoohflcchnaaLockAlone24
import Derived.Test.YtfjjoohflcchnaaLockAlone26
import Derived.Test.YtfjjoohflcchnaaLockAlone27
import Derived.BigQuiet
set_option linter.unusedSimpArgs false
set_option linter.unusedVariables false
namespace Go.Proofs.Ytfjjoohflcchnaa.Gen
open Go Go.Lift Go.Conc Go.RowKit

/-- Lock: 0 it draws a ticket, 1 it looks who is called, 6 it awaits; Try: 5 it looks, 7 it tries; both: 2 it looks at what is guarded, 3 it writes, 4 it calls the next. The first number kept is what is to be added. -/
def lockEff (q : Q) (x : Int) : (Int × Int) × Int × Value :=
  match q with
  | (0, _) => effAdd 1 x
  | (4, _) => effAdd 1 x
  | (3, a :: y :: _) => effStore (wrap64 (y + a)) x
  | (7, _ :: m :: _) => effCas m (wrap64 (m + 1)) x
  | _ => effLoad x
def lockNext (q : Q) (x : Int) : Nx :=
  match q with
  | (0, a :: _) => .turn 1 1 (1, [a, wrap64 (wrap64 (x + 1) - 1)])
  | (1, a :: n :: _) => if x = n then .turn 1 2 (2, [a]) else .wait 1 (6, [a, n])
  | (2, a :: _) => .turn 2 2 (3, [a, x])
  | (3, _ :: y :: _) => .turn 5 1 (4, [y])
  | (4, y :: _) => .ans 0 y
  | (5, a :: _) => .turn 4 0 (7, [a, x])
  | (7, a :: m :: _) => if x = m then .turn 1 2 (2, [a]) else .ans 0 (-1)
  | _ => .ans 0 0
def mcLock : Mc where
  start c := if c.po = 1 then .turn 5 0 (0, [c.ca]) else if c.po = 2 then .turn 1 1 (5, [c.ca]) else .ans 1 0
  turn q x := ((lockEff q x).1, (lockEff q x).2.1, lockNext q x)
  woke q := .turn 1 1 (1, q.2)
  stuck _ := (4, 0)

/-- What a call has for its own: two answers, and itself. -/
def tri (pb ab qb : Nat) (o : Obj) : Nat → Option Obj := fun b => if b = pb ∨ b = ab then some box0 else if b = qb then some o else none
section
variable {pb ab qb b : Nat} {o : Obj}
theorem tri_pb : tri pb ab qb o pb = some box0 := by unfold tri; rw [if_pos (.inl rfl)]
theorem tri_ab : tri pb ab qb o ab = some box0 := by unfold tri; rw [if_pos (.inr rfl)]
theorem tri_qb (h1 : qb ≠ pb) (h2 : qb ≠ ab) : tri pb ab qb o qb = some o := by unfold tri; rw [if_neg (fun h => h.elim h1 h2), if_pos rfl]
theorem tri_eq (h : tri pb ab qb o b ≠ none) : b = pb ∨ b = ab ∨ b = qb := by
  unfold tri at h
  split at h
  · rename_i h1; exact h1.imp id .inl
  · split at h
    · rename_i h1; exact .inr (.inr h1)
    · exact absurd rfl h
theorem tri_row (ho : ∃ c e f, o = .cells c e f) : ∀ b o', tri pb ab qb o b = some o' → ∃ c e f, o' = .cells c e f := fun b o' h => by
  unfold tri at h
  split at h
  · cases h; exact ⟨_, _, _, rfl⟩
  · split at h
    · cases h; exact ho
    · cases h
end

structure KMine (X : Fix mcLock) (xl xx lb gb c0 c1 : Nat) : Prop where
  caps : X.caps = #[Pt xl 0, Pt xx 0]
  mem : ∀ v, Has X.pk v → v.cell? ⟨xl, 0, none⟩ = some (Pt lb 0) ∧ v.cell? ⟨xx, 0, none⟩ = some (Pt gb 0) ∧ v.cell? ⟨lb, 0, none⟩ = some (Pt c0 0) ∧ v.cell? ⟨lb, 1, none⟩ = some (Pt c1 0)
  k0 : X.kb[0]? = some c0
  k1 : X.kb[1]? = some c1
  k2 : X.kb[2]? = some gb
/-- What a call of a lock holds. -/
structure KCall (X : Fix mcLock) (cu : Value → Goroutine) (xl xx lb gb c0 c1 pb ab qb : Nat) (o : Obj) (c61 : Value → Goroutine) (a : Int) : Prop where
  mine : KMine X xl xx lb gb c0 c1
  back : KBack (X.h == 0) pb c61 cu
  n1 : qb ≠ pb
  n2 : qb ≠ ab
  n3 : ab ≠ pb
  o : ∃ po n cc, o = .cells #[I po, I a, I n, I cc] 39 (0, 0)
/-- Below Lock or Try: e, y is its answer where it did not get it; below addTo. -/
structure KF (main : Bool) (f : Frs) (c61 : Value → Goroutine) (qb ab lb gb tb : Nat) (e y : Int) : Prop where
  oe : f.od[f.qd]? = some f.oe
  no : MBack main ab (f.cu (.bool false)) c61 e y
  yes : TBack main qb ab lb gb tb (f.cu (.bool true)) c61
structure AF (main : Bool) (f : Frs) (c61 : Value → Goroutine) (ab : Nat) : Prop where
  oe : f.od[f.qd]? = some f.oe
  back : ∀ y, MBack main ab (f.cu (I y)) c61 0 y

def lokSit (X : Fix mcLock) (x : Nx) (Mo : Nat → Option Obj) (cu : Value → Goroutine) (g : Goroutine) : Prop :=
  ∃ (xl xx lb gb c0 c1 pb ab qb : Nat) (o : Obj) (c61 : Value → Goroutine) (f : Frs) (a : Int), KCall X cu xl xx lb gb c0 c1 pb ab qb o c61 a ∧ Mo = tri pb ab qb o ∧
    ((KF (X.h == 0) f c61 qb ab lb gb X.tb 4 0 ∧
        ((x = .turn 5 0 (0, [a]) ∧ OpBack (X.h == 0) X.i 0 c0 X.tb 5 (effAdd 1) (fun r => G (kDrew lb c0 X.tb (fun _ => undef) r) (f.top :: f.fs)) g) ∨
         (∃ n u, x = .turn 1 1 (1, [a, n]) ∧ OpBack (X.h == 0) X.i 1 c1 X.tb 1 effLoad (fun r => G (kSeen lb c1 X.tb n u r) (f.top :: f.fs)) g) ∨
         (∃ n u, x = .wait 1 (6, [a, n]) ∧ WakeBack (X.h == 0) X.i X.tb 1 (fun r => G (kWoke lb X.tb n u r) (f.top :: f.fs)) g))) ∨
     (KF (X.h == 0) f c61 qb ab lb gb X.tb 0 (-1) ∧
        ((x = .turn 1 1 (5, [a]) ∧ OpBack (X.h == 0) X.i 1 c1 X.tb 1 effLoad (fun r => G (tSeen lb c1 X.tb (fun _ => undef) r) (f.top :: f.fs)) g) ∨
         (∃ m u, x = .turn 4 0 (7, [a, m]) ∧ OpBack (X.h == 0) X.i 0 c0 X.tb 4 (effCas m (wrap64 (m + 1))) (fun r => G (tTried lb X.tb u r) (f.top :: f.fs)) g))) ∨
     (AF (X.h == 0) f c61 ab ∧
        ((∃ u, x = .turn 1 2 (2, [a]) ∧ OpBack (X.h == 0) X.i 2 gb X.tb 1 effLoad (fun r => G (aSeen lb gb X.tb a u r) (f.top :: f.fs)) g) ∨
         (∃ y u, x = .turn 2 2 (3, [a, y]) ∧ OpBack (X.h == 0) X.i 2 gb X.tb 2 (effStore (wrap64 (y + a))) (fun r => G (aPut lb gb X.tb a y u r) (f.top :: f.fs)) g) ∨
         (∃ y u, x = .turn 5 1 (4, [y]) ∧ OpBack (X.h == 0) X.i 1 c1 X.tb 5 (effAdd 1) (fun r => G (aFree lb c1 X.tb r) (aEnd lb gb X.tb a y u :: f.top :: f.fs)) g))))

section
variable {X : Fix mcLock} {z : Nat → Option Nat} {cont : Addr → Value} {Ch : Nat → Prop} {Stop : Goroutine → World → Prop} {cu : Value → Goroutine} {S0 : TS} {K0 : List (Nat × Int)} {v0 : World} {Mo0 : Nat → Option Obj} {σ : TS} {κ : List (Nat × Int)} {S : TS} {v w : World} {t : Thr} {H : Nx → (Nat → Option Obj) → Goroutine → Prop} {xl xx lb gb c0 c1 pb ab qb : Nat} {o : Obj} {c61 : Value → Goroutine} {f : Frs} {x : Nx} {a : Int}

/-- The call has its answer. -/
theorem lok_ans (C : KCall X cu xl xx lb gb c0 c1 pb ab qb o c61 a) {cx : Goroutine} (e y : Int) (hM : MBack (X.h == 0) ab cx c61 e y) (hob : Ob X H z cont Ch Stop cu S0 K0 v0 Mo0 σ κ x) (hx : x = .ans e y ∨ ∃ j q, x = .wait j q ∧ σ.stk = true ∧ (e, y) = mcLock.stuck q) (N : Now X z cont Ch S0 K0 v0 Mo0 (tri pb ab qb o) σ κ S v w t) :
    GoesI Try.prog (X.h == 0) (DT (ScZ z) Ch) Stop cx w := by
  have hpb := N.mo pb _ tri_pb
  have fpb := N.far pb (by rw [tri_pb]; simp)
  refine hM z Ch Stop w v S κ N.at_.rel N.at_.noRow N.at_.mem (N.mo ab _ tri_ab) (N.far ab (by rw [tri_ab]; simp)) (fun v1 w1 r1 n1 e1 => ?_)
  have kp := e1.keeps (Array.getElem?_eq_some_iff.1 hpb).1 fpb (fun h => C.n3 h.symm)
  refine C.back z Ch Stop w1 v1 S κ e y r1 n1 e1.mem (by rw [kp.1]; exact hpb) fpb (fun v2 w2 r2 n2 e2 => ?_)
  have j1 := N.evo.join e1 (fun b hb => by
    have hb' : b = ab := hb
    subst hb'
    exact N.new b (by rw [tri_ab]; simp))
  exact hob.ans (e, y) hx v2 w2 S r2 n2 N.nv (j1.join e2 (fun b hb => by
    have hb' : b = pb := hb
    subst hb'
    exact N.new b (by rw [tri_pb]; simp)))
end
end Go.Proofs.Ytfjjoohflcchnaa.Gen

namespace Go.Proofs.Ytfjjoohflcchnaa.Gen
open Go Go.Lift Go.Conc Go.RowKit
open Go.ConcN (upd upd_same upd_ne)

/-- A ticket: whose, for which of its calls, how much it adds. -/
structure Tk where
  th : Nat
  k : Nat
  a : Int
/-- What is guarded, behind the first n tickets. -/
def sumK (T : List Tk) : Nat → Int
  | 0 => 0
  | n + 1 => wrap64 (sumK T n + ((T[n]?).map Tk.a).getD 0)
theorem sumK_app (T : List Tk) (t : Tk) : ∀ n, n ≤ T.length → sumK (T ++ [t]) n = sumK T n
  | 0, _ => rfl
  | n + 1, h => by
    simp only [sumK]
    rw [sumK_app T t n (by omega), List.getElem?_append_left (by omega)]
theorem sumK_succ {T : List Tk} {n : Nat} {t : Tk} (h : T[n]? = some t) : sumK T (n + 1) = wrap64 (sumK T n + t.a) := by
  simp only [sumK, h, Option.map_some, Option.getD_some]
/-- Is a call among the first d tickets? -/
def tkd (T : List Tk) (d i k : Nat) : Bool := (T.take d).any fun t => t.th == i && t.k == k
theorem tkd_app {T : List Tk} {d : Nat} (t : Tk) (h : d ≤ T.length) (i k : Nat) : tkd (T ++ [t]) d i k = tkd T d i k := by
  unfold tkd
  rw [List.take_append_of_le_length h]
theorem tkd_iff {T : List Tk} {d i k : Nat} : tkd T d i k = true ↔ ∃ n t, n < d ∧ T[n]? = some t ∧ t.th = i ∧ t.k = k := by
  unfold tkd
  rw [List.any_eq_true]
  constructor
  · rintro ⟨t, ht, h⟩
    obtain ⟨n, hn⟩ := List.mem_iff_getElem?.1 ht
    rw [List.getElem?_take] at hn
    split at hn
    · simp only [Bool.and_eq_true, beq_iff_eq] at h
      exact ⟨n, t, by assumption, hn, h.1, h.2⟩
    · cases hn
  · rintro ⟨n, t, h1, h2, h3, h4⟩
    refine ⟨t, List.mem_iff_getElem?.2 ⟨n, ?_⟩, by simp [h3, h4]⟩
    rw [List.getElem?_take, if_pos h1]
    exact h2
theorem tkd_succ {T : List Tk} {d : Nat} {t : Tk} (h : T[d]? = some t) (i k : Nat) : tkd T (d + 1) i k = (tkd T d i k || (t.th == i && t.k == k)) := by
  unfold tkd
  rw [List.take_add_one, h, List.any_append]
  simp
/-- How many of a thread's calls are answered. -/
def upK (calls : List Cl) : Ph → Nat
  | .turn _ _ _ _ ii _ => ii
  | .wait _ _ _ ii _ => ii
  | .done _ => calls.length
/-- Where a thread sits. b: 0 nobody has looked at what is guarded since the last one, 1 he has looked, 2 he has written. -/
def KSeat (T : List Tk) (d b i : Nat) (se : Int) (calls : List Cl) : Ph → Prop
  | .turn op j q rest ii ans => rest = calls.drop (ii + 1) ∧ ∃ c, calls[ii]? = some c ∧
      ((q = (0, [c.ca]) ∧ op = 5 ∧ j = 0 ∧ c.po = 1) ∨
       (∃ n : Nat, q = (1, [c.ca, (n : Int)]) ∧ op = 1 ∧ j = 1 ∧ T[n]? = some ⟨i, ii, c.ca⟩ ∧ d ≤ n ∧ (n = d → b = 0)) ∨
       (q = (2, [c.ca]) ∧ op = 1 ∧ j = 2 ∧ T[d]? = some ⟨i, ii, c.ca⟩ ∧ b = 0) ∨
       (q = (3, [c.ca, sumK T d]) ∧ op = 2 ∧ j = 2 ∧ T[d]? = some ⟨i, ii, c.ca⟩ ∧ b = 1) ∨
       (q = (4, [sumK T d]) ∧ op = 5 ∧ j = 1 ∧ T[d]? = some ⟨i, ii, c.ca⟩ ∧ b = 2) ∨
       (q = (5, [c.ca]) ∧ op = 1 ∧ j = 1 ∧ c.po = 2) ∨
       (∃ m : Nat, q = (7, [c.ca, (m : Int)]) ∧ op = 4 ∧ j = 0 ∧ c.po = 2 ∧ m ≤ d))
  | .wait j q rest ii ans => j = 1 ∧ rest = calls.drop (ii + 1) ∧ ∃ c, calls[ii]? = some c ∧ ∃ n : Nat, q = (6, [c.ca, (n : Int)]) ∧ T[n]? = some ⟨i, ii, c.ca⟩ ∧ d ≤ n ∧ (n = d → b = 0) ∧ se < n
  | .done _ => True
/-- He has the ticket n. -/
def Hold (d n : Nat) : Ph → Prop
  | .turn _ _ q _ _ _ => (∃ a, q = (1, [a, (n : Int)])) ∨ (n = d ∧ (q.1 = 2 ∨ q.1 = 3 ∨ q.1 = 4))
  | .wait _ q _ _ _ => ∃ a, q = (6, [a, (n : Int)])
  | .done _ => False
/-- The trace, read for a call: 0 it has not begun, 1 it has, 2 it did a step on what is guarded, 3 it has ended with none. -/
def mstep (i k : Nat) (s : Nat) (x : Stp) : Nat :=
  if x.th = (i : Int) then
    if s = 0 then (if x.op = 10 ∧ x.ol = (k : Int) then 3 else if x.op = 9 ∧ x.ol = (k : Int) then (if x.ce = 2 then 2 else 1) else 0)
    else if s = 1 then (if x.op = 10 ∧ x.ol = (k : Int) then 3 else if x.ce = 2 then 2 else 1)
    else s
  else s
def mst (i k : Nat) (L : List Stp) : Nat := L.foldl (mstep i k) 0
theorem mst_app (i k : Nat) (L X : List Stp) : mst i k (L ++ X) = X.foldl (mstep i k) (mst i k L) := List.foldl_append ..
theorem fold_oth {i k : Nat} : ∀ (X : List Stp) (s : Nat), (∀ x ∈ X, x.th ≠ (i : Int)) → X.foldl (mstep i k) s = s
  | [], _, _ => rfl
  | x :: X, s, h => by
    rw [List.foldl_cons, show mstep i k s x = s by unfold mstep; rw [if_neg (h x (List.mem_cons_self ..))]]
    exact fold_oth X s (fun y hy => h y (List.mem_cons_of_mem _ hy))
def wantM (T : List Tk) (d i k : Nat) : Nat := if tkd T d i k then 2 else 3
def want (T : List Tk) (d i k : Nat) (calls : List Cl) : Ph → Nat
  | .turn _ _ q _ ii _ => if k < ii then wantM T d i k else if k = ii then (if q.1 = 3 ∨ q.1 = 4 then 2 else 1) else 0
  | .wait _ _ _ ii _ => if k < ii then wantM T d i k else if k = ii then 1 else 0
  | .done _ => if k < calls.length then wantM T d i k else 0
/-- A draw; a step on what is guarded. -/
def isT (s : Stp) : Bool := s.ce == 0 && s.op != 1 && s.ol != s.ne
def drw (L : List Stp) : List Int := (L.filter isT).map (·.th)
def gst (L : List Stp) : List Stp := L.filter fun s => s.ce == 2
def pairs (T : List Tk) : Nat → List Stp
  | 0 => []
  | n + 1 => pairs T n ++ (match T[n]? with | some t => [⟨t.th, 2, 1, sumK T n, sumK T n⟩, ⟨t.th, 2, 2, sumK T n, sumK T (n + 1)⟩] | none => [])
theorem pairs_app (T : List Tk) (t : Tk) : ∀ n, n ≤ T.length → pairs (T ++ [t]) n = pairs T n
  | 0, _ => rfl
  | n + 1, h => by
    simp only [pairs]
    rw [pairs_app T t n (by omega), List.getElem?_append_left (by omega), sumK_app T t n (by omega), sumK_app T t (n + 1) h]
def cur (T : List Tk) (d b : Nat) : List Stp :=
  match b, T[d]? with
  | 1, some t => [⟨t.th, 2, 1, sumK T d, sumK T d⟩]
  | 2, some t => [⟨t.th, 2, 1, sumK T d, sumK T d⟩, ⟨t.th, 2, 2, sumK T d, sumK T (d + 1)⟩]
  | _, _ => []
/-- An answered call that had no ticket. -/
def Un (calls : List Cl) (ans : List (Int × Int)) (k : Nat) : Prop := ∃ c a, calls[k]? = some c ∧ ans[k]? = some a ∧ ((a = (0, -1) ∧ c.po = 2) ∨ a.1 ≠ 0)

/-- What holds of a lock's Play. -/
structure KI (N : Nat) (cl : Nat → List Cl) (T : List Tk) (d b : Nat) (v : Vw) : Prop where
  le : d ≤ T.length
  num : v.K = [(T.length : Int), (d : Int), sumK T (if b = 2 then d + 1 else d)]
  chg : ∃ c0 c2, v.chg = [c0, (d : Int), c2]
  stk : v.stk = false
  bb : b ≠ 0 → d < T.length
  len : ∀ i, i < N → (v.l i).ans.length = (cl i).length
  seat : ∀ i, i < N → KSeat T d b i (v.se i) (cl i) (v.l i)
  hold : ∀ n t, d ≤ n → T[n]? = some t → t.th < N ∧ Hold d n (v.l t.th)
  old : ∀ n t, n < d → T[n]? = some t → t.th < N ∧ t.k < upK (cl t.th) (v.l t.th) ∧ (∃ c, (cl t.th)[t.k]? = some c ∧ c.ca = t.a) ∧ (v.l t.th).ans[t.k]? = some (0, sumK T n)
  un : ∀ i, i < N → ∀ k, k < upK (cl i) (v.l i) → tkd T d i k = false → Un (cl i) (v.l i).ans k
  ord : ∀ (n m : Nat) (t u : Tk), n < m → T[n]? = some t → T[m]? = some u → t.th = u.th → t.k < u.k
  small : T.length ≤ v.L.length
  dr : drw v.L = T.map fun t => (t.th : Int)
  two : gst v.L = pairs T d ++ cur T d b
  ms : ∀ i, i < N → ∀ k, mst i k v.L = want T d i k (cl i) (v.l i)

section
variable {T : List Tk} {d b i : Nat} {se : Int} {calls : List Cl} {l : Ph}
theorem get_app {n : Nat} {x t : Tk} (h : T[n]? = some x) : (T ++ [t])[n]? = some x := by
  rw [List.getElem?_append_left (List.getElem?_eq_some_iff.1 h).1]; exact h
theorem KSeat.app (t : Tk) (hd : d ≤ T.length) (h : KSeat T d b i se calls l) : KSeat (T ++ [t]) d b i se calls l := by
  match l, h with
  | .done a, _ => trivial
  | .wait j q rest ii ans, ⟨h1, h2, c, hc, n, h3, h4, h5⟩ => exact ⟨h1, h2, c, hc, n, h3, get_app h4, h5⟩
  | .turn op j q rest ii ans, ⟨hr, c, hc, h⟩ =>
    refine ⟨hr, c, hc, ?_⟩
    rw [sumK_app T t d hd]
    rcases h with h | ⟨n, h1, h2, h3, h4, h5⟩ | ⟨h1, h2, h3, h4, h5⟩ | ⟨h1, h2, h3, h4, h5⟩ | ⟨h1, h2, h3, h4, h5⟩ | h | h
    · exact .inl h
    · exact .inr (.inl ⟨n, h1, h2, h3, get_app h4, h5⟩)
    · exact .inr (.inr (.inl ⟨h1, h2, h3, get_app h4, h5⟩))
    · exact .inr (.inr (.inr (.inl ⟨h1, h2, h3, get_app h4, h5⟩)))
    · exact .inr (.inr (.inr (.inr (.inl ⟨h1, h2, h3, get_app h4, h5⟩))))
    · exact .inr (.inr (.inr (.inr (.inr (.inl h)))))
    · exact .inr (.inr (.inr (.inr (.inr (.inr h)))))
/-- Another one has the ticket that is called. -/
theorem KSeat.oth {o : Tk} (ho : T[d]? = some o) (hne : o.th ≠ i) (h : KSeat T d b i se calls l) (b' : Nat) : KSeat T d b' i se calls l ∧ KSeat T (d + 1) 0 i se calls l := by
  have no : ∀ {k : Nat} {a : Int}, T[d]? = some ⟨i, k, a⟩ → False := fun h => hne (by rw [ho] at h; cases h; rfl)
  match l, h with
  | .done a, _ => exact ⟨trivial, trivial⟩
  | .wait j q rest ii ans, ⟨h1, h2, c, hc, n, h3, h4, h5, h6, h7⟩ =>
    have hn : n ≠ d := fun e => no (by rw [← e]; exact h4)
    exact ⟨⟨h1, h2, c, hc, n, h3, h4, h5, fun e => absurd e hn, h7⟩, ⟨h1, h2, c, hc, n, h3, h4, by omega, fun _ => rfl, h7⟩⟩
  | .turn op j q rest ii ans, ⟨hr, c, hc, h⟩ =>
    rcases h with h | ⟨n, h1, h2, h3, h4, h5, h6⟩ | ⟨h1, h2, h3, h4, h5⟩ | ⟨h1, h2, h3, h4, h5⟩ | ⟨h1, h2, h3, h4, h5⟩ | h | ⟨m, h1, h2, h3, h4, h5⟩
    · exact ⟨⟨hr, c, hc, .inl h⟩, ⟨hr, c, hc, .inl h⟩⟩
    · have hn : n ≠ d := fun e => no (by rw [← e]; exact h4)
      exact ⟨⟨hr, c, hc, .inr (.inl ⟨n, h1, h2, h3, h4, h5, fun e => absurd e hn⟩)⟩, ⟨hr, c, hc, .inr (.inl ⟨n, h1, h2, h3, h4, by omega, fun _ => rfl⟩)⟩⟩
    · exact (no h4).elim
    · exact (no h4).elim
    · exact (no h4).elim
    · exact ⟨⟨hr, c, hc, .inr (.inr (.inr (.inr (.inr (.inl h)))))⟩, ⟨hr, c, hc, .inr (.inr (.inr (.inr (.inr (.inl h)))))⟩⟩
    · exact ⟨⟨hr, c, hc, .inr (.inr (.inr (.inr (.inr (.inr ⟨m, h1, h2, h3, h4, h5⟩)))))⟩, ⟨hr, c, hc, .inr (.inr (.inr (.inr (.inr (.inr ⟨m, h1, h2, h3, h4, by omega⟩)))))⟩⟩
end

/-- From a call's beginning to the next seat. -/
theorem fw_lock {T : List Tk} {d b i : Nat} {calls rest : List Cl} {ii : Nat} {sk : Bool} {ans : List (Int × Int)} {X : List Stp} {l : Ph} (h : Fw mcLock i false rest ii sk ans X l) :
    ∀ ms : Nat → Nat, sk = false → rest = calls.drop ii → ii ≤ calls.length → ans.length = calls.length → (∀ k, ii ≤ k → tkd T d i k = false) → (∀ k, ms k = if k < ii then wantM T d i k else 0) → (∀ k, k < ii → tkd T d i k = false → Un calls ans k) →
    l.ans.length = calls.length ∧ (∀ se, KSeat T d b i se calls l) ∧ (∀ k, X.foldl (mstep i k) (ms k) = want T d i k calls l) ∧ (∀ s ∈ X, s.ce = -1 ∧ s.th = (i : Int)) ∧ (∀ k, k < ii → l.ans[k]? = ans[k]?) ∧ ii ≤ upK calls l ∧ (∀ e n, ¬ Hold e n l) ∧ (∀ k, k < upK calls l → tkd T d i k = false → Un calls l.ans k) := by
  induction h with
  | @nil ii sk ans =>
    intro ms hsk hr hl ha ht hm hu
    have : ii = calls.length := by
      have := congrArg List.length hr
      simp at this
      omega
    subst this
    exact ⟨ha, fun se => trivial, hm, fun s hs => (nomatch hs), fun k hk => rfl, Nat.le_refl _, fun e n h => h, hu⟩
  | @skip c rest ii ans X l h ih => intro ms hsk; cases hsk
  | @ans c rest ii ans X l e x hst h ih =>
    intro ms hsk hr hl ha ht hm hu
    have hlt : ii < calls.length := by
      have := congrArg List.length hr
      simp at this
      omega
    have hc : calls[ii]? = some c := by
      have : (calls.drop ii)[0]? = some c := by rw [← hr]; rfl
      simpa using this
    have hr' : rest = calls.drop (ii + 1) := by
      have := congrArg List.tail hr
      simpa [List.tail_drop] using this
    obtain ⟨rfl, rfl⟩ : e = 1 ∧ x = 0 := by
      unfold mcLock at hst
      simp only at hst
      split at hst
      · cases hst
      · split at hst
        · cases hst
        · cases hst; exact ⟨rfl, rfl⟩
    have hset : ∀ k, k < ii → (ans.set ii (1, 0))[k]? = ans[k]? := fun k hk => by rw [List.getElem?_set, if_neg (by omega)]
    obtain ⟨f1, f2, f3, f4, f5, f6, f7, f8⟩ := ih (fun k => if k < ii + 1 then wantM T d i k else 0) rfl hr' (by omega) (by simpa using ha) (fun k hk => ht k (by omega)) (fun k => rfl) (fun k hk hT => by
      by_cases e : k = ii
      · subst e
        exact ⟨c, (1, 0), hc, by rw [List.getElem?_set, if_pos rfl, if_pos (by omega)], .inr (by decide)⟩
      · obtain ⟨c', a', h1, h2, h3⟩ := hu k (by omega) hT
        exact ⟨c', a', h1, by rw [hset k (by omega)]; exact h2, h3⟩)
    refine ⟨f1, f2, fun k => ?_, fun s hs => ?_, fun k hk => (f5 k (by omega)).trans (hset k hk), by omega, f7, f8⟩
    · rw [← f3 k, List.foldl_cons, List.foldl_cons]
      congr 1
      rw [hm k]
      by_cases h1 : k < ii
      · rw [if_pos h1, if_pos (by omega)]
        unfold wantM
        split <;> simp [mstep]
      · rw [if_neg h1]
        by_cases h2 : k = ii
        · subst h2
          rw [if_pos (by omega)]
          unfold wantM
          rw [ht k (Nat.le_refl _)]
          simp [mstep]
        · rw [if_neg (by omega)]
          have : ¬ ((ii : Int) = (k : Int)) := by omega
          simp [mstep, this]
    · simp only [List.mem_cons] at hs
      rcases hs with rfl | rfl | hs
      · exact ⟨rfl, rfl⟩
      · exact ⟨rfl, rfl⟩
      · exact f4 s hs
  | @turn c rest ii ans op j q hst =>
    intro ms hsk hr hl ha ht hm hu
    have hlt : ii < calls.length := by
      have := congrArg List.length hr
      simp at this
      omega
    have hc : calls[ii]? = some c := by
      have : (calls.drop ii)[0]? = some c := by rw [← hr]; rfl
      simpa using this
    have hr' : rest = calls.drop (ii + 1) := by
      have := congrArg List.tail hr
      simpa [List.tail_drop] using this
    have hst' : (q = (0, [c.ca]) ∧ op = 5 ∧ j = 0 ∧ c.po = 1) ∨ (q = (5, [c.ca]) ∧ op = 1 ∧ j = 1 ∧ c.po = 2) := by
      unfold mcLock at hst
      simp only at hst
      split at hst
      · cases hst; exact .inl ⟨rfl, rfl, rfl, by assumption⟩
      · split at hst
        · cases hst; exact .inr ⟨rfl, rfl, rfl, by assumption⟩
        · cases hst
    refine ⟨ha, fun se => ⟨hr', c, hc, hst'.imp id (fun h => .inr (.inr (.inr (.inr (.inl h)))))⟩, fun k => ?_, fun s hs => ?_, fun k _ => rfl, Nat.le_refl _, fun e n h => ?_, hu⟩
    · have hq : ¬ (q.1 = 3 ∨ q.1 = 4) := by rcases hst' with h | h <;> rw [h.1] <;> simp
      rw [hm k]
      show mstep i k _ _ = (if k < ii then wantM T d i k else if k = ii then (if q.1 = 3 ∨ q.1 = 4 then 2 else 1) else 0)
      rw [if_neg hq]
      by_cases h1 : k < ii
      · rw [if_pos h1, if_pos h1]
        unfold wantM
        split <;> simp [mstep]
      · rw [if_neg h1, if_neg h1]
        by_cases h2 : k = ii
        · subst h2
          simp [mstep]
        · have : ¬ ((ii : Int) = (k : Int)) := by omega
          simp [mstep, this, h2]
    · simp only [List.mem_singleton] at hs
      subst hs
      exact ⟨rfl, rfl⟩
    · rcases hst' with ⟨rfl, _⟩ | ⟨rfl, _⟩
      · rcases h with ⟨a, h⟩ | ⟨_, h⟩
        · cases h
        · exact absurd h (by simp)
      · rcases h with ⟨a, h⟩ | ⟨_, h⟩
        · cases h
        · exact absurd h (by simp)
  | @wait c rest ii ans j q hst _ =>
    exfalso
    unfold mcLock at hst
    simp only at hst
    split at hst
    · cases hst
    · split at hst <;> cases hst
  | @waits c rest ii ans X l j q hst _ _ _ =>
    exfalso
    unfold mcLock at hst
    simp only at hst
    split at hst
    · cases hst
    · split at hst <;> cases hst
end Go.Proofs.Ytfjjoohflcchnaa.Gen

namespace Go.Proofs.Ytfjjoohflcchnaa.Gen
open Go Go.Lift Go.Conc Go.RowKit

def SamW (v u : World) : Prop := u.heap = v.heap ∧ u.os = v.os ∧ u.output = v.output
theorem samW_cell {v u : World} (h : SamW v u) (a : Addr) : u.cell? a = v.cell? a := World.cell?_of_block (w := v) (w' := u) (by rw [h.1])
/-- The trace lies there. -/
def TrL (g : Nat) (L : List Stp) (v : World) : Prop := ∀ (k : Nat) (s : Stp), L[k]? = some s → v.cell? ⟨g, k * 5, none⟩ = some (I s.th) ∧ v.cell? ⟨g, k * 5 + 1, none⟩ = some (I s.ce) ∧ v.cell? ⟨g, k * 5 + 2, none⟩ = some (I s.op) ∧ v.cell? ⟨g, k * 5 + 3, none⟩ = some (I s.ol) ∧ v.cell? ⟨g, k * 5 + 4, none⟩ = some (I s.ne)

set_option maxHeartbeats 8000000 in
set_option maxRecDepth 100000 in
theorem body30 {v : World} (p : Option Addr) (n cap : Nat) (pc : Nat → Option Addr) (ln cp : Nat → Nat) (hs : ∀ k, k < n → ∃ sb so, p = some ⟨sb, so, none⟩ ∧ v.cell? ⟨sb, so + k, none⟩ = some (.slice (pc k) (ln k) (cp k))) (hn : n ≤ 17592186043904) :
    Body Try.f32 #[.slice p n cap] v (fun r v' => ∃ E, r = I E ∧ (Refused n ln E ∨ (E = 0 ∧ (∀ k, k < n → ln k ≤ 64) ∧ 0 < n ∧ n ≤ 8)) ∧ v'.heap = v.heap ∧ v'.os = v.os ∧ v'.output = v.output) := by
  intro code hb
  obtain rfl := Option.some.inj hb
  clear hb
  have H1 : Hid (∀ u, SamW v u → ∀ k, k < n → ∃ sb so, p = some ⟨sb, so, none⟩ ∧ u.cell? ⟨sb, so + k, none⟩ = some (.slice (pc k) (ln k) (cp k))) := ⟨fun u hu k hk => by
    obtain ⟨sb, so, h1, h2⟩ := hs k hk
    exact ⟨sb, so, h1, by rw [samW_cell hu]; exact h2⟩⟩
  clear hs
  simp only [Try.ntmps32, List.size_toArray, List.length_cons, List.length_nil, Nat.reduceAdd, Nat.reduceSub, Array.replicate_succ, Array.replicate_zero, List.push_toArray, List.append_toArray, List.nil_append, List.cons_append]
  go_wp2_with fail
  go_loopw [3] (fun i u => ∃ k : Nat, k ≤ n ∧ i = .int .i64 k ∧ Hid (SamW v u ∧ ∀ j, j < k → ln j ≤ 64)) (fun i _ => n - (intOf i).toNat)
  case atStart => exact ⟨0, Nat.zero_le _, rfl, ⟨rfl, rfl, rfl⟩, fun j hj => by omega⟩
  case round =>
    obtain ⟨k, hk, rfl, hs⟩ := hrel
    by_cases hlt : k < n
    · obtain ⟨sb, so, rfl, a1⟩ := H1.out wr hs.out.1 k hlt
      have hlt' : (k : Int) < (n : Int) := by omega
      have hnl : ¬ n ≤ k := by omega
      by_cases h64 : ln k ≤ 64
      · have h64' : (ln k : Int) ≤ 64 := by omega
        go_wp2_with fail
        go_roundw
        case rel => exact ⟨k + 1, by omega, by go_num, hs.out.1, fun j hj => by
          by_cases e : j = k
          · subst e; exact h64
          · exact hs.out.2 j (by omega)⟩
        case measure => simp [intOf]; omega
      · have h64' : (64 : Int) < (ln k : Int) := by omega
        go_wp2_with fail
        go_ret
        exact ⟨_, rfl, 2, rfl, .inl (.inl ⟨⟨k, hlt, by omega⟩, rfl⟩), hs.out.1.1, hs.out.1.2.1, hs.out.1.2.2⟩
    · have hkk : k = n := by omega
      subst hkk
      by_cases h0 : k = 0
      · have h0' : (k : Int) < 1 := by omega
        go_wp2_with fail
        go_ret
        exact ⟨_, rfl, 1, rfl, .inl (.inr ⟨hs.out.2, .inl h0, rfl⟩), hs.out.1.1, hs.out.1.2.1, hs.out.1.2.2⟩
      · have h0' : ¬ ((k : Int) < 1) := by omega
        by_cases h8 : 8 < k
        · have h8' : (8 : Int) < (k : Int) := by omega
          go_wp2_with fail
          go_ret
          exact ⟨_, rfl, 1, rfl, .inl (.inr ⟨hs.out.2, .inr h8, rfl⟩), hs.out.1.1, hs.out.1.2.1, hs.out.1.2.2⟩
        · have h8' : (k : Int) ≤ 8 := by omega
          go_wp2_with fail
          go_ret
          exact ⟨_, rfl, 0, rfl, .inr ⟨rfl, hs.out.2, by omega, by omega⟩, hs.out.1.1, hs.out.1.2.1, hs.out.1.2.2⟩

theorem mst_take {i k : Nat} {L : List Stp} {x : Nat} {q : Stp} (h : L[x]? = some q) : mst i k (L.take (x + 1)) = mstep i k (mst i k (L.take x)) q := by
  rw [List.take_add_one, h, mst_app]
  rfl
theorem fold_two {i k : Nat} : ∀ (X : List Stp) (s : Nat), 2 ≤ s → X.foldl (mstep i k) s = s
  | [], _, _ => rfl
  | x :: X, s, h => by
    rw [List.foldl_cons, show mstep i k s x = s by unfold mstep; simp only [show ¬ s = 0 by omega, show ¬ s = 1 by omega, if_false, ite_self]]
    exact fold_two X s h
theorem mst_end {i k : Nat} {L : List Stp} {x : Nat} (h : 2 ≤ mst i k (L.take x)) : mst i k L = mst i k (L.take x) := by
  have : mst i k (L.take x ++ L.drop x) = _ := mst_app i k _ _
  rw [List.take_append_drop] at this
  rw [this, fold_two _ _ h]

set_option maxHeartbeats 8000000 in
set_option maxRecDepth 100000 in
theorem body33 {v : World} {p : Option Addr} {g T ct : Nat} {L : List Stp} (hT : L.length = T) (hTs : T ≤ 400000) (hp : 0 < T → p = some ⟨g, 0, none⟩) (hL : TrL g L v) (t k : Nat) :
    Body Try.f35 #[.slice p T ct, I (t : Int), I (k : Int)] v (fun r v' => r = .bool (mst t k L == 2) ∧ v'.heap = v.heap ∧ v'.os = v.os ∧ v'.output = v.output) := by
  intro code hb
  obtain rfl := Option.some.inj hb
  clear hb
  have H1 : Hid (∀ u, SamW v u → TrL g L u) := ⟨fun u hu k s hs => by
    rw [samW_cell hu, samW_cell hu, samW_cell hu, samW_cell hu, samW_cell hu]
    exact hL k s hs⟩
  have HT : Hid (L.length = T) := ⟨hT⟩
  have HP : Hid (0 < T → p = some ⟨g, 0, none⟩) := ⟨hp⟩
  clear hL hT hp
  simp only [Try.ntmps35, List.size_toArray, List.length_cons, List.length_nil, Nat.reduceAdd, Nat.reduceSub, Array.replicate_succ, Array.replicate_zero, List.push_toArray, List.append_toArray, List.nil_append, List.cons_append]
  go_wp2_with fail
  go_loopw [7, 8] (fun b i u => ∃ x : Nat, x ≤ T ∧ i = .int .i64 x ∧ b = .bool (mst t k (L.take x) == 1) ∧ Hid (mst t k (L.take x) ≤ 1 ∧ SamW v u)) (fun _ i _ => T - (intOf i).toNat)
  case atStart => exact ⟨0, Nat.zero_le _, rfl, rfl, Nat.zero_le _, rfl, rfl, rfl⟩
  case round =>
    obtain ⟨x, hx, rfl, rfl, hs⟩ := hrel
    by_cases hlt : x < T
    · obtain rfl := HP.out (by omega)
      obtain ⟨q, hq⟩ : ∃ q, L[x]? = some q := ⟨_, List.getElem?_eq_getElem (by rw [HT.out]; exact hlt)⟩
      obtain ⟨c0, c1, c2, c3, c4⟩ := H1.out wr hs.out.2 x q hq
      have hm := mst_take (i := t) (k := k) hq
      have hlt' : (x : Int) < (T : Int) := by omega
      have hnl : ¬ T ≤ x := by omega
      obtain ⟨qt, qc, qo, ql, qn⟩ := q
      simp only at c0 c1 c2 c3 c4
      clear c4 hq
      have h01 : mst t k (L.take x) = 0 ∨ mst t k (L.take x) = 1 := by have := hs.out.1; omega
      rcases h01 with h0 | h0
      · rw [h0] at hm ⊢
        have e0 : ((0 : Nat) == 1) = false := rfl
        rw [e0]
        by_cases h1 : qt = (t : Int)
        · subst h1
          by_cases h2 : qo = 10
          · by_cases h3 : ql = (k : Int)
            · subst h2 h3
              have hm1 : Hid (mst t k (L.take (x + 1)) = 3) := ⟨by rw [hm]; simp [mstep]⟩
              clear hm
              go_wp2_with fail
              go_ret
              exact ⟨_, rfl, by rw [mst_end (x := x + 1) (by rw [hm1.out]; decide), hm1.out]; rfl, hs.out.2.1, hs.out.2.2.1, hs.out.2.2.2⟩
            · subst h2
              have f3 : (ql == (k : Int)) = false := by simp [h3]
              have hm1 : Hid (mst t k (L.take (x + 1)) = 0) := ⟨by rw [hm]; simp [mstep, h3]⟩
              clear hm
              go_wp2_with fail
              go_roundw
              case rel => exact ⟨x + 1, by omega, by go_num, by rw [hm1.out]; rfl, by rw [hm1.out]; decide, hs.out.2⟩
              case measure => simp [intOf]; omega
          · by_cases h4 : qo = 9
            · by_cases h3 : ql = (k : Int)
              · by_cases h5 : qc = 2
                · subst h4 h3
                  subst h5
                  have hm1 : Hid (mst t k (L.take (x + 1)) = 2) := ⟨by rw [hm]; simp [mstep]⟩
                  clear hm
                  go_wp2_with fail
                  go_ret
                  exact ⟨_, rfl, by rw [mst_end (x := x + 1) (by rw [hm1.out]; decide), hm1.out]; rfl, hs.out.2.1, hs.out.2.2.1, hs.out.2.2.2⟩
                · subst h4 h3
                  have f5 : (qc == 2) = false := by simp [h5]
                  have hm1 : Hid (mst t k (L.take (x + 1)) = 1) := ⟨by rw [hm]; simp [mstep, h5]⟩
                  clear hm
                  go_wp2_with fail
                  go_roundw
                  case rel => exact ⟨x + 1, by omega, by go_num, by rw [hm1.out]; rfl, by rw [hm1.out]; decide, hs.out.2⟩
                  case measure => simp [intOf]; omega
              · subst h4
                have f3 : (ql == (k : Int)) = false := by simp [h3]
                have hm1 : Hid (mst t k (L.take (x + 1)) = 0) := ⟨by rw [hm]; simp [mstep, h3]⟩
                clear hm
                go_wp2_with fail
                go_roundw
                case rel => exact ⟨x + 1, by omega, by go_num, by rw [hm1.out]; rfl, by rw [hm1.out]; decide, hs.out.2⟩
                case measure => simp [intOf]; omega
            · have f2 : (qo == 10) = false := by simp [h2]
              have f4 : (qo == 9) = false := by simp [h4]
              have hm1 : Hid (mst t k (L.take (x + 1)) = 0) := ⟨by rw [hm]; simp [mstep, h2, h4]⟩
              clear hm
              go_wp2_with fail
              go_roundw
              case rel => exact ⟨x + 1, by omega, by go_num, by rw [hm1.out]; rfl, by rw [hm1.out]; decide, hs.out.2⟩
              case measure => simp [intOf]; omega
        · have f1 : (qt != (t : Int)) = true := by simp [h1]
          have f1' : (qt == (t : Int)) = false := by simp [h1]
          have hm1 : Hid (mst t k (L.take (x + 1)) = 0) := ⟨by rw [hm]; simp [mstep, h1]⟩
          clear hm
          go_wp2_with fail
          go_roundw
          case rel => exact ⟨x + 1, by omega, by go_num, by rw [hm1.out]; rfl, by rw [hm1.out]; decide, hs.out.2⟩
          case measure => simp [intOf]; omega
      · rw [h0] at hm ⊢
        have e0 : ((1 : Nat) == 1) = true := rfl
        rw [e0]
        by_cases h1 : qt = (t : Int)
        · subst h1
          by_cases h2 : qo = 10
          · by_cases h3 : ql = (k : Int)
            · subst h2 h3
              have hm1 : Hid (mst t k (L.take (x + 1)) = 3) := ⟨by rw [hm]; simp [mstep]⟩
              clear hm
              go_wp2_with fail
              go_ret
              exact ⟨_, rfl, by rw [mst_end (x := x + 1) (by rw [hm1.out]; decide), hm1.out]; rfl, hs.out.2.1, hs.out.2.2.1, hs.out.2.2.2⟩
            · by_cases h5 : qc = 2
              · subst h2
                have f3 : (ql == (k : Int)) = false := by simp [h3]
                subst h5
                have hm1 : Hid (mst t k (L.take (x + 1)) = 2) := ⟨by rw [hm]; simp [mstep, h3]⟩
                clear hm
                go_wp2_with fail
                go_ret
                exact ⟨_, rfl, by rw [mst_end (x := x + 1) (by rw [hm1.out]; decide), hm1.out]; rfl, hs.out.2.1, hs.out.2.2.1, hs.out.2.2.2⟩
              · subst h2
                have f3 : (ql == (k : Int)) = false := by simp [h3]
                have f5 : (qc == 2) = false := by simp [h5]
                have hm1 : Hid (mst t k (L.take (x + 1)) = 1) := ⟨by rw [hm]; simp [mstep, h3, h5]⟩
                clear hm
                go_wp2_with fail
                go_roundw
                case rel => exact ⟨x + 1, by omega, by go_num, by rw [hm1.out]; rfl, by rw [hm1.out]; decide, hs.out.2⟩
                case measure => simp [intOf]; omega
          · by_cases h4 : qo = 9
            · by_cases h3 : ql = (k : Int)
              · by_cases h5 : qc = 2
                · subst h4 h3
                  subst h5
                  have hm1 : Hid (mst t k (L.take (x + 1)) = 2) := ⟨by rw [hm]; simp [mstep]⟩
                  clear hm
                  go_wp2_with fail
                  go_ret
                  exact ⟨_, rfl, by rw [mst_end (x := x + 1) (by rw [hm1.out]; decide), hm1.out]; rfl, hs.out.2.1, hs.out.2.2.1, hs.out.2.2.2⟩
                · subst h4 h3
                  have f5 : (qc == 2) = false := by simp [h5]
                  have hm1 : Hid (mst t k (L.take (x + 1)) = 1) := ⟨by rw [hm]; simp [mstep, h5]⟩
                  clear hm
                  go_wp2_with fail
                  go_roundw
                  case rel => exact ⟨x + 1, by omega, by go_num, by rw [hm1.out]; rfl, by rw [hm1.out]; decide, hs.out.2⟩
                  case measure => simp [intOf]; omega
              · by_cases h5 : qc = 2
                · subst h4
                  have f3 : (ql == (k : Int)) = false := by simp [h3]
                  subst h5
                  have hm1 : Hid (mst t k (L.take (x + 1)) = 2) := ⟨by rw [hm]; simp [mstep, h3]⟩
                  clear hm
                  go_wp2_with fail
                  go_ret
                  exact ⟨_, rfl, by rw [mst_end (x := x + 1) (by rw [hm1.out]; decide), hm1.out]; rfl, hs.out.2.1, hs.out.2.2.1, hs.out.2.2.2⟩
                · subst h4
                  have f3 : (ql == (k : Int)) = false := by simp [h3]
                  have f5 : (qc == 2) = false := by simp [h5]
                  have hm1 : Hid (mst t k (L.take (x + 1)) = 1) := ⟨by rw [hm]; simp [mstep, h3, h5]⟩
                  clear hm
                  go_wp2_with fail
                  go_roundw
                  case rel => exact ⟨x + 1, by omega, by go_num, by rw [hm1.out]; rfl, by rw [hm1.out]; decide, hs.out.2⟩
                  case measure => simp [intOf]; omega
            · by_cases h5 : qc = 2
              · have f2 : (qo == 10) = false := by simp [h2]
                have f4 : (qo == 9) = false := by simp [h4]
                subst h5
                have hm1 : Hid (mst t k (L.take (x + 1)) = 2) := ⟨by rw [hm]; simp [mstep, h2, h4]⟩
                clear hm
                go_wp2_with fail
                go_ret
                exact ⟨_, rfl, by rw [mst_end (x := x + 1) (by rw [hm1.out]; decide), hm1.out]; rfl, hs.out.2.1, hs.out.2.2.1, hs.out.2.2.2⟩
              · have f2 : (qo == 10) = false := by simp [h2]
                have f4 : (qo == 9) = false := by simp [h4]
                have f5 : (qc == 2) = false := by simp [h5]
                have hm1 : Hid (mst t k (L.take (x + 1)) = 1) := ⟨by rw [hm]; simp [mstep, h2, h4, h5]⟩
                clear hm
                go_wp2_with fail
                go_roundw
                case rel => exact ⟨x + 1, by omega, by go_num, by rw [hm1.out]; rfl, by rw [hm1.out]; decide, hs.out.2⟩
                case measure => simp [intOf]; omega
        · have f1 : (qt != (t : Int)) = true := by simp [h1]
          have f1' : (qt == (t : Int)) = false := by simp [h1]
          have hm1 : Hid (mst t k (L.take (x + 1)) = 1) := ⟨by rw [hm]; simp [mstep, h1]⟩
          clear hm
          go_wp2_with fail
          go_roundw
          case rel => exact ⟨x + 1, by omega, by go_num, by rw [hm1.out]; rfl, by rw [hm1.out]; decide, hs.out.2⟩
          case measure => simp [intOf]; omega
    · have hkk : x = T := by omega
      subst hkk
      have hfin : Hid (Value.bool false = .bool (mst t k L == 2)) := ⟨by
        have := hs.out.1
        rw [List.take_of_length_le (by rw [HT.out]; exact Nat.le_refl _)] at this
        have h2 : (mst t k L == 2) = false := by simp; omega
        rw [h2]⟩
      go_wp2_with fail
      go_ret
      exact ⟨_, rfl, hfin.out, hs.out.2.1, hs.out.2.2.1, hs.out.2.2.2⟩
end Go.Proofs.Ytfjjoohflcchnaa.Gen
