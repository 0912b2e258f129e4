/- GateHolds: for every schedule and all scripts, nobody enters behind the first Shut's step, one Shut at most is the first, nobody is in when a Shut answers, and the answers say how many are in; no conditions. Part 27 of 41. (Joined, by program, of: LokC, LokP, LokPk, LokInv, LokMv, LokMv2, GMets, GIns, LokFin, LokB.) -/
import Derived.Test.YtehingmdmijedaaGateHolds10
import Derived.Test.YtehingmdmijedaaGateHolds18
import Derived.Test.YtehingmdmijedaaGateHolds24
import Derived.Test.YtehingmdmijedaaGateHolds25
import Derived.Test.YtehingmdmijedaaGateHolds26
import Derived.BigQuiet

/- A call of a script on a lock (call 62), in company: its entries and its ways out; made by wip/tools/genlok.py. -/
set_option linter.unusedSimpArgs false
set_option linter.unusedVariables false
namespace Go.Proofs.Ytehingmdmijedaa.Gen
open Go Go.Lift Go.Conc Go.RowKit

/-- It lays the answer (e, y) in memory of its own (ab), and comes back with it. -/
def MBack (main : Bool) (ab : Nat) (cu : Goroutine) (cl : Value → Goroutine) (e y : Int) : Prop :=
  ∀ (z : Nat → Option Nat) (Ch : Nat → Prop) (Stop : Goroutine → World → Prop) (w v : World) (S : TS) (K : List (Nat × Int)), Rel z v w → NoRow Ch v → Mem z S K v → v.heap[ab]? = some (.cells #[I 0, I 0] 42 (0, 0)) → ¬ Own S K ab →
    (∀ v' w', Rel z v' w' → NoRow Ch v' → EvoP (· = ab) z S K v S K v' → GoesI Try.prog main (DT (ScZ z) Ch) Stop (cl (.agg #[I e, I y])) w') →
    GoesI Try.prog main (DT (ScZ z) Ch) Stop cu w
/-- It has the lock: on to addTo. -/
def TBack (main : Bool) (qb ab lb gb tb : Nat) (cu : Goroutine) (cl : Value → Goroutine) : Prop :=
  ∀ (z : Nat → Option Nat) (Ch : Nat → Prop) (Stop : Goroutine → World → Prop) (w v : World) (a : Int), Rel z v w → NoRow Ch v → v.cell? ⟨qb, 1, none⟩ = some (I a) →
    (∀ w' (f : Frs), Rel z v w' → f.od[f.qd]? = some f.oe → (∀ y, MBack main ab (f.cu (I y)) cl 0 y) → ∀ code, Try.f85.body = some code →
      GoesI Try.prog main (DT (ScZ z) Ch) Stop (G ((base 85).at { tmps := #[Pt lb 0, Pt tb 0, Pt gb 0, I a] ++ Array.replicate 18 undef, defers := [] } [.code code]) (f.top :: f.fs)) w') →
    GoesI Try.prog main (DT (ScZ z) Ch) Stop cu w

end Go.Proofs.Ytehingmdmijedaa.Gen

/- The closure of a lock's Play (61), in company: its entry and its way out. -/
set_option linter.unusedSimpArgs false
set_option linter.unusedVariables false
namespace Go.Proofs.Ytehingmdmijedaa.Gen
open Go Go.Lift Go.Conc Go.RowKit

/-- call has answered: the closure lays its answer in memory of its own (pb), and comes back with it. -/
def KBack (main : Bool) (pb : Nat) (cu : Value → Goroutine) (cl : Value → Goroutine) : Prop :=
  ∀ (z : Nat → Option Nat) (Ch : Nat → Prop) (Stop : Goroutine → World → Prop) (w v : World) (S : TS) (K : List (Nat × Int)) (e y : Int), Rel z v w → NoRow Ch v → Mem z S K v → v.heap[pb]? = some (.cells #[I 0, I 0] 42 (0, 0)) → ¬ Own S K pb →
    (∀ v' w', Rel z v' w' → NoRow Ch v' → EvoP (· = pb) z S K v S K v' → GoesI Try.prog main (DT (ScZ z) Ch) Stop (cl (.agg #[I e, I y])) w') →
    GoesI Try.prog main (DT (ScZ z) Ch) Stop (cu (.agg #[I e, I y])) w

end Go.Proofs.Ytehingmdmijedaa.Gen

/- The lock's calls as a machine, and that its code does what the machine says. -/
set_option linter.unusedSimpArgs false
set_option linter.unusedVariables false
namespace Go.Proofs.Ytehingmdmijedaa.Gen
open Go Go.Lift Go.Conc Go.RowKit

/-- Lock: 0 it draws a ticket, 1 it looks who is called, 6 it awaits; Try: 5 it looks, 7 it tries; both: 2 it looks at what is guarded, 3 it writes, 4 it calls the next. The first number kept is what is to be added. -/
def lockEff (q : Q) (x : Int) : (Int × Int) × Int × Value :=
  match q with
  | (0, _) => effAdd 1 x
  | (4, _) => effAdd 1 x
  | (3, a :: y :: _) => effStore (wrap64 (y + a)) x
  | (7, _ :: m :: _) => effCas m (wrap64 (m + 1)) x
  | _ => effLoad x
def lockNext (q : Q) (x : Int) : Nx :=
  match q with
  | (0, a :: _) => .turn 1 1 (1, [a, wrap64 (wrap64 (x + 1) - 1)])
  | (1, a :: n :: _) => if x = n then .turn 1 2 (2, [a]) else .wait 1 (6, [a, n])
  | (2, a :: _) => .turn 2 2 (3, [a, x])
  | (3, _ :: y :: _) => .turn 5 1 (4, [y])
  | (4, y :: _) => .ans 0 y
  | (5, a :: _) => .turn 4 0 (7, [a, x])
  | (7, a :: m :: _) => if x = m then .turn 1 2 (2, [a]) else .ans 0 (-1)
  | _ => .ans 0 0
def mcLock : Mc where
  start c := if c.po = 1 then .turn 5 0 (0, [c.ca]) else if c.po = 2 then .turn 1 1 (5, [c.ca]) else .ans 1 0
  turn q x := ((lockEff q x).1, (lockEff q x).2.1, lockNext q x)
  woke q := .turn 1 1 (1, q.2)
  stuck _ := (4, 0)

section
variable {pb ab qb b : Nat} {o : Obj}
end

structure KMine (X : Fix mcLock) (xl xx lb gb c0 c1 : Nat) : Prop where
  caps : X.caps = #[Pt xl 0, Pt xx 0]
  mem : ∀ v, Has X.pk v → v.cell? ⟨xl, 0, none⟩ = some (Pt lb 0) ∧ v.cell? ⟨xx, 0, none⟩ = some (Pt gb 0) ∧ v.cell? ⟨lb, 0, none⟩ = some (Pt c0 0) ∧ v.cell? ⟨lb, 1, none⟩ = some (Pt c1 0)
  k0 : X.kb[0]? = some c0
  k1 : X.kb[1]? = some c1
  k2 : X.kb[2]? = some gb
/-- What a call of a lock holds. -/
structure KCall (X : Fix mcLock) (cu : Value → Goroutine) (xl xx lb gb c0 c1 pb ab qb : Nat) (o : Obj) (c61 : Value → Goroutine) (a : Int) : Prop where
  mine : KMine X xl xx lb gb c0 c1
  back : KBack (X.h == 0) pb c61 cu
  n1 : qb ≠ pb
  n2 : qb ≠ ab
  n3 : ab ≠ pb
  o : ∃ po n cc, o = .cells #[I po, I a, I n, I cc] 39 (0, 0)
/-- Below Lock or Try: e, y is its answer where it did not get it; below addTo. -/
structure KF (main : Bool) (f : Frs) (c61 : Value → Goroutine) (qb ab lb gb tb : Nat) (e y : Int) : Prop where
  oe : f.od[f.qd]? = some f.oe
  no : MBack main ab (f.cu (.bool false)) c61 e y
  yes : TBack main qb ab lb gb tb (f.cu (.bool true)) c61
structure AF (main : Bool) (f : Frs) (c61 : Value → Goroutine) (ab : Nat) : Prop where
  oe : f.od[f.qd]? = some f.oe
  back : ∀ y, MBack main ab (f.cu (I y)) c61 0 y

section
variable {X : Fix mcLock} {z : Nat → Option Nat} {cont : Addr → Value} {Ch : Nat → Prop} {Stop : Goroutine → World → Prop} {cu : Value → Goroutine} {S0 : TS} {K0 : List (Nat × Int)} {v0 : World} {Mo0 : Nat → Option Obj} {σ : TS} {κ : List (Nat × Int)} {S : TS} {v w : World} {t : Thr} {H : Nx → (Nat → Option Obj) → Goroutine → Prop} {xl xx lb gb c0 c1 pb ab qb : Nat} {o : Obj} {c61 : Value → Goroutine} {f : Frs} {x : Nx} {a : Int}

end
end Go.Proofs.Ytehingmdmijedaa.Gen

/- What holds of a lock's Play, whatever the schedule: tickets, who holds which, what is guarded, what the trace says. -/
set_option linter.unusedSimpArgs false
set_option linter.unusedVariables false
namespace Go.Proofs.Ytehingmdmijedaa.Gen
open Go Go.Lift Go.Conc Go.RowKit
open Go.ConcN (upd upd_same upd_ne)

/-- A ticket: whose, for which of its calls, how much it adds. -/
structure Tk where
  th : Nat
  k : Nat
  a : Int
/-- What is guarded, behind the first n tickets. -/
def sumK (T : List Tk) : Nat → Int
  | 0 => 0
  | n + 1 => wrap64 (sumK T n + ((T[n]?).map Tk.a).getD 0)
theorem sumK_app (T : List Tk) (t : Tk) : ∀ n, n ≤ T.length → sumK (T ++ [t]) n = sumK T n
  | 0, _ => rfl
  | n + 1, h => by
    simp only [sumK]
    rw [sumK_app T t n (by omega), List.getElem?_append_left (by omega)]
/-- Is a call among the first d tickets? -/
def tkd (T : List Tk) (d i k : Nat) : Bool := (T.take d).any fun t => t.th == i && t.k == k
theorem tkd_app {T : List Tk} {d : Nat} (t : Tk) (h : d ≤ T.length) (i k : Nat) : tkd (T ++ [t]) d i k = tkd T d i k := by
  unfold tkd
  rw [List.take_append_of_le_length h]
theorem tkd_iff {T : List Tk} {d i k : Nat} : tkd T d i k = true ↔ ∃ n t, n < d ∧ T[n]? = some t ∧ t.th = i ∧ t.k = k := by
  unfold tkd
  rw [List.any_eq_true]
  constructor
  · rintro ⟨t, ht, h⟩
    obtain ⟨n, hn⟩ := List.mem_iff_getElem?.1 ht
    rw [List.getElem?_take] at hn
    split at hn
    · simp only [Bool.and_eq_true, beq_iff_eq] at h
      exact ⟨n, t, by assumption, hn, h.1, h.2⟩
    · cases hn
  · rintro ⟨n, t, h1, h2, h3, h4⟩
    refine ⟨t, List.mem_iff_getElem?.2 ⟨n, ?_⟩, by simp [h3, h4]⟩
    rw [List.getElem?_take, if_pos h1]
    exact h2
/-- How many of a thread's calls are answered. -/
def upK (calls : List Cl) : Ph → Nat
  | .turn _ _ _ _ ii _ => ii
  | .wait _ _ _ ii _ => ii
  | .done _ => calls.length
/-- Where a thread sits. b: 0 nobody has looked at what is guarded since the last one, 1 he has looked, 2 he has written. -/
def KSeat (T : List Tk) (d b i : Nat) (se : Int) (calls : List Cl) : Ph → Prop
  | .turn op j q rest ii ans => rest = calls.drop (ii + 1) ∧ ∃ c, calls[ii]? = some c ∧
      ((q = (0, [c.ca]) ∧ op = 5 ∧ j = 0 ∧ c.po = 1) ∨
       (∃ n : Nat, q = (1, [c.ca, (n : Int)]) ∧ op = 1 ∧ j = 1 ∧ T[n]? = some ⟨i, ii, c.ca⟩ ∧ d ≤ n ∧ (n = d → b = 0)) ∨
       (q = (2, [c.ca]) ∧ op = 1 ∧ j = 2 ∧ T[d]? = some ⟨i, ii, c.ca⟩ ∧ b = 0) ∨
       (q = (3, [c.ca, sumK T d]) ∧ op = 2 ∧ j = 2 ∧ T[d]? = some ⟨i, ii, c.ca⟩ ∧ b = 1) ∨
       (q = (4, [sumK T d]) ∧ op = 5 ∧ j = 1 ∧ T[d]? = some ⟨i, ii, c.ca⟩ ∧ b = 2) ∨
       (q = (5, [c.ca]) ∧ op = 1 ∧ j = 1 ∧ c.po = 2) ∨
       (∃ m : Nat, q = (7, [c.ca, (m : Int)]) ∧ op = 4 ∧ j = 0 ∧ c.po = 2 ∧ m ≤ d))
  | .wait j q rest ii ans => j = 1 ∧ rest = calls.drop (ii + 1) ∧ ∃ c, calls[ii]? = some c ∧ ∃ n : Nat, q = (6, [c.ca, (n : Int)]) ∧ T[n]? = some ⟨i, ii, c.ca⟩ ∧ d ≤ n ∧ (n = d → b = 0) ∧ se < n
  | .done _ => True
/-- He has the ticket n. -/
def Hold (d n : Nat) : Ph → Prop
  | .turn _ _ q _ _ _ => (∃ a, q = (1, [a, (n : Int)])) ∨ (n = d ∧ (q.1 = 2 ∨ q.1 = 3 ∨ q.1 = 4))
  | .wait _ q _ _ _ => ∃ a, q = (6, [a, (n : Int)])
  | .done _ => False
/-- The trace, read for a call: 0 it has not begun, 1 it has, 2 it did a step on what is guarded, 3 it has ended with none. -/
def mstep (i k : Nat) (s : Nat) (x : Stp) : Nat :=
  if x.th = (i : Int) then
    if s = 0 then (if x.op = 10 ∧ x.ol = (k : Int) then 3 else if x.op = 9 ∧ x.ol = (k : Int) then (if x.ce = 2 then 2 else 1) else 0)
    else if s = 1 then (if x.op = 10 ∧ x.ol = (k : Int) then 3 else if x.ce = 2 then 2 else 1)
    else s
  else s
def mst (i k : Nat) (L : List Stp) : Nat := L.foldl (mstep i k) 0
theorem mst_app (i k : Nat) (L X : List Stp) : mst i k (L ++ X) = X.foldl (mstep i k) (mst i k L) := List.foldl_append ..
theorem fold_oth {i k : Nat} : ∀ (X : List Stp) (s : Nat), (∀ x ∈ X, x.th ≠ (i : Int)) → X.foldl (mstep i k) s = s
  | [], _, _ => rfl
  | x :: X, s, h => by
    rw [List.foldl_cons, show mstep i k s x = s by unfold mstep; rw [if_neg (h x (List.mem_cons_self ..))]]
    exact fold_oth X s (fun y hy => h y (List.mem_cons_of_mem _ hy))
def wantM (T : List Tk) (d i k : Nat) : Nat := if tkd T d i k then 2 else 3
def want (T : List Tk) (d i k : Nat) (calls : List Cl) : Ph → Nat
  | .turn _ _ q _ ii _ => if k < ii then wantM T d i k else if k = ii then (if q.1 = 3 ∨ q.1 = 4 then 2 else 1) else 0
  | .wait _ _ _ ii _ => if k < ii then wantM T d i k else if k = ii then 1 else 0
  | .done _ => if k < calls.length then wantM T d i k else 0
/-- A draw; a step on what is guarded. -/
def isT (s : Stp) : Bool := s.ce == 0 && s.op != 1 && s.ol != s.ne
def drw (L : List Stp) : List Int := (L.filter isT).map (·.th)
def gst (L : List Stp) : List Stp := L.filter fun s => s.ce == 2
def pairs (T : List Tk) : Nat → List Stp
  | 0 => []
  | n + 1 => pairs T n ++ (match T[n]? with | some t => [⟨t.th, 2, 1, sumK T n, sumK T n⟩, ⟨t.th, 2, 2, sumK T n, sumK T (n + 1)⟩] | none => [])
theorem pairs_app (T : List Tk) (t : Tk) : ∀ n, n ≤ T.length → pairs (T ++ [t]) n = pairs T n
  | 0, _ => rfl
  | n + 1, h => by
    simp only [pairs]
    rw [pairs_app T t n (by omega), List.getElem?_append_left (by omega), sumK_app T t n (by omega), sumK_app T t (n + 1) h]
def cur (T : List Tk) (d b : Nat) : List Stp :=
  match b, T[d]? with
  | 1, some t => [⟨t.th, 2, 1, sumK T d, sumK T d⟩]
  | 2, some t => [⟨t.th, 2, 1, sumK T d, sumK T d⟩, ⟨t.th, 2, 2, sumK T d, sumK T (d + 1)⟩]
  | _, _ => []
/-- An answered call that had no ticket. -/
def Un (calls : List Cl) (ans : List (Int × Int)) (k : Nat) : Prop := ∃ c a, calls[k]? = some c ∧ ans[k]? = some a ∧ ((a = (0, -1) ∧ c.po = 2) ∨ a.1 ≠ 0)

/-- What holds of a lock's Play. -/
structure KI (N : Nat) (cl : Nat → List Cl) (T : List Tk) (d b : Nat) (v : Vw) : Prop where
  le : d ≤ T.length
  num : v.K = [(T.length : Int), (d : Int), sumK T (if b = 2 then d + 1 else d)]
  chg : ∃ c0 c2, v.chg = [c0, (d : Int), c2]
  stk : v.stk = false
  bb : b ≠ 0 → d < T.length
  len : ∀ i, i < N → (v.l i).ans.length = (cl i).length
  seat : ∀ i, i < N → KSeat T d b i (v.se i) (cl i) (v.l i)
  hold : ∀ n t, d ≤ n → T[n]? = some t → t.th < N ∧ Hold d n (v.l t.th)
  old : ∀ n t, n < d → T[n]? = some t → t.th < N ∧ t.k < upK (cl t.th) (v.l t.th) ∧ (∃ c, (cl t.th)[t.k]? = some c ∧ c.ca = t.a) ∧ (v.l t.th).ans[t.k]? = some (0, sumK T n)
  un : ∀ i, i < N → ∀ k, k < upK (cl i) (v.l i) → tkd T d i k = false → Un (cl i) (v.l i).ans k
  ord : ∀ (n m : Nat) (t u : Tk), n < m → T[n]? = some t → T[m]? = some u → t.th = u.th → t.k < u.k
  small : T.length ≤ v.L.length
  dr : drw v.L = T.map fun t => (t.th : Int)
  two : gst v.L = pairs T d ++ cur T d b
  ms : ∀ i, i < N → ∀ k, mst i k v.L = want T d i k (cl i) (v.l i)

section
variable {T : List Tk} {d b i : Nat} {se : Int} {calls : List Cl} {l : Ph}
theorem get_app {n : Nat} {x t : Tk} (h : T[n]? = some x) : (T ++ [t])[n]? = some x := by
  rw [List.getElem?_append_left (List.getElem?_eq_some_iff.1 h).1]; exact h
theorem KSeat.app (t : Tk) (hd : d ≤ T.length) (h : KSeat T d b i se calls l) : KSeat (T ++ [t]) d b i se calls l := by
  match l, h with
  | .done a, _ => trivial
  | .wait j q rest ii ans, ⟨h1, h2, c, hc, n, h3, h4, h5⟩ => exact ⟨h1, h2, c, hc, n, h3, get_app h4, h5⟩
  | .turn op j q rest ii ans, ⟨hr, c, hc, h⟩ =>
    refine ⟨hr, c, hc, ?_⟩
    rw [sumK_app T t d hd]
    rcases h with h | ⟨n, h1, h2, h3, h4, h5⟩ | ⟨h1, h2, h3, h4, h5⟩ | ⟨h1, h2, h3, h4, h5⟩ | ⟨h1, h2, h3, h4, h5⟩ | h | h
    · exact .inl h
    · exact .inr (.inl ⟨n, h1, h2, h3, get_app h4, h5⟩)
    · exact .inr (.inr (.inl ⟨h1, h2, h3, get_app h4, h5⟩))
    · exact .inr (.inr (.inr (.inl ⟨h1, h2, h3, get_app h4, h5⟩)))
    · exact .inr (.inr (.inr (.inr (.inl ⟨h1, h2, h3, get_app h4, h5⟩))))
    · exact .inr (.inr (.inr (.inr (.inr (.inl h)))))
    · exact .inr (.inr (.inr (.inr (.inr (.inr h)))))
/-- Another one has the ticket that is called. -/
theorem KSeat.oth {o : Tk} (ho : T[d]? = some o) (hne : o.th ≠ i) (h : KSeat T d b i se calls l) (b' : Nat) : KSeat T d b' i se calls l ∧ KSeat T (d + 1) 0 i se calls l := by
  have no : ∀ {k : Nat} {a : Int}, T[d]? = some ⟨i, k, a⟩ → False := fun h => hne (by rw [ho] at h; cases h; rfl)
  match l, h with
  | .done a, _ => exact ⟨trivial, trivial⟩
  | .wait j q rest ii ans, ⟨h1, h2, c, hc, n, h3, h4, h5, h6, h7⟩ =>
    have hn : n ≠ d := fun e => no (by rw [← e]; exact h4)
    exact ⟨⟨h1, h2, c, hc, n, h3, h4, h5, fun e => absurd e hn, h7⟩, ⟨h1, h2, c, hc, n, h3, h4, by omega, fun _ => rfl, h7⟩⟩
  | .turn op j q rest ii ans, ⟨hr, c, hc, h⟩ =>
    rcases h with h | ⟨n, h1, h2, h3, h4, h5, h6⟩ | ⟨h1, h2, h3, h4, h5⟩ | ⟨h1, h2, h3, h4, h5⟩ | ⟨h1, h2, h3, h4, h5⟩ | h | ⟨m, h1, h2, h3, h4, h5⟩
    · exact ⟨⟨hr, c, hc, .inl h⟩, ⟨hr, c, hc, .inl h⟩⟩
    · have hn : n ≠ d := fun e => no (by rw [← e]; exact h4)
      exact ⟨⟨hr, c, hc, .inr (.inl ⟨n, h1, h2, h3, h4, h5, fun e => absurd e hn⟩)⟩, ⟨hr, c, hc, .inr (.inl ⟨n, h1, h2, h3, h4, by omega, fun _ => rfl⟩)⟩⟩
    · exact (no h4).elim
    · exact (no h4).elim
    · exact (no h4).elim
    · exact ⟨⟨hr, c, hc, .inr (.inr (.inr (.inr (.inr (.inl h)))))⟩, ⟨hr, c, hc, .inr (.inr (.inr (.inr (.inr (.inl h)))))⟩⟩
    · exact ⟨⟨hr, c, hc, .inr (.inr (.inr (.inr (.inr (.inr ⟨m, h1, h2, h3, h4, h5⟩)))))⟩, ⟨hr, c, hc, .inr (.inr (.inr (.inr (.inr (.inr ⟨m, h1, h2, h3, h4, by omega⟩)))))⟩⟩
end

/-- From a call's beginning to the next seat. -/
theorem fw_lock {T : List Tk} {d b i : Nat} {calls rest : List Cl} {ii : Nat} {sk : Bool} {ans : List (Int × Int)} {X : List Stp} {l : Ph} (h : Fw mcLock i false rest ii sk ans X l) :
    ∀ ms : Nat → Nat, sk = false → rest = calls.drop ii → ii ≤ calls.length → ans.length = calls.length → (∀ k, ii ≤ k → tkd T d i k = false) → (∀ k, ms k = if k < ii then wantM T d i k else 0) → (∀ k, k < ii → tkd T d i k = false → Un calls ans k) →
    l.ans.length = calls.length ∧ (∀ se, KSeat T d b i se calls l) ∧ (∀ k, X.foldl (mstep i k) (ms k) = want T d i k calls l) ∧ (∀ s ∈ X, s.ce = -1 ∧ s.th = (i : Int)) ∧ (∀ k, k < ii → l.ans[k]? = ans[k]?) ∧ ii ≤ upK calls l ∧ (∀ e n, ¬ Hold e n l) ∧ (∀ k, k < upK calls l → tkd T d i k = false → Un calls l.ans k) := by
  induction h with
  | @nil ii sk ans =>
    intro ms hsk hr hl ha ht hm hu
    have : ii = calls.length := by
      have := congrArg List.length hr
      simp at this
      omega
    subst this
    exact ⟨ha, fun se => trivial, hm, fun s hs => (nomatch hs), fun k hk => rfl, Nat.le_refl _, fun e n h => h, hu⟩
  | @skip c rest ii ans X l h ih => intro ms hsk; cases hsk
  | @ans c rest ii ans X l e x hst h ih =>
    intro ms hsk hr hl ha ht hm hu
    have hlt : ii < calls.length := by
      have := congrArg List.length hr
      simp at this
      omega
    have hc : calls[ii]? = some c := by
      have : (calls.drop ii)[0]? = some c := by rw [← hr]; rfl
      simpa using this
    have hr' : rest = calls.drop (ii + 1) := by
      have := congrArg List.tail hr
      simpa [List.tail_drop] using this
    obtain ⟨rfl, rfl⟩ : e = 1 ∧ x = 0 := by
      unfold mcLock at hst
      simp only at hst
      split at hst
      · cases hst
      · split at hst
        · cases hst
        · cases hst; exact ⟨rfl, rfl⟩
    have hset : ∀ k, k < ii → (ans.set ii (1, 0))[k]? = ans[k]? := fun k hk => by rw [List.getElem?_set, if_neg (by omega)]
    obtain ⟨f1, f2, f3, f4, f5, f6, f7, f8⟩ := ih (fun k => if k < ii + 1 then wantM T d i k else 0) rfl hr' (by omega) (by simpa using ha) (fun k hk => ht k (by omega)) (fun k => rfl) (fun k hk hT => by
      by_cases e : k = ii
      · subst e
        exact ⟨c, (1, 0), hc, by rw [List.getElem?_set, if_pos rfl, if_pos (by omega)], .inr (by decide)⟩
      · obtain ⟨c', a', h1, h2, h3⟩ := hu k (by omega) hT
        exact ⟨c', a', h1, by rw [hset k (by omega)]; exact h2, h3⟩)
    refine ⟨f1, f2, fun k => ?_, fun s hs => ?_, fun k hk => (f5 k (by omega)).trans (hset k hk), by omega, f7, f8⟩
    · rw [← f3 k, List.foldl_cons, List.foldl_cons]
      congr 1
      rw [hm k]
      by_cases h1 : k < ii
      · rw [if_pos h1, if_pos (by omega)]
        unfold wantM
        split <;> simp [mstep]
      · rw [if_neg h1]
        by_cases h2 : k = ii
        · subst h2
          rw [if_pos (by omega)]
          unfold wantM
          rw [ht k (Nat.le_refl _)]
          simp [mstep]
        · rw [if_neg (by omega)]
          have : ¬ ((ii : Int) = (k : Int)) := by omega
          simp [mstep, this]
    · simp only [List.mem_cons] at hs
      rcases hs with rfl | rfl | hs
      · exact ⟨rfl, rfl⟩
      · exact ⟨rfl, rfl⟩
      · exact f4 s hs
  | @turn c rest ii ans op j q hst =>
    intro ms hsk hr hl ha ht hm hu
    have hlt : ii < calls.length := by
      have := congrArg List.length hr
      simp at this
      omega
    have hc : calls[ii]? = some c := by
      have : (calls.drop ii)[0]? = some c := by rw [← hr]; rfl
      simpa using this
    have hr' : rest = calls.drop (ii + 1) := by
      have := congrArg List.tail hr
      simpa [List.tail_drop] using this
    have hst' : (q = (0, [c.ca]) ∧ op = 5 ∧ j = 0 ∧ c.po = 1) ∨ (q = (5, [c.ca]) ∧ op = 1 ∧ j = 1 ∧ c.po = 2) := by
      unfold mcLock at hst
      simp only at hst
      split at hst
      · cases hst; exact .inl ⟨rfl, rfl, rfl, by assumption⟩
      · split at hst
        · cases hst; exact .inr ⟨rfl, rfl, rfl, by assumption⟩
        · cases hst
    refine ⟨ha, fun se => ⟨hr', c, hc, hst'.imp id (fun h => .inr (.inr (.inr (.inr (.inl h)))))⟩, fun k => ?_, fun s hs => ?_, fun k _ => rfl, Nat.le_refl _, fun e n h => ?_, hu⟩
    · have hq : ¬ (q.1 = 3 ∨ q.1 = 4) := by rcases hst' with h | h <;> rw [h.1] <;> simp
      rw [hm k]
      show mstep i k _ _ = (if k < ii then wantM T d i k else if k = ii then (if q.1 = 3 ∨ q.1 = 4 then 2 else 1) else 0)
      rw [if_neg hq]
      by_cases h1 : k < ii
      · rw [if_pos h1, if_pos h1]
        unfold wantM
        split <;> simp [mstep]
      · rw [if_neg h1, if_neg h1]
        by_cases h2 : k = ii
        · subst h2
          simp [mstep]
        · have : ¬ ((ii : Int) = (k : Int)) := by omega
          simp [mstep, this, h2]
    · simp only [List.mem_singleton] at hs
      subst hs
      exact ⟨rfl, rfl⟩
    · rcases hst' with ⟨rfl, _⟩ | ⟨rfl, _⟩
      · rcases h with ⟨a, h⟩ | ⟨_, h⟩
        · cases h
        · exact absurd h (by simp)
      · rcases h with ⟨a, h⟩ | ⟨_, h⟩
        · cases h
        · exact absurd h (by simp)
  | @wait c rest ii ans j q hst _ =>
    exfalso
    unfold mcLock at hst
    simp only at hst
    split at hst
    · cases hst
    · split at hst <;> cases hst
  | @waits c rest ii ans X l j q hst _ _ _ =>
    exfalso
    unfold mcLock at hst
    simp only at hst
    split at hst
    · cases hst
    · split at hst <;> cases hst
end Go.Proofs.Ytehingmdmijedaa.Gen

/- A lock's Play: each move keeps what holds of it. -/
set_option linter.unusedSimpArgs false
set_option linter.unusedVariables false
namespace Go.Proofs.Ytehingmdmijedaa.Gen
open Go Go.Lift Go.Conc Go.RowKit
open Go.ConcN (upd upd_same upd_ne)

theorem gst_app (A B : List Stp) : gst (A ++ B) = gst A ++ gst B := List.filter_append ..
theorem drw_app (A B : List Stp) : drw (A ++ B) = drw A ++ drw B := by unfold drw; rw [List.filter_append, List.map_append]
theorem want_app {T : List Tk} {d : Nat} (t : Tk) (h : d ≤ T.length) (i k : Nat) (calls : List Cl) (l : Ph) : want (T ++ [t]) d i k calls l = want T d i k calls l := by
  cases l <;> simp only [want, wantM, tkd_app t h]
theorem want_eq {T : List Tk} {d d' i k : Nat} {calls : List Cl} {l : Ph} (h : tkd T d' i k = tkd T d i k) : want T d' i k calls l = want T d i k calls l := by
  cases l <;> simp only [want, wantM, h]
theorem cur_app {T : List Tk} {d b : Nat} (t : Tk) (h : b ≠ 0 → d < T.length) : cur (T ++ [t]) d b = cur T d b := by
  by_cases hb : b = 0
  · subst hb
    simp [cur]
  · have hd := h hb
    unfold cur
    rw [List.getElem?_append_left hd, sumK_app T t d (by omega), sumK_app T t (d + 1) (by omega)]
section
variable {N : Nat} {cl : Nat → List Cl} {T : List Tk} {d b : Nat} {v v1 : Vw} {i : Nat} {l' : Ph}
/-- A step within a call. -/
theorem KI.stay (h : KI N cl T d b v) (hi : i < N) (e : Els i l' v v1) {b' : Nat} {s : Stp} (hs : s.th = (i : Int)) (eL : v1.L = v.L ++ [s]) (eS : v1.stk = false)
    (num : v1.K = [(T.length : Int), (d : Int), sumK T (if b' = 2 then d + 1 else d)]) (chg : ∃ c0 c2, v1.chg = [c0, (d : Int), c2]) (bb : b' ≠ 0 → d < T.length)
    (seat : KSeat T d b' i (v1.se i) (cl i) l') (oth : b' = b ∨ ∃ o, T[d]? = some o ∧ o.th = i)
    (hH : ∀ n, Hold d n (v.l i) → Hold d n l') (ha : l'.ans = (v.l i).ans) (hu : upK (cl i) l' = upK (cl i) (v.l i)) (nt : isT s = false) (tw : cur T d b ++ gst [s] = cur T d b')
    (hm : ∀ k, mstep i k (want T d i k (cl i) (v.l i)) s = want T d i k (cl i) l') : KI N cl T d b' v1 := by
  have hv : v1.l = upd v.l i l' := e.l
  have own : v1.l i = l' := by rw [hv, upd_same]
  have els : ∀ k, k ≠ i → v1.l k = v.l k := fun k hk => by rw [hv, upd_ne _ _ hk]
  have hans : ∀ k, (v1.l k).ans = (v.l k).ans := fun k => by
    by_cases hk : k = i
    · subst hk; rw [own, ha]
    · rw [els k hk]
  have hup : ∀ k, upK (cl k) (v1.l k) = upK (cl k) (v.l k) := fun k => by
    by_cases hk : k = i
    · subst hk; rw [own, hu]
    · rw [els k hk]
  refine ⟨h.le, num, chg, eS, bb, fun k hk => by rw [hans]; exact h.len k hk, fun k hk => ?_, fun n t hn ht => ?_, fun n t hn ht => ?_, fun k hk j hj hT => ?_, h.ord, ?_, ?_, ?_, fun k hk j => ?_⟩
  · by_cases hne : k = i
    · subst hne; rw [own]; exact seat
    · rw [els k hne, e.oth k hne]
      rcases oth with rfl | ⟨o, ho, hoi⟩
      · exact h.seat k hk
      · exact ((h.seat k hk).oth ho (by rw [hoi]; exact fun x => hne x.symm) b').1
  · obtain ⟨h1, h2⟩ := h.hold n t hn ht
    refine ⟨h1, ?_⟩
    by_cases hne : t.th = i
    · rw [hne] at h2 ⊢; rw [own]; exact hH n h2
    · rw [els _ hne]; exact h2
  · obtain ⟨h1, h2, h3, h4⟩ := h.old n t hn ht
    exact ⟨h1, by rw [hup]; exact h2, h3, by rw [hans]; exact h4⟩
  · rw [hup] at hj; rw [hans]; exact h.un k hk j hj hT
  · rw [eL, List.length_append]; have := h.small; simp; omega
  · rw [eL, drw_app, h.dr]; simp [drw, nt]
  · rw [eL, gst_app, h.two, List.append_assoc, tw]
  · rw [eL, mst_app, h.ms k hk j]
    by_cases hne : k = i
    · subst hne; rw [own]; exact hm j
    · rw [els k hne]
      exact fold_oth [s] _ (fun x hx => by rw [List.mem_singleton] at hx; rw [hx, hs]; intro e; exact hne (by omega))

/-- A ticket is drawn. -/
theorem KI.draw (h : KI N cl T d b v) (hi : i < N) (e : Els i l' v v1) {ii : Nat} {c : Cl} {s : Stp} (hs : s.th = (i : Int)) (eL : v1.L = v.L ++ [s]) (eS : v1.stk = false) (hc : (cl i)[ii]? = some c) (hii : upK (cl i) (v.l i) = ii) (noH : ∀ n, ¬ Hold d n (v.l i))
    (num : v1.K = [((T.length + 1 : Nat) : Int), (d : Int), sumK T (if b = 2 then d + 1 else d)]) (chg : ∃ c0 c2, v1.chg = [c0, (d : Int), c2])
    (seat : KSeat (T ++ [⟨i, ii, c.ca⟩]) d b i (v1.se i) (cl i) l') (hH : Hold d T.length l') (ha : l'.ans = (v.l i).ans) (hu : upK (cl i) l' = upK (cl i) (v.l i)) (it : isT s = true) (tw : gst [s] = [])
    (hm : ∀ k, mstep i k (want T d i k (cl i) (v.l i)) s = want T d i k (cl i) l') : KI N cl (T ++ [⟨i, ii, c.ca⟩]) d b v1 := by
  have hv : v1.l = upd v.l i l' := e.l
  have own : v1.l i = l' := by rw [hv, upd_same]
  have els : ∀ k, k ≠ i → v1.l k = v.l k := fun k hk => by rw [hv, upd_ne _ _ hk]
  have hans : ∀ k, (v1.l k).ans = (v.l k).ans := fun k => by
    by_cases hk : k = i
    · subst hk; rw [own, ha]
    · rw [els k hk]
  have hup : ∀ k, upK (cl k) (v1.l k) = upK (cl k) (v.l k) := fun k => by
    by_cases hk : k = i
    · subst hk; rw [own, hu]
    · rw [els k hk]
  have hle := h.le
  have get : ∀ n t, (T ++ [(⟨i, ii, c.ca⟩ : Tk)])[n]? = some t → (n < T.length ∧ T[n]? = some t) ∨ (n = T.length ∧ t = ⟨i, ii, c.ca⟩) := fun n t ht => by
    rw [List.getElem?_append] at ht
    split at ht
    · exact .inl ⟨by assumption, ht⟩
    · obtain ⟨h1, h2⟩ := List.getElem?_eq_some_iff.1 ht
      simp only [List.length_singleton] at h1
      have h3 : n = T.length := by omega
      subst h3
      simp at ht
      exact .inr ⟨rfl, ht.symm⟩
  have hsum : sumK (T ++ [(⟨i, ii, c.ca⟩ : Tk)]) (if b = 2 then d + 1 else d) = sumK T (if b = 2 then d + 1 else d) := sumK_app _ _ _ (by
    split
    · have := h.bb (by omega); omega
    · exact hle)
  refine ⟨by simp; omega, by rw [num, hsum]; simp, chg, eS, fun hb => by have := h.bb hb; simp; omega, fun k hk => by rw [hans]; exact h.len k hk, fun k hk => ?_, fun n t hn ht => ?_, fun n t hn ht => ?_, fun k hk j hj hT => ?_, fun n m t u hnm hn hm he => ?_, ?_, ?_, ?_, fun k hk j => ?_⟩
  · by_cases hne : k = i
    · subst hne; rw [own]; exact seat
    · rw [els k hne, e.oth k hne]
      exact (h.seat k hk).app _ hle
  · rcases get n t ht with ⟨h1, h2⟩ | ⟨h1, h2⟩
    · obtain ⟨g1, g2⟩ := h.hold n t hn h2
      refine ⟨g1, ?_⟩
      by_cases hne : t.th = i
      · rw [hne] at g2; exact absurd g2 (noH n)
      · rw [els _ hne]; exact g2
    · subst h1 h2
      exact ⟨hi, by show Hold d T.length (v1.l i); rw [own]; exact hH⟩
  · rcases get n t ht with ⟨h1, h2⟩ | ⟨h1, h2⟩
    · obtain ⟨g1, g2, g3, g4⟩ := h.old n t hn h2
      exact ⟨g1, by rw [hup]; exact g2, g3, by rw [hans, sumK_app T _ n (by omega)]; exact g4⟩
    · omega
  · rw [tkd_app _ hle] at hT
    rw [hup] at hj; rw [hans]; exact h.un k hk j hj hT
  · rcases get n t hn with ⟨h1, h2⟩ | ⟨h1, h2⟩
    · rcases get m u hm with ⟨h3, h4⟩ | ⟨h3, h4⟩
      · exact h.ord n m t u hnm h2 h4 he
      · subst h4
        have he : t.th = i := he
        show t.k < ii
        by_cases hd : n < d
        · have := (h.old n t hd h2).2.1
          rw [he, hii] at this
          exact this
        · have := (h.hold n t (by omega) h2).2
          rw [he] at this
          exact absurd this (noH n)
    · rcases get m u hm with ⟨h3, h4⟩ | ⟨h3, h4⟩ <;> omega
  · rw [eL, List.length_append, List.length_append]; have := h.small; simp; omega
  · rw [eL, drw_app, h.dr, List.map_append]; simp [drw, it, hs]
  · rw [eL, gst_app, h.two, tw, List.append_nil, pairs_app T _ d hle, cur_app _ h.bb]
  · rw [eL, mst_app, h.ms k hk j, want_app _ hle]
    by_cases hne : k = i
    · subst hne; rw [own]; exact hm j
    · rw [els k hne]
      exact fold_oth [s] _ (fun x hx => by rw [List.mem_singleton] at hx; rw [hx, hs]; intro e; exact hne (by omega))

/-- A call has its answer. -/
theorem KI.answer (h : KI N cl T d b v) (hi : i < N) (e : Els i l' v v1) {rest : List Cl} {ii : Nat} {ans : List (Int × Int)} {c : Cl} {y : Int} {X' : List Stp} {s : Stp} {d' b' : Nat} (hl' : (v.l i).ans = ans) (hii : upK (cl i) (v.l i) = ii) (hr : rest = (cl i).drop (ii + 1)) (hc : (cl i)[ii]? = some c)
    (hF : Fw mcLock i false rest (ii + 1) false (ans.set ii (0, y)) X' l') (hs : s.th = (i : Int)) (eL : v1.L = v.L ++ s :: ⟨i, -1, 10, ii, 0⟩ :: X') (eS : v1.stk = false)
    (le' : d' ≤ T.length) (num : v1.K = [(T.length : Int), (d' : Int), sumK T (if b' = 2 then d' + 1 else d')]) (chg : ∃ c0 c2, v1.chg = [c0, (d' : Int), c2]) (bb : b' ≠ 0 → d' < T.length)
    (oth : ∀ k se, k ≠ i → KSeat T d b k se (cl k) (v.l k) → KSeat T d' b' k se (cl k) (v.l k))
    (hold : ∀ n t, d' ≤ n → T[n]? = some t → d ≤ n ∧ t.th ≠ i ∧ (Hold d n (v.l t.th) → Hold d' n (v.l t.th)))
    (old : ∀ n t, n < d' → ¬ n < d → T[n]? = some t → t = ⟨i, ii, c.ca⟩ ∧ y = sumK T n)
    (tke : ∀ k j, k ≠ i ∨ j ≠ ii → tkd T d' k j = tkd T d k j) (un : tkd T d' i ii = false → y = -1 ∧ c.po = 2)
    (nt : isT s = false) (tw : pairs T d ++ cur T d b ++ gst [s] = pairs T d' ++ cur T d' b')
    (hm : ∀ k, mstep i k (mstep i k (want T d i k (cl i) (v.l i)) s) ⟨i, -1, 10, ii, 0⟩ = if k < ii + 1 then wantM T d' i k else 0) : KI N cl T d' b' v1 := by
  have hv : v1.l = upd v.l i l' := e.l
  have own : v1.l i = l' := by rw [hv, upd_same]
  have els : ∀ k, k ≠ i → v1.l k = v.l k := fun k hk => by rw [hv, upd_ne _ _ hk]
  have hlt : ii < (cl i).length := (List.getElem?_eq_some_iff.1 hc).1
  have hlen : ans.length = (cl i).length := by rw [← hl']; exact h.len i hi
  have hset : ∀ k, k < ii → (ans.set ii (0, y))[k]? = ans[k]? := fun k hk => by rw [List.getElem?_set, if_neg (by omega)]
  have hself : (ans.set ii (0, y))[ii]? = some (0, y) := by rw [List.getElem?_set, if_pos rfl, if_pos (by omega)]
  obtain ⟨f1, f2, f3, f4, f5, f6, f7, f8⟩ := fw_lock (T := T) (d := d') (b := b') (calls := cl i) hF (fun k => if k < ii + 1 then wantM T d' i k else 0) rfl hr (by omega) (by simpa using hlen) (fun k hk => by
      rw [tke i k (.inr (by omega))]
      cases hT : tkd T d i k with
      | false => rfl
      | true =>
        obtain ⟨n, t, h1, h2, h3, h4⟩ := tkd_iff.1 hT
        have := (h.old n t h1 h2).2.1
        rw [h3, hii] at this
        omega) (fun k => rfl) (fun k hk hT => by
      by_cases e : k = ii
      · subst e
        obtain ⟨rfl, hp⟩ := un hT
        exact ⟨c, _, hc, hself, .inl ⟨rfl, hp⟩⟩
      · rw [tke i k (.inr e)] at hT
        obtain ⟨c', a', h1, h2, h3⟩ := h.un i hi k (by omega) hT
        exact ⟨c', a', h1, by rw [hset k (by omega), ← hl']; exact h2, h3⟩)
  have hX : ∀ x ∈ (⟨i, -1, 10, ii, 0⟩ : Stp) :: X', x.ce = -1 ∧ x.th = (i : Int) := fun x hx => by
    simp only [List.mem_cons] at hx
    rcases hx with rfl | hx
    · exact ⟨rfl, rfl⟩
    · exact f4 x hx
  have hd0 : drw ((⟨i, -1, 10, ii, 0⟩ : Stp) :: X') = [] := by
    unfold drw
    rw [List.filter_eq_nil_iff.2 (fun x hx => by unfold isT; rw [(hX x hx).1]; simp)]
    rfl
  have ht0 : gst ((⟨i, -1, 10, ii, 0⟩ : Stp) :: X') = [] := List.filter_eq_nil_iff.2 (fun x hx => by rw [(hX x hx).1]; simp)
  refine ⟨le', num, chg, eS, bb, fun k hk => ?_, fun k hk => ?_, fun n t hn ht => ?_, fun n t hn ht => ?_, fun k hk j hj hT => ?_, h.ord, ?_, ?_, ?_, fun k hk j => ?_⟩
  · by_cases hne : k = i
    · subst hne; rw [own]; exact f1
    · rw [els k hne]; exact h.len k hk
  · by_cases hne : k = i
    · subst hne; rw [own]; exact f2 _
    · rw [els k hne, e.oth k hne]
      exact oth k _ hne (h.seat k hk)
  · obtain ⟨g1, g2, g3⟩ := hold n t hn ht
    obtain ⟨h1, h2⟩ := h.hold n t g1 ht
    exact ⟨h1, by rw [els _ g2]; exact g3 h2⟩
  · by_cases hnd : n < d
    · obtain ⟨h1, h2, h3, h4⟩ := h.old n t hnd ht
      refine ⟨h1, ?_, h3, ?_⟩
      · by_cases hne : t.th = i
        · rw [hne] at h2 ⊢; rw [own]; omega
        · rw [els _ hne]; exact h2
      · by_cases hne : t.th = i
        · rw [hne] at h2 h4 ⊢
          rw [own, f5 _ (by omega), hset _ (by omega), ← hl']
          exact h4
        · rw [els _ hne]; exact h4
    · obtain ⟨rfl, hy⟩ := old n t hn hnd ht
      refine ⟨hi, ?_, ⟨c, hc, rfl⟩, ?_⟩
      · show ii < upK (cl i) (v1.l i)
        rw [own]; omega
      · show (v1.l i).ans[ii]? = _
        rw [own, f5 _ (by omega), hself, hy]
  · by_cases hne : k = i
    · subst hne; rw [own] at hj ⊢; exact f8 j hj hT
    · rw [els k hne] at hj ⊢
      rw [tke k j (.inl hne)] at hT
      exact h.un k hk j hj hT
  · rw [eL, List.length_append]; have := h.small; simp; omega
  · rw [eL, show s :: (⟨i, -1, 10, ii, 0⟩ : Stp) :: X' = [s] ++ ((⟨i, -1, 10, ii, 0⟩ : Stp) :: X') from rfl, drw_app, drw_app, hd0, h.dr]; simp [drw, nt]
  · rw [eL, show s :: (⟨i, -1, 10, ii, 0⟩ : Stp) :: X' = [s] ++ ((⟨i, -1, 10, ii, 0⟩ : Stp) :: X') from rfl, gst_app, gst_app, ht0, List.append_nil, h.two, tw]
  · rw [eL, mst_app, h.ms k hk j]
    by_cases hne : k = i
    · subst hne
      rw [own, List.foldl_cons, List.foldl_cons, hm j]
      exact f3 j
    · rw [els k hne, want_eq (tke k j (.inl hne))]
      refine fold_oth _ _ (fun x hx => ?_)
      rw [List.mem_cons] at hx
      rcases hx with rfl | hx
      · rw [hs]; intro e; exact hne (by omega)
      · rw [(hX x hx).2]; intro e; exact hne (by omega)
end
end Go.Proofs.Ytehingmdmijedaa.Gen

/- A lock's Play: whatever the move, what holds of it is kept; so nobody is ever stuck. -/
set_option linter.unusedSimpArgs false
set_option linter.unusedVariables false
namespace Go.Proofs.Ytehingmdmijedaa.Gen
open Go Go.Lift Go.Conc Go.RowKit
open Go.ConcN (upd upd_same upd_ne)

end Go.Proofs.Ytehingmdmijedaa.Gen

/- The lock's calls have a measure. -/
set_option linter.unusedSimpArgs false
set_option linter.unusedVariables false
namespace Go.Proofs.Ytehingmdmijedaa.Gen
open Go Go.Lift Go.Conc Go.RowKit

end Go.Proofs.Ytehingmdmijedaa.Gen

/- What came in: lists of numbers, scripts; what a Play asks of them. -/
set_option linter.unusedSimpArgs false
set_option linter.unusedVariables false
namespace Go.Proofs.Ytehingmdmijedaa.Gen
open Go Go.Lift Go.Conc Go.RowKit

def InR (x : Int) : Prop := -9223372036854775808 ≤ x ∧ x < 9223372036854775808
def Cl.ok (c : Cl) : Prop := InR c.cb ∧ InR c.cc
/-- Where a list of ints lies that came in. -/
structure InI (W : World) (p : Option Addr) (b o : Nat) (xs : List Int) : Prop where
  at_ : 0 < xs.length → p = some ⟨b, o, none⟩
  cell : ∀ k x, xs[k]? = some x → W.cell? ⟨b, o + k, none⟩ = some (I x)
  inr : ∀ x ∈ xs, InR x
  len : xs.length ≤ 17592186043904
theorem InI.grows {W W' : World} {p : Option Addr} {b o : Nat} {xs : List Int} (h : InI W p b o xs) (g : Grows W W') : InI W' p b o xs :=
  ⟨h.at_, fun k x hk => g.cell (h.cell k x hk), h.inr, h.len⟩
/-- Where scripts lie that came in. -/
structure InS (W : World) (p : Option Addr) (b o n : Nat) (pc : Nat → Option Addr) (ln cp rb : Nat → Nat) (cl : Nat → List Cl) : Prop where
  at_ : 0 < n → p = some ⟨b, o, none⟩
  row : ∀ k, k < n → W.cell? ⟨b, o + k, none⟩ = some (.slice (pc k) (ln k) (cp k))
  len : ∀ j, j < n → (cl j).length = ln j
  pq : ∀ j, j < n → 0 < ln j → pc j = some ⟨rb j, roOf (pc j), none⟩
  call : ∀ j, j < n → ∀ (k : Nat) (c : Cl), (cl j)[k]? = some c → W.cell? ⟨rb j, roOf (pc j) + k * 4, none⟩ = some (I c.po) ∧ W.cell? ⟨rb j, roOf (pc j) + k * 4 + 1, none⟩ = some (I c.ca) ∧ W.cell? ⟨rb j, roOf (pc j) + k * 4 + 2, none⟩ = some (I c.cb) ∧ W.cell? ⟨rb j, roOf (pc j) + k * 4 + 3, none⟩ = some (I c.cc)
  ok : ∀ j, j < n → ∀ c ∈ cl j, InR c.ca ∧ c.ok
  n : n ≤ 17592186043904
theorem InS.grows {W W' : World} {p : Option Addr} {b o n : Nat} {pc : Nat → Option Addr} {ln cp rb : Nat → Nat} {cl : Nat → List Cl} (h : InS W p b o n pc ln cp rb cl) (g : Grows W W') : InS W' p b o n pc ln cp rb cl :=
  ⟨h.at_, fun k hk => g.cell (h.row k hk), h.len, h.pq, fun j hj k c hc => by
    have := h.call j hj k c hc
    exact ⟨g.cell this.1, g.cell this.2.1, g.cell this.2.2.1, g.cell this.2.2.2⟩, h.ok, h.n⟩

theorem lens_scrs (mc : Mc) (fid : FuncId) (caps : Array Value) (pk : Nat → Option Obj) (N n : Nat) (K : List (Nat × Int)) (pc : Nat → Option Addr) (ln cp rb : Nat → Nat) (cl : Nat → List Cl) (hl : ∀ j, j < n → (cl j).length ≤ 64) : lens (scrs mc fid caps pk N n K pc ln cp rb cl) ≤ 64 * n := by
  unfold lens scrs
  rw [List.map_map]
  have : ∀ (m j : Nat), j + m ≤ n → ((List.range' j m).map ((fun s : Scr mc => s.calls.length) ∘ scrOf mc fid caps pk N n (K.map (·.1)) pc ln cp rb cl)).sum ≤ 64 * m := by
    intro m
    induction m with
    | zero => intro j _; simp
    | succ m ih =>
      intro j hj
      rw [List.range'_succ, List.map_cons, List.sum_cons]
      have h1 := ih (j + 1) (by omega)
      have h2 : ((fun s : Scr mc => s.calls.length) ∘ scrOf mc fid caps pk N n (K.map (·.1)) pc ln cp rb cl) j ≤ 64 := hl j (by omega)
      omega
  exact this n 0 (by omega)
theorem scrs_len (mc : Mc) (fid : FuncId) (caps : Array Value) (pk : Nat → Option Obj) (N n : Nat) (K : List (Nat × Int)) (pc : Nat → Option Addr) (ln cp rb : Nat → Nat) (cl : Nat → List Cl) : (scrs mc fid caps pk N n K pc ln cp rb cl).length = n := by simp [scrs]
/-- The world is new: the scripts lie there for Play. -/
theorem asked_of {W v : World} {p : Option Addr} {b o n : Nat} {pc : Nat → Option Addr} {ln cp rb : Nat → Nat} {cl : Nat → List Cl} (h : InS W p b o n pc ln cp rb cl) {xs : List Int} {wb bk : Nat} {sc : Value} (hn : IsNew W xs wb bk sc v) (h64 : ∀ j, j < n → ln j ≤ 64) (h0 : 0 < n) : Asked v (newS wb bk W.heap.size sc xs) n b o pc ln cp rb cl := by
  have g := h.grows hn.old
  have far : ∀ (a : Addr) (x : Value), W.cell? a = some x → ¬ Own (newS wb bk W.heap.size sc xs) [] a.block := fun a x ha ho => by
    have := hn.new _ (.inl ho)
    have := World.block_lt_of_cell? _ _ ha
    omega
  refine ⟨fun j hj => ⟨h.len j hj, h64 j hj⟩, g.row, far _ _ (h.row 0 h0), fun j hj hl => ⟨h.pq j hj hl, ?_⟩, g.call, fun j hj c hc => (h.ok j hj c hc).1⟩
  obtain ⟨c, hc⟩ : ∃ c, (cl j)[0]? = some c := ⟨_, List.getElem?_eq_getElem (by rw [h.len j hj]; exact hl)⟩
  exact far _ _ (h.call j hj 0 c hc).1

end Go.Proofs.Ytehingmdmijedaa.Gen

/- A lock's Play, from its hiring to its end. -/
set_option linter.unusedSimpArgs false
set_option linter.unusedVariables false
namespace Go.Proofs.Ytehingmdmijedaa.Gen
open Go Go.Lift Go.Conc Go.RowKit
open Go.ConcN (upd upd_same upd_ne)

/-- What a lock's Play comes to. -/
structure LockEnd (n : Nat) (cl : Nat → List Cl) (l : Nat → Ph) (L : List Stp) (T : List Tk) : Prop where
  ord : ∀ (a b : Nat) (t u : Tk), a < b → T[a]? = some t → T[b]? = some u → t.th = u.th → t.k < u.k
  tick : ∀ (m : Nat) (t : Tk), T[m]? = some t → t.th < n ∧ t.k < (cl t.th).length ∧ (∃ c, (cl t.th)[t.k]? = some c ∧ c.ca = t.a) ∧ (l t.th).ans[t.k]? = some (0, sumK T m)
  un : ∀ i, i < n → ∀ k, k < (cl i).length → tkd T T.length i k = false → Un (cl i) (l i).ans k
  dr : drw L = T.map fun t => (t.th : Int)
  two : gst L = pairs T T.length
  ms : ∀ i, i < n → ∀ k, k < (cl i).length → mst i k L = if tkd T T.length i k then 2 else 3
  small : T.length ≤ L.length

end Go.Proofs.Ytehingmdmijedaa.Gen

/- What the lock's laws read: May (30), mine (33), walked alone. (Made by wip/tools/mklokb.py.) -/
set_option linter.unusedSimpArgs false
set_option linter.unusedVariables false
namespace Go.Proofs.Ytehingmdmijedaa.Gen
open Go Go.Lift Go.Conc Go.RowKit

/-- The trace lies there. -/
def TrL (g : Nat) (L : List Stp) (v : World) : Prop := ∀ (k : Nat) (s : Stp), L[k]? = some s → v.cell? ⟨g, k * 5, none⟩ = some (I s.th) ∧ v.cell? ⟨g, k * 5 + 1, none⟩ = some (I s.ce) ∧ v.cell? ⟨g, k * 5 + 2, none⟩ = some (I s.op) ∧ v.cell? ⟨g, k * 5 + 3, none⟩ = some (I s.ol) ∧ v.cell? ⟨g, k * 5 + 4, none⟩ = some (I s.ne)

end Go.Proofs.Ytehingmdmijedaa.Gen
