/- LockFree is true of the program at this commit: by one free thread alone, of two locks of no world, Lock, Try and Unlock answer as two numbers each say, whatever the calls; no conditions. Part 34 of 37. (Joined, by program, of: LokPk, LokPkg.) -/
import Derived.Test.YtehingmdmijedaaLockFree20
import Derived.Test.YtehingmdmijedaaLockFree32
import Derived.Test.YtehingmdmijedaaLockFree33

/- The lock's calls as a machine, and that its code does what the machine says. -/
set_option linter.unusedSimpArgs false
set_option linter.unusedVariables false
namespace Go.Proofs.Ytehingmdmijedaa.Gen
open Go Go.Lift Go.Conc Go.RowKit

/-- Lock: 0 it draws a ticket, 1 it looks who is called, 6 it awaits; Try: 5 it looks, 7 it tries; both: 2 it looks at what is guarded, 3 it writes, 4 it calls the next. The first number kept is what is to be added. -/
def lockEff (q : Q) (x : Int) : (Int × Int) × Int × Value :=
  match q with
  | (0, _) => effAdd 1 x
  | (4, _) => effAdd 1 x
  | (3, a :: y :: _) => effStore (wrap64 (y + a)) x
  | (7, _ :: m :: _) => effCas m (wrap64 (m + 1)) x
  | _ => effLoad x
def lockNext (q : Q) (x : Int) : Nx :=
  match q with
  | (0, a :: _) => .turn 1 1 (1, [a, wrap64 (wrap64 (x + 1) - 1)])
  | (1, a :: n :: _) => if x = n then .turn 1 2 (2, [a]) else .wait 1 (6, [a, n])
  | (2, a :: _) => .turn 2 2 (3, [a, x])
  | (3, _ :: y :: _) => .turn 5 1 (4, [y])
  | (4, y :: _) => .ans 0 y
  | (5, a :: _) => .turn 4 0 (7, [a, x])
  | (7, a :: m :: _) => if x = m then .turn 1 2 (2, [a]) else .ans 0 (-1)
  | _ => .ans 0 0
def mcLock : Mc where
  start c := if c.po = 1 then .turn 5 0 (0, [c.ca]) else if c.po = 2 then .turn 1 1 (5, [c.ca]) else .ans 1 0
  turn q x := ((lockEff q x).1, (lockEff q x).2.1, lockNext q x)
  woke q := .turn 1 1 (1, q.2)
  stuck _ := (4, 0)

/-- What a call has for its own: two answers, and itself. -/
def tri (pb ab qb : Nat) (o : Obj) : Nat → Option Obj := fun b => if b = pb ∨ b = ab then some box0 else if b = qb then some o else none
section
variable {pb ab qb b : Nat} {o : Obj}
theorem tri_pb : tri pb ab qb o pb = some box0 := by unfold tri; rw [if_pos (.inl rfl)]
theorem tri_ab : tri pb ab qb o ab = some box0 := by unfold tri; rw [if_pos (.inr rfl)]
theorem tri_qb (h1 : qb ≠ pb) (h2 : qb ≠ ab) : tri pb ab qb o qb = some o := by unfold tri; rw [if_neg (fun h => h.elim h1 h2), if_pos rfl]
theorem tri_eq (h : tri pb ab qb o b ≠ none) : b = pb ∨ b = ab ∨ b = qb := by
  unfold tri at h
  split at h
  · rename_i h1; exact h1.imp id .inl
  · split at h
    · rename_i h1; exact .inr (.inr h1)
    · exact absurd rfl h
theorem tri_row (ho : ∃ c e f, o = .cells c e f) : ∀ b o', tri pb ab qb o b = some o' → ∃ c e f, o' = .cells c e f := fun b o' h => by
  unfold tri at h
  split at h
  · cases h; exact ⟨_, _, _, rfl⟩
  · split at h
    · cases h; exact ho
    · cases h
end

structure KMine (X : Fix mcLock) (xl xx lb gb c0 c1 : Nat) : Prop where
  caps : X.caps = #[Pt xl 0, Pt xx 0]
  mem : ∀ v, Has X.pk v → v.cell? ⟨xl, 0, none⟩ = some (Pt lb 0) ∧ v.cell? ⟨xx, 0, none⟩ = some (Pt gb 0) ∧ v.cell? ⟨lb, 0, none⟩ = some (Pt c0 0) ∧ v.cell? ⟨lb, 1, none⟩ = some (Pt c1 0)
  k0 : X.kb[0]? = some c0
  k1 : X.kb[1]? = some c1
  k2 : X.kb[2]? = some gb
/-- What a call of a lock holds. -/
structure KCall (X : Fix mcLock) (cu : Value → Goroutine) (xl xx lb gb c0 c1 pb ab qb : Nat) (o : Obj) (c61 : Value → Goroutine) (a : Int) : Prop where
  mine : KMine X xl xx lb gb c0 c1
  back : KBack (X.h == 0) pb c61 cu
  n1 : qb ≠ pb
  n2 : qb ≠ ab
  n3 : ab ≠ pb
  o : ∃ po n cc, o = .cells #[I po, I a, I n, I cc] 39 (0, 0)
/-- Below Lock or Try: e, y is its answer where it did not get it; below addTo. -/
structure KF (main : Bool) (f : Frs) (c61 : Value → Goroutine) (qb ab lb gb tb : Nat) (e y : Int) : Prop where
  oe : f.od[f.qd]? = some f.oe
  no : MBack main ab (f.cu (.bool false)) c61 e y
  yes : TBack main qb ab lb gb tb (f.cu (.bool true)) c61
structure AF (main : Bool) (f : Frs) (c61 : Value → Goroutine) (ab : Nat) : Prop where
  oe : f.od[f.qd]? = some f.oe
  back : ∀ y, MBack main ab (f.cu (I y)) c61 0 y

def lokSit (X : Fix mcLock) (x : Nx) (Mo : Nat → Option Obj) (cu : Value → Goroutine) (g : Goroutine) : Prop :=
  ∃ (xl xx lb gb c0 c1 pb ab qb : Nat) (o : Obj) (c61 : Value → Goroutine) (f : Frs) (a : Int), KCall X cu xl xx lb gb c0 c1 pb ab qb o c61 a ∧ Mo = tri pb ab qb o ∧
    ((KF (X.h == 0) f c61 qb ab lb gb X.tb 4 0 ∧
        ((x = .turn 5 0 (0, [a]) ∧ OpBack (X.h == 0) X.i 0 c0 X.tb 5 (effAdd 1) (fun r => G (kDrew lb c0 X.tb (fun _ => undef) r) (f.top :: f.fs)) g) ∨
         (∃ n u, x = .turn 1 1 (1, [a, n]) ∧ OpBack (X.h == 0) X.i 1 c1 X.tb 1 effLoad (fun r => G (kSeen lb c1 X.tb n u r) (f.top :: f.fs)) g) ∨
         (∃ n u, x = .wait 1 (6, [a, n]) ∧ WakeBack (X.h == 0) X.i X.tb 1 (fun r => G (kWoke lb X.tb n u r) (f.top :: f.fs)) g))) ∨
     (KF (X.h == 0) f c61 qb ab lb gb X.tb 0 (-1) ∧
        ((x = .turn 1 1 (5, [a]) ∧ OpBack (X.h == 0) X.i 1 c1 X.tb 1 effLoad (fun r => G (tSeen lb c1 X.tb (fun _ => undef) r) (f.top :: f.fs)) g) ∨
         (∃ m u, x = .turn 4 0 (7, [a, m]) ∧ OpBack (X.h == 0) X.i 0 c0 X.tb 4 (effCas m (wrap64 (m + 1))) (fun r => G (tTried lb X.tb u r) (f.top :: f.fs)) g))) ∨
     (AF (X.h == 0) f c61 ab ∧
        ((∃ u, x = .turn 1 2 (2, [a]) ∧ OpBack (X.h == 0) X.i 2 gb X.tb 1 effLoad (fun r => G (aSeen lb gb X.tb a u r) (f.top :: f.fs)) g) ∨
         (∃ y u, x = .turn 2 2 (3, [a, y]) ∧ OpBack (X.h == 0) X.i 2 gb X.tb 2 (effStore (wrap64 (y + a))) (fun r => G (aPut lb gb X.tb a y u r) (f.top :: f.fs)) g) ∨
         (∃ y u, x = .turn 5 1 (4, [y]) ∧ OpBack (X.h == 0) X.i 1 c1 X.tb 5 (effAdd 1) (fun r => G (aFree lb c1 X.tb r) (aEnd lb gb X.tb a y u :: f.top :: f.fs)) g))))

section
variable {X : Fix mcLock} {z : Nat → Option Nat} {cont : Addr → Value} {Ch : Nat → Prop} {Stop : Goroutine → World → Prop} {cu : Value → Goroutine} {S0 : TS} {K0 : List (Nat × Int)} {v0 : World} {Mo0 : Nat → Option Obj} {σ : TS} {κ : List (Nat × Int)} {S : TS} {v w : World} {t : Thr} {H : Nx → (Nat → Option Obj) → Goroutine → Prop} {xl xx lb gb c0 c1 pb ab qb : Nat} {o : Obj} {c61 : Value → Goroutine} {f : Frs} {x : Nx} {a : Int}

/-- The call has its answer. -/
theorem lok_ans (C : KCall X cu xl xx lb gb c0 c1 pb ab qb o c61 a) {cx : Goroutine} (e y : Int) (hM : MBack (X.h == 0) ab cx c61 e y) (hob : Ob X H z cont Ch Stop cu S0 K0 v0 Mo0 σ κ x) (hx : x = .ans e y ∨ ∃ j q, x = .wait j q ∧ σ.stk = true ∧ (e, y) = mcLock.stuck q) (N : Now X z cont Ch S0 K0 v0 Mo0 (tri pb ab qb o) σ κ S v w t) :
    GoesI Try.prog (X.h == 0) (DT (ScZ z) Ch) Stop cx w := by
  have hpb := N.mo pb _ tri_pb
  have fpb := N.far pb (by rw [tri_pb]; simp)
  refine hM z Ch Stop w v S κ N.at_.rel N.at_.noRow N.at_.mem (N.mo ab _ tri_ab) (N.far ab (by rw [tri_ab]; simp)) (fun v1 w1 r1 n1 e1 => ?_)
  have kp := e1.keeps (Array.getElem?_eq_some_iff.1 hpb).1 fpb (fun h => C.n3 h.symm)
  refine C.back z Ch Stop w1 v1 S κ e y r1 n1 e1.mem (by rw [kp.1]; exact hpb) fpb (fun v2 w2 r2 n2 e2 => ?_)
  have j1 := N.evo.join e1 (fun b hb => by
    have hb' : b = ab := hb
    subst hb'
    exact N.new b (by rw [tri_ab]; simp))
  exact hob.ans (e, y) hx v2 w2 S r2 n2 N.nv (j1.join e2 (fun b hb => by
    have hb' : b = pb := hb
    subst hb'
    exact N.new b (by rw [tri_pb]; simp)))
end
end Go.Proofs.Ytehingmdmijedaa.Gen

/- The lock's package, for any thread of its Play. -/
set_option linter.unusedSimpArgs false
set_option linter.unusedVariables false
namespace Go.Proofs.Ytehingmdmijedaa.Gen
open Go Go.Lift Go.Conc Go.RowKit

section
variable {X : Fix mcLock} {z : Nat → Option Nat} {cont : Addr → Value} {Ch : Nat → Prop} {Stop : Goroutine → World → Prop} {cu : Value → Goroutine} {S0 : TS} {K0 : List (Nat × Int)} {v0 : World} {Mo0 : Nat → Option Obj} {σ : TS} {κ : List (Nat × Int)} {S : TS} {v w : World} {t : Thr} {H : Nx → (Nat → Option Obj) → Goroutine → Prop} {xl xx lb gb c0 c1 pb ab qb : Nat} {o : Obj} {c61 : Value → Goroutine} {f : Frs} {a : Int}

/-- addTo is entered. -/
theorem lok_add (C : KCall X cu xl xx lb gb c0 c1 pb ab qb o c61 a) (hf : AF (X.h == 0) f c61 ab) (hH : ∀ x Mo' g, Good v0 Mo0 x Mo' → lokSit X x Mo' cu g → H x Mo' g) (hob : Ob X H z cont Ch Stop cu S0 K0 v0 Mo0 σ κ (.turn 1 2 (2, [a]))) (N : Now X z cont Ch S0 K0 v0 Mo0 (tri pb ab qb o) σ κ S v w t) (code : Code) (hc : Try.f85.body = some code) :
    GoesI Try.prog (X.h == 0) (DT (ScZ z) Ch) Stop (G ((base 85).at { tmps := #[Pt lb 0, Pt X.tb 0, Pt gb 0, I a] ++ Array.replicate 18 undef, defers := [] } [.code code]) (f.top :: f.fs)) w := by
  rw [← N.at_.tb]
  exact addTo_in (h := X.h) (i := X.i) (j := 2) a _ _ (H (.turn 1 2 (2, [a])) (tri pb ab qb o)) (fun g u hg => hH _ _ g (N.good (fun _ _ h => by cases h)) ⟨xl, xx, lb, gb, c0, c1, pb, ab, qb, o, c61, f, a, C, rfl, .inr (.inr ⟨hf, .inl ⟨u, rfl, by rw [← N.at_.tb]; exact hg⟩⟩)⟩) N.at_.rel N.at_.noRow N.at_.mem N.at_.thr (N.cell C.mine.k2).1 (by rw [N.at_.tb]; exact N.at_.z) (by rw [N.at_.tb, N.at_.gc]; exact N.at_.cont) (ob_turn hob N) code hc
/-- It has the lock. -/
theorem lok_got (C : KCall X cu xl xx lb gb c0 c1 pb ab qb o c61 a) {cx : Goroutine} (hT : TBack (X.h == 0) qb ab lb gb X.tb cx c61) (hH : ∀ x Mo' g, Good v0 Mo0 x Mo' → lokSit X x Mo' cu g → H x Mo' g) (hob : Ob X H z cont Ch Stop cu S0 K0 v0 Mo0 σ κ (.turn 1 2 (2, [a]))) (N : Now X z cont Ch S0 K0 v0 Mo0 (tri pb ab qb o) σ κ S v w t) :
    GoesI Try.prog (X.h == 0) (DT (ScZ z) Ch) Stop cx w := by
  have hq : v.cell? ⟨qb, 1, none⟩ = some (I a) := by
    obtain ⟨po, n, cc, ho⟩ := C.o
    have := N.mo qb _ (tri_qb C.n1 C.n2)
    rw [ho] at this
    simp [World.cell?, this]
  exact hT z Ch Stop w v a N.at_.rel N.at_.noRow hq (fun w' g r hoe hM code hcode => lok_add (f := g) C ⟨hoe, hM⟩ hH hob (N.same r N.at_.noRow rfl rfl rfl) code hcode)
/-- Lock looks who is called. -/
theorem lok_look (C : KCall X cu xl xx lb gb c0 c1 pb ab qb o c61 a) (hf : KF (X.h == 0) f c61 qb ab lb gb X.tb 4 0) (hH : ∀ x Mo' g, Good v0 Mo0 x Mo' → lokSit X x Mo' cu g → H x Mo' g) (n : Int) (hob : Ob X H z cont Ch Stop cu S0 K0 v0 Mo0 σ κ (.turn 1 1 (1, [a, n]))) (N : Now X z cont Ch S0 K0 v0 Mo0 (tri pb ab qb o) σ κ S v w t) (u : Nat → Value) :
    GoesI Try.prog (X.h == 0) (DT (ScZ z) Ch) Stop (G (kFr lb X.tb n u) (f.top :: f.fs)) w := by
  rw [← N.at_.tb]
  exact lock_loop (h := X.h) (i := X.i) (j := 1) (cb := c1) n _ u _ (H (.turn 1 1 (1, [a, n])) (tri pb ab qb o)) (fun g hg => hH _ _ g (N.good (fun _ _ h => by cases h)) ⟨xl, xx, lb, gb, c0, c1, pb, ab, qb, o, c61, f, a, C, rfl, .inl ⟨hf, .inr (.inl ⟨n, u, rfl, by rw [← N.at_.tb]; exact hg⟩)⟩⟩) (C.mine.mem v N.at_.pk).2.2.2 N.at_.rel N.at_.noRow N.at_.mem N.at_.thr (N.cell C.mine.k1).1 (by rw [N.at_.tb]; exact N.at_.z) (by rw [N.at_.tb, N.at_.gc]; exact N.at_.cont) (ob_turn hob N)
/-- It has seen that x is called. -/
theorem lok_seen (C : KCall X cu xl xx lb gb c0 c1 pb ab qb o c61 a) (hf : KF (X.h == 0) f c61 qb ab lb gb X.tb 4 0) (hH : ∀ x Mo' g, Good v0 Mo0 x Mo' → lokSit X x Mo' cu g → H x Mo' g) (n x : Int) (hob : Ob X H z cont Ch Stop cu S0 K0 v0 Mo0 σ κ (if x = n then .turn 1 2 (2, [a]) else .wait 1 (6, [a, n]))) (N : Now X z cont Ch S0 K0 v0 Mo0 (tri pb ab qb o) σ κ S v w t) (u : Nat → Value) :
    GoesI Try.prog (X.h == 0) (DT (ScZ z) Ch) Stop (G (kSeen lb c1 X.tb n u (I x)) (f.top :: f.fs)) w := by
  by_cases hx : x = n
  · subst hx
    rw [if_pos rfl] at hob
    exact lock_got (bc := f.bd) (ac := f.ad) (ops := f.od) (q := f.qd) (rest := f.rd) (oc := f.oe) (k := f.kd) x u f.fs hf.oe N.at_.rel N.at_.noRow (fun v2 w2 r2 n2 e1 e2 e3 => lok_got C hf.yes hH hob (N.same r2 n2 e1 e2 e3))
  · rw [if_neg hx] at hob
    refine lock_more (j := 1) n x hx _ u _ (C.mine.mem v N.at_.pk).2.2.2 N.at_.rel N.at_.noRow N.at_.mem (N.cell C.mine.k1).1 (fun v' w' bd ad od qd rd oe kd r n' e hoe hfr code hcode => ?_)
    have N' := N.on e r n' N.nv N.at_.thr N.at_.tb N.at_.gc rfl
    cases hs : S.stk with
    | true =>
      have := await_no (i := X.i) (main := X.h == 0) (Ch := Ch) (Stop := Stop) ((1 : Nat) : Int) (f.top :: f.fs) hoe N'.at_.rel N'.at_.noRow N'.at_.mem hs N'.at_.thr (fun v2 w2 r2 n2 e2 => by
        rw [hfr]
        have N2 := N'.on e2 r2 n2 N'.nv N'.at_.thr N'.at_.tb N'.at_.gc rfl
        exact lock_no (bc := f.bd) (ac := f.ad) (ops := f.od) (q := f.qd) (rest := f.rd) (oc := f.oe) (k := f.kd) n _ f.fs hf.oe r2 n2 (fun v3 w3 r3 n3 e1 e2 e3 => lok_ans C 4 0 hf.no hob (.inr ⟨1, (6, [a, n]), rfl, by rw [← N.nv]; exact hs, rfl⟩) (N2.same r3 n3 e1 e2 e3))) code hcode
      rw [N'.at_.tb] at this
      exact this
    | false =>
      have ee : (fun r => G (bd.at (ad.put oe.dst r) (.inRegion od rd :: kd)) (f.top :: f.fs)) = (fun r => G (kWoke lb X.tb n (kVal lb c1 X.tb n x 1 u) r) (f.top :: f.fs)) := funext fun r => by rw [hfr]
      have := await_goes (h := X.h) (cont := cont) (i := X.i) (Stop := Stop) ((1 : Nat) : Int) (f.top :: f.fs) (H (.wait 1 (6, [a, n])) (tri pb ab qb o)) hoe (fun g hg => hH _ _ g (N'.good (fun _ _ h => by cases h)) ⟨xl, xx, lb, gb, c0, c1, pb, ab, qb, o, c61, f, a, C, rfl, .inl ⟨hf, .inr (.inr ⟨n, kVal lb c1 X.tb n x 1 u, rfl, by rw [← ee, ← N'.at_.tb]; exact hg⟩)⟩⟩) N'.at_.rel N'.at_.noRow N'.at_.mem hs N'.at_.thr (by rw [N'.at_.tb]; exact N'.at_.z) (by rw [N'.at_.tb, N'.at_.gc]; exact N'.at_.cont) (ob_wait hob hs N') code hcode
      rw [N'.at_.tb] at this
      exact this
end

set_option maxHeartbeats 1000000 in
noncomputable def pkgLock : Pkg mcLock 61 where
  fn := Try.f61
  code := Try.f61.body.getD .skip
  hf := Try.func61
  hname := by kernel_rfl
  hcode := rfl
  Mine X := ∃ xl xx lb gb c0 c1, KMine X xl xx lb gb c0 c1
  Sit := lokSit
  start := by
    rintro X ok ⟨xl, xx, lb, gb, c0, c1, hm⟩ hfid c hc cs bc ac ops q rest oc k hoc H z cont Ch Stop S K v w t A hH hob
    rw [hm.caps]
    show GoesI Try.prog (X.h == 0) (DT (ScZ z) Ch) Stop (G ((base 61).at { tmps := #[Pt X.tb 0, .agg #[I c.po, I c.ca, I c.cb, I c.cc], Pt xl 0, Pt xx 0] ++ Array.replicate 8 undef, defers := [] } [.code (Try.f61.body.getD .skip)]) (bc.at ac (.inRegion ops (q :: rest) :: k) :: cs)) w
    refine lclo_goes c.po c.ca c.cb c.cc (hm.mem v A.pk).1 (hm.mem v A.pk).2.1 cs hoc A.rel A.noRow (fun v1 w1 bd ad od qd rd oe kd hr hn hg hbox hoe hL code hcode => ?_) _ rfl
    have hlt : v.heap.size + 1 < v1.heap.size := (Array.getElem?_eq_some_iff.1 hbox).1
    -- the call is entered, its own memory made
    have now : ∀ (v2 w2 : World), Rel z v2 w2 → NoRow Ch v2 → Grows v1 v2 → v2.heap[v1.heap.size + 1]? = some box0 → v2.heap[v1.heap.size]? = some (.cells #[I c.po, I c.ca, I c.cb, I c.cc] 39 (0, 0)) →
        Now X z cont Ch S K v (fun _ => none) (tri (v.heap.size + 1) (v1.heap.size + 1) v1.heap.size (.cells #[I c.po, I c.ca, I c.cb, I c.cc] 39 (0, 0))) (Gen.nv S) K S v2 w2 t := fun v2 w2 r2 n2 g2 h1 h2 => by
      have g12 : Grows v v2 := hg.trans' g2
      refine ⟨⟨r2, n2, (A.mem.grows g12).mem, A.thr, A.tb, A.gc, A.kb, A.z, A.cont, fun b o hb => ?_, A.far⟩, Evo.toP (A.mem.grows g12), rfl, rfl, fun b o hb => ?_, fun b hb ho => ?_, fun b hb => ?_, tri_row ⟨_, _, _, rfl⟩⟩
      · have h1 := A.pk b o hb
        rw [g12.old b (Array.getElem?_eq_some_iff.1 h1).1]; exact h1
      · have e := tri_eq (b := b) (by rw [hb]; simp)
        rcases e with e | e | e
        · subst e
          rw [tri_pb] at hb
          cases hb
          rw [g2.old _ hlt]; exact hbox
        · subst e
          rw [tri_ab] at hb
          cases hb
          exact h1
        · subst e
          rw [tri_qb (by omega) (by omega)] at hb
          cases hb
          exact h2
      · have e := tri_eq hb
        have := A.mem.lt ho
        omega
      · have e := tri_eq hb
        exact .inr (by omega)
    have C : KCall X (fun r => G (bc.at (ac.put oc.dst r) (.inRegion ops rest :: k)) cs) xl xx lb gb c0 c1 (v.heap.size + 1) (v1.heap.size + 1) v1.heap.size (.cells #[I c.po, I c.ca, I c.cb, I c.cc] 39 (0, 0)) (fun r => G (bd.at (ad.put oe.dst r) (.inRegion od rd :: kd)) (bc.at ac (.inRegion ops (q :: rest) :: k) :: cs)) c.ca := ⟨hm, hL, by omega, by omega, by omega, _, _, _, rfl⟩
    by_cases h1 : c.po = 1
    · have es : mcLock.start c = .turn 5 0 (0, [c.ca]) := by simp [mcLock, h1]
      rw [es] at hob
      rw [h1] at now C ⊢
      refine lcall_lock c.ca c.cb c.cc _ hoe hr hn (fun v2 w2 f r2 n2 g2 k1 k2 hfo hno hyes code2 hcode2 => ?_) code hcode
      have N := now v2 w2 r2 n2 g2 k1 k2
      have := lock_in (h := X.h) (i := X.i) (j := 0) (cb := c0) (cont := cont) _ (f.top :: f.fs) (H (.turn 5 0 (0, [c.ca])) _) (fun g hg => hH _ _ g (N.good (fun _ _ h => by cases h)) ⟨xl, xx, lb, gb, c0, c1, _, _, _, _, _, f, c.ca, C, rfl, .inl ⟨⟨hfo, hno, hyes⟩, .inl ⟨rfl, by rw [← N.at_.tb]; exact hg⟩⟩⟩) (hm.mem v2 N.at_.pk).2.2.1 N.at_.rel N.at_.noRow N.at_.mem N.at_.thr (N.cell hm.k0).1 (by rw [N.at_.tb]; exact N.at_.z) (by rw [N.at_.tb, N.at_.gc]; exact N.at_.cont) (ob_turn hob N) code2 hcode2
      rw [N.at_.tb] at this
      exact this
    · by_cases h2 : c.po = 2
      · have es : mcLock.start c = .turn 1 1 (5, [c.ca]) := by simp [mcLock, h2]
        rw [es] at hob
        rw [h2] at now C ⊢
        refine lcall_try c.ca c.cb c.cc _ hoe hr hn (fun v2 w2 f r2 n2 g2 k1 k2 hfo hno hyes code2 hcode2 => ?_) code hcode
        have N := now v2 w2 r2 n2 g2 k1 k2
        have := try_in (h := X.h) (i := X.i) (j := 1) (cb := c1) (cont := cont) _ (f.top :: f.fs) (H (.turn 1 1 (5, [c.ca])) _) (fun g hg => hH _ _ g (N.good (fun _ _ h => by cases h)) ⟨xl, xx, lb, gb, c0, c1, _, _, _, _, _, f, c.ca, C, rfl, .inr (.inl ⟨⟨hfo, hno, hyes⟩, .inl ⟨rfl, by rw [← N.at_.tb]; exact hg⟩⟩)⟩) (hm.mem v2 N.at_.pk).2.2.2 N.at_.rel N.at_.noRow N.at_.mem N.at_.thr (N.cell hm.k1).1 (by rw [N.at_.tb]; exact N.at_.z) (by rw [N.at_.tb, N.at_.gc]; exact N.at_.cont) (ob_turn hob N) code2 hcode2
        rw [N.at_.tb] at this
        exact this
      · have es : mcLock.start c = .ans 1 0 := by simp [mcLock, h1, h2]
        rw [es] at hob
        refine lcall_none c.po c.ca c.cb c.cc h1 h2 _ hoe hr hn (fun v2 w2 r2 n2 g2 => ?_) code hcode
        have g12 : Grows v v2 := hg.trans' g2
        have hno : ¬ Own S K (v.heap.size + 1) := fun ho => by have := A.mem.lt ho; omega
        exact hL z Ch Stop w2 v2 S K 1 0 r2 n2 (A.mem.grows g12).mem (by rw [g2.old _ hlt]; exact hbox) hno (fun v3 w3 r3 n3 e3 => hob.ans (1, 0) (.inl rfl) v3 w3 S r3 n3 rfl ((Evo.toP (A.mem.grows g12)).join e3 (fun b hb => .inr (by
          have hb' : b = v.heap.size + 1 := hb
          omega))))
  turn := by
    rintro X ok - hfid op j q Mo cu g ⟨xl, xx, lb, gb, c0, c1, pb, ab, qb, o, c61, f, a, C, rfl, hsit⟩ H z cont Ch Stop y S K v w t A hH hop hce hl hMo hMf hMp hob
    have N0 := Now.here A hMo hMf (tri_row (by obtain ⟨po, n, cc, ho⟩ := C.o; exact ⟨_, _, _, ho⟩))
    have h0 := N0.cell C.mine.k0
    have h1 := N0.cell C.mine.k1
    have h2 := N0.cell C.mine.k2
    have f0 : (cellAt K 0).1 = c0 := by rw [h0.2]
    have f1 : (cellAt K 1).1 = c1 := by rw [h1.2]
    have f2 : (cellAt K 2).1 = gb := by rw [h2.2]
    have sb : ∀ (tv : Value) (b a : Int), (didS S tv X.i t b a).bk = S.bk := fun tv b a => (sta_did (i := X.i) S tv t b a).bk
    rcases hsit with ⟨hf, ⟨hx, hg⟩ | ⟨n, u, hx, hg⟩ | ⟨n, u, hx, hg⟩⟩ | ⟨hf, ⟨hx, hg⟩ | ⟨m, u, hx, hg⟩⟩ | ⟨hf, ⟨u, hx, hg⟩ | ⟨y1, u, hx, hg⟩ | ⟨y1, u, hx, hg⟩⟩
    · cases hx
      refine hg z Ch Stop y w v S K t (cellAt K 0).2 A.rel A.noRow A.mem A.thr A.tb hop hce h0.1 hl (fun v1 w1 tv r1 n1 e1 => ?_)
      have N1 := N0.on e1 r1 n1 (nv_did tv t _ _) (did_thr A.thr) A.tb A.gc (sb _ _ _)
      rw [f0] at hob
      exact lock_ticket _ _ _ (fun u => lok_look C hf hH _ hob N1 u)
    · cases hx
      refine hg z Ch Stop y w v S K t (cellAt K 1).2 A.rel A.noRow A.mem A.thr A.tb hop hce h1.1 hl (fun v1 w1 tv r1 n1 e1 => ?_)
      have N1 := N0.on e1 r1 n1 (nv_did tv t _ _) (did_thr A.thr) A.tb A.gc (sb _ _ _)
      rw [f1] at hob
      exact lok_seen C hf hH n (cellAt K 1).2 hob N1 u
    · cases hx
    · cases hx
      refine hg z Ch Stop y w v S K t (cellAt K 1).2 A.rel A.noRow A.mem A.thr A.tb hop hce h1.1 hl (fun v1 w1 tv r1 n1 e1 => ?_)
      have N1 := N0.on e1 r1 n1 (nv_did tv t _ _) (did_thr A.thr) A.tb A.gc (sb _ _ _)
      rw [f1] at hob
      have := try_draw (h := X.h) (i := X.i) (j := 0) (cb := c0) (nb := c1) (cont := cont) (Stop := Stop) (cellAt K 1).2 _ (fun _ => undef) (f.top :: f.fs) (H (.turn 4 0 (7, [a, (cellAt K 1).2])) (tri pb ab qb o)) (fun g hg => hH _ _ g (N1.good (fun _ _ h => by cases h)) ⟨xl, xx, lb, gb, c0, c1, pb, ab, qb, o, c61, f, a, C, rfl, .inr (.inl ⟨hf, .inr ⟨_, _, rfl, by rw [N1.at_.tb] at hg; exact hg⟩⟩)⟩) (C.mine.mem v1 N1.at_.pk).2.2.1 N1.at_.rel N1.at_.noRow N1.at_.mem N1.at_.thr (N1.cell C.mine.k0).1 (by rw [N1.at_.tb]; exact N1.at_.z) (by rw [N1.at_.tb, N1.at_.gc]; exact N1.at_.cont) (ob_turn hob N1)
      rw [N1.at_.tb] at this
      exact this
    · cases hx
      refine hg z Ch Stop y w v S K t (cellAt K 0).2 A.rel A.noRow A.mem A.thr A.tb hop hce h0.1 hl (fun v1 w1 tv r1 n1 e1 => ?_)
      have N1 := N0.on e1 r1 n1 (nv_did tv t _ _) (did_thr A.thr) A.tb A.gc (sb _ _ _)
      rw [f0] at hob
      have hob : Ob X H z cont Ch Stop cu S K v (tri pb ab qb o) (didS (Gen.nv S) undef X.i t (effCas m (wrap64 (m + 1)) (cellAt K 0).2).1.1 (effCas m (wrap64 (m + 1)) (cellAt K 0).2).1.2) (K.set 0 (c0, (effCas m (wrap64 (m + 1)) (cellAt K 0).2).2.1)) (if (cellAt K 0).2 = m then .turn 1 2 (2, [a]) else .ans 0 (-1)) := hob
      by_cases hx : (cellAt K 0).2 = m
      · rw [if_pos hx] at hob
        rw [show (effCas m (wrap64 (m + 1)) (cellAt K 0).2).2.2 = .bool true by unfold effCas; rw [if_pos hx]]
        exact try_done (bc := f.bd) (ac := f.ad) (ops := f.od) (q := f.qd) (rest := f.rd) (oc := f.oe) (k := f.kd) true u f.fs hf.oe r1 n1 (fun w2 r2 => lok_got C hf.yes hH hob (N1.same r2 n1 rfl rfl rfl))
      · rw [if_neg hx] at hob
        rw [show (effCas m (wrap64 (m + 1)) (cellAt K 0).2).2.2 = .bool false by unfold effCas; rw [if_neg hx]]
        exact try_done (bc := f.bd) (ac := f.ad) (ops := f.od) (q := f.qd) (rest := f.rd) (oc := f.oe) (k := f.kd) false u f.fs hf.oe r1 n1 (fun w2 r2 => lok_ans C 0 (-1) hf.no hob (.inl rfl) (N1.same r2 n1 rfl rfl rfl))
    · cases hx
      refine hg z Ch Stop y w v S K t (cellAt K 2).2 A.rel A.noRow A.mem A.thr A.tb hop hce h2.1 hl (fun v1 w1 tv r1 n1 e1 => ?_)
      have N1 := N0.on e1 r1 n1 (nv_did tv t _ _) (did_thr A.thr) A.tb A.gc (sb _ _ _)
      rw [f2] at hob
      have := addTo_put (h := X.h) (i := X.i) (j := 2) (cb := gb) (lb := lb) (cont := cont) (Stop := Stop) a (cellAt K 2).2 _ u (f.top :: f.fs) (H (.turn 2 2 (3, [a, (cellAt K 2).2])) (tri pb ab qb o)) (fun g u hg => hH _ _ g (N1.good (fun _ _ h => by cases h)) ⟨xl, xx, lb, gb, c0, c1, pb, ab, qb, o, c61, f, a, C, rfl, .inr (.inr ⟨hf, .inr (.inl ⟨_, u, rfl, by rw [N1.at_.tb] at hg; exact hg⟩)⟩)⟩) N1.at_.rel N1.at_.noRow N1.at_.mem N1.at_.thr (N1.cell C.mine.k2).1 (by rw [N1.at_.tb]; exact N1.at_.z) (by rw [N1.at_.tb, N1.at_.gc]; exact N1.at_.cont) (ob_turn hob N1)
      rw [N1.at_.tb] at this
      exact this
    · cases hx
      refine hg z Ch Stop y w v S K t (cellAt K 2).2 A.rel A.noRow A.mem A.thr A.tb hop hce h2.1 hl (fun v1 w1 tv r1 n1 e1 => ?_)
      have N1 := N0.on e1 r1 n1 (nv_did tv t _ _) (did_thr A.thr) A.tb A.gc (sb _ _ _)
      rw [f2] at hob
      have := addTo_free (h := X.h) (i := X.i) (j := 1) (cb := c1) (gb := gb) (lb := lb) (cont := cont) (Stop := Stop) a y1 _ u (.tuple #[]) (f.top :: f.fs) (H (.turn 5 1 (4, [y1])) (tri pb ab qb o)) (fun g u hg => hH _ _ g (N1.good (fun _ _ h => by cases h)) ⟨xl, xx, lb, gb, c0, c1, pb, ab, qb, o, c61, f, a, C, rfl, .inr (.inr ⟨hf, .inr (.inr ⟨y1, u, rfl, by rw [N1.at_.tb] at hg; exact hg⟩)⟩)⟩) (C.mine.mem v1 N1.at_.pk).2.2.2 N1.at_.rel N1.at_.noRow N1.at_.mem N1.at_.thr (N1.cell C.mine.k1).1 (by rw [N1.at_.tb]; exact N1.at_.z) (by rw [N1.at_.tb, N1.at_.gc]; exact N1.at_.cont) (ob_turn hob N1)
      rw [N1.at_.tb] at this
      exact this
    · cases hx
      refine hg z Ch Stop y w v S K t (cellAt K 1).2 A.rel A.noRow A.mem A.thr A.tb hop hce h1.1 hl (fun v1 w1 tv r1 n1 e1 => ?_)
      have N1 := N0.on e1 r1 n1 (nv_did tv t _ _) (did_thr A.thr) A.tb A.gc (sb _ _ _)
      rw [f1] at hob
      exact addTo_out (bc := f.bd) (ac := f.ad) (ops := f.od) (q := f.qd) (rest := f.rd) (oc := f.oe) (k := f.kd) a y1 u _ f.fs hf.oe r1 n1 (fun w2 r2 => lok_ans C 0 y1 (hf.back y1) hob (.inl rfl) (N1.same r2 n1 rfl rfl rfl))
  wake := by
    rintro X ok - hfid j q Mo cu g ⟨xl, xx, lb, gb, c0, c1, pb, ab, qb, o, c61, f, a, C, rfl, hsit⟩ H z cont Ch Stop y S K v w t A hH hl hMo hMf hMp hob1 hob2
    have N0 := Now.here A hMo hMf (tri_row (by obtain ⟨po, n, cc, ho⟩ := C.o; exact ⟨_, _, _, ho⟩))
    rcases hsit with ⟨hf, ⟨hx, hg⟩ | ⟨n, u, hx, hg⟩ | ⟨n, u, hx, hg⟩⟩ | ⟨hf, ⟨hx, hg⟩ | ⟨m, u, hx, hg⟩⟩ | ⟨hf, ⟨u, hx, hg⟩ | ⟨y1, u, hx, hg⟩ | ⟨y1, u, hx, hg⟩⟩
    · cases hx
    · cases hx
    · cases hx
      refine hg z Ch Stop y w v S K t A.rel A.noRow A.mem A.thr A.tb hl (fun v1 w1 tv hs r1 n1 e1 => ?_) (fun v1 w1 hs r1 n1 e1 => ?_)
      · have N1 := N0.on e1 r1 n1 rfl A.thr A.tb A.gc rfl
        exact lock_again n u _ (fun u => lok_look C hf hH n (hob2 hs) N1 u)
      · have N1 := N0.on e1 r1 n1 rfl A.thr A.tb A.gc rfl
        exact lock_no (bc := f.bd) (ac := f.ad) (ops := f.od) (q := f.qd) (rest := f.rd) (oc := f.oe) (k := f.kd) n u f.fs hf.oe r1 n1 (fun v2 w2 r2 n2 e1 e2 e3 => lok_ans C 4 0 hf.no (hob1 hs) (.inl rfl) (N1.same r2 n2 e1 e2 e3))
    · cases hx
    · cases hx
    · cases hx
    · cases hx
    · cases hx
end Go.Proofs.Ytehingmdmijedaa.Gen
