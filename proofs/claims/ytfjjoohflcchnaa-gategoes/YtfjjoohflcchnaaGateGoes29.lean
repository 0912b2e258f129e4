/- GateGoes: for every schedule and all rows of numbers, the Play of scripts in which each Enter has a Leave of its own behind it, ahead of the next Shut, leaves nobody stuck and nobody in; no conditions. Part 29 of 37. (Joined, by program, of: GatPk, GMetG, GatInv, GIns.) -/
import Derived.Test.YtfjjoohflcchnaaGateGoes22
import Derived.Test.YtfjjoohflcchnaaGateGoes23
import Derived.Test.YtfjjoohflcchnaaGateGoes24
import Derived.Test.YtfjjoohflcchnaaGateGoes28
set_option linter.unusedSimpArgs false
set_option linter.unusedVariables false
namespace Go.Proofs.Ytfjjoohflcchnaa.Gen
open Go Go.Lift Go.Conc Go.RowKit

/-- Its lowest bit. -/
def odd1 (x : Int) : Bool := bits .and .i64 x 1 != 0
def b2i (b : Bool) : Int := if b then 1 else 0
/-- Enter: 0 it looks, 1 it tries; Leave: 2, 3; Shut: 4 it looks whether it is shut, 5 it tries; 6 it looks whether nobody is in, 7 it awaits that. -/
def mcGate : Mc where
  start c := if c.po = 1 then .turn 1 0 (0, []) else if c.po = 2 then .turn 1 0 (2, []) else if c.po = 3 then .turn 1 0 (4, []) else .ans 1 0
  turn q x :=
    if q.1 = 0 then ((x, x), x, if odd1 x then .ans 60 0 else .turn 4 0 (1, [x]))
    else if q.1 = 1 then ((effCas (q.2.headD 0) (wrap64 (q.2.headD 0 + 2)) x).1, (effCas (q.2.headD 0) (wrap64 (q.2.headD 0 + 2)) x).2.1, if x = q.2.headD 0 then .ans 0 0 else .turn 1 0 (0, []))
    else if q.1 = 2 then ((x, x), x, if x < 2 then .ans 61 0 else .turn 4 0 (3, [x]))
    else if q.1 = 3 then ((effCas (q.2.headD 0) (wrap64 (q.2.headD 0 - 2)) x).1, (effCas (q.2.headD 0) (wrap64 (q.2.headD 0 - 2)) x).2.1, if x = q.2.headD 0 then .ans 0 0 else .turn 1 0 (2, []))
    else if q.1 = 4 then ((x, x), x, if odd1 x then .turn 1 0 (6, [0]) else .turn 4 0 (5, [x]))
    else if q.1 = 5 then ((effCas (q.2.headD 0) (wrap64 (q.2.headD 0 + 1)) x).1, (effCas (q.2.headD 0) (wrap64 (q.2.headD 0 + 1)) x).2.1, if x = q.2.headD 0 then .turn 1 0 (6, [1]) else .turn 1 0 (4, []))
    else ((x, x), x, if x = 1 then .ans 0 (q.2.headD 0) else .wait 0 (7, q.2))
  woke q := .turn 1 0 (6, q.2)
  stuck _ := (4, 0)

def box2 (p1 p2 : Nat) : Nat → Option Obj := fun b => if b = p1 ∨ b = p2 then some box0 else none
theorem box2_1 (p1 p2 : Nat) : box2 p1 p2 p1 = some box0 := by unfold box2; rw [if_pos (.inl rfl)]
theorem box2_2 (p1 p2 : Nat) : box2 p1 p2 p2 = some box0 := by unfold box2; rw [if_pos (.inr rfl)]
theorem box2_eq {p1 p2 b : Nat} (h : box2 p1 p2 b ≠ none) : b = p1 ∨ b = p2 := by
  unfold box2 at h
  split at h
  · assumption
  · exact absurd rfl h
theorem box2_row (p1 p2 : Nat) : ∀ b o, box2 p1 p2 b = some o → ∃ c e f, o = .cells c e f := fun b o h => by
  unfold box2 at h
  split at h
  · cases h; exact ⟨_, _, _, rfl⟩
  · cases h
theorem box2_has {p1 p2 : Nat} {v : World} (h1 : v.heap[p1]? = some box0) (h2 : v.heap[p2]? = some box0) : Has (box2 p1 p2) v := fun b o hb => by
  unfold box2 at hb
  split at hb
  · rename_i h
    cases hb
    rcases h with rfl | rfl
    · exact h1
    · exact h2
  · cases hb

structure GMine (X : Fix mcGate) (xb lb cb : Nat) : Prop where
  caps : X.caps = #[Pt xb 0]
  mem : ∀ v, Has X.pk v → v.cell? ⟨xb, 0, none⟩ = some (Pt lb 0) ∧ v.cell? ⟨lb, 0, none⟩ = some (Pt cb 0)
  kb : X.kb[0]? = some cb
/-- The closure, below; what it called (enters or leaves; shuts). -/
def CF (main : Bool) (p1 : Nat) (c72 cu : Value → Goroutine) : Prop := ∀ r : Int × Int, ABk main p1 (c72 (.agg #[I r.1, I r.2])) r cu
structure EF (main : Bool) (p2 : Nat) (f : Frs) (c72 : Value → Goroutine) : Prop where
  oe : f.od[f.qd]? = some f.oe
  back : ∀ e : Int, ABk main p2 (f.cu (I e)) (e, 0) c72
structure SF (main : Bool) (p2 : Nat) (f : Frs) (c72 : Value → Goroutine) : Prop where
  oe : f.od[f.qd]? = some f.oe
  back : ∀ (fi : Bool) (e : Int), ABk main p2 (f.cu (.tuple #[.bool fi, I e])) (e, if fi then 1 else 0) c72
/-- Shut, below bar. -/
structure BF (lb tb : Nat) (f f2 : Frs) : Prop where
  oe : f2.od[f2.qd]? = some f2.oe
  cu : ∀ r, f2.cu r = G (sBar lb tb (fun _ => undef) r) (f.top :: f.fs)
  fs : f2.fs = f.top :: f.fs

def gatSit (X : Fix mcGate) (x : Nx) (Mo : Nat → Option Obj) (cu : Value → Goroutine) (g : Goroutine) : Prop :=
  ∃ (xb lb cb p1 p2 : Nat) (c72 : Value → Goroutine) (f : Frs), GMine X xb lb cb ∧ Mo = box2 p1 p2 ∧ p1 ≠ p2 ∧ CF (X.h == 0) p1 c72 cu ∧
    ((EF (X.h == 0) p2 f c72 ∧ ((x = .turn 1 0 (0, []) ∧ ∃ u, OpBack (X.h == 0) X.i 0 cb X.tb 1 effLoad (fun r => G (eSeen lb cb X.tb u r) (f.top :: f.fs)) g) ∨
        (∃ a u, x = .turn 4 0 (1, [a]) ∧ OpBack (X.h == 0) X.i 0 cb X.tb 4 (effCas a (wrap64 (a + 2))) (fun r => G (eTried lb X.tb u r) (f.top :: f.fs)) g) ∨
        (x = .turn 1 0 (2, []) ∧ ∃ u, OpBack (X.h == 0) X.i 0 cb X.tb 1 effLoad (fun r => G (lSeen lb cb X.tb u r) (f.top :: f.fs)) g) ∨
        (∃ a u, x = .turn 4 0 (3, [a]) ∧ OpBack (X.h == 0) X.i 0 cb X.tb 4 (effCas a (wrap64 (a - 2))) (fun r => G (lTried lb X.tb u r) (f.top :: f.fs)) g))) ∨
     (SF (X.h == 0) p2 f c72 ∧ ((∃ f2, BF lb X.tb f f2 ∧ ((x = .turn 1 0 (4, []) ∧ ∃ u, OpBack (X.h == 0) X.i 0 cb X.tb 1 effLoad (fun r => G (bSeen lb cb X.tb u r) (f2.top :: f2.fs)) g) ∨
          (∃ a u, x = .turn 4 0 (5, [a]) ∧ OpBack (X.h == 0) X.i 0 cb X.tb 4 (effCas a (wrap64 (a + 1))) (fun r => G (bTried lb X.tb u r) (f2.top :: f2.fs)) g))) ∨
        (∃ fi, x = .turn 1 0 (6, [b2i fi]) ∧ ∃ u, OpBack (X.h == 0) X.i 0 cb X.tb 1 effLoad (fun r => G (sSeen fi lb cb X.tb u r) (f.top :: f.fs)) g) ∨
        (∃ fi, x = .wait 0 (7, [b2i fi]) ∧ ∃ u, WakeBack (X.h == 0) X.i X.tb 0 (fun r => G (sWoke fi lb X.tb u r) (f.top :: f.fs)) g))))

section
variable {X : Fix mcGate} {z : Nat → Option Nat} {cont : Addr → Value} {Ch : Nat → Prop} {Stop : Goroutine → World → Prop} {cu : Value → Goroutine} {S0 : TS} {K0 : List (Nat × Int)} {v0 : World} {Mo0 : Nat → Option Obj} {σ : TS} {κ : List (Nat × Int)} {S : TS} {v w : World} {t : Thr} {H : Nx → (Nat → Option Obj) → Goroutine → Prop} {xb lb cb p1 p2 : Nat} {c72 : Value → Goroutine} {f f2 : Frs} {x : Nx}

/-- What was called has answered. -/
theorem gat_ans (hne : p1 ≠ p2) (hcf : CF (X.h == 0) p1 c72 cu) {g : Goroutine} (a : Int × Int) (hab : ABk (X.h == 0) p2 g a c72) (hob : Ob X H z cont Ch Stop cu S0 K0 v0 Mo0 σ κ x) (hx : x = .ans a.1 a.2 ∨ ∃ j q, x = .wait j q ∧ σ.stk = true ∧ a = mcGate.stuck q) (N : Now X z cont Ch S0 K0 v0 Mo0 (box2 p1 p2) σ κ S v w t) :
    GoesI Try.prog (X.h == 0) (DT (ScZ z) Ch) Stop g w := by
  refine hab z Ch Stop w v S κ N.at_.rel N.at_.noRow N.at_.mem (N.mo p2 _ (box2_2 p1 p2)) (N.far p2 (by rw [box2_2]; simp)) (fun v' w' r n ev => ?_)
  have h1 := N.mo p1 _ (box2_1 p1 p2)
  have f1 := N.far p1 (by rw [box2_1]; simp)
  obtain ⟨k1, k2⟩ := ev.keeps (Array.getElem?_eq_some_iff.1 h1).1 f1 (fun h => hne h)
  have ej : EvoP (fun b => Mo0 b ≠ none) z S0 K0 v0 S κ v' := N.evo.join ev (fun b hb => by
    have hb' : b = p2 := hb
    subst hb'
    exact N.new b (by rw [box2_2]; simp))
  refine hcf a z Ch Stop w' v' S κ r n ev.mem (by rw [k1]; exact h1) k2 (fun v2 w2 r2 n2 ev2 => ?_)
  exact hob.ans a hx v2 w2 S r2 n2 N.nv (ej.join ev2 (fun b hb => by
    have hb' : b = p1 := hb
    subst hb'
    exact N.new b (by rw [box2_1]; simp)))
theorem gat_enter (hm : GMine X xb lb cb) (hne : p1 ≠ p2) (hcf : CF (X.h == 0) p1 c72 cu) (hf : EF (X.h == 0) p2 f c72) (hH : ∀ x Mo' g, Good v0 Mo0 x Mo' → gatSit X x Mo' cu g → H x Mo' g) (hob : Ob X H z cont Ch Stop cu S0 K0 v0 Mo0 σ κ (.turn 1 0 (0, []))) (N : Now X z cont Ch S0 K0 v0 Mo0 (box2 p1 p2) σ κ S v w t) (u : Nat → Value) :
    GoesI Try.prog (X.h == 0) (DT (ScZ z) Ch) Stop (G (eFr lb X.tb u) (f.top :: f.fs)) w := by
  rw [← N.at_.tb]
  exact enter_loop (h := X.h) (i := X.i) (j := 0) (cb := cb) _ u _ (H (.turn 1 0 (0, [])) (box2 p1 p2)) (fun g hg => hH _ _ g (N.good (fun _ _ h => by cases h)) ⟨xb, lb, cb, p1, p2, c72, f, hm, rfl, hne, hcf, .inl ⟨hf, .inl ⟨rfl, u, by rw [← N.at_.tb]; exact hg⟩⟩⟩) (hm.mem v N.at_.pk).2 N.at_.rel N.at_.noRow N.at_.mem N.at_.thr (N.cell hm.kb).1 (by rw [N.at_.tb]; exact N.at_.z) (by rw [N.at_.tb, N.at_.gc]; exact N.at_.cont) (ob_turn hob N)
theorem gat_leave (hm : GMine X xb lb cb) (hne : p1 ≠ p2) (hcf : CF (X.h == 0) p1 c72 cu) (hf : EF (X.h == 0) p2 f c72) (hH : ∀ x Mo' g, Good v0 Mo0 x Mo' → gatSit X x Mo' cu g → H x Mo' g) (hob : Ob X H z cont Ch Stop cu S0 K0 v0 Mo0 σ κ (.turn 1 0 (2, []))) (N : Now X z cont Ch S0 K0 v0 Mo0 (box2 p1 p2) σ κ S v w t) (u : Nat → Value) :
    GoesI Try.prog (X.h == 0) (DT (ScZ z) Ch) Stop (G (lFr lb X.tb u) (f.top :: f.fs)) w := by
  rw [← N.at_.tb]
  exact leave_loop (h := X.h) (i := X.i) (j := 0) (cb := cb) _ u _ (H (.turn 1 0 (2, [])) (box2 p1 p2)) (fun g hg => hH _ _ g (N.good (fun _ _ h => by cases h)) ⟨xb, lb, cb, p1, p2, c72, f, hm, rfl, hne, hcf, .inl ⟨hf, .inr (.inr (.inl ⟨rfl, u, by rw [← N.at_.tb]; exact hg⟩))⟩⟩) (hm.mem v N.at_.pk).2 N.at_.rel N.at_.noRow N.at_.mem N.at_.thr (N.cell hm.kb).1 (by rw [N.at_.tb]; exact N.at_.z) (by rw [N.at_.tb, N.at_.gc]; exact N.at_.cont) (ob_turn hob N)
theorem gat_bar (hm : GMine X xb lb cb) (hne : p1 ≠ p2) (hcf : CF (X.h == 0) p1 c72 cu) (hf : SF (X.h == 0) p2 f c72) (hb : BF lb X.tb f f2) (hH : ∀ x Mo' g, Good v0 Mo0 x Mo' → gatSit X x Mo' cu g → H x Mo' g) (hob : Ob X H z cont Ch Stop cu S0 K0 v0 Mo0 σ κ (.turn 1 0 (4, []))) (N : Now X z cont Ch S0 K0 v0 Mo0 (box2 p1 p2) σ κ S v w t) (u : Nat → Value) :
    GoesI Try.prog (X.h == 0) (DT (ScZ z) Ch) Stop (G (bFr lb X.tb u) (f2.top :: f2.fs)) w := by
  rw [← N.at_.tb]
  exact bar_loop (h := X.h) (i := X.i) (j := 0) (cb := cb) _ u _ (H (.turn 1 0 (4, [])) (box2 p1 p2)) (fun g hg => hH _ _ g (N.good (fun _ _ h => by cases h)) ⟨xb, lb, cb, p1, p2, c72, f, hm, rfl, hne, hcf, .inr ⟨hf, .inl ⟨f2, hb, .inl ⟨rfl, u, by rw [← N.at_.tb]; exact hg⟩⟩⟩⟩) (hm.mem v N.at_.pk).2 N.at_.rel N.at_.noRow N.at_.mem N.at_.thr (N.cell hm.kb).1 (by rw [N.at_.tb]; exact N.at_.z) (by rw [N.at_.tb, N.at_.gc]; exact N.at_.cont) (ob_turn hob N)
theorem gat_shut (hm : GMine X xb lb cb) (hne : p1 ≠ p2) (hcf : CF (X.h == 0) p1 c72 cu) (hf : SF (X.h == 0) p2 f c72) (fi : Bool) (hH : ∀ x Mo' g, Good v0 Mo0 x Mo' → gatSit X x Mo' cu g → H x Mo' g) (hob : Ob X H z cont Ch Stop cu S0 K0 v0 Mo0 σ κ (.turn 1 0 (6, [b2i fi]))) (N : Now X z cont Ch S0 K0 v0 Mo0 (box2 p1 p2) σ κ S v w t) (u : Nat → Value) :
    GoesI Try.prog (X.h == 0) (DT (ScZ z) Ch) Stop (G (sFr fi lb X.tb u) (f.top :: f.fs)) w := by
  rw [← N.at_.tb]
  exact shut_loop (h := X.h) (i := X.i) (j := 0) (cb := cb) _ u _ (H (.turn 1 0 (6, [b2i fi])) (box2 p1 p2)) (fun g hg => hH _ _ g (N.good (fun _ _ h => by cases h)) ⟨xb, lb, cb, p1, p2, c72, f, hm, rfl, hne, hcf, .inr ⟨hf, .inr (.inl ⟨fi, rfl, u, by rw [← N.at_.tb]; exact hg⟩)⟩⟩) (hm.mem v N.at_.pk).2 N.at_.rel N.at_.noRow N.at_.mem N.at_.thr (N.cell hm.kb).1 (by rw [N.at_.tb]; exact N.at_.z) (by rw [N.at_.tb, N.at_.gc]; exact N.at_.cont) (ob_turn hob N)
end
end Go.Proofs.Ytfjjoohflcchnaa.Gen

namespace Go.Proofs.Ytfjjoohflcchnaa.Gen
open Go Go.Lift Go.Conc Go.RowKit

def levG (q : Q) : Nat := if q.1 = 4 ∨ q.1 = 5 then 2 else 1
def wsG (q : Q) (x : Int) : Nat := if q.1 = 0 ∨ q.1 = 2 ∨ q.1 = 4 then 2 else if q.1 = 1 ∨ q.1 = 3 ∨ q.1 = 5 then (if x = q.2.headD 0 then 1 else 3) else 1
theorem levG_le (q : Q) : 1 ≤ levG q ∧ levG q ≤ 2 := by unfold levG; split <;> omega
def metGate : Met mcGate where
  L := 2
  hL := by decide
  lev := levG
  ws := wsG
  cl _ := 0
  wq _ := True
  ws_le q x := by unfold wsG; split <;> (try split) <;> (try split) <;> omega
  start c := by
    unfold mcGate
    simp only
    split
    · exact ⟨(levG_le _).1, (levG_le _).2, rfl⟩
    · split
      · exact ⟨(levG_le _).1, (levG_le _).2, rfl⟩
      · split
        · exact ⟨(levG_le _).1, (levG_le _).2, rfl⟩
        · trivial
  turn q x _ _ := by
    have sk : ∀ (op : Int) (q : Q), seatOk 2 levG (fun _ => 0) (fun _ => True) (.turn op 0 q) := fun op q => ⟨(levG_le _).1, (levG_le _).2, rfl⟩
    have sw : ∀ (q : Q), seatOk 2 levG (fun _ => 0) (fun _ => True) (.wait 0 q) := fun q => ⟨(levG_le _).1, (levG_le _).2, trivial⟩
    unfold mcGate
    simp only
    by_cases h0 : q.1 = 0
    · rw [if_pos h0]
      cases hx : odd1 x with
      | true => simp only [if_true]; exact ⟨trivial, .inl (levG_le _).1⟩
      | false =>
        simp only [Bool.false_eq_true, if_false]
        exact ⟨sk _ _, .inr (by simp [nlev, levG, h0, wsG, h0])⟩
    · rw [if_neg h0]
      by_cases h1 : q.1 = 1
      · rw [if_pos h1]
        simp only [effCas]
        by_cases hx : x = q.2.headD 0
        · simp only [hx, if_true]; exact ⟨trivial, .inl (levG_le _).1⟩
        · simp only [hx, if_false]
          rw [List.headD_eq_head?_getD] at hx
          exact ⟨sk _ _, .inr (by simp [nlev, levG, h1, wsG, hx])⟩
      · rw [if_neg h1]
        by_cases h2 : q.1 = 2
        · rw [if_pos h2]
          by_cases hx : x < 2
          · rw [if_pos hx]; exact ⟨trivial, .inl (levG_le _).1⟩
          · rw [if_neg hx]
            exact ⟨sk _ _, .inr (by simp [nlev, levG, h2, wsG, h2])⟩
        · rw [if_neg h2]
          by_cases h3 : q.1 = 3
          · rw [if_pos h3]
            simp only [effCas]
            by_cases hx : x = q.2.headD 0
            · simp only [hx, if_true]; exact ⟨trivial, .inl (levG_le _).1⟩
            · simp only [hx, if_false]
              rw [List.headD_eq_head?_getD] at hx
              exact ⟨sk _ _, .inr (by simp [nlev, levG, h3, wsG, h3, hx])⟩
          · rw [if_neg h3]
            by_cases h4 : q.1 = 4
            · rw [if_pos h4]
              cases hx : odd1 x with
              | true => simp only [if_true]; exact ⟨sk _ _, .inl (by simp [nlev, levG, h4])⟩
              | false =>
                simp only [Bool.false_eq_true, if_false]
                exact ⟨sk _ _, .inr (by simp [nlev, levG, h4, wsG, h4])⟩
            · rw [if_neg h4]
              by_cases h5 : q.1 = 5
              · rw [if_pos h5]
                simp only [effCas]
                by_cases hx : x = q.2.headD 0
                · simp only [hx, if_true]; exact ⟨sk _ _, .inl (by simp [nlev, levG, h5])⟩
                · simp only [hx, if_false]
                  rw [List.headD_eq_head?_getD] at hx
                  exact ⟨sk _ _, .inr (by simp [nlev, levG, h5, wsG, h5, hx])⟩
              · rw [if_neg h5]
                by_cases hx : x = 1
                · rw [if_pos hx]; exact ⟨trivial, .inl (levG_le _).1⟩
                · rw [if_neg hx]
                  exact ⟨sw _, .inr (by simp [nlev, levG, h4, h5, wsG, h0, h1, h2, h3, h4, h5])⟩
  woke q hq1 hq2 _ := by
    unfold mcGate
    refine ⟨⟨(levG_le _).1, (levG_le _).2, rfl⟩, ?_⟩
    by_cases h : q.1 = 4 ∨ q.1 = 5
    · exact .inl (by simp [nlev, levG, h])
    · exact .inr ⟨by simp [nlev, levG, h], fun y => by simp [wsG]⟩
end Go.Proofs.Ytfjjoohflcchnaa.Gen

namespace Go.Proofs.Ytfjjoohflcchnaa.Gen
open Go Go.Lift Go.Conc Go.RowKit
open Go.ConcN (upd upd_same upd_ne)

/-! ### The lowest bit -/
theorem bits_lo (n : Nat) (h : n < 9223372036854775808) : bits .and .i64 (n : Int) 1 = ((n % 2 : Nat) : Int) := by
  unfold bits
  have e1 : BitVec.ofInt 64 (n : Int) = BitVec.ofNat 64 n := by
    apply BitVec.eq_of_toNat_eq
    simp [BitVec.toNat_ofInt]
  have e2 : (BitVec.ofNat 64 n &&& BitVec.ofInt 64 1) = BitVec.ofNat 64 (n % 2) := by
    apply BitVec.eq_of_toNat_eq
    have : (BitVec.ofInt 64 1).toNat = 1 := by decide
    rw [BitVec.toNat_and, this, BitVec.toNat_ofNat, BitVec.toNat_ofNat, Nat.and_one_is_mod]
    omega
  show IntKind.i64.wrap ((BitVec.ofInt 64 (n : Int) &&& BitVec.ofInt 64 1).toNat : Int) = _
  rw [e1, e2, BitVec.toNat_ofNat, Go.IntWalk.i64_left]
  have : n % 2 % 2 ^ 64 = n % 2 := Nat.mod_eq_of_lt (by omega)
  rw [this]
  unfold wrap64
  omega
theorem odd1_of {a b : Nat} (hb : b ≤ 1) (ha : a ≤ 1000000) : odd1 ((2 * a + b : Nat) : Int) = (b == 1) := by
  unfold odd1
  rw [bits_lo _ (by omega)]
  have : (2 * a + b) % 2 = b := by omega
  rw [this]
  have : b = 0 ∨ b = 1 := by omega
  rcases this with rfl | rfl <;> rfl

/-! ### What the trace says -/
/-- A change of the gate's cell, where a are in and it is shut (b = 1) or not. -/
def gcnt (p : Nat × Nat) (s : Stp) : Option (Nat × Nat) :=
  if s.op = 4 ∧ s.ol ≠ s.ne then
    if s.ol = ((2 * p.1 + p.2 : Nat) : Int) then
      if s.ne = s.ol + 2 ∧ p.2 = 0 then some (p.1 + 1, p.2)
      else if s.ne = s.ol - 2 ∧ 1 ≤ p.1 then some (p.1 - 1, p.2)
      else if s.ne = s.ol + 1 ∧ p.2 = 0 then some (p.1, 1)
      else none
    else none
  else some p
def gfold (L : List Stp) : Option (Nat × Nat) := L.foldl (fun o s => o.bind fun p => gcnt p s) (some (0, 0))
theorem gfold_one (L : List Stp) (s : Stp) : gfold (L ++ [s]) = (gfold L).bind fun p => gcnt p s := by
  unfold gfold
  rw [List.foldl_append]
  rfl
theorem gcnt_no {p : Nat × Nat} {s : Stp} (h : ¬ (s.op = 4 ∧ s.ol ≠ s.ne)) : gcnt p s = some p := by unfold gcnt; rw [if_neg h]
/-- A step that changes nothing. -/
def Calm (s : Stp) : Prop := ¬ (s.op = 4 ∧ s.ol ≠ s.ne)
theorem gfold_calm : ∀ (X : List Stp) {L : List Stp} {p : Nat × Nat}, gfold L = some p → (∀ s ∈ X, Calm s) → gfold (L ++ X) = some p
  | [], L, p, h, _ => by rw [List.append_nil]; exact h
  | s :: X, L, p, h, hX => by
    have h1 : gfold (L ++ [s]) = some p := by rw [gfold_one, h]; exact gcnt_no (hX s (List.mem_cons_self ..))
    have := gfold_calm X h1 (fun x hx => hX x (List.mem_cons_of_mem _ hx))
    rw [List.append_assoc, List.singleton_append] at this
    exact this
/-- What is told at a call's end, where a are in. -/
def EndG (N : Nat) (cl : Nat → List Cl) (p : Option (Nat × Nat)) (s : Stp) : Prop := s.op = 10 → ∃ (i ii : Nat) (c : Cl), s.th = i ∧ i < N ∧ s.ol = ii ∧ (cl i)[ii]? = some c ∧ (c.po = 3 → s.ne = 0 → p = some (0, 1))
def EndsG (N : Nat) (cl : Nat → List Cl) (L : List Stp) : Prop := ∀ A s B, L = A ++ s :: B → EndG N cl (gfold A) s
theorem EndsG.one {N : Nat} {cl : Nat → List Cl} {L : List Stp} (h : EndsG N cl L) {s : Stp} (hs : EndG N cl (gfold L) s) : EndsG N cl (L ++ [s]) := fun A x B e => by
  rcases List.append_eq_append_iff.1 e with ⟨A', e1, e2⟩ | ⟨A', e1, e2⟩
  · cases A' with
    | nil =>
      simp at e1 e2
      obtain ⟨rfl, _⟩ := e2
      rw [e1]
      exact hs
    | cons y ys => simp at e2
  · cases A' with
    | nil =>
      simp at e1 e2
      obtain ⟨rfl, _⟩ := e2
      rw [← e1]
      exact hs
    | cons y ys =>
      simp at e2
      obtain ⟨rfl, _⟩ := e2
      exact h A x ys e1
theorem EndsG.more {N : Nat} {cl : Nat → List Cl} {p : Nat × Nat} : ∀ (X : List Stp) {L : List Stp}, EndsG N cl L → gfold L = some p → (∀ s ∈ X, Calm s ∧ EndG N cl (some p) s) → EndsG N cl (L ++ X) ∧ gfold (L ++ X) = some p
  | [], L, h, hd, _ => by rw [List.append_nil]; exact ⟨h, hd⟩
  | s :: X, L, h, hd, hX => by
    have h1 := hX s (List.mem_cons_self ..)
    have h2 : EndsG N cl (L ++ [s]) := h.one (by rw [hd]; exact h1.2)
    have h3 : gfold (L ++ [s]) = some p := gfold_calm [s] hd (fun x hx => by simp at hx; subst hx; exact h1.1)
    have := EndsG.more X h2 h3 (fun x hx => hX x (List.mem_cons_of_mem _ hx))
    rw [List.append_assoc, List.singleton_append] at this
    exact this

/-! ### What the answers say -/
def okE (c : Cl) (a : Int × Int) : Bool := c.po == 1 && a.1 == 0
def okL (c : Cl) (a : Int × Int) : Bool := c.po == 2 && a.1 == 0
def okF (c : Cl) (a : Int × Int) : Bool := c.po == 3 && a.1 == 0 && a.2 == 1
def opP (p : Cl → Int × Int → Bool) : Option Cl → Option (Int × Int) → Bool
  | some c, some a => p c a
  | _, _ => false
def cnp (p : Cl → Int × Int → Bool) (calls : List Cl) (ans : List (Int × Int)) (u : Nat) : Nat := (List.range u).countP fun k => opP p calls[k]? ans[k]?
theorem cnp_succ (p : Cl → Int × Int → Bool) (calls : List Cl) (ans : List (Int × Int)) (u : Nat) : cnp p calls ans (u + 1) = cnp p calls ans u + if opP p calls[u]? ans[u]? then 1 else 0 := by
  unfold cnp
  rw [List.range_succ, List.countP_append, List.countP_singleton]
theorem cnp_set (p : Cl → Int × Int → Bool) (calls : List Cl) (ans : List (Int × Int)) (u : Nat) (a : Int × Int) : cnp p calls (ans.set u a) u = cnp p calls ans u := by
  unfold cnp
  apply List.countP_congr
  intro k hk
  have : k < u := List.mem_range.1 hk
  rw [List.getElem?_set, if_neg (by omega)]
theorem cnp_next (p : Cl → Int × Int → Bool) {calls : List Cl} {ans : List (Int × Int)} {u : Nat} {c : Cl} (a : Int × Int) (hc : calls[u]? = some c) (ha : ans.length = calls.length) : cnp p calls (ans.set u a) (u + 1) = cnp p calls ans u + if p c a then 1 else 0 := by
  have hu : u < calls.length := (List.getElem?_eq_some_iff.1 hc).1
  have e : (ans.set u a)[u]? = some a := by rw [List.getElem?_set, if_pos rfl, if_pos (by omega)]
  rw [cnp_succ, cnp_set, hc, e]
  rfl
def upG (calls : List Cl) : Ph → Nat
  | .turn _ _ _ _ ii _ => ii
  | .wait _ _ _ ii _ => ii
  | .done _ => calls.length
/-- One who was the first to shut, and has not answered yet. -/
def pend : Ph → Nat
  | .turn _ _ q _ _ _ => if q = (6, [1]) then 1 else 0
  | .wait _ q _ _ _ => if q = (7, [1]) then 1 else 0
  | .done _ => 0
/-- One of the calls was answered 'stuck'. -/
def Has4 (ans : List (Int × Int)) (u : Nat) : Prop := ∃ k a, k < u ∧ ans[k]? = some a ∧ a.1 = 4
/-- Where a thread sits. -/
def SeatG (calls : List Cl) : Ph → Prop
  | .turn op j q rest ii ans => j = 0 ∧ rest = calls.drop (ii + 1) ∧ ∃ c, calls[ii]? = some c ∧
      ((q = (0, []) ∧ op = 1 ∧ c.po = 1) ∨ (∃ x, q = (1, [x]) ∧ op = 4 ∧ c.po = 1 ∧ odd1 x = false) ∨ (q = (2, []) ∧ op = 1 ∧ c.po = 2) ∨ (∃ x, q = (3, [x]) ∧ op = 4 ∧ c.po = 2 ∧ ¬ x < 2) ∨
       (q = (4, []) ∧ op = 1 ∧ c.po = 3) ∨ (∃ x, q = (5, [x]) ∧ op = 4 ∧ c.po = 3 ∧ odd1 x = false) ∨ (∃ f : Int, q = (6, [f]) ∧ op = 1 ∧ c.po = 3))
  | .wait j q rest ii ans => j = 0 ∧ rest = calls.drop (ii + 1) ∧ ∃ c, calls[ii]? = some c ∧ c.po = 3 ∧ ∃ f : Int, q = (7, [f])
  | .done _ => True

/-- From a call's beginning to the next seat. -/
theorem fw_gate {N : Nat} {cl : Nat → List Cl} {pp : Option (Nat × Nat)} {i : Nat} (hi : i < N) {stk : Bool} {rest : List Cl} {ii : Nat} {sk : Bool} {ans : List (Int × Int)} {X : List Stp} {l : Ph} (h : Fw mcGate i stk rest ii sk ans X l) :
    rest = (cl i).drop ii → ii ≤ (cl i).length → ans.length = (cl i).length →
    l.ans.length = (cl i).length ∧ SeatG (cl i) l ∧ (∀ p : Cl → Int × Int → Bool, (∀ c e x, e ≠ 0 → p c (e, x) = false) → cnp p (cl i) l.ans (upG (cl i) l) = cnp p (cl i) ans ii) ∧ pend l = 0 ∧ (∀ s ∈ X, Calm s ∧ EndG N cl pp s) ∧ ii ≤ upG (cl i) l ∧ (∀ k, k < ii → l.ans[k]? = ans[k]?) := by
  induction h with
  | @nil ii sk ans =>
    intro hr hl ha
    have : ii = (cl i).length := by
      have := congrArg List.length hr
      simp at this
      omega
    subst this
    exact ⟨ha, trivial, fun p _ => rfl, rfl, fun s hs => (nomatch hs), Nat.le_refl _, fun _ _ => rfl⟩
  | @skip c rest ii ans X l h ih =>
    intro hr hl ha
    have hlt : ii < (cl i).length := by
      have := congrArg List.length hr
      simp at this
      omega
    have hc : (cl i)[ii]? = some c := by
      have : ((cl i).drop ii)[0]? = some c := by rw [← hr]; rfl
      simpa using this
    have hr' : rest = (cl i).drop (ii + 1) := by
      have := congrArg List.tail hr
      simpa [List.tail_drop] using this
    obtain ⟨h1, h2, h3, h4, h5, h6, h7⟩ := ih hr' (by omega) (by simpa using ha)
    refine ⟨h1, h2, fun p hp => ?_, h4, h5, by omega, fun k hk => ?_⟩
    · rw [h3 p hp, cnp_next p _ hc ha, hp c 4 0 (by decide)]
      simp
    · rw [h7 k (by omega), List.getElem?_set, if_neg (by omega)]
  | @ans c rest ii ans X l e x hst h ih =>
    intro hr hl ha
    have hlt : ii < (cl i).length := by
      have := congrArg List.length hr
      simp at this
      omega
    have hc : (cl i)[ii]? = some c := by
      have : ((cl i).drop ii)[0]? = some c := by rw [← hr]; rfl
      simpa using this
    have hr' : rest = (cl i).drop (ii + 1) := by
      have := congrArg List.tail hr
      simpa [List.tail_drop] using this
    obtain ⟨rfl, rfl, p3⟩ : e = 1 ∧ x = 0 ∧ c.po ≠ 3 := by
      unfold mcGate at hst
      simp only at hst
      split at hst
      · cases hst
      · split at hst
        · cases hst
        · split at hst
          · cases hst
          · cases hst; exact ⟨rfl, rfl, by assumption⟩
    obtain ⟨h1, h2, h3, h4, h5, h6, h7⟩ := ih hr' (by omega) (by simpa using ha)
    refine ⟨h1, h2, fun p hp => ?_, h4, fun s hs => ?_, by omega, fun k hk => ?_⟩
    · rw [h3 p hp, cnp_next p _ hc ha, hp c 1 0 (by decide)]
      simp
    · simp only [List.mem_cons] at hs
      rcases hs with rfl | rfl | hs
      · exact ⟨fun h => absurd (show (9 : Int) = 4 from h.1) (by decide), fun h => absurd (show (9 : Int) = 10 from h) (by decide)⟩
      · exact ⟨fun h => absurd (show (10 : Int) = 4 from h.1) (by decide), fun _ => ⟨i, ii, c, rfl, hi, rfl, hc, fun h => absurd h p3⟩⟩
      · exact h5 s hs
    · rw [h7 k (by omega), List.getElem?_set, if_neg (by omega)]
  | @turn c rest ii ans op j q hst =>
    intro hr hl ha
    have hlt : ii < (cl i).length := by
      have := congrArg List.length hr
      simp at this
      omega
    have hc : (cl i)[ii]? = some c := by
      have : ((cl i).drop ii)[0]? = some c := by rw [← hr]; rfl
      simpa using this
    have hr' : rest = (cl i).drop (ii + 1) := by
      have := congrArg List.tail hr
      simpa [List.tail_drop] using this
    have hst' : j = 0 ∧ op = 1 ∧ ((q = (0, []) ∧ c.po = 1) ∨ (q = (2, []) ∧ c.po = 2) ∨ (q = (4, []) ∧ c.po = 3)) := by
      unfold mcGate at hst
      simp only at hst
      split at hst
      · cases hst; exact ⟨rfl, rfl, .inl ⟨rfl, by assumption⟩⟩
      · split at hst
        · cases hst; exact ⟨rfl, rfl, .inr (.inl ⟨rfl, by assumption⟩)⟩
        · split at hst
          · cases hst; exact ⟨rfl, rfl, .inr (.inr ⟨rfl, by assumption⟩)⟩
          · cases hst
    obtain ⟨rfl, rfl, hq⟩ := hst'
    refine ⟨ha, ⟨rfl, hr', c, hc, ?_⟩, fun p _ => rfl, ?_, fun s hs => ?_, Nat.le_refl _, fun _ _ => rfl⟩
    · rcases hq with ⟨h, h'⟩ | ⟨h, h'⟩ | ⟨h, h'⟩
      · exact .inl ⟨h, rfl, h'⟩
      · exact .inr (.inr (.inl ⟨h, rfl, h'⟩))
      · exact .inr (.inr (.inr (.inr (.inl ⟨h, rfl, h'⟩))))
    · rcases hq with ⟨rfl, h'⟩ | ⟨rfl, h'⟩ | ⟨rfl, h'⟩ <;> rfl
    · simp only [List.mem_singleton] at hs
      subst hs
      exact ⟨fun h => absurd (show (9 : Int) = 4 from h.1) (by decide), fun h => absurd (show (9 : Int) = 10 from h) (by decide)⟩
  | @wait c rest ii ans j q hst _ =>
    exfalso
    unfold mcGate at hst
    simp only at hst
    split at hst
    · cases hst
    · split at hst
      · cases hst
      · split at hst <;> cases hst
  | @waits c rest ii ans X l j q hst _ _ _ =>
    exfalso
    unfold mcGate at hst
    simp only at hst
    split at hst
    · cases hst
    · split at hst
      · cases hst
      · split at hst <;> cases hst

/-! ### Sums over the threads -/
def sumN (f : Nat → Nat) (N : Nat) : Nat := ((List.range N).map f).sum
theorem sumN_succ (f : Nat → Nat) (N : Nat) : sumN f (N + 1) = sumN f N + f N := by
  unfold sumN
  rw [List.range_succ, List.map_append, List.sum_append]
  simp
theorem sumN_congr {f g : Nat → Nat} : ∀ {N : Nat}, (∀ k, k < N → f k = g k) → sumN f N = sumN g N
  | 0, _ => rfl
  | N + 1, h => by rw [sumN_succ, sumN_succ, sumN_congr (fun k hk => h k (by omega)), h N (by omega)]
theorem sumN_upd {f g : Nat → Nat} {i : Nat} : ∀ {N : Nat}, i < N → (∀ k, k < N → k ≠ i → g k = f k) → sumN g N + f i = sumN f N + g i
  | N + 1, hi, h => by
    rw [sumN_succ, sumN_succ]
    by_cases e : i = N
    · subst e
      rw [sumN_congr (fun k hk => h k (by omega) (by omega))]
      omega
    · have := sumN_upd (N := N) (by omega) (fun k hk hne => h k (by omega) hne)
      rw [h N (by omega) (by omega)]
      omega

def cE (p : Cl → Int × Int → Bool) (cl : Nat → List Cl) (l : Nat → Ph) (i : Nat) : Nat := cnp p (cl i) (l i).ans (upG (cl i) (l i))
def cFp (cl : Nat → List Cl) (l : Nat → Ph) (i : Nat) : Nat := cE okF cl l i + pend (l i)

/-- What holds of a gate's Play. -/
structure GI (N : Nat) (cl : Nat → List Cl) (a b : Nat) (v : Vw) : Prop where
  b1 : b ≤ 1
  num : v.K = [((2 * a + b : Nat) : Int)]
  fold : gfold v.L = some (a, b)
  small : a ≤ v.L.length
  ends : EndsG N cl v.L
  len : ∀ i, i < N → (v.l i).ans.length = (cl i).length
  seat : ∀ i, i < N → SeatG (cl i) (v.l i)
  ent : a + sumN (cE okL cl v.l) N = sumN (cE okE cl v.l) N
  fst : sumN (cFp cl v.l) N ≤ b
  fst2 : sumN (cFp cl v.l) N = b ∨ ∃ i, i < N ∧ Has4 (v.l i).ans (upG (cl i) (v.l i))

section
variable {N : Nat} {cl : Nat → List Cl} {a b : Nat} {v v1 : Vw}
/-- One thread has moved on; the others are as they were. -/
theorem GI.step (h : GI N cl a b v) {i : Nat} (hi : i < N) {l' : Ph} (el : v1.l = upd v.l i l') {a' b' : Nat} (hb : b' ≤ 1) (hK : v1.K = [((2 * a' + b' : Nat) : Int)]) (hfold : gfold v1.L = some (a', b')) (hsm : a' ≤ v1.L.length) (hends : EndsG N cl v1.L) (hlen : l'.ans.length = (cl i).length) (hseat : SeatG (cl i) l')
    {dE dL dF : Nat} (hE : cnp okE (cl i) l'.ans (upG (cl i) l') = cE okE cl v.l i + dE) (hL : cnp okL (cl i) l'.ans (upG (cl i) l') = cE okL cl v.l i + dL) (hF : cnp okF (cl i) l'.ans (upG (cl i) l') + pend l' + dF = cFp cl v.l i + (b' - b)) (hbb : b ≤ b')
    (hent : a' + dL = a + dE) (h4 : Has4 (v.l i).ans (upG (cl i) (v.l i)) → Has4 l'.ans (upG (cl i) l')) (hd : dF = 0 ∨ Has4 l'.ans (upG (cl i) l')) : GI N cl a' b' v1 := by
  have own : v1.l i = l' := by rw [el, upd_same]
  have els : ∀ k, k ≠ i → v1.l k = v.l k := fun k hk => by rw [el, upd_ne _ _ hk]
  have eqE : ∀ p k, k ≠ i → cE p cl v1.l k = cE p cl v.l k := fun p k hk => by unfold cE; rw [els k hk]
  have sE := sumN_upd (f := cE okE cl v.l) (g := cE okE cl v1.l) hi (fun k _ hne => eqE okE k hne)
  have sL := sumN_upd (f := cE okL cl v.l) (g := cE okL cl v1.l) hi (fun k _ hne => eqE okL k hne)
  have sF := sumN_upd (f := cFp cl v.l) (g := cFp cl v1.l) hi (fun k _ hne => by unfold cFp; rw [eqE okF k hne, els k hne])
  have oE : cE okE cl v1.l i = cE okE cl v.l i + dE := by unfold cE; rw [own]; exact hE
  have oL : cE okL cl v1.l i = cE okL cl v.l i + dL := by unfold cE; rw [own]; exact hL
  have oF : cFp cl v1.l i + dF = cFp cl v.l i + (b' - b) := by
    have : cFp cl v1.l i = cnp okF (cl i) l'.ans (upG (cl i) l') + pend l' := by unfold cFp cE; rw [own]
    rw [this]; exact hF
  have e1 := h.ent
  have f1 := h.fst
  refine ⟨hb, hK, hfold, hsm, hends, fun k hk => ?_, fun k hk => ?_, by omega, by omega, ?_⟩
  · by_cases e : k = i
    · subst e; rw [own]; exact hlen
    · rw [els k e]; exact h.len k hk
  · by_cases e : k = i
    · subst e; rw [own]; exact hseat
    · rw [els k e]; exact h.seat k hk
  · rcases h.fst2 with f2 | ⟨k, hk, hh⟩
    · rcases hd with hd | hd
      · left; omega
      · exact .inr ⟨i, hi, by rw [own]; exact hd⟩
    · by_cases e : k = i
      · subst e; exact .inr ⟨k, hk, by rw [own]; exact h4 hh⟩
      · exact .inr ⟨k, hk, by rw [els k e]; exact hh⟩
end
end Go.Proofs.Ytfjjoohflcchnaa.Gen

namespace Go.Proofs.Ytfjjoohflcchnaa.Gen
open Go Go.Lift Go.Conc Go.RowKit

def InR (x : Int) : Prop := -9223372036854775808 ≤ x ∧ x < 9223372036854775808
def Cl.ok (c : Cl) : Prop := InR c.cb ∧ InR c.cc
/-- Where a list of ints lies that came in. -/
structure InI (W : World) (p : Option Addr) (b o : Nat) (xs : List Int) : Prop where
  at_ : 0 < xs.length → p = some ⟨b, o, none⟩
  cell : ∀ k x, xs[k]? = some x → W.cell? ⟨b, o + k, none⟩ = some (I x)
  inr : ∀ x ∈ xs, InR x
  len : xs.length ≤ 17592186043904
theorem InI.grows {W W' : World} {p : Option Addr} {b o : Nat} {xs : List Int} (h : InI W p b o xs) (g : Grows W W') : InI W' p b o xs :=
  ⟨h.at_, fun k x hk => g.cell (h.cell k x hk), h.inr, h.len⟩
/-- Where scripts lie that came in. -/
structure InS (W : World) (p : Option Addr) (b o n : Nat) (pc : Nat → Option Addr) (ln cp rb : Nat → Nat) (cl : Nat → List Cl) : Prop where
  at_ : 0 < n → p = some ⟨b, o, none⟩
  row : ∀ k, k < n → W.cell? ⟨b, o + k, none⟩ = some (.slice (pc k) (ln k) (cp k))
  len : ∀ j, j < n → (cl j).length = ln j
  pq : ∀ j, j < n → 0 < ln j → pc j = some ⟨rb j, roOf (pc j), none⟩
  call : ∀ j, j < n → ∀ (k : Nat) (c : Cl), (cl j)[k]? = some c → W.cell? ⟨rb j, roOf (pc j) + k * 4, none⟩ = some (I c.po) ∧ W.cell? ⟨rb j, roOf (pc j) + k * 4 + 1, none⟩ = some (I c.ca) ∧ W.cell? ⟨rb j, roOf (pc j) + k * 4 + 2, none⟩ = some (I c.cb) ∧ W.cell? ⟨rb j, roOf (pc j) + k * 4 + 3, none⟩ = some (I c.cc)
  ok : ∀ j, j < n → ∀ c ∈ cl j, InR c.ca ∧ c.ok
  n : n ≤ 17592186043904
theorem InS.grows {W W' : World} {p : Option Addr} {b o n : Nat} {pc : Nat → Option Addr} {ln cp rb : Nat → Nat} {cl : Nat → List Cl} (h : InS W p b o n pc ln cp rb cl) (g : Grows W W') : InS W' p b o n pc ln cp rb cl :=
  ⟨h.at_, fun k hk => g.cell (h.row k hk), h.len, h.pq, fun j hj k c hc => by
    have := h.call j hj k c hc
    exact ⟨g.cell this.1, g.cell this.2.1, g.cell this.2.2.1, g.cell this.2.2.2⟩, h.ok, h.n⟩

theorem lens_scrs (mc : Mc) (fid : FuncId) (caps : Array Value) (pk : Nat → Option Obj) (N n : Nat) (K : List (Nat × Int)) (pc : Nat → Option Addr) (ln cp rb : Nat → Nat) (cl : Nat → List Cl) (hl : ∀ j, j < n → (cl j).length ≤ 64) : lens (scrs mc fid caps pk N n K pc ln cp rb cl) ≤ 64 * n := by
  unfold lens scrs
  rw [List.map_map]
  have : ∀ (m j : Nat), j + m ≤ n → ((List.range' j m).map ((fun s : Scr mc => s.calls.length) ∘ scrOf mc fid caps pk N n (K.map (·.1)) pc ln cp rb cl)).sum ≤ 64 * m := by
    intro m
    induction m with
    | zero => intro j _; simp
    | succ m ih =>
      intro j hj
      rw [List.range'_succ, List.map_cons, List.sum_cons]
      have h1 := ih (j + 1) (by omega)
      have h2 : ((fun s : Scr mc => s.calls.length) ∘ scrOf mc fid caps pk N n (K.map (·.1)) pc ln cp rb cl) j ≤ 64 := hl j (by omega)
      omega
  exact this n 0 (by omega)
theorem scrs_len (mc : Mc) (fid : FuncId) (caps : Array Value) (pk : Nat → Option Obj) (N n : Nat) (K : List (Nat × Int)) (pc : Nat → Option Addr) (ln cp rb : Nat → Nat) (cl : Nat → List Cl) : (scrs mc fid caps pk N n K pc ln cp rb cl).length = n := by simp [scrs]
/-- The world is new: the scripts lie there for Play. -/
theorem asked_of {W v : World} {p : Option Addr} {b o n : Nat} {pc : Nat → Option Addr} {ln cp rb : Nat → Nat} {cl : Nat → List Cl} (h : InS W p b o n pc ln cp rb cl) {xs : List Int} {wb bk : Nat} {sc : Value} (hn : IsNew W xs wb bk sc v) (h64 : ∀ j, j < n → ln j ≤ 64) (h0 : 0 < n) : Asked v (newS wb bk W.heap.size sc xs) n b o pc ln cp rb cl := by
  have g := h.grows hn.old
  have far : ∀ (a : Addr) (x : Value), W.cell? a = some x → ¬ Own (newS wb bk W.heap.size sc xs) [] a.block := fun a x ha ho => by
    have := hn.new _ (.inl ho)
    have := World.block_lt_of_cell? _ _ ha
    omega
  refine ⟨fun j hj => ⟨h.len j hj, h64 j hj⟩, g.row, far _ _ (h.row 0 h0), fun j hj hl => ⟨h.pq j hj hl, ?_⟩, g.call, fun j hj c hc => (h.ok j hj c hc).1⟩
  obtain ⟨c, hc⟩ : ∃ c, (cl j)[0]? = some c := ⟨_, List.getElem?_eq_getElem (by rw [h.len j hj]; exact hl)⟩
  exact far _ _ (h.call j hj 0 c hc).1

end Go.Proofs.Ytfjjoohflcchnaa.Gen
