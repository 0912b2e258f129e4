/- GateGoes: for every schedule and all rows of numbers, the Play of scripts in which each Enter has a Leave of its own behind it, ahead of the next Shut, leaves nobody stuck and nobody in; no conditions. Part 31 of 37. (Joined, by program, of: GatGo, GatGo2.) -/
import Derived.Test.YtfjjoohflcchnaaGateGoes30
set_option linter.unusedSimpArgs false
set_option linter.unusedVariables false
namespace Go.Proofs.Ytfjjoohflcchnaa.Gen
open Go Go.Lift Go.Conc Go.RowKit
open Go.ConcN (upd upd_same upd_ne)

def n1 (calls : List Cl) (k : Nat) : Nat := (calls.take k).countP fun c => c.po == 1
def n2 (calls : List Cl) (k : Nat) : Nat := (calls.take k).countP fun c => c.po == 2
theorem n1_succ {calls : List Cl} {k : Nat} {c : Cl} (h : calls[k]? = some c) : n1 calls (k + 1) = n1 calls k + if c.po = 1 then 1 else 0 := by
  unfold n1
  rw [List.take_add_one, h, List.countP_append]
  show _ + List.countP _ [c] = _
  rw [List.countP_singleton]
  simp
theorem n2_succ {calls : List Cl} {k : Nat} {c : Cl} (h : calls[k]? = some c) : n2 calls (k + 1) = n2 calls k + if c.po = 2 then 1 else 0 := by
  unfold n2
  rw [List.take_add_one, h, List.countP_append]
  show _ + List.countP _ [c] = _
  rw [List.countP_singleton]
  simp
/-- Scripts of that kind. -/
structure Nest (calls : List Cl) : Prop where
  ops : ∀ c ∈ calls, c.po = 1 ∨ c.po = 2 ∨ c.po = 3
  le : ∀ k, k ≤ calls.length → n2 calls k ≤ n1 calls k
  shut : ∀ k c, calls[k]? = some c → c.po = 3 → n1 calls k = n2 calls k
  fin : n1 calls calls.length = n2 calls calls.length
/-- What the last Cas has left there. -/
def lastC (L : List Stp) : Int := L.foldl (fun y s => if s.op = 4 then s.ne else y) 0
theorem lastC_app (L X : List Stp) (h : ∀ s ∈ X, s.op ≠ 4) : lastC (L ++ X) = lastC L := by
  unfold lastC
  rw [List.foldl_append]
  generalize L.foldl (fun y s => if s.op = 4 then s.ne else y) 0 = y
  induction X generalizing y with
  | nil => rfl
  | cons s X ih =>
    rw [List.foldl_cons, if_neg (h s (List.mem_cons_self ..))]
    exact ih (fun x hx => h x (List.mem_cons_of_mem _ hx)) y
theorem lastC_one (L : List Stp) (s : Stp) (h : s.op = 4) : lastC (L ++ [s]) = s.ne := by
  unfold lastC
  rw [List.foldl_append]
  show (if s.op = 4 then s.ne else _) = _
  rw [if_pos h]

def Shutting : Ph → Prop
  | .turn _ _ q _ _ _ => q.1 = 6
  | .wait _ _ _ _ _ => True
  | .done _ => False
def Waits (l : Ph) : Prop := ∃ j q r k a, l = .wait j q r k a

/-- From a call's end to the next one's seat. -/
theorem fw_nest {calls : List Cl} (hN : Nest calls) {i : Nat} {rest : List Cl} {ii : Nat} {ans : List (Int × Int)} {X : List Stp} {l : Ph} (h : Fw mcGate i false rest ii false ans X l) (hr : rest = calls.drop ii) (hl : ii ≤ calls.length) : upG calls l = ii ∧ ¬ Shutting l ∧ ¬ Waits l ∧ ∀ s ∈ X, s.op ≠ 4 := by
  cases h with
  | nil =>
    have : calls.length = ii := by
      have := congrArg List.length hr
      simp at this
      omega
    exact ⟨this, fun h => h, fun ⟨j, q, r, k, a, h⟩ => (by cases h), fun s hs => (nomatch hs)⟩
  | @ans c rest _ _ X l e x hst h =>
    exfalso
    have hc : c ∈ calls := List.mem_of_mem_drop (i := ii) (by rw [← hr]; exact List.mem_cons_self ..)
    unfold mcGate at hst
    simp only at hst
    rcases hN.ops c hc with h | h | h <;> rw [h] at hst <;> simp at hst
  | @turn c rest _ _ op j q hst =>
    refine ⟨rfl, ?_, fun ⟨j, q, r, k, a, h⟩ => (by cases h), fun s hs => ?_⟩
    · show ¬ q.1 = 6
      unfold mcGate at hst
      simp only at hst
      split at hst
      · cases hst; decide
      · split at hst
        · cases hst; decide
        · split at hst
          · cases hst; decide
          · cases hst
    · simp only [List.mem_singleton] at hs
      subst hs
      show (9 : Int) ≠ 4
      decide
  | @wait c rest _ _ j q hst hs =>
    exfalso
    unfold mcGate at hst
    simp only at hst
    split at hst
    · cases hst
    · split at hst
      · cases hst
      · split at hst <;> cases hst
  | waits hst hs _ => cases hs

/-- What holds besides. -/
structure GX (N : Nat) (cl : Nat → List Cl) (a b : Nat) (v : Vw) : Prop where
  stk : v.stk = false
  b1 : b ≤ 1
  num : v.K = [((2 * a + b : Nat) : Int)]
  chg : ∃ c : Nat, v.chg = [(c : Int)] ∧ c ≤ v.L.length ∧ ∀ i, i < N → Waits (v.l i) → ∃ s : Nat, v.se i = (s : Int) ∧ s ≤ c ∧ (s = c → ¬ (a = 0 ∧ b = 1))
  dep : a + sumN (fun i => n2 (cl i) (upG (cl i) (v.l i))) N ≤ sumN (fun i => n1 (cl i) (upG (cl i) (v.l i))) N
  shut : ∀ i, i < N → Shutting (v.l i) → b = 1
  last : v.K = [lastC v.L]

section
variable {N : Nat} {cl : Nat → List Cl} {a b : Nat} {v v1 : Vw}
theorem sumN_le {f g : Nat → Nat} : ∀ {N : Nat}, (∀ k, k < N → f k ≤ g k) → sumN f N ≤ sumN g N
  | 0, _ => Nat.le_refl _
  | N + 1, h => by rw [sumN_succ, sumN_succ]; have := sumN_le (N := N) (fun k hk => h k (by omega)); have := h N (by omega); omega
theorem upG_le {calls : List Cl} {l : Ph} (h : SeatG calls l) : upG calls l ≤ calls.length := by
  cases l with
  | turn op j q r ii ans =>
    obtain ⟨_, _, c, hc, _⟩ := h
    exact Nat.le_of_lt (List.getElem?_eq_some_iff.1 hc).1
  | wait j q r ii ans =>
    obtain ⟨_, _, c, hc, _⟩ := h
    exact Nat.le_of_lt (List.getElem?_eq_some_iff.1 hc).1
  | done a => exact Nat.le_refl _

/-- One thread has moved on. -/
theorem GX.step (hN : ∀ i, i < N → Nest (cl i)) (x : GX N cl a b v) {i : Nat} (hi : i < N) {l' : Ph} (els : Els i l' v v1) (eS : v1.stk = false) {a' b' : Nat} (hb : b' ≤ 1) (hbb : b ≤ b') (hK : v1.K = [((2 * a' + b' : Nat) : Int)]) (hlast : v1.K = [lastC v1.L]) (hlen : v.L.length + 1 ≤ v1.L.length)
    (hc : (v1.chg = v.chg ∧ a' = a ∧ b' = b) ∨ (∃ c : Nat, v.chg = [(c : Int)] ∧ v1.chg = [((c + 1 : Nat) : Int)])) (hj : ∀ j q r k a, l' = .wait j q r k a → j = 0) (hw : Waits l' → (v1.chg = v.chg ∧ ¬ (a' = 0 ∧ b' = 1))) (hs : Shutting l' → b' = 1) (hseat : ∀ k, k < N → upG (cl k) (v1.l k) ≤ (cl k).length)
    (hd : a' = 0 ∨ ∃ e1 e2, n1 (cl i) (upG (cl i) l') = n1 (cl i) (upG (cl i) (v.l i)) + e1 ∧ n2 (cl i) (upG (cl i) l') = n2 (cl i) (upG (cl i) (v.l i)) + e2 ∧ a' + e2 ≤ a + e1) : GX N cl a' b' v1 := by
  have own : v1.l i = l' := by rw [els.l, upd_same]
  have oth : ∀ k, k ≠ i → v1.l k = v.l k := fun k hk => by rw [els.l, upd_ne _ _ hk]
  obtain ⟨c, c1, c2, c3⟩ := x.chg
  refine ⟨eS, hb, hK, ?_, ?_, fun k hk hsh => ?_, hlast⟩
  · rcases hc with ⟨h1, rfl, rfl⟩ | ⟨c', h1, h2⟩
    · refine ⟨c, by rw [h1]; exact c1, by omega, fun k hk hwk => ?_⟩
      by_cases e : k = i
      · subst e
        rw [own] at hwk
        obtain ⟨j, q, r, kk, ans, hl⟩ := hwk
        have hse := els.own j q r kk ans hl
        have hw2 := hw ⟨j, q, r, kk, ans, hl⟩
        obtain rfl := hj _ _ _ _ _ hl
        rw [h1, c1] at hse
        exact ⟨c, hse, Nat.le_refl _, fun _ => hw2.2⟩
      · rw [els.oth k e]; rw [oth k e] at hwk; exact c3 k hk hwk
    · obtain rfl : c = c' := by rw [c1] at h1; simp at h1; omega
      refine ⟨c + 1, h2, by omega, fun k hk hwk => ?_⟩
      by_cases e : k = i
      · subst e
        rw [own] at hwk
        exfalso
        have := (hw hwk).1
        rw [h2, c1] at this
        simp at this
        omega
      · rw [els.oth k e]; rw [oth k e] at hwk
        obtain ⟨s, s1, s2, _⟩ := c3 k hk hwk
        exact ⟨s, s1, by omega, fun h => by omega⟩
  · rcases hd with rfl | ⟨e1, e2, h1, h2, h3⟩
    · rw [Nat.zero_add]
      exact sumN_le fun k hk => (hN k hk).le _ (hseat k hk)
    · have s1 := sumN_upd (f := fun i => n1 (cl i) (upG (cl i) (v.l i))) (g := fun i => n1 (cl i) (upG (cl i) (v1.l i))) hi (fun k _ hne => by rw [oth k hne])
      have s2 := sumN_upd (f := fun i => n2 (cl i) (upG (cl i) (v.l i))) (g := fun i => n2 (cl i) (upG (cl i) (v1.l i))) hi (fun k _ hne => by rw [oth k hne])
      simp only [own] at s1 s2
      rw [h1] at s1
      rw [h2] at s2
      have := x.dep
      omega
  · by_cases e : k = i
    · subst e; rw [own] at hsh; exact hs hsh
    · rw [oth k e] at hsh
      have := x.shut k hk hsh
      omega

theorem bump_same (chg : List Int) (x : Int) : bump chg 0 x x = chg := by unfold bump; rw [if_neg (fun h => h.1 rfl)]
theorem bump_one {c : Nat} (hc : c ≤ 1000000) {x y : Int} (h : x ≠ y) : bump [(c : Int)] 0 x y = [((c + 1 : Nat) : Int)] := by
  unfold bump
  rw [if_pos ⟨h, by simp⟩]
  show [wrap64 ((c : Int) + 1)] = _
  have : wrap64 ((c : Int) + 1) = ((c + 1 : Nat) : Int) := by unfold wrap64; omega
  rw [this]

set_option maxHeartbeats 2000000 in
theorem goes_mv (hN : ∀ i, i < N → Nest (cl i)) (h : GI N cl a b v) (x : GX N cl a b v) (hB : v.L.length ≤ 400000) (m : Mv mcGate N v v1) : ∃ a' b', GI N cl a' b' v1 ∧ GX N cl a' b' v1 := by
  obtain ⟨a1, b1, hI⟩ := gate_mv h hB m
  suffices hx : ∃ a2 b2, GX N cl a2 b2 v1 by
    obtain ⟨a2, b2, hx⟩ := hx
    have e := hI.num.symm.trans hx.num
    simp only [List.cons.injEq, and_true] at e
    have h1 := hI.b1
    have h2 := hx.b1
    have : a1 = a2 ∧ b1 = b2 := by omega
    obtain ⟨rfl, rfl⟩ := this
    exact ⟨a1, b1, hI, hx⟩
  have ha : a ≤ 1000000 := by have := h.small; omega
  have hx : v.K.getD 0 0 = ((2 * a + b : Nat) : Int) := by rw [h.num]; rfl
  have hseat : ∀ k, k < N → upG (cl k) (v1.l k) ≤ (cl k).length := fun k hk => upG_le (hI.seat k hk)
  obtain ⟨cc, hcc, hcl, hcw⟩ := x.chg
  have hlv : lastC v.L = ((2 * a + b : Nat) : Int) := by have := x.num.symm.trans x.last; simp only [List.cons.injEq, and_true] at this; exact this.symm
  cases m with
  | stuck h1 h2 h3 e =>
    exfalso
    obtain ⟨i0, hi0, j, q, r, k, an, hl0⟩ := h3
    have hb : b = 1 := x.shut i0 hi0 (by rw [hl0]; trivial)
    have heq : ∀ i, i < N → n1 (cl i) (upG (cl i) (v.l i)) = n2 (cl i) (upG (cl i) (v.l i)) := fun i hi => by
      rcases h2 i hi with ⟨an, hl⟩ | ⟨j, q, r, k, an, hl, _⟩
      · rw [hl]; exact (hN i hi).fin
      · have hs := h.seat i hi
        rw [hl] at hs ⊢
        obtain ⟨_, _, c, hc, hpo, _⟩ := hs
        exact (hN i hi).shut k c hc hpo
    have ha0 : a = 0 := by
      have := x.dep
      rw [sumN_congr heq] at this
      omega
    have hwt : Waits (v.l i0) := ⟨j, q, r, k, an, hl0⟩
    obtain ⟨s, s1, s2, s3⟩ := hcw i0 hi0 hwt
    have hs0 := h.seat i0 hi0
    rw [hl0] at hs0
    obtain ⟨rfl, _⟩ := hs0
    rcases h2 i0 hi0 with ⟨an', hl⟩ | ⟨j', q', r', k', an', hl, hse⟩
    · rw [hl0] at hl; cases hl
    · rw [hl0] at hl
      cases hl
      rw [hcc, s1] at hse
      have hse' : (cc : Int) = (s : Int) := hse
      exact s3 (by omega) ⟨ha0, hb⟩
  | free i j q rest ii ans X l' hi hl hs hfw els eK eS eC eL => rw [x.stk] at hs; cases hs
  | wake i j q rest ii ans X l' hi hl hs hc hon els eK eS eC eL =>
    have hst := h.seat i hi
    rw [hl] at hst
    obtain ⟨rfl, hr, c, hc1, hpo, f, rfl⟩ := hst
    have hw : mcGate.woke (7, [f]) = .turn 1 0 (6, [f]) := rfl
    rw [hw] at hon
    cases hon
    have hb : b = 1 := x.shut i hi (by rw [hl]; trivial)
    have hla : v1.K = [lastC v1.L] := by
      rw [eK, eL, lastC_app _ _ (fun s hs => by simp at hs; subst hs; show (6 : Int) ≠ 4; decide)]
      exact x.last
    exact ⟨a, b, x.step hN hi els eS x.b1 (Nat.le_refl _) (by rw [eK]; exact x.num) hla (by rw [eL]; simp) (.inl ⟨eC, rfl, rfl⟩) (fun _ _ _ _ _ h => by cases h) (fun ⟨_, _, _, _, _, h⟩ => by cases h) (fun _ => hb) hseat (.inr ⟨0, 0, by rw [hl]; rfl, by rw [hl]; rfl, Nat.le_refl _⟩)⟩
  | turn i op j q rest ii ans X l' hi hl hon els eK eS eC eL =>
    have hst := h.seat i hi
    rw [hl] at hst
    obtain ⟨rfl, hr, c, hc1, hq⟩ := hst
    rw [hx] at hon eK eC eL
    rw [x.stk] at hon eS
    have hup : upG (cl i) (v.l i) = ii := by rw [hl]; rfl
    have hlt : ii < (cl i).length := (List.getElem?_eq_some_iff.1 hc1).1
    have hod := odd1_of h.b1 ha
    have hKs : ∀ y : Int, v.K.set 0 y = [y] := fun y => by rw [h.num]; rfl
    have hb01 : b = 0 ∨ b = 1 := by have := h.b1; omega
    have k1 := n1_succ hc1
    have k2 := n2_succ hc1
    -- an answer: the next call's seat
    have nxt : ∀ (e y : Int) (Y : List Stp) (l2 : Ph), (e == 4) = false → Fw mcGate i false rest (ii + 1) (e == 4) (ans.set ii (e, y)) Y l2 → upG (cl i) l2 = ii + 1 ∧ ¬ Shutting l2 ∧ ¬ Waits l2 ∧ ∀ s ∈ ((⟨i, -1, 10, ii, e⟩ : Stp) :: Y), s.op ≠ 4 := fun e y Y l2 he hfw => by
      rw [he] at hfw
      obtain ⟨f1, f2, f3, f4⟩ := fw_nest (hN i hi) hfw hr (by omega)
      refine ⟨f1, f2, f3, fun s hs => ?_⟩
      simp only [List.mem_cons] at hs
      rcases hs with rfl | hs
      · show (10 : Int) ≠ 4; decide
      · exact f4 s hs
    have app : ∀ (s : Stp) (Y : List Stp), v.L ++ s :: Y = (v.L ++ [s]) ++ Y := fun s Y => by simp
    have ld : ∀ (y : Int) (Y : List Stp), (∀ s ∈ Y, s.op ≠ 4) → lastC (v.L ++ (⟨i, (0 : Nat), 1, y, y⟩ : Stp) :: Y) = ((2 * a + b : Nat) : Int) := fun y Y hY => by
      rw [lastC_app _ _ (fun s hs => by simp only [List.mem_cons] at hs; rcases hs with rfl | hs; (show (1 : Int) ≠ 4; decide); exact hY s hs)]
      exact hlv
    have cs : ∀ (o n : Int) (Y : List Stp), (∀ s ∈ Y, s.op ≠ 4) → lastC (v.L ++ (⟨i, (0 : Nat), 4, o, n⟩ : Stp) :: Y) = n := fun o n Y hY => by
      rw [app, lastC_app _ _ hY, lastC_one _ _ rfl]
    have no : ∀ s ∈ ([] : List Stp), s.op ≠ 4 := fun s hs => (nomatch hs)
    have len1 : ∀ (s : Stp) (Y : List Stp), v.L.length + 1 ≤ (v.L ++ s :: Y).length := fun s Y => by simp
    rcases hq with ⟨rfl, rfl, hpo⟩ | ⟨y, rfl, rfl, hpo, hy⟩ | ⟨rfl, rfl, hpo⟩ | ⟨y, rfl, rfl, hpo, hy⟩ | ⟨rfl, rfl, hpo⟩ | ⟨y, rfl, rfl, hpo, hy⟩ | ⟨f, rfl, rfl, hpo⟩
    · -- Enter looks
      have ht : mcGate.turn (0, []) ((2 * a + b : Nat) : Int) = ((((2 * a + b : Nat) : Int), ((2 * a + b : Nat) : Int)), ((2 * a + b : Nat) : Int), if odd1 ((2 * a + b : Nat) : Int) then .ans 60 0 else .turn 4 0 (1, [((2 * a + b : Nat) : Int)])) := rfl
      rw [ht] at hon eK eL eC
      simp only at hon eK eL eC
      rw [hKs] at eK
      rw [bump_same] at eC
      cases ho : odd1 ((2 * a + b : Nat) : Int) with
      | true =>
        rw [ho, if_pos rfl] at hon
        cases hon with
        | ans hfw =>
          obtain ⟨f1, f2, f3, f4⟩ := nxt 60 0 _ _ rfl hfw
          refine ⟨a, b, x.step hN hi els eS x.b1 (Nat.le_refl _) eK (by rw [eK, eL, ld _ _ f4]) (by rw [eL]; exact len1 _ _) (.inl ⟨eC, rfl, rfl⟩) (fun j q r k an h => absurd ⟨j, q, r, k, an, h⟩ f3) (fun h => absurd h f3) (fun h => absurd h f2) hseat (.inr ⟨1, 0, ?_, ?_, by omega⟩)⟩
          · rw [f1, hup, k1, if_pos hpo]
          · rw [f1, hup, k2, if_neg (by omega)]
      | false =>
        rw [ho, if_neg (by simp)] at hon
        cases hon
        exact ⟨a, b, x.step hN hi els eS x.b1 (Nat.le_refl _) eK (by rw [eK, eL, ld _ _ no]) (by rw [eL]; exact len1 _ _) (.inl ⟨eC, rfl, rfl⟩) (fun _ _ _ _ _ h => by cases h) (fun ⟨_, _, _, _, _, h⟩ => by cases h) (fun h => absurd (show (1 : Nat) = 6 from h) (by decide)) hseat (.inr ⟨0, 0, by rw [hup]; rfl, by rw [hup]; rfl, Nat.le_refl _⟩)⟩
    · -- Enter tries
      have ht : mcGate.turn (1, [y]) ((2 * a + b : Nat) : Int) = ((effCas y (wrap64 (y + 2)) ((2 * a + b : Nat) : Int)).1, (effCas y (wrap64 (y + 2)) ((2 * a + b : Nat) : Int)).2.1, if ((2 * a + b : Nat) : Int) = y then .ans 0 0 else .turn 1 0 (0, [])) := rfl
      rw [ht] at hon eK eL eC
      simp only at hon eK eL eC
      by_cases hxy : ((2 * a + b : Nat) : Int) = y
      · rw [if_pos hxy] at hon
        subst hxy
        have hb0 : b = 0 := by rw [hod] at hy; rcases hb01 with rfl | rfl; rfl; exact absurd hy (by decide)
        subst hb0
        have hw : wrap64 (((2 * a + 0 : Nat) : Int) + 2) = ((2 * (a + 1) + 0 : Nat) : Int) := by unfold wrap64; omega
        rw [show effCas ((2 * a + 0 : Nat) : Int) (wrap64 (((2 * a + 0 : Nat) : Int) + 2)) ((2 * a + 0 : Nat) : Int) = ((((2 * a + 0 : Nat) : Int), wrap64 (((2 * a + 0 : Nat) : Int) + 2)), wrap64 (((2 * a + 0 : Nat) : Int) + 2), .bool true) by unfold effCas; rw [if_pos rfl], hw] at eK eL eC
        simp only at eK eL eC
        rw [hKs] at eK
        rw [hcc, bump_one (by omega) (by omega)] at eC
        cases hon with
        | ans hfw =>
          obtain ⟨f1, f2, f3, f4⟩ := nxt 0 0 _ _ rfl hfw
          refine ⟨a + 1, 0, x.step hN hi els eS (by decide) (Nat.le_refl _) eK (by rw [eK, eL, cs _ _ _ f4]) (by rw [eL]; exact len1 _ _) (.inr ⟨cc, hcc, eC⟩) (fun j q r k an h => absurd ⟨j, q, r, k, an, h⟩ f3) (fun h => absurd h f3) (fun h => absurd h f2) hseat (.inr ⟨1, 0, ?_, ?_, by omega⟩)⟩
          · rw [f1, hup, k1, if_pos hpo]
          · rw [f1, hup, k2, if_neg (by omega)]
      · rw [if_neg hxy] at hon
        rw [show effCas y (wrap64 (y + 2)) ((2 * a + b : Nat) : Int) = ((((2 * a + b : Nat) : Int), ((2 * a + b : Nat) : Int)), ((2 * a + b : Nat) : Int), .bool false) by unfold effCas; rw [if_neg hxy]] at eK eL eC
        simp only at eK eL eC
        rw [hKs] at eK
        rw [bump_same] at eC
        cases hon
        exact ⟨a, b, x.step hN hi els eS x.b1 (Nat.le_refl _) eK (by rw [eK, eL, cs _ _ _ no]) (by rw [eL]; exact len1 _ _) (.inl ⟨eC, rfl, rfl⟩) (fun _ _ _ _ _ h => by cases h) (fun ⟨_, _, _, _, _, h⟩ => by cases h) (fun h => absurd (show (0 : Nat) = 6 from h) (by decide)) hseat (.inr ⟨0, 0, by rw [hup]; rfl, by rw [hup]; rfl, Nat.le_refl _⟩)⟩
    · -- Leave looks
      have ht : mcGate.turn (2, []) ((2 * a + b : Nat) : Int) = ((((2 * a + b : Nat) : Int), ((2 * a + b : Nat) : Int)), ((2 * a + b : Nat) : Int), if ((2 * a + b : Nat) : Int) < 2 then .ans 61 0 else .turn 4 0 (3, [((2 * a + b : Nat) : Int)])) := rfl
      rw [ht] at hon eK eL eC
      simp only at hon eK eL eC
      rw [hKs] at eK
      rw [bump_same] at eC
      by_cases ho : ((2 * a + b : Nat) : Int) < 2
      · rw [if_pos ho] at hon
        cases hon with
        | ans hfw =>
          obtain ⟨f1, f2, f3, f4⟩ := nxt 61 0 _ _ rfl hfw
          exact ⟨a, b, x.step hN hi els eS x.b1 (Nat.le_refl _) eK (by rw [eK, eL, ld _ _ f4]) (by rw [eL]; exact len1 _ _) (.inl ⟨eC, rfl, rfl⟩) (fun j q r k an h => absurd ⟨j, q, r, k, an, h⟩ f3) (fun h => absurd h f3) (fun h => absurd h f2) hseat (.inl (by omega))⟩
      · rw [if_neg ho] at hon
        cases hon
        exact ⟨a, b, x.step hN hi els eS x.b1 (Nat.le_refl _) eK (by rw [eK, eL, ld _ _ no]) (by rw [eL]; exact len1 _ _) (.inl ⟨eC, rfl, rfl⟩) (fun _ _ _ _ _ h => by cases h) (fun ⟨_, _, _, _, _, h⟩ => by cases h) (fun h => absurd (show (3 : Nat) = 6 from h) (by decide)) hseat (.inr ⟨0, 0, by rw [hup]; rfl, by rw [hup]; rfl, Nat.le_refl _⟩)⟩
    · -- Leave tries
      have ht : mcGate.turn (3, [y]) ((2 * a + b : Nat) : Int) = ((effCas y (wrap64 (y - 2)) ((2 * a + b : Nat) : Int)).1, (effCas y (wrap64 (y - 2)) ((2 * a + b : Nat) : Int)).2.1, if ((2 * a + b : Nat) : Int) = y then .ans 0 0 else .turn 1 0 (2, [])) := rfl
      rw [ht] at hon eK eL eC
      simp only at hon eK eL eC
      by_cases hxy : ((2 * a + b : Nat) : Int) = y
      · rw [if_pos hxy] at hon
        subst hxy
        obtain ⟨a0, rfl⟩ : ∃ a0, a = a0 + 1 := ⟨a - 1, by have := h.b1; omega⟩
        have hw : wrap64 (((2 * (a0 + 1) + b : Nat) : Int) - 2) = ((2 * a0 + b : Nat) : Int) := by unfold wrap64; omega
        rw [show effCas ((2 * (a0 + 1) + b : Nat) : Int) (wrap64 (((2 * (a0 + 1) + b : Nat) : Int) - 2)) ((2 * (a0 + 1) + b : Nat) : Int) = ((((2 * (a0 + 1) + b : Nat) : Int), wrap64 (((2 * (a0 + 1) + b : Nat) : Int) - 2)), wrap64 (((2 * (a0 + 1) + b : Nat) : Int) - 2), .bool true) by unfold effCas; rw [if_pos rfl], hw] at eK eL eC
        simp only at eK eL eC
        rw [hKs] at eK
        rw [hcc, bump_one (by omega) (by omega)] at eC
        cases hon with
        | ans hfw =>
          obtain ⟨f1, f2, f3, f4⟩ := nxt 0 0 _ _ rfl hfw
          refine ⟨a0, b, x.step hN hi els eS x.b1 (Nat.le_refl _) eK (by rw [eK, eL, cs _ _ _ f4]) (by rw [eL]; exact len1 _ _) (.inr ⟨cc, hcc, eC⟩) (fun j q r k an h => absurd ⟨j, q, r, k, an, h⟩ f3) (fun h => absurd h f3) (fun h => absurd h f2) hseat (.inr ⟨0, 1, ?_, ?_, by omega⟩)⟩
          · rw [f1, hup, k1, if_neg (by omega)]
          · rw [f1, hup, k2, if_pos hpo]
      · rw [if_neg hxy] at hon
        rw [show effCas y (wrap64 (y - 2)) ((2 * a + b : Nat) : Int) = ((((2 * a + b : Nat) : Int), ((2 * a + b : Nat) : Int)), ((2 * a + b : Nat) : Int), .bool false) by unfold effCas; rw [if_neg hxy]] at eK eL eC
        simp only at eK eL eC
        rw [hKs] at eK
        rw [bump_same] at eC
        cases hon
        exact ⟨a, b, x.step hN hi els eS x.b1 (Nat.le_refl _) eK (by rw [eK, eL, cs _ _ _ no]) (by rw [eL]; exact len1 _ _) (.inl ⟨eC, rfl, rfl⟩) (fun _ _ _ _ _ h => by cases h) (fun ⟨_, _, _, _, _, h⟩ => by cases h) (fun h => absurd (show (2 : Nat) = 6 from h) (by decide)) hseat (.inr ⟨0, 0, by rw [hup]; rfl, by rw [hup]; rfl, Nat.le_refl _⟩)⟩
    · -- Shut looks whether it is shut
      have ht : mcGate.turn (4, []) ((2 * a + b : Nat) : Int) = ((((2 * a + b : Nat) : Int), ((2 * a + b : Nat) : Int)), ((2 * a + b : Nat) : Int), if odd1 ((2 * a + b : Nat) : Int) then .turn 1 0 (6, [0]) else .turn 4 0 (5, [((2 * a + b : Nat) : Int)])) := rfl
      rw [ht] at hon eK eL eC
      simp only at hon eK eL eC
      rw [hKs] at eK
      rw [bump_same] at eC
      cases ho : odd1 ((2 * a + b : Nat) : Int) with
      | true =>
        rw [ho, if_pos rfl] at hon
        cases hon
        have hb1 : b = 1 := by rw [hod] at ho; simpa using ho
        exact ⟨a, b, x.step hN hi els eS x.b1 (Nat.le_refl _) eK (by rw [eK, eL, ld _ _ no]) (by rw [eL]; exact len1 _ _) (.inl ⟨eC, rfl, rfl⟩) (fun _ _ _ _ _ h => by cases h) (fun ⟨_, _, _, _, _, h⟩ => by cases h) (fun _ => hb1) hseat (.inr ⟨0, 0, by rw [hup]; rfl, by rw [hup]; rfl, Nat.le_refl _⟩)⟩
      | false =>
        rw [ho, if_neg (by simp)] at hon
        cases hon
        exact ⟨a, b, x.step hN hi els eS x.b1 (Nat.le_refl _) eK (by rw [eK, eL, ld _ _ no]) (by rw [eL]; exact len1 _ _) (.inl ⟨eC, rfl, rfl⟩) (fun _ _ _ _ _ h => by cases h) (fun ⟨_, _, _, _, _, h⟩ => by cases h) (fun h => absurd (show (5 : Nat) = 6 from h) (by decide)) hseat (.inr ⟨0, 0, by rw [hup]; rfl, by rw [hup]; rfl, Nat.le_refl _⟩)⟩
    · -- Shut tries
      have ht : mcGate.turn (5, [y]) ((2 * a + b : Nat) : Int) = ((effCas y (wrap64 (y + 1)) ((2 * a + b : Nat) : Int)).1, (effCas y (wrap64 (y + 1)) ((2 * a + b : Nat) : Int)).2.1, if ((2 * a + b : Nat) : Int) = y then .turn 1 0 (6, [1]) else .turn 1 0 (4, [])) := rfl
      rw [ht] at hon eK eL eC
      simp only at hon eK eL eC
      by_cases hxy : ((2 * a + b : Nat) : Int) = y
      · rw [if_pos hxy] at hon
        subst hxy
        have hb0 : b = 0 := by rw [hod] at hy; rcases hb01 with rfl | rfl; rfl; exact absurd hy (by decide)
        subst hb0
        have hw : wrap64 (((2 * a + 0 : Nat) : Int) + 1) = ((2 * a + 1 : Nat) : Int) := by unfold wrap64; omega
        rw [show effCas ((2 * a + 0 : Nat) : Int) (wrap64 (((2 * a + 0 : Nat) : Int) + 1)) ((2 * a + 0 : Nat) : Int) = ((((2 * a + 0 : Nat) : Int), wrap64 (((2 * a + 0 : Nat) : Int) + 1)), wrap64 (((2 * a + 0 : Nat) : Int) + 1), .bool true) by unfold effCas; rw [if_pos rfl], hw] at eK eL eC
        simp only at eK eL eC
        rw [hKs] at eK
        rw [hcc, bump_one (by omega) (by omega)] at eC
        cases hon
        exact ⟨a, 1, x.step hN hi els eS (Nat.le_refl _) (by decide) eK (by rw [eK, eL, cs _ _ _ no]) (by rw [eL]; exact len1 _ _) (.inr ⟨cc, hcc, eC⟩) (fun _ _ _ _ _ h => by cases h) (fun ⟨_, _, _, _, _, h⟩ => by cases h) (fun _ => rfl) hseat (.inr ⟨0, 0, by rw [hup]; rfl, by rw [hup]; rfl, Nat.le_refl _⟩)⟩
      · rw [if_neg hxy] at hon
        rw [show effCas y (wrap64 (y + 1)) ((2 * a + b : Nat) : Int) = ((((2 * a + b : Nat) : Int), ((2 * a + b : Nat) : Int)), ((2 * a + b : Nat) : Int), .bool false) by unfold effCas; rw [if_neg hxy]] at eK eL eC
        simp only at eK eL eC
        rw [hKs] at eK
        rw [bump_same] at eC
        cases hon
        exact ⟨a, b, x.step hN hi els eS x.b1 (Nat.le_refl _) eK (by rw [eK, eL, cs _ _ _ no]) (by rw [eL]; exact len1 _ _) (.inl ⟨eC, rfl, rfl⟩) (fun _ _ _ _ _ h => by cases h) (fun ⟨_, _, _, _, _, h⟩ => by cases h) (fun h => absurd (show (4 : Nat) = 6 from h) (by decide)) hseat (.inr ⟨0, 0, by rw [hup]; rfl, by rw [hup]; rfl, Nat.le_refl _⟩)⟩
    · -- Shut looks whether nobody is in
      have hb1 : b = 1 := x.shut i hi (by rw [hl]; rfl)
      have ht : mcGate.turn (6, [f]) ((2 * a + b : Nat) : Int) = ((((2 * a + b : Nat) : Int), ((2 * a + b : Nat) : Int)), ((2 * a + b : Nat) : Int), if ((2 * a + b : Nat) : Int) = 1 then .ans 0 f else .wait 0 (7, [f])) := rfl
      rw [ht] at hon eK eL eC
      simp only at hon eK eL eC
      rw [hKs] at eK
      rw [bump_same] at eC
      by_cases ho : ((2 * a + b : Nat) : Int) = 1
      · rw [if_pos ho] at hon
        cases hon with
        | ans hfw =>
          obtain ⟨f1, f2, f3, f4⟩ := nxt 0 f _ _ rfl hfw
          exact ⟨a, b, x.step hN hi els eS x.b1 (Nat.le_refl _) eK (by rw [eK, eL, ld _ _ f4]) (by rw [eL]; exact len1 _ _) (.inl ⟨eC, rfl, rfl⟩) (fun j q r k an h => absurd ⟨j, q, r, k, an, h⟩ f3) (fun h => absurd h f3) (fun h => absurd h f2) hseat (.inl (by omega))⟩
      · rw [if_neg ho] at hon
        cases hon with
        | wait hs =>
          exact ⟨a, b, x.step hN hi els eS x.b1 (Nat.le_refl _) eK (by rw [eK, eL, ld _ _ no]) (by rw [eL]; exact len1 _ _) (.inl ⟨eC, rfl, rfl⟩) (fun _ _ _ _ _ h => by cases h; rfl) (fun _ => ⟨eC, by omega⟩) (fun _ => hb1) hseat (.inr ⟨0, 0, by rw [hup]; rfl, by rw [hup]; rfl, Nat.le_refl _⟩)⟩
        | waits hs hfw => cases hs
end
end Go.Proofs.Ytfjjoohflcchnaa.Gen

namespace Go.Proofs.Ytfjjoohflcchnaa.Gen
open Go Go.Lift Go.Conc Go.RowKit
open Go.ConcN (upd upd_same upd_ne)

theorem hi_goes {cl : Nat → List Cl} {k : Nat} {cs : List (List Cl)} {v v' : Vw} (h : Hi mcGate k cs v v') : cs = (List.range' k cs.length).map cl → (∀ i, i < k + cs.length → Nest (cl i)) → GX k cl 0 0 v → GX (k + cs.length) cl 0 0 v' := by
  induction h with
  | nil => intro _ _ hv; exact hv
  | @cons k c cs v v1 v2 X l' hF e1 e2 e3 e4 e5 h ih =>
    intro hc hN hv
    rw [List.length_cons, List.range'_succ, List.map_cons] at hc
    obtain ⟨hc1, hc2⟩ := List.cons.inj hc
    subst hc1
    rw [List.length_cons] at hN
    have own : v1.l k = l' := by rw [e5.l, upd_same]
    have els : ∀ i, i ≠ k → v1.l i = v.l i := fun i hi => by rw [e5.l, upd_ne _ _ hi]
    rw [hv.stk] at hF
    obtain ⟨f1, f2, f3, f4⟩ := fw_nest (hN k (by omega)) hF rfl (Nat.zero_le _)
    have hk : GX (k + 1) cl 0 0 v1 := by
      obtain ⟨c, c1, c2, c3⟩ := hv.chg
      refine ⟨by rw [e2]; exact hv.stk, by decide, by rw [e1]; exact hv.num, ⟨c, by rw [e3]; exact c1, by rw [e4]; simp; omega, fun i hi hw => ?_⟩, ?_, fun i hi hs => ?_, by rw [e1, e4, lastC_app _ _ f4]; exact hv.last⟩
      · by_cases hne : i = k
        · subst hne; rw [own] at hw; exact absurd hw f3
        · rw [els i hne] at hw; rw [e5.oth i hne]; exact c3 i (by omega) hw
      · rw [sumN_succ, sumN_succ, own, f1]
        have : n1 (cl k) 0 = 0 ∧ n2 (cl k) 0 = 0 := ⟨rfl, rfl⟩
        have q1 : sumN (fun i => n1 (cl i) (upG (cl i) (v1.l i))) k = sumN (fun i => n1 (cl i) (upG (cl i) (v.l i))) k := sumN_congr fun i hi => by rw [els i (by omega)]
        have q2 : sumN (fun i => n2 (cl i) (upG (cl i) (v1.l i))) k = sumN (fun i => n2 (cl i) (upG (cl i) (v.l i))) k := sumN_congr fun i hi => by rw [els i (by omega)]
        have q3 := hv.dep
        omega
      · by_cases hne : i = k
        · subst hne; rw [own] at hs; exact absurd hs f2
        · rw [els i hne] at hs; exact hv.shut i (by omega) hs
    have := ih hc2 (fun i hi => hN i (by omega)) hk
    rw [List.length_cons, show k + (cs.length + 1) = k + 1 + cs.length by omega]
    exact this

theorem gate_goes {caps : Array Value} {pk : Nat → Option Obj} {N n : Nat} {K : List (Nat × Int)} (hK : K.map (·.2) = [0]) {pc : Nat → Option Addr} {ln cp rb : Nat → Nat} {cl : Nat → List Cl} {wb bk base : Nat} {sc cv : Value} {sched : List Int} {l0 l1 : Nat → Ph} {S1 : TS} {m : Nat} {p' : PSt} (hN : ∀ i, i < n → Nest (cl i))
    (hlen : ∀ j, j < n → (cl j).length = ln j ∧ ln j ≤ 64) (hn8 : n ≤ 8)
    (hH : Hires mcGate 0 (scrs mcGate 77 caps pk N n K pc ln cp rb cl) (nv { cellsS (newS wb bk base sc sched) cv 1 with ran := true }) l0 S1 l1) (hT : Turns mcGate m ⟨S1, K, l1⟩ p') (hl0 : ∀ i, l0 i = .done []) (hsm : p'.S.n ≤ 400000) :
    ∃ L b, p'.S.tr = flat L ∧ p'.S.n = L.length ∧ p'.S.stk = false ∧ b ≤ 1 ∧ lastC L = ((b : Nat) : Int) := by
  let v0 : Vw := ⟨[0], false, [0], fun _ => 0, l0, []⟩
  have hs0 : Seen ⟨nv { cellsS (newS wb bk base sc sched) cv 1 with ran := true }, K, l0⟩ v0 := ⟨hK.symm, rfl, rfl, fun i => rfl, rfl, rfl, rfl, fun i t ht => by cases ht⟩
  have hcs : (scrs mcGate 77 caps pk N n K pc ln cp rb cl).map (·.calls) = (List.range' 0 n).map cl := by
    unfold scrs
    rw [List.map_map]
    rfl
  obtain ⟨v1, hi1, hs1⟩ := hires_hi (K := K) hH v0 rfl (fun s hs => by
    simp only [scrs, List.mem_map, List.mem_range'] at hs
    obtain ⟨j, ⟨i, hi, rfl⟩, rfl⟩ := hs
    show List.replicate (ln (0 + 1 * i)) (0, 0) = List.replicate (cl (0 + 1 * i)).length (0, 0)
    rw [(hlen _ (by omega)).1]) hs0
  rw [hcs] at hi1
  have hki := hi_gate (cl := cl) hi1 (by simp) ⟨by decide, rfl, rfl, Nat.zero_le _, fun A s B e => (by cases A <;> cases e), fun i hi => (by omega), fun i hi => (by omega), rfl, Nat.le_refl _, .inl rfl⟩
  have hkx := hi_goes (cl := cl) hi1 (by simp) (fun i hi => hN i (by simpa using hi)) ⟨rfl, by decide, rfl, ⟨0, rfl, Nat.zero_le _, fun i hi => (by omega)⟩, Nat.le_refl _, fun i hi => (by omega), rfl⟩
  rw [Nat.zero_add, List.length_map, List.length_range'] at hki hkx
  obtain ⟨a1, a2, a3, a4⟩ := hires_gd metGate hH rfl (by rw [scrs_len]; omega) (fun i t ht => by cases ht)
  rw [scrs_len, Nat.zero_add] at a1
  have g : Gd metGate ⟨S1, K, l1⟩ := ⟨by show S1.thr.length ≤ 8; omega, a2⟩
  obtain ⟨v', hI, hs', _, hd⟩ := turns_mv metGate (N := n) (Inv := fun v => v.L.length ≤ 400000 → ∃ a b, GI n cl a b v ∧ GX n cl a b v) (fun v v1 hv hm hB => by
    have hB0 : v.L.length ≤ 400000 := Nat.le_trans (mv_lenG hm) hB
    obtain ⟨a, b, hk, hx⟩ := hv hB0
    exact goes_mv hN hk hx hB0 hm) hT v1 a1 g hs1 (fun _ => ⟨0, 0, hki, hkx⟩)
  obtain ⟨a, b, hk, hx⟩ := hI (by rw [← hs'.n]; exact hsm)
  have heq : ∀ i, i < n → n1 (cl i) (upG (cl i) (v'.l i)) = n2 (cl i) (upG (cl i) (v'.l i)) := fun i hi => by
    obtain ⟨an, ha⟩ := hd i hi
    rw [ha]
    exact (hN i hi).fin
  have ha0 : a = 0 := by
    have := hx.dep
    rw [sumN_congr heq] at this
    omega
  subst ha0
  refine ⟨v'.L, b, hs'.tr, hs'.n, by rw [← hs'.stk]; exact hx.stk, hx.b1, ?_⟩
  have := hx.num.symm.trans hx.last
  simp only [List.cons.injEq, and_true] at this
  rw [← this]
  simp
end Go.Proofs.Ytfjjoohflcchnaa.Gen
