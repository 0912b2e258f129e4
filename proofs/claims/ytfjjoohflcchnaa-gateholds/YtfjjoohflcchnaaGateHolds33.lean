/- GateHolds: for every schedule and all scripts, nobody enters behind the first Shut's step, one Shut at most is the first, nobody is in when a Shut answers, and the answers say how many are in; no conditions. Part 33 of 38. (Joined, by program, of: La13b.) -/
import Derived.Test.YtfjjoohflcchnaaGateHolds32
set_option linter.unusedSimpArgs false
set_option linter.unusedVariables false
namespace Go.Proofs.Ytfjjoohflcchnaa.Gen
open Go Go.Lift Go.Conc Go.RowKit

theorem inBlock_exit {id : Nat} {Q : Exit → Act → World → Prop} {a : Act} {w : World} (h : Q .normal a w) : Exit.inBlock id Q (.exit id) a w := by
  show if id = id then _ else _
  rw [if_pos rfl]
  exact h
theorem then_exit {N : Act → World → Prop} {Q : Exit → Act → World → Prop} {id : Nat} {a : Act} {w : World} (h : Q (.exit id) a w) : Exit.then N Q (.exit id) a w := h
theorem gfold_take {L : List Stp} {i : Nat} {q : Stp} (h : L[i]? = some q) : gfold (L.take (i + 1)) = (gfold (L.take i)).bind fun p => gcnt p q := by
  rw [List.take_add_one, h]
  exact gfold_one _ _
/-- What is there in the end was there all the way. -/
theorem gfold_some {L : List Stp} {r : Nat × Nat} (h : gfold L = some r) (i : Nat) : ∃ r', gfold (L.take i) = some r' := by
  cases hg : gfold (L.take i) with
  | some r' => exact ⟨r', rfl⟩
  | none =>
    exfalso
    have e : L = L.take i ++ L.drop i := (List.take_append_drop ..).symm
    rw [e] at h
    unfold gfold at h hg
    rw [List.foldl_append, hg] at h
    have : ∀ X : List Stp, X.foldl (fun (o : Option (Nat × Nat)) s => o.bind fun p => gcnt p s) none = none := fun X => by
      induction X with
      | nil => rfl
      | cons x X ih => exact ih
    rw [this] at h
    cases h
theorem gcnt_small {p r : Nat × Nat} {s : Stp} (h : gcnt p s = some r) (hp : p.2 ≤ 1) : r.2 ≤ 1 ∧ r.1 ≤ p.1 + 1 := by
  unfold gcnt at h
  split at h
  · split at h
    · split at h
      · cases h; exact ⟨hp, Nat.le_refl _⟩
      · split at h
        · cases h; exact ⟨hp, by simp only; omega⟩
        · split at h
          · cases h; exact ⟨Nat.le_refl _, by simp only; omega⟩
          · cases h
    · cases h
  · cases h; exact ⟨hp, by omega⟩
theorem gfold_small {L : List Stp} : ∀ {i : Nat} {r : Nat × Nat}, gfold (L.take i) = some r → r.2 ≤ 1 ∧ r.1 ≤ i
  | 0, r, h => by
    have : r = (0, 0) := (Option.some.inj h).symm
    subst this
    exact ⟨by decide, Nat.le_refl _⟩
  | i + 1, r, h => by
    cases hq : L[i]? with
    | none =>
      rw [List.take_of_length_le (by have := List.getElem?_eq_none_iff.1 hq; omega), ← List.take_of_length_le (l := L) (i := i) (List.getElem?_eq_none_iff.1 hq)] at h
      have := gfold_small h
      exact ⟨this.1, by omega⟩
    | some q =>
      rw [gfold_take hq] at h
      cases hg : gfold (L.take i) with
      | none => rw [hg] at h; cases h
      | some r0 =>
        rw [hg] at h
        have h0 := gfold_small hg
        have := gcnt_small h h0.1
        exact ⟨this.1, by omega⟩
theorem split_atG {L : List Stp} {k : Nat} {s : Stp} (h : L[k]? = some s) : L = L.take k ++ s :: L.drop (k + 1) := by
  obtain ⟨hk, rfl⟩ := List.getElem?_eq_some_iff.1 h
  rw [← List.drop_eq_getElem_cons hk, List.take_append_drop]

section
variable {n M b o cap ct g : Nat} {p : Option Addr} {A ln cp rb ro : Nat → Nat} {pc : Nat → Option Addr} {cl : Nat → List Cl} {l : Nat → Ph} {L : List Stp} {S : TS} (hlen : ∀ j, j < n → (cl j).length = ln j ∧ ln j ≤ 64)
include hlen
set_option maxHeartbeats 2000000 in
/-- Behind the count: a call's end. -/
theorem tail13 (hEnds : EndsG n cl L) {i : Nat} {q : Stp} (hq : L[i]? = some q) {x y x1 y1 sb : Nat} (hfold : gfold (L.take i) = some (x1, y1)) (hsame : q.op = 10 → x1 = x ∧ y1 = y) {v : World} {a : Act} (hR : RK n M b o A ln cp rb ro pc cl l v)
    (c0 : ∀ u : World, u.heap = v.heap → u.cell? ⟨sb, 0, none⟩ = some (I q.th)) (c2 : v.cell? ⟨sb, 2, none⟩ = some (I q.op)) (c3 : ∀ u : World, u.heap = v.heap → u.cell? ⟨sb, 3, none⟩ = some (I q.ol)) (c4 : ∀ u : World, u.heap = v.heap → u.cell? ⟨sb, 4, none⟩ = some (I q.ne)) (hA : Fl 144 [(1, .slice (some ⟨b, o, none⟩) n cap), (7, .slice (some ⟨M, 0, none⟩) n n), (9, .slice p S.n ct), (10, I (x : Int)), (11, I (y : Int)), (12, I (i : Int)), (13, Pt sb 0)] a) {Q : Exit → Act → World → Prop}
    (hK : ∀ a' v', Fl 144 [(1, .slice (some ⟨b, o, none⟩) n cap), (7, .slice (some ⟨M, 0, none⟩) n n), (9, .slice p S.n ct), (10, I (x : Int)), (11, I (y : Int)), (12, I (i : Int))] a' → v'.heap = v.heap → v'.os = v.os → v'.output = v.output → Q .normal a' v') :
    E26.wp Try.prog (Exit.inBlock 1 Q) a v := by
  rw [eE26]
  refine wp_seq (wp_then (g26_wp c2 hA) ?_)
  rintro a1 w1 ⟨hA1, e1, o1, u1⟩
  by_cases h10 : q.op = 10
  · refine wp_cond_false (by rw [hA1.at 88 (.bool (q.op != 10)) (by simp), h10]; rfl) (wp_skip ?_)
    have hA1' : Fl 144 [(1, .slice (some ⟨b, o, none⟩) n cap), (7, .slice (some ⟨M, 0, none⟩) n n), (9, .slice p S.n ct), (10, I (x : Int)), (11, I (y : Int)), (12, I (i : Int)), (13, Pt sb 0)] a1 := hA1.sub (by simp)
    obtain ⟨rfl, rfl⟩ := hsame h10
    obtain ⟨t, k, c, k1, k2, k3, k4, k5⟩ := hEnds _ _ _ (split_atG hq) h10
    rw [hfold] at k5
    obtain ⟨hl1, hl2⟩ := hlen t k2
    have hk : k < ln t := by rw [← hl1]; exact (List.getElem?_eq_some_iff.1 k4).1
    have d1 : ∀ u : World, u.heap = v.heap → u.cell? ⟨b, o + t, none⟩ = some (.slice (some ⟨rb t, ro t, none⟩) (ln t) (cp t)) := fun u e => by
      have := (hR.go (v' := u) (fun q _ => by rw [e])).sr t k2
      rw [hR.pq t k2 (by omega)] at this
      exact this
    have s1 : ∀ u : World, u.heap = v.heap → u.cell? ⟨rb t, ro t + k * 4, none⟩ = some (I c.po) := fun u e => ((hR.go (v' := u) (fun q _ => by rw [e])).sa t k2 k c k4).1
    have b0 : ∀ u : World, u.heap = v.heap → u.cell? ⟨sb, 0, none⟩ = some (I (t : Int)) := fun u e => by rw [c0 u e, k1]
    have b3 : ∀ u : World, u.heap = v.heap → u.cell? ⟨sb, 3, none⟩ = some (I (k : Int)) := fun u e => by rw [c3 u e, k3]
    refine wp_seq (wp_then (g27_wp k2 hk (d1 w1 e1) (b0 w1 e1) (b3 w1 e1) hA1') ?_)
    rintro a2 w2 ⟨hA2, e2, o2, u2⟩
    refine wp_cond_false (hA2.at 114 (.bool false) (by simp)) (wp_skip ?_)
    have hA2' : Fl 144 [(1, .slice (some ⟨b, o, none⟩) n cap), (7, .slice (some ⟨M, 0, none⟩) n n), (9, .slice p S.n ct), (10, I (x1 : Int)), (11, I (y1 : Int)), (12, I (i : Int)), (13, Pt sb 0)] a2 := hA2.sub (by simp)
    have e21 : w2.heap = v.heap := e2.trans e1
    have fin : ∀ (a3 : Act) (w3 : World), Fl 144 [(1, .slice (some ⟨b, o, none⟩) n cap), (7, .slice (some ⟨M, 0, none⟩) n n), (9, .slice p S.n ct), (10, I (x1 : Int)), (11, I (y1 : Int)), (12, I (i : Int)), (13, Pt sb 0), (138, .bool false)] a3 → w3.heap = w2.heap → w3.os = w2.os → w3.output = w2.output → (Code.cond (.tmp 138) g30 .skip).wp Try.prog (Exit.inBlock 1 Q) a3 w3 := fun a3 w3 hA3 e3 o3 u3 => by
      refine wp_cond_false (hA3.at 138 (.bool false) (by simp)) (wp_skip ?_)
      exact hK a3 w3 (hA3.sub (by simp)) (e3.trans e21) (o3.trans (o2.trans o1)) (u3.trans (u2.trans u1))
    by_cases h3 : c.po = 3
    · by_cases h0 : q.ne = 0
      · have hxy := k5 h3 h0
        obtain ⟨rfl, rfl⟩ : x1 = 0 ∧ y1 = 1 := by cases hxy; exact ⟨rfl, rfl⟩
        refine wp_then (g29_wpc k2 hk (d1 w2 e21) (b0 w2 e21) (b3 w2 e21) (s1 w2 e21) (c4 w2 e21) h3 h0 hA2') ?_
        rintro a3 w3 ⟨hA3, e3, o3, u3⟩
        exact fin a3 w3 hA3 e3 o3 u3
      · refine wp_then (g29_wpb k2 hk (d1 w2 e21) (b0 w2 e21) (b3 w2 e21) (s1 w2 e21) (c4 w2 e21) h3 h0 hA2') ?_
        rintro a3 w3 ⟨hA3, e3, o3, u3⟩
        exact fin a3 w3 hA3 e3 o3 u3
    · refine wp_then (g29_wpa k2 hk (d1 w2 e21) (b0 w2 e21) (b3 w2 e21) (s1 w2 e21) (c4 w2 e21) h3 hA2') ?_
      rintro a3 w3 ⟨hA3, e3, o3, u3⟩
      exact fin a3 w3 hA3 e3 o3 u3
  · refine wp_cond_true (by rw [hA1.at 88 (.bool (q.op != 10)) (by simp)]; simp [h10]) (wp_exit (then_exit (inBlock_exit ?_)))
    exact hK a1 w1 (hA1.sub (by simp)) e1 o1 u1

omit hlen in
set_option maxHeartbeats 2000000 in
/-- A step that changes the gate's cell. -/
theorem change13 {i : Nat} {q : Stp} {x y sb : Nat} {r : Nat × Nat} (hg : gcnt (x, y) q = some r) (h4 : q.op = 4 ∧ q.ol ≠ q.ne) (hx : x ≤ 400000) (hy : y ≤ 1) {v : World} {a : Act}
    (c3 : ∀ u : World, u.heap = v.heap → u.cell? ⟨sb, 3, none⟩ = some (I q.ol)) (c4 : ∀ u : World, u.heap = v.heap → u.cell? ⟨sb, 4, none⟩ = some (I q.ne)) (hA : Fl 144 [(1, .slice (some ⟨b, o, none⟩) n cap), (7, .slice (some ⟨M, 0, none⟩) n n), (9, .slice p S.n ct), (10, I (x : Int)), (11, I (y : Int)), (12, I (i : Int)), (13, Pt sb 0)] a) {Q : Exit → Act → World → Prop}
    (hK : ∀ a' v', Fl 144 [(1, .slice (some ⟨b, o, none⟩) n cap), (7, .slice (some ⟨M, 0, none⟩) n n), (9, .slice p S.n ct), (10, I (r.1 : Int)), (11, I (r.2 : Int)), (12, I (i : Int)), (13, Pt sb 0)] a' → v'.heap = v.heap → v'.os = v.os → v'.output = v.output → Q .normal a' v') :
    D14.wp Try.prog Q a v := by
  unfold gcnt at hg
  rw [if_pos h4] at hg
  split at hg
  case isFalse => cases hg
  rename_i hol
  simp only at hol
  rw [eD14]
  refine wp_seq (wp_seq (wp_mono (g14_wp (c3 v rfl) (c4 v rfl) hA) ?_))
  rintro e a1 w1 ⟨rfl, hA1, e1, o1, u1⟩
  show Code.wp Try.prog (.block 2 _) _ a1 w1
  -- what follows the switch
  have fin : ∀ (x' y' : Nat) (a' : Act) (w' : World), r = (x', y') → q.ne = ((2 * x' + y' : Nat) : Int) → x' ≤ 400001 → y' ≤ 1 → Fl 144 [(1, .slice (some ⟨b, o, none⟩) n cap), (7, .slice (some ⟨M, 0, none⟩) n n), (9, .slice p S.n ct), (10, I (x' : Int)), (11, I (y' : Int)), (12, I (i : Int)), (13, Pt sb 0)] a' → w'.heap = v.heap → w'.os = v.os → w'.output = v.output → (Code.seq g24 (.cond (.tmp 85) g25 .skip)).wp Try.prog Q a' w' := fun x' y' a' w' hr hne hx' hy' hA' e' o' u' => by
    subst hr
    refine wp_then (g24_wp (c4 w' e') (by rw [hne]; unfold wrap64; omega) hy' hA') ?_
    rintro a2 w2 ⟨hA2, e2, o2, u2⟩
    refine wp_cond_false (hA2.at 85 (.bool false) (by simp)) (wp_skip ?_)
    exact hK a2 w2 (hA2.sub (by simp)) (e2.trans e') (o2.trans o') (u2.trans u')
  refine wp_block ?_
  by_cases k1 : q.ne = q.ol + 2 ∧ y = 0
  · rw [if_pos k1] at hg
    obtain ⟨k1, rfl⟩ := k1
    have hd : wrap64 (q.ne - q.ol) = 2 := by rw [k1]; unfold wrap64; omega
    rw [hd] at hA1
    refine wp_then (g16_wp hA1) ?_
    rintro a2 w2 ⟨hA2, e2, o2, u2⟩
    refine wp_cond_true (by rw [hA2.at 57 (.bool ((2 : Int) == 2)) (by simp)]; rfl) ?_
    have hA2' : Fl 144 [(1, .slice (some ⟨b, o, none⟩) n cap), (7, .slice (some ⟨M, 0, none⟩) n n), (9, .slice p S.n ct), (10, I (x : Int)), (11, I ((0 : Nat) : Int)), (12, I (i : Int)), (13, Pt sb 0), (56, I 2)] a2 := hA2.sub (by simp)
    refine wp_then (g17_wp (by unfold wrap64; omega) hA2') ?_
    rintro a3 w3 ⟨hA3, e3, o3, u3⟩
    refine wp_then (g18_wp hA3) ?_
    rintro a4 w4 ⟨hA4, e4, o4, u4⟩
    refine wp_cond_false (by rw [hA4.at 62 (.bool (decide (0 < ((0 : Nat) : Int)))) (by simp)]; rfl) (wp_skip ?_)
    exact fin (x + 1) 0 a4 w4 (Option.some.inj hg).symm (by rw [k1, hol]; omega) (by omega) (by omega) (hA4.sub (by simp)) (e4.trans (e3.trans (e2.trans e1))) (o4.trans (o3.trans (o2.trans o1))) (u4.trans (u3.trans (u2.trans u1)))
  · rw [if_neg k1] at hg
    have hn2 : q.ne ≠ q.ol + 2 ∨ y = 1 := by
      by_cases h : q.ne = q.ol + 2
      · right
        have : ¬ y = 0 := fun h0 => k1 ⟨h, h0⟩
        omega
      · exact .inl h
    by_cases k2 : q.ne = q.ol - 2 ∧ 1 ≤ x
    · rw [if_pos k2] at hg
      have hd : wrap64 (q.ne - q.ol) = -2 := by rw [k2.1]; unfold wrap64; omega
      rw [hd] at hA1
      refine wp_then (g16_wp hA1) ?_
      rintro a2 w2 ⟨hA2, e2, o2, u2⟩
      refine wp_cond_false (by rw [hA2.at 57 (.bool ((-2 : Int) == 2)) (by simp)]; rfl) ?_
      have hA2' : Fl 144 [(1, .slice (some ⟨b, o, none⟩) n cap), (7, .slice (some ⟨M, 0, none⟩) n n), (9, .slice p S.n ct), (10, I (x : Int)), (11, I (y : Int)), (12, I (i : Int)), (13, Pt sb 0), (56, I (-2))] a2 := hA2.sub (by simp)
      refine wp_then (g20_wp hA2') ?_
      rintro a3 w3 ⟨hA3, e3, o3, u3⟩
      refine wp_cond_true (by rw [hA3.at 63 (.bool ((-2 : Int) == -2)) (by simp)]; rfl) ?_
      have hA3' : Fl 144 [(1, .slice (some ⟨b, o, none⟩) n cap), (7, .slice (some ⟨M, 0, none⟩) n n), (9, .slice p S.n ct), (10, I (x : Int)), (11, I (y : Int)), (12, I (i : Int)), (13, Pt sb 0), (56, I (-2))] a3 := hA3.sub (by simp)
      refine wp_last (g21_wp (x0 := x - 1) (by unfold wrap64; omega) hA3') ?_
      rintro a4 w4 ⟨hA4, e4, o4, u4⟩
      exact fin (x - 1) y a4 w4 (Option.some.inj hg).symm (by rw [k2.1, hol]; omega) (by omega) hy hA4 (e4.trans (e3.trans (e2.trans e1))) (o4.trans (o3.trans (o2.trans o1))) (u4.trans (u3.trans (u2.trans u1)))
    · rw [if_neg k2] at hg
      by_cases k3 : q.ne = q.ol + 1 ∧ y = 0
      · rw [if_pos k3] at hg
        obtain ⟨k3, rfl⟩ := k3
        have hd : wrap64 (q.ne - q.ol) = 1 := by rw [k3]; unfold wrap64; omega
        rw [hd] at hA1
        refine wp_then (g16_wp hA1) ?_
        rintro a2 w2 ⟨hA2, e2, o2, u2⟩
        refine wp_cond_false (by rw [hA2.at 57 (.bool ((1 : Int) == 2)) (by simp)]; rfl) ?_
        have hA2' : Fl 144 [(1, .slice (some ⟨b, o, none⟩) n cap), (7, .slice (some ⟨M, 0, none⟩) n n), (9, .slice p S.n ct), (10, I (x : Int)), (11, I ((0 : Nat) : Int)), (12, I (i : Int)), (13, Pt sb 0), (56, I 1)] a2 := hA2.sub (by simp)
        refine wp_then (g20_wp hA2') ?_
        rintro a3 w3 ⟨hA3, e3, o3, u3⟩
        refine wp_cond_false (by rw [hA3.at 63 (.bool ((1 : Int) == -2)) (by simp)]; rfl) ?_
        have hA3' : Fl 144 [(1, .slice (some ⟨b, o, none⟩) n cap), (7, .slice (some ⟨M, 0, none⟩) n n), (9, .slice p S.n ct), (10, I (x : Int)), (11, I ((0 : Nat) : Int)), (12, I (i : Int)), (13, Pt sb 0), (56, I 1)] a3 := hA3.sub (by simp)
        refine wp_then (g22_wp hA3') ?_
        rintro a4 w4 ⟨hA4, e4, o4, u4⟩
        refine wp_cond_true (by rw [hA4.at 67 (.bool ((1 : Int) == 1)) (by simp)]; rfl) ?_
        have hA4' : Fl 144 [(1, .slice (some ⟨b, o, none⟩) n cap), (7, .slice (some ⟨M, 0, none⟩) n n), (9, .slice p S.n ct), (10, I (x : Int)), (11, I ((0 : Nat) : Int)), (12, I (i : Int)), (13, Pt sb 0), (56, I 1)] a4 := hA4.sub (by simp)
        refine wp_last (g23_wp (by unfold wrap64; omega) hA4') ?_
        rintro a5 w5 ⟨hA5, e5, o5, u5⟩
        exact fin x 1 a5 w5 (Option.some.inj hg).symm (by rw [k3, hol]; omega) (by omega) (by omega) hA5 (e5.trans (e4.trans (e3.trans (e2.trans e1)))) (o5.trans (o4.trans (o3.trans (o2.trans o1)))) (u5.trans (u4.trans (u3.trans (u2.trans u1))))
      · rw [if_neg k3] at hg
        cases hg

set_option maxHeartbeats 4000000 in
theorem loop13 {a0 b0 : Nat} (hE : GateEnd n cl l L a0 b0) (hSn : L.length = S.n) (hs4 : S.n ≤ 400000) (hp : 0 < S.n → p = some ⟨g, 0, none⟩) {v : World} (hR : RK n M b o A ln cp rb ro pc cl l v) (hTr : TrL g L v) {Q : Exit → Act → World → Prop} {a : Act} (hA : Fl 144 [(1, .slice (some ⟨b, o, none⟩) n cap), (7, .slice (some ⟨M, 0, none⟩) n n), (9, .slice p S.n ct), (10, I ((0 : Nat) : Int)), (11, I ((0 : Nat) : Int)), (12, I ((0 : Nat) : Int))] a)
    (hK : ∀ a' w', Fl 144 [(1, .slice (some ⟨b, o, none⟩) n cap), (7, .slice (some ⟨M, 0, none⟩) n n), (9, .slice p S.n ct), (10, I (a0 : Int)), (11, I (b0 : Int))] a' → Grows v w' → Q .normal a' w') :
    (Code.block 0 (.loop GA)).wp Try.prog Q a v := by
  rw [eGA]
  refine wp_while (fun m a w => ∃ i x y, i + m = S.n ∧ gfold (L.take i) = some (x, y) ∧ Fl 144 [(1, .slice (some ⟨b, o, none⟩) n cap), (7, .slice (some ⟨M, 0, none⟩) n n), (9, .slice p S.n ct), (10, I (x : Int)), (11, I (y : Int)), (12, I (i : Int))] a ∧ Grows v w) S.n ⟨0, 0, 0, by omega, rfl, hA, grow_same rfl rfl rfl⟩ ?_
  rintro m a1 w1 ⟨i, x, y, him, hf, hA1, g1⟩
  refine ⟨_, g10_wp hA1, ?_⟩
  rintro a2 w2 ⟨hA2, e2, o2, u2⟩
  have g2 := grow_trans g1 (grow_same e2 o2 u2)
  obtain ⟨hy, hx⟩ := gfold_small hf
  simp only at hy hx
  by_cases hi : i < S.n
  · right
    refine ⟨by rw [hA2.at 35 (.bool (decide ((i : Int) < (S.n : Int)))) (by simp), decide_eq_true (by omega)], ?_⟩
    obtain rfl := hp (by omega)
    have hA2' : Fl 144 [(1, .slice (some ⟨b, o, none⟩) n cap), (7, .slice (some ⟨M, 0, none⟩) n n), (9, .slice (some ⟨g, 0, none⟩) S.n ct), (10, I (x : Int)), (11, I (y : Int)), (12, I (i : Int))] a2 := hA2.sub (by simp)
    obtain ⟨q, hq⟩ : ∃ q, L[i]? = some q := ⟨_, List.getElem?_eq_getElem (by omega)⟩
    obtain ⟨s0, s1, s2, s3, s4⟩ := hTr.go g2.old i q hq
    refine wp_seq (wp_block ?_)
    rw [eGB]
    refine wp_then (g12_wp hi s0 s1 s2 s3 s4 hA2') ?_
    rintro a3 w3 ⟨hA3, e3, o3, u3⟩
    have g3 := grow_trans g2 (grow_push e3 o3 u3)
    have hb : w3.heap[w2.heap.size]? = some (.cells #[I q.th, I q.ce, I q.op, I q.ol, I q.ne] 34) := by rw [e3]; exact Array.getElem?_push_size
    have c0 : ∀ u : World, u.heap = w3.heap → u.cell? ⟨w2.heap.size, 0, none⟩ = some (I q.th) := fun u e => cell_of (by rw [e]; exact hb) rfl
    have c2 : ∀ u : World, u.heap = w3.heap → u.cell? ⟨w2.heap.size, 2, none⟩ = some (I q.op) := fun u e => cell_of (by rw [e]; exact hb) rfl
    have c3 : ∀ u : World, u.heap = w3.heap → u.cell? ⟨w2.heap.size, 3, none⟩ = some (I q.ol) := fun u e => cell_of (by rw [e]; exact hb) rfl
    have c4 : ∀ u : World, u.heap = w3.heap → u.cell? ⟨w2.heap.size, 4, none⟩ = some (I q.ne) := fun u e => cell_of (by rw [e]; exact hb) rfl
    have hf1 := gfold_take hq
    rw [hf] at hf1
    obtain ⟨r, hr⟩ := gfold_some hE.fold (i + 1)
    have hgc : gcnt (x, y) q = some r := by rw [hr] at hf1; exact hf1.symm
    have fin : ∀ (a' : Act) (w' : World), Fl 144 [(1, .slice (some ⟨b, o, none⟩) n cap), (7, .slice (some ⟨M, 0, none⟩) n n), (9, .slice (some ⟨g, 0, none⟩) S.n ct), (10, I (r.1 : Int)), (11, I (r.2 : Int)), (12, I (i : Int))] a' → w'.heap = w3.heap → w'.os = w3.os → w'.output = w3.output →
        g11.wp Try.prog (Exit.then (fun a'' w'' => ∃ n', n' < m ∧ ∃ i x y, i + n' = S.n ∧ gfold (L.take i) = some (x, y) ∧ Fl 144 [(1, .slice (some ⟨b, o, none⟩) n cap), (7, .slice (some ⟨M, 0, none⟩) n n), (9, .slice (some ⟨g, 0, none⟩) S.n ct), (10, I (x : Int)), (11, I (y : Int)), (12, I (i : Int))] a'' ∧ Grows v w'') (Exit.inBlock 0 Q)) a' w' := fun a' w' hA' e o u => by
      refine wp_last (g11_wp (by unfold wrap64; omega) hA') ?_
      rintro a11 w11 ⟨hA11, e11, o11, u11⟩
      exact ⟨m - 1, by omega, i + 1, r.1, r.2, by omega, hr, hA11, grow_trans g3 (grow_trans (grow_same e o u) (grow_same e11 o11 u11))⟩
    by_cases h4 : q.op = 4 ∧ q.ol ≠ q.ne
    · refine wp_seq (wp_then (g13_wpy (c2 w3 rfl) (c3 w3 rfl) (c4 w3 rfl) h4.1 hA3) ?_)
      rintro a4 w4 ⟨hA4, e4, o4, u4⟩
      refine wp_cond_true (by rw [hA4.at 51 (.bool (q.ol != q.ne)) (by simp)]; simp [h4.2]) ?_
      have hA4' : Fl 144 [(1, .slice (some ⟨b, o, none⟩) n cap), (7, .slice (some ⟨M, 0, none⟩) n n), (9, .slice (some ⟨g, 0, none⟩) S.n ct), (10, I (x : Int)), (11, I (y : Int)), (12, I (i : Int)), (13, Pt w2.heap.size 0)] a4 := hA4.sub (by simp)
      refine change13 hgc h4 (by omega) hy (fun u e => c3 u (e.trans e4)) (fun u e => c4 u (e.trans e4)) hA4' ?_
      intro a5 w5 hA5 e5 o5 u5
      have e53 : w5.heap = w3.heap := e5.trans e4
      have g5 := grow_trans g3 (grow_same e53 (o5.trans o4) (u5.trans u4))
      show Code.wp Try.prog E26 _ a5 w5
      refine tail13 hlen hE.ends hq hf (fun h10 => absurd (h10.symm.trans h4.1) (by decide)) (hR.go g5.old) (fun u e => c0 u (e.trans e53)) (c2 w5 e53) (fun u e => c3 u (e.trans e53)) (fun u e => c4 u (e.trans e53)) hA5 ?_
      intro a6 w6 hA6 e6 o6 u6
      exact fin a6 w6 hA6 (e6.trans e53) (o6.trans (o5.trans o4)) (u6.trans (u5.trans u4))
    · have hrr : r = (x, y) := by rw [gcnt_no h4] at hgc; exact (Option.some.inj hgc).symm
      subst hrr
      have skip : ∀ (a4 : Act) (w4 : World), Fl 144 [(1, .slice (some ⟨b, o, none⟩) n cap), (7, .slice (some ⟨M, 0, none⟩) n n), (9, .slice (some ⟨g, 0, none⟩) S.n ct), (10, I (x : Int)), (11, I (y : Int)), (12, I (i : Int)), (13, Pt w2.heap.size 0), (51, .bool false)] a4 → w4.heap = w3.heap → w4.os = w3.os → w4.output = w3.output → (Code.cond (.tmp 51) D14 .skip).wp Try.prog (Exit.then (E26.wp Try.prog (Exit.inBlock 1 (Exit.then (g11.wp Try.prog (Exit.then (fun a'' w'' => ∃ n', n' < m ∧ ∃ i x y, i + n' = S.n ∧ gfold (L.take i) = some (x, y) ∧ Fl 144 [(1, .slice (some ⟨b, o, none⟩) n cap), (7, .slice (some ⟨M, 0, none⟩) n n), (9, .slice (some ⟨g, 0, none⟩) S.n ct), (10, I (x : Int)), (11, I (y : Int)), (12, I (i : Int))] a'' ∧ Grows v w'') (Exit.inBlock 0 Q))) (Exit.then (fun a'' w'' => ∃ n', n' < m ∧ ∃ i x y, i + n' = S.n ∧ gfold (L.take i) = some (x, y) ∧ Fl 144 [(1, .slice (some ⟨b, o, none⟩) n cap), (7, .slice (some ⟨M, 0, none⟩) n n), (9, .slice (some ⟨g, 0, none⟩) S.n ct), (10, I (x : Int)), (11, I (y : Int)), (12, I (i : Int))] a'' ∧ Grows v w'') (Exit.inBlock 0 Q))))) (Exit.inBlock 1 (Exit.then (g11.wp Try.prog (Exit.then (fun a'' w'' => ∃ n', n' < m ∧ ∃ i x y, i + n' = S.n ∧ gfold (L.take i) = some (x, y) ∧ Fl 144 [(1, .slice (some ⟨b, o, none⟩) n cap), (7, .slice (some ⟨M, 0, none⟩) n n), (9, .slice (some ⟨g, 0, none⟩) S.n ct), (10, I (x : Int)), (11, I (y : Int)), (12, I (i : Int))] a'' ∧ Grows v w'') (Exit.inBlock 0 Q))) (Exit.then (fun a'' w'' => ∃ n', n' < m ∧ ∃ i x y, i + n' = S.n ∧ gfold (L.take i) = some (x, y) ∧ Fl 144 [(1, .slice (some ⟨b, o, none⟩) n cap), (7, .slice (some ⟨M, 0, none⟩) n n), (9, .slice (some ⟨g, 0, none⟩) S.n ct), (10, I (x : Int)), (11, I (y : Int)), (12, I (i : Int))] a'' ∧ Grows v w'') (Exit.inBlock 0 Q))))) a4 w4 := fun a4 w4 hA4 e4 o4 u4 => by
        refine wp_cond_false (hA4.at 51 (.bool false) (by simp)) (wp_skip ?_)
        have hA4' : Fl 144 [(1, .slice (some ⟨b, o, none⟩) n cap), (7, .slice (some ⟨M, 0, none⟩) n n), (9, .slice (some ⟨g, 0, none⟩) S.n ct), (10, I (x : Int)), (11, I (y : Int)), (12, I (i : Int)), (13, Pt w2.heap.size 0)] a4 := hA4.sub (by simp)
        have g4 := grow_trans g3 (grow_same e4 o4 u4)
        show Code.wp Try.prog E26 _ a4 w4
        refine tail13 hlen hE.ends hq hf (fun _ => ⟨rfl, rfl⟩) (hR.go g4.old) (fun u e => c0 u (e.trans e4)) (c2 w4 e4) (fun u e => c3 u (e.trans e4)) (fun u e => c4 u (e.trans e4)) hA4' ?_
        intro a6 w6 hA6 e6 o6 u6
        exact fin a6 w6 hA6 (e6.trans e4) (o6.trans o4) (u6.trans u4)
      by_cases hop : q.op = 4
      · have heq : q.ol = q.ne := Classical.byContradiction fun h => h4 ⟨hop, h⟩
        refine wp_seq (wp_then (g13_wpy (c2 w3 rfl) (c3 w3 rfl) (c4 w3 rfl) hop hA3) ?_)
        rintro a4 w4 ⟨hA4, e4, o4, u4⟩
        rw [show (q.ol != q.ne) = false by rw [heq]; simp] at hA4
        exact skip a4 w4 hA4 e4 o4 u4
      · refine wp_seq (wp_then (g13_wpn (c2 w3 rfl) (c3 w3 rfl) (c4 w3 rfl) hop hA3) ?_)
        rintro a4 w4 ⟨hA4, e4, o4, u4⟩
        exact skip a4 w4 hA4 e4 o4 u4
  · left
    have hiS : i = S.n := by omega
    subst hiS
    rw [List.take_of_length_le (by omega), hE.fold] at hf
    obtain ⟨rfl, rfl⟩ : a0 = x ∧ b0 = y := by cases hf; exact ⟨rfl, rfl⟩
    exact ⟨by rw [hA2.at 35 (.bool (decide ((S.n : Int) < (S.n : Int)))) (by simp), decide_eq_false (by omega)], hK a2 w2 (hA2.sub (by simp)) g2⟩
end

set_option maxHeartbeats 2000000 in
/-- Behind Play. -/
theorem tailG13 {n M b o cap : Nat} {A ln cp rb ro : Nat → Nat} {pc : Nat → Option Addr} {cl : Nat → List Cl} {l : Nat → Ph} {L : List Stp} {a0 b0 : Nat} {S : TS} {v : World} (hn8 : n ≤ 8) (hlen : ∀ j, j < n → (cl j).length = ln j ∧ ln j ≤ 64) (hE : GateEnd n cl l L a0 b0) (hS : Rep zn S v) (htr : S.tr = flat L) (hSn : S.n = L.length) (hs4 : S.n ≤ 400000)
    (hR : RK n M b o A ln cp rb ro pc cl l v) {a : Act} (hA : Fl 144 [(1, .slice (some ⟨b, o, none⟩) n cap), (5, .bool true), (6, Pt S.wb 0), (7, .slice (some ⟨M, 0, none⟩) n n), (8, I 0)] a) :
    T13.wp Try.prog (fun e a' w' => e = .ret ∧ Fl 144 [(4, .bool true)] a' ∧ Grows v w') a v := by
  unfold T13
  refine wp_seq (wp_then (g4_wp hA) ?_)
  rintro a1 w1 ⟨hA1, e1, o1, u1⟩
  refine wp_cond_false (by rw [hA1.at 28 (.bool ((0 : Int) != 0)) (by simp)]; rfl) (wp_skip ?_)
  have hA1' : Fl 144 [(1, .slice (some ⟨b, o, none⟩) n cap), (7, .slice (some ⟨M, 0, none⟩) n n), (6, Pt S.wb 0)] a1 := hA1.sub (by simp)
  refine wp_then (g6_wp (hS.same e1) (by omega) (by rw [htr]; exact flat_one L) hA1') ?_
  rintro a2 w2 ⟨p, g, ct, hA2, hp, htc, g2⟩
  have g12 : Grows v w2 := grow_trans (grow_same e1 o1 u1) g2
  have hT2 : TrL g L w2 := fun k s hs => by
    have := flat_get L k s hs
    rw [← htr] at this
    exact ⟨htc _ _ this.1, htc _ _ this.2.1, htc _ _ this.2.2.1, htc _ _ this.2.2.2.1, htc _ _ this.2.2.2.2⟩
  refine wp_then (g7_wp hA2) ?_
  rintro a3 w3 ⟨hA3, e3, o3, u3⟩
  refine wp_then (g8_wp hA3) ?_
  rintro a4 w4 ⟨hA4, e4, o4, u4⟩
  refine wp_seq (wp_then (g9_wp (x := 0) (y := 0) hA4) ?_)
  rintro a5 w5 ⟨hA5, e5, o5, u5⟩
  have g25 : Grows w2 w5 := grow_same (e5.trans (e4.trans e3)) (o5.trans (o4.trans o3)) (u5.trans (u4.trans u3))
  have gv5 := grow_trans g12 g25
  refine loop13 hlen hE hSn.symm hs4 (fun h => (hp h).1) (hR.go gv5.old) (hT2.go g25.old) hA5 ?_
  intro a6 w6 hA6 g6
  have g16 := grow_trans gv5 g6
  show Code.wp Try.prog g31 _ a6 w6
  refine wp_mono (g31_wp (((body47 hn8 hlen (fun j hj => by rw [hE.len j hj]; exact (hlen j hj).1) hE (hR.go g16.old)).calls Try.func49 rfl).mono (by
    rintro e w' ⟨r, rfl, rfl, h⟩
    exact ⟨rfl, h⟩)) hA6) ?_
  rintro e a8 w8 ⟨rfl, hA8, g8⟩
  exact ⟨rfl, hA8, grow_trans g16 g8⟩
theorem tailG13_no {v : World} {s1 s6 s7 : Value} {E : Int} (hE : E ≠ 0) {a : Act} (hA : Fl 144 [(1, s1), (5, .bool true), (6, s6), (7, s7), (8, I E)] a) :
    T13.wp Try.prog (fun e a' w' => e = .ret ∧ Fl 144 [(4, .bool true)] a' ∧ Grows v w') a v := by
  unfold T13
  refine wp_seq (wp_then (g4_wp hA) ?_)
  rintro a1 w1 ⟨hA1, e1, o1, u1⟩
  refine wp_cond_true (by rw [hA1.at 28 (.bool (E != 0)) (by simp)]; simp [hE]) ?_
  have hA1' : Fl 144 [(1, s1), (5, .bool true), (6, s6), (7, s7)] a1 := hA1.sub (by simp)
  refine wp_mono (g5_wp hA1') ?_
  rintro e a8 w8 ⟨rfl, hA8, e8, o8, u8⟩
  exact ⟨rfl, hA8, grow_trans (grow_same e1 o1 u1) (grow_same e8 o8 u8)⟩
end Go.Proofs.Ytfjjoohflcchnaa.Gen
