/- GateHolds: for every schedule and all scripts, nobody enters behind the first Shut's step, one Shut at most is the first, nobody is in when a Shut answers, and the answers say how many are in; no conditions. Part 31 of 38. (Joined, by program, of: La47b, GLoneW.) -/
import Derived.Test.YtfjjoohflcchnaaGateHolds21
import Derived.Test.YtfjjoohflcchnaaGateHolds29
import Derived.Test.YtfjjoohflcchnaaGateHolds30
set_option linter.unusedSimpArgs false
set_option linter.unusedVariables false
namespace Go.Proofs.Ytfjjoohflcchnaa.Gen
open Go Go.Lift Go.Conc Go.RowKit

/-- A frame that was entered. -/
theorem fl_enter (xs : Array Value) (m NT : Nat) (h : xs.size + m = NT) (l : List (Nat × Value)) (hl : ∀ p ∈ l, xs[p.1]? = some p.2) : Fl NT l { tmps := xs ++ Array.replicate m undef, defers := [] } := by
  refine ⟨by simp [h], rfl, fun p hp => ?_⟩
  have h1 := hl p hp
  have h2 : (xs ++ Array.replicate m undef)[p.1]? = some p.2 := by rw [Array.getElem?_append_left (Array.getElem?_eq_some_iff.1 h1).1]; exact h1
  rw [Array.getD_eq_getD_getElem?, h2]
  rfl
/-- How many of such answers, where so many threads and calls are gone through. -/
def gone (p : Cl → Int × Int → Bool) (cl : Nat → List Cl) (l : Nat → Ph) (i k : Nat) : Nat := sumN (fun j => cnp p (cl j) (l j).ans (cl j).length) i + cnp p (cl i) (l i).ans k
theorem gone_row (p : Cl → Int × Int → Bool) (cl : Nat → List Cl) (l : Nat → Ph) (i : Nat) : gone p cl l (i + 1) 0 = gone p cl l i (cl i).length := by
  unfold gone
  rw [sumN_succ]
  rfl
theorem gone_call (p : Cl → Int × Int → Bool) {cl : Nat → List Cl} {l : Nat → Ph} {i k : Nat} {c : Cl} {q : Int × Int} (hc : (cl i)[k]? = some c) (hq : (l i).ans[k]? = some q) : gone p cl l i (k + 1) = gone p cl l i k + if p c q then 1 else 0 := by
  unfold gone
  rw [cnp_succ, hc, hq]
  show _ + (_ + if p c q then 1 else 0) = _
  omega
theorem cnp_le (p : Cl → Int × Int → Bool) (calls : List Cl) (ans : List (Int × Int)) (u : Nat) : cnp p calls ans u ≤ u := by
  unfold cnp
  have := List.countP_le_length (p := fun k => opP p calls[k]? ans[k]?) (l := List.range u)
  simpa using this
theorem gone_le (p : Cl → Int × Int → Bool) (cl : Nat → List Cl) (l : Nat → Ph) {n : Nat} (h : ∀ j, j < n → (cl j).length ≤ 64) : ∀ {i k : Nat}, i ≤ n → k ≤ 64 → gone p cl l i k ≤ 64 * i + 64 := fun {i k} hi hk => by
  have hs : ∀ m, m ≤ n → sumN (fun j => cnp p (cl j) (l j).ans (cl j).length) m ≤ 64 * m := by
    intro m
    induction m with
    | zero => intro _; exact Nat.le_refl _
    | succ m ih =>
      intro hm
      rw [sumN_succ]
      have := ih (by omega)
      have h2 := cnp_le p (cl m) (l m).ans (cl m).length
      have := h m (by omega)
      show sumN (fun j => cnp p (cl j) (l j).ans (cl j).length) m + cnp p (cl m) (l m).ans (cl m).length ≤ _
      omega
  unfold gone
  have := hs i hi
  have := cnp_le p (cl i) (l i).ans k
  omega
/-- The three numbers. -/
structure Cn3 (cl : Nat → List Cl) (l : Nat → Ph) (n i k : Nat) (nn ff : Int) (st : Bool) : Prop where
  nn : nn = (gone okE cl l i k : Int) - (gone okL cl l i k : Int)
  ff : ff = (gone okF cl l i k : Int)
  st : ∀ (j k' : Nat) (q : Int × Int), (j < i ∨ (j = i ∧ k' < k)) → k' < (cl j).length → (l j).ans[k']? = some q → q.1 = 4 → st = true

section
variable {n M b o cap : Nat} {ai bi : Int} {A ln cp rb ro : Nat → Nat} {pc : Nat → Option Addr} {cl : Nat → List Cl} {l : Nat → Ph} (hn8 : n ≤ 8) (hlen : ∀ j, j < n → (cl j).length = ln j ∧ ln j ≤ 64) (hal : ∀ j, j < n → (l j).ans.length = ln j)
include hn8 hlen hal
set_option maxHeartbeats 2000000 in
/-- A call's answer. -/
theorem call47 {i k : Nat} (hi : i < n) (hk : k < ln i) {nn ff : Int} {st : Bool} {a : Act} {v : World} (hR : RK n M b o A ln cp rb ro pc cl l v) (hC : Cn3 cl l n i k nn ff st) (hA : Fl 131 [(0, .slice (some ⟨b, o, none⟩) n cap), (1, .slice (some ⟨M, 0, none⟩) n n), (2, I ai), (3, I bi), (9, I nn), (10, I ff), (11, .bool st), (12, I (i : Int)), (13, I (k : Int))] a) {Q : Exit → Act → World → Prop}
    (hK : ∀ nn' ff' st' a' v', Cn3 cl l n i (k + 1) nn' ff' st' → Fl 131 [(0, .slice (some ⟨b, o, none⟩) n cap), (1, .slice (some ⟨M, 0, none⟩) n n), (2, I ai), (3, I bi), (9, I nn'), (10, I ff'), (11, .bool st'), (12, I (i : Int)), (13, I (k : Int))] a' → Grows v v' → Q .normal a' v') :
    CK.wp Try.prog Q a v := by
  obtain ⟨hl1, hl2⟩ := hlen i hi
  obtain ⟨c, hc⟩ : ∃ c, (cl i)[k]? = some c := ⟨_, List.getElem?_eq_getElem (by omega)⟩
  obtain ⟨q, hq⟩ : ∃ q, (l i).ans[k]? = some q := ⟨_, List.getElem?_eq_getElem (by rw [hal i hi]; exact hk)⟩
  obtain ⟨d0, d1⟩ := hR.an i hi k q hq
  have bE := gone_le okE cl l (n := n) (fun j hj => by rw [(hlen j hj).1]; exact (hlen j hj).2) (i := i) (k := k) (by omega) (by omega)
  have bL := gone_le okL cl l (n := n) (fun j hj => by rw [(hlen j hj).1]; exact (hlen j hj).2) (i := i) (k := k) (by omega) (by omega)
  have bF := gone_le okF cl l (n := n) (fun j hj => by rw [(hlen j hj).1]; exact (hlen j hj).2) (i := i) (k := k) (by omega) (by omega)
  have gE := gone_call okE hc hq
  have gL := gone_call okL hc hq
  have gF := gone_call okF hc hq
  have n0 := hC.nn
  have f0 := hC.ff
  rw [eCK]
  refine wp_then (c14_wp hi hk (hR.ar i hi) d0 d1 hA) ?_
  rintro a1 v1 ⟨hA1, e1, o1, u1⟩
  have g1 := grow_push e1 o1 u1
  have hb : v1.heap[v.heap.size]? = some (.cells #[I q.1, I q.2] 42) := by rw [e1]; exact Array.getElem?_push_size
  have w0 : ∀ u : World, u.heap = v1.heap → u.cell? ⟨v.heap.size, 0, none⟩ = some (I q.1) := fun u e => cell_of (by rw [e]; exact hb) rfl
  have w1 : ∀ u : World, u.heap = v1.heap → u.cell? ⟨v.heap.size, 1, none⟩ = some (I q.2) := fun u e => cell_of (by rw [e]; exact hb) rfl
  have hR1 := hR.go g1.old
  have s0 : ∀ u : World, u.heap = v1.heap → u.cell? ⟨b, o + i, none⟩ = some (.slice (some ⟨rb i, ro i, none⟩) (ln i) (cp i)) := fun u e => by
    have := (hR1.go (v' := u) (fun q _ => by rw [e])).sr i hi
    rw [hR1.pq i hi (by omega)] at this
    exact this
  have s1 : ∀ u : World, u.heap = v1.heap → u.cell? ⟨rb i, ro i + k * 4, none⟩ = some (I c.po) := fun u e => ((hR1.go (v' := u) (fun q _ => by rw [e])).sa i hi k c hc).1
  -- whether one was stuck
  have hst : ∃ st', c15.wp Try.prog (fun e a' w' => e = .normal ∧ Fl 131 [(0, .slice (some ⟨b, o, none⟩) n cap), (1, .slice (some ⟨M, 0, none⟩) n n), (2, I ai), (3, I bi), (9, I nn), (10, I ff), (11, .bool st'), (12, I (i : Int)), (13, I (k : Int)), (14, Pt v.heap.size 0)] a' ∧ w'.heap = v1.heap ∧ w'.os = v1.os ∧ w'.output = v1.output) a1 v1 ∧ (st = true → st' = true) ∧ (q.1 = 4 → st' = true) := by
    cases st with
    | true => exact ⟨true, c15_wpt (w0 v1 rfl) hA1, fun h => h, fun _ => rfl⟩
    | false => exact ⟨(q.1 == 4), c15_wpf (w0 v1 rfl) hA1, fun h => (by cases h), fun h => by rw [h]; rfl⟩
  obtain ⟨st', h15, hs1, hs2⟩ := hst
  refine wp_then h15 ?_
  rintro a2 v2 ⟨hA2, e2, o2, u2⟩
  have fin : ∀ (nn' ff' : Int) (a' : Act) (v' : World), nn' = nn + (if okE c q then 1 else 0) - (if okL c q then 1 else 0) → ff' = ff + (if okF c q then 1 else 0) → Fl 131 [(0, .slice (some ⟨b, o, none⟩) n cap), (1, .slice (some ⟨M, 0, none⟩) n n), (2, I ai), (3, I bi), (9, I nn'), (10, I ff'), (11, .bool st'), (12, I (i : Int)), (13, I (k : Int)), (14, Pt v.heap.size 0)] a' → v'.heap = v1.heap → v'.os = v1.os → v'.output = v1.output → Q .normal a' v' := fun nn' ff' a' v' hn hf hA' e o u => by
    refine hK nn' ff' st' a' v' ⟨?_, ?_, fun j k' q' hj hk' hq' h4 => ?_⟩ (hA'.sub (by simp)) (grow_trans g1 (grow_same e o u))
    · rw [hn, n0, gE, gL]
      by_cases h1 : okE c q <;> by_cases h2 : okL c q <;> simp [h1, h2] <;> omega
    · rw [hf, f0, gF]
      by_cases h1 : okF c q <;> simp [h1]
    · by_cases hold : j < i ∨ (j = i ∧ k' < k)
      · exact hs1 (hC.st j k' q' hold hk' hq' h4)
      · obtain ⟨rfl, rfl⟩ : j = i ∧ k' = k := by omega
        rw [hq] at hq'
        cases hq'
        exact hs2 h4
  refine wp_block ?_
  have nrm : ∀ {Q : Exit → Act → World → Prop} {a : Act} {w : World}, Q .normal a w → Exit.inBlock 4 Q .normal a w := fun h => h
  obtain ⟨qe, qx⟩ := q
  simp only at w0 w1 hs2 fin
  by_cases h1 : c.po = 1
  · refine wp_then (c16_wpy hi hk (s0 v2 e2) (s1 v2 e2) (w0 v2 e2) h1 hA2) ?_
    rintro a3 v3 ⟨hA3, e3, o3, u3⟩
    have hA3' : Fl 131 [(0, .slice (some ⟨b, o, none⟩) n cap), (1, .slice (some ⟨M, 0, none⟩) n n), (2, I ai), (3, I bi), (9, I nn), (10, I ff), (11, .bool st'), (12, I (i : Int)), (13, I (k : Int)), (14, Pt v.heap.size 0)] a3 := hA3.sub (by simp)
    have e31 : v3.heap = v1.heap := e3.trans e2
    by_cases h0 : qe = 0
    · refine wp_cond_true (by rw [hA3.at 59 (.bool (qe == 0)) (by simp), h0]; rfl) ?_
      refine wp_last (c17_wp (by unfold wrap64; omega) hA3') ?_
      rintro a4 v4 ⟨hA4, e4, o4, u4⟩
      refine fin (nn + 1) ff a4 v4 ?_ ?_ hA4 (e4.trans e31) (o4.trans (o3.trans o2)) (u4.trans (u3.trans u2))
      · simp [okE, okL, h1, h0]
      · simp [okF, h1]
    · refine wp_cond_false (by rw [hA3.at 59 (.bool (qe == 0)) (by simp)]; simp [h0]) ?_
      refine wp_then (c18_wpn hi hk (s0 v3 e31) (s1 v3 e31) (w0 v3 e31) (by omega) hA3') ?_
      rintro a4 v4 ⟨hA4, e4, o4, u4⟩
      have hA4' : Fl 131 [(0, .slice (some ⟨b, o, none⟩) n cap), (1, .slice (some ⟨M, 0, none⟩) n n), (2, I ai), (3, I bi), (9, I nn), (10, I ff), (11, .bool st'), (12, I (i : Int)), (13, I (k : Int)), (14, Pt v.heap.size 0)] a4 := hA4.sub (by simp)
      have e41 : v4.heap = v1.heap := e4.trans e31
      refine wp_cond_false (hA4.at 76 (.bool false) (by simp)) ?_
      refine wp_then (c20_wpn hi hk (s0 v4 e41) (s1 v4 e41) (w0 v4 e41) (w1 v4 e41) (by omega) hA4') ?_
      rintro a5 v5 ⟨hA5, e5, o5, u5⟩
      refine wp_cond_false (hA5.at 93 (.bool false) (by simp)) (wp_skip ?_)
      refine fin nn ff a5 v5 ?_ ?_ (hA5.sub (by simp)) (e5.trans e41) (o5.trans (o4.trans (o3.trans o2))) (u5.trans (u4.trans (u3.trans u2)))
      · simp [okE, okL, h0]
      · simp [okF, h0]
  · refine wp_then (c16_wpn hi hk (s0 v2 e2) (s1 v2 e2) (w0 v2 e2) h1 hA2) ?_
    rintro a3 v3 ⟨hA3, e3, o3, u3⟩
    have hA3' : Fl 131 [(0, .slice (some ⟨b, o, none⟩) n cap), (1, .slice (some ⟨M, 0, none⟩) n n), (2, I ai), (3, I bi), (9, I nn), (10, I ff), (11, .bool st'), (12, I (i : Int)), (13, I (k : Int)), (14, Pt v.heap.size 0)] a3 := hA3.sub (by simp)
    have e31 : v3.heap = v1.heap := e3.trans e2
    refine wp_cond_false (hA3.at 59 (.bool false) (by simp)) ?_
    by_cases h2 : c.po = 2
    · refine wp_then (c18_wpy hi hk (s0 v3 e31) (s1 v3 e31) (w0 v3 e31) h2 hA3') ?_
      rintro a4 v4 ⟨hA4, e4, o4, u4⟩
      have hA4' : Fl 131 [(0, .slice (some ⟨b, o, none⟩) n cap), (1, .slice (some ⟨M, 0, none⟩) n n), (2, I ai), (3, I bi), (9, I nn), (10, I ff), (11, .bool st'), (12, I (i : Int)), (13, I (k : Int)), (14, Pt v.heap.size 0)] a4 := hA4.sub (by simp)
      have e41 : v4.heap = v1.heap := e4.trans e31
      by_cases h0 : qe = 0
      · refine wp_cond_true (by rw [hA4.at 76 (.bool (qe == 0)) (by simp), h0]; rfl) ?_
        refine wp_last (c19_wp (by unfold wrap64; omega) hA4') ?_
        rintro a5 v5 ⟨hA5, e5, o5, u5⟩
        refine fin (nn - 1) ff a5 v5 ?_ ?_ hA5 (e5.trans e41) (o5.trans (o4.trans (o3.trans o2))) (u5.trans (u4.trans (u3.trans u2)))
        · simp [okE, okL, h2, h0]
        · simp [okF, h2]
      · refine wp_cond_false (by rw [hA4.at 76 (.bool (qe == 0)) (by simp)]; simp [h0]) ?_
        refine wp_then (c20_wpn hi hk (s0 v4 e41) (s1 v4 e41) (w0 v4 e41) (w1 v4 e41) (by omega) hA4') ?_
        rintro a5 v5 ⟨hA5, e5, o5, u5⟩
        refine wp_cond_false (hA5.at 93 (.bool false) (by simp)) (wp_skip ?_)
        refine fin nn ff a5 v5 ?_ ?_ (hA5.sub (by simp)) (e5.trans e41) (o5.trans (o4.trans (o3.trans o2))) (u5.trans (u4.trans (u3.trans u2)))
        · simp [okE, okL, h0]
        · simp [okF, h0]
    · refine wp_then (c18_wpn hi hk (s0 v3 e31) (s1 v3 e31) (w0 v3 e31) h2 hA3') ?_
      rintro a4 v4 ⟨hA4, e4, o4, u4⟩
      have hA4' : Fl 131 [(0, .slice (some ⟨b, o, none⟩) n cap), (1, .slice (some ⟨M, 0, none⟩) n n), (2, I ai), (3, I bi), (9, I nn), (10, I ff), (11, .bool st'), (12, I (i : Int)), (13, I (k : Int)), (14, Pt v.heap.size 0)] a4 := hA4.sub (by simp)
      have e41 : v4.heap = v1.heap := e4.trans e31
      refine wp_cond_false (hA4.at 76 (.bool false) (by simp)) ?_
      have hnone : ∀ (a5 : Act) (v5 : World), Fl 131 [(0, .slice (some ⟨b, o, none⟩) n cap), (1, .slice (some ⟨M, 0, none⟩) n n), (2, I ai), (3, I bi), (9, I nn), (10, I ff), (11, .bool st'), (12, I (i : Int)), (13, I (k : Int)), (14, Pt v.heap.size 0), (93, .bool false)] a5 → v5.heap = v4.heap → v5.os = v4.os → v5.output = v4.output → okF c (qe, qx) = false → (Code.cond (.tmp 93) c21 .skip).wp Try.prog (Exit.inBlock 4 Q) a5 v5 := fun a5 v5 hA5 e5 o5 u5 hno => by
        refine wp_cond_false (hA5.at 93 (.bool false) (by simp)) (wp_skip ?_)
        refine fin nn ff a5 v5 ?_ ?_ (hA5.sub (by simp)) (e5.trans e41) (o5.trans (o4.trans (o3.trans o2))) (u5.trans (u4.trans (u3.trans u2)))
        · simp [okE, okL, h1, h2]
        · rw [hno]; simp
      by_cases h3 : c.po = 3
      · by_cases h0 : qe = 0
        · refine wp_then (c20_wpy hi hk (s0 v4 e41) (s1 v4 e41) (w0 v4 e41) (w1 v4 e41) h3 h0 hA4') ?_
          rintro a5 v5 ⟨hA5, e5, o5, u5⟩
          by_cases hx : qx = 1
          · refine wp_cond_true (by rw [hA5.at 93 (.bool (qx == 1)) (by simp), hx]; rfl) ?_
            have hA5' : Fl 131 [(0, .slice (some ⟨b, o, none⟩) n cap), (1, .slice (some ⟨M, 0, none⟩) n n), (2, I ai), (3, I bi), (9, I nn), (10, I ff), (11, .bool st'), (12, I (i : Int)), (13, I (k : Int)), (14, Pt v.heap.size 0)] a5 := hA5.sub (by simp)
            refine wp_last (c21_wp (by unfold wrap64; omega) hA5') ?_
            rintro a6 v6 ⟨hA6, e6, o6, u6⟩
            refine fin nn (ff + 1) a6 v6 ?_ ?_ hA6 (e6.trans (e5.trans e41)) (o6.trans (o5.trans (o4.trans (o3.trans o2)))) (u6.trans (u5.trans (u4.trans (u3.trans u2))))
            · simp [okE, okL, h1, h2]
            · simp [okF, h3, h0, hx]
          · have hf : (qx == 1) = false := by simp [hx]
            rw [hf] at hA5
            exact hnone a5 v5 hA5 e5 o5 u5 (by simp [okF, hx])
        · refine wp_then (c20_wpm hi hk (s0 v4 e41) (s1 v4 e41) (w0 v4 e41) (w1 v4 e41) h3 h0 hA4') ?_
          rintro a5 v5 ⟨hA5, e5, o5, u5⟩
          exact hnone a5 v5 hA5 e5 o5 u5 (by simp [okF, h0])
      · refine wp_then (c20_wpn hi hk (s0 v4 e41) (s1 v4 e41) (w0 v4 e41) (w1 v4 e41) h3 hA4') ?_
        rintro a5 v5 ⟨hA5, e5, o5, u5⟩
        exact hnone a5 v5 hA5 e5 o5 u5 (by simp [okF, h3])

set_option maxHeartbeats 2000000 in
theorem rows47 {Q : Exit → Act → World → Prop} {a : Act} {v : World} (hR : RK n M b o A ln cp rb ro pc cl l v) (hA : Fl 131 [(0, .slice (some ⟨b, o, none⟩) n cap), (1, .slice (some ⟨M, 0, none⟩) n n), (2, I ai), (3, I bi), (9, I 0), (10, I 0), (11, .bool false), (12, I ((0 : Nat) : Int))] a)
    (hK : ∀ nn ff st a' v', Cn3 cl l n n 0 nn ff st → Fl 131 [(0, .slice (some ⟨b, o, none⟩) n cap), (1, .slice (some ⟨M, 0, none⟩) n n), (2, I ai), (3, I bi), (9, I nn), (10, I ff), (11, .bool st)] a' → Grows v v' → Q .normal a' v') :
    (Code.block 0 (.loop CLo)).wp Try.prog Q a v := by
  rw [eCLo]
  refine wp_while (fun m a w => ∃ i nn ff st, i + m = n ∧ Cn3 cl l n i 0 nn ff st ∧ Fl 131 [(0, .slice (some ⟨b, o, none⟩) n cap), (1, .slice (some ⟨M, 0, none⟩) n n), (2, I ai), (3, I bi), (9, I nn), (10, I ff), (11, .bool st), (12, I (i : Int))] a ∧ Grows v w) n ⟨0, 0, 0, false, by omega, ⟨rfl, rfl, fun j k' q h => by omega⟩, hA, grow_same rfl rfl rfl⟩ ?_
  rintro m a1 w1 ⟨i, nn, ff, st, him, hC, hA1, g1⟩
  refine ⟨_, c7_wp hA1, ?_⟩
  rintro a2 w2 ⟨hA2, e2, o2, u2⟩
  have g2 := grow_trans g1 (grow_same e2 o2 u2)
  by_cases hi : i < n
  · right
    refine ⟨by rw [hA2.at 23 (.bool (decide ((i : Int) < (n : Int)))) (by simp), decide_eq_true (by omega)], ?_⟩
    have hA2' : Fl 131 [(0, .slice (some ⟨b, o, none⟩) n cap), (1, .slice (some ⟨M, 0, none⟩) n n), (2, I ai), (3, I bi), (9, I nn), (10, I ff), (11, .bool st), (12, I (i : Int))] a2 := hA2.sub (by simp)
    obtain ⟨hl1, hl2⟩ := hlen i hi
    have hR2 := hR.go g2.old
    refine wp_seq (wp_block ?_)
    rw [eCI]
    refine wp_seq (wp_then (c9_wp hi (hR2.ar i hi) (hR2.sr i hi) hA2') ?_)
    rintro a3 w3 ⟨hA3, e3, o3, u3⟩
    refine wp_cond_false (hA3.at 36 (.bool false) (by simp)) (wp_skip ?_)
    have hA3' : Fl 131 [(0, .slice (some ⟨b, o, none⟩) n cap), (1, .slice (some ⟨M, 0, none⟩) n n), (2, I ai), (3, I bi), (9, I nn), (10, I ff), (11, .bool st), (12, I (i : Int))] a3 := hA3.sub (by simp)
    refine wp_then (c11_wp hA3') ?_
    rintro a4 w4 ⟨hA4, e4, o4, u4⟩
    have g4 := grow_trans g2 (grow_trans (grow_same e3 o3 u3) (grow_same e4 o4 u4))
    rw [eCJ]
    refine wp_while (fun m' a w => ∃ k nn ff st, k + m' = ln i ∧ Cn3 cl l n i k nn ff st ∧ Fl 131 [(0, .slice (some ⟨b, o, none⟩) n cap), (1, .slice (some ⟨M, 0, none⟩) n n), (2, I ai), (3, I bi), (9, I nn), (10, I ff), (11, .bool st), (12, I (i : Int)), (13, I (k : Int))] a ∧ Grows v w) (ln i) ⟨0, nn, ff, st, by omega, hC, hA4, g4⟩ ?_
    rintro m' a5 w5 ⟨k, nn', ff', st', hkm, hC5, hA5, g5⟩
    refine ⟨_, c12_wp hi ((hR.go g5.old).ar i hi) hA5, ?_⟩
    rintro a6 w6 ⟨hA6, e6, o6, u6⟩
    have g6 := grow_trans g5 (grow_same e6 o6 u6)
    by_cases hk : k < ln i
    · right
      refine ⟨by rw [hA6.at 43 (.bool (decide ((k : Int) < (ln i : Int)))) (by simp), decide_eq_true (by omega)], ?_⟩
      have hA6' : Fl 131 [(0, .slice (some ⟨b, o, none⟩) n cap), (1, .slice (some ⟨M, 0, none⟩) n n), (2, I ai), (3, I bi), (9, I nn'), (10, I ff'), (11, .bool st'), (12, I (i : Int)), (13, I (k : Int))] a6 := hA6.sub (by simp)
      refine wp_seq (wp_block ?_)
      refine call47 hn8 hlen hal hi hk (hR.go g6.old) hC5 hA6' ?_
      intro nn2 ff2 st2 a7 w7 hC7 hA7 g7
      show Code.wp Try.prog c13 _ a7 w7
      refine wp_last (c13_wp (by unfold wrap64; omega) hA7) ?_
      rintro a8 w8 ⟨hA8, e8, o8, u8⟩
      exact ⟨m' - 1, by omega, k + 1, nn2, ff2, st2, by omega, hC7, hA8, grow_trans g6 (grow_trans g7 (grow_same e8 o8 u8))⟩
    · left
      have hkl : k = ln i := by omega
      refine ⟨by rw [hA6.at 43 (.bool (decide ((k : Int) < (ln i : Int)))) (by simp), decide_eq_false (by omega)], ?_⟩
      show Code.wp Try.prog c8 _ a6 w6
      have hA6' : Fl 131 [(0, .slice (some ⟨b, o, none⟩) n cap), (1, .slice (some ⟨M, 0, none⟩) n n), (2, I ai), (3, I bi), (9, I nn'), (10, I ff'), (11, .bool st'), (12, I (i : Int))] a6 := hA6.sub (by simp)
      refine wp_last (c8_wp (by unfold wrap64; omega) hA6') ?_
      rintro a8 w8 ⟨hA8, e8, o8, u8⟩
      have hC8 : Cn3 cl l n (i + 1) 0 nn' ff' st' := by
        rw [hkl, ← hl1] at hC5
        refine ⟨by rw [gone_row, gone_row]; exact hC5.nn, by rw [gone_row]; exact hC5.ff, fun j k' q hj hk' => hC5.st j k' q (by
          rcases hj with h | ⟨_, h⟩
          · by_cases e : j = i
            · subst e; exact .inr ⟨rfl, hk'⟩
            · exact .inl (by omega)
          · omega) hk'⟩
      exact ⟨m - 1, by omega, i + 1, nn', ff', st', by omega, hC8, hA8, grow_trans g6 (grow_same e8 o8 u8)⟩
  · left
    have hin : i = n := by omega
    subst hin
    exact ⟨by rw [hA2.at 23 (.bool (decide ((i : Int) < (i : Int)))) (by simp), decide_eq_false (by omega)], hK nn ff st a2 w2 hC (hA2.sub (by simp)) g2⟩

set_option maxRecDepth 100000 in
/-- counted is true. -/
theorem body47 {L : List Stp} {a0 b0 : Nat} (hE : GateEnd n cl l L a0 b0) {v : World} (hR : RK n M b o A ln cp rb ro pc cl l v) : Body Try.f49 #[.slice (some ⟨b, o, none⟩) n cap, .slice (some ⟨M, 0, none⟩) n n, I (a0 : Int), I (b0 : Int)] v (fun r v' => r = .bool true ∧ Grows v v') := by
  intro code hb
  have hcode : code = LB47 := (Option.some.inj hb).symm
  subst hcode
  have hA : Fl 131 [(0, .slice (some ⟨b, o, none⟩) n cap), (1, .slice (some ⟨M, 0, none⟩) n n), (2, I (a0 : Int)), (3, I (b0 : Int))] { tmps := #[.slice (some ⟨b, o, none⟩) n cap, .slice (some ⟨M, 0, none⟩) n n, I (a0 : Int), I (b0 : Int)] ++ Array.replicate (Try.f49.ntmps - #[.slice (some ⟨b, o, none⟩) n cap, .slice (some ⟨M, 0, none⟩) n n, I (a0 : Int), I (b0 : Int)].size) undef, defers := [] } := by
    refine fl_enter _ _ _ (by rw [Try.ntmps49]; rfl) _ (fun p hp => ?_)
    simp only [List.mem_cons, List.not_mem_nil, or_false] at hp
    rcases hp with rfl | rfl | rfl | rfl <;> rfl
  generalize ({ tmps := #[.slice (some ⟨b, o, none⟩) n cap, .slice (some ⟨M, 0, none⟩) n n, I (a0 : Int), I (b0 : Int)] ++ Array.replicate (Try.f49.ntmps - #[.slice (some ⟨b, o, none⟩) n cap, .slice (some ⟨M, 0, none⟩) n n, I (a0 : Int), I (b0 : Int)].size) undef, defers := [] } : Act) = a at hA ⊢
  clear hb
  rw [eLB47]
  have fin : ∀ (a' : Act) (w' : World), Fl 131 [(8, .bool true)] a' → Grows v w' → bodyPost Try.prog Try.f49 (fun e w' => ∃ r, e = .returned r ∧ r = .bool true ∧ Grows v w') .ret a' w' := fun a' w' hA' g => by
    refine bodyPost_ret (results_tmp (t := 8) rfl _ _ _) hA'.2.1 ⟨_, rfl, ?_, g⟩
    exact hA'.at 8 (.bool true) (by simp)
  refine wp_then (c0_wp hA) ?_
  rintro a1 w1 ⟨hA1, e1, o1, u1⟩
  refine wp_seq (wp_then (c1_wp hA1) ?_)
  rintro a2 w2 ⟨hA2, e2, o2, u2⟩
  refine wp_cond_false (hA2.at 19 (.bool false) (by simp)) (wp_skip ?_)
  have hA2' : Fl 131 [(0, .slice (some ⟨b, o, none⟩) n cap), (1, .slice (some ⟨M, 0, none⟩) n n), (2, I (a0 : Int)), (3, I (b0 : Int))] a2 := hA2.sub (by simp)
  refine wp_then (c3_wp hA2') ?_
  rintro a3 w3 ⟨hA3, e3, o3, u3⟩
  refine wp_then (c4_wp hA3) ?_
  rintro a4 w4 ⟨hA4, e4, o4, u4⟩
  refine wp_then (c5_wp hA4) ?_
  rintro a5 w5 ⟨hA5, e5, o5, u5⟩
  refine wp_seq (wp_then (c6_wp hA5) ?_)
  rintro a6 w6 ⟨hA6, e6, o6, u6⟩
  have e60 : w6.heap = v.heap := by rw [e6, e5, e4, e3, e2, e1]
  have g6 : Grows v w6 := grow_same e60 (by rw [o6, o5, o4, o3, o2, o1]) (by rw [u6, u5, u4, u3, u2, u1])
  refine rows47 hn8 hlen hal (hR.go g6.old) hA6 ?_
  intro nn ff st a7 w7 hC hA7 g7
  have g67 := grow_trans g6 g7
  have z : ∀ p, gone p cl l n 0 = sumN (fun i => cnp p (cl i) (l i).ans (cl i).length) n := fun p => rfl
  have hnn : nn = (a0 : Int) := by rw [hC.nn, z, z]; have := hE.ent; omega
  have hff : ff = ((sumN (fun i => cnp okF (cl i) (l i).ans (cl i).length) n : Nat) : Int) := by rw [hC.ff, z]
  have h1 := hE.fst
  show Code.wp Try.prog c22 _ a7 w7
  rcases hE.fst2 with h2 | ⟨i, k, q, hi, hk, hq, h4⟩
  · refine wp_mono (c22_wpy hnn (by rw [hff, h2]) hA7) ?_
    rintro e a8 w8 ⟨rfl, hA8, e8, o8, u8⟩
    exact fin a8 w8 hA8 (grow_trans g67 (grow_same e8 o8 u8))
  · have hst := hC.st i k q (.inl hi) hk hq h4
    subst hst
    by_cases heq : ff = (b0 : Int)
    · refine wp_mono (c22_wpy hnn heq hA7) ?_
      rintro e a8 w8 ⟨rfl, hA8, e8, o8, u8⟩
      exact fin a8 w8 hA8 (grow_trans g67 (grow_same e8 o8 u8))
    · refine wp_mono (c22_wpn hnn (by omega) hA7) ?_
      rintro e a8 w8 ⟨rfl, hA8, e8, o8, u8⟩
      exact fin a8 w8 hA8 (grow_trans g67 (grow_same e8 o8 u8))
end
end Go.Proofs.Ytfjjoohflcchnaa.Gen

namespace Go.Proofs.Ytfjjoohflcchnaa
open Go Go.Lift Go.Conc Go.RowKit

def plainGt : List FuncId := [56, 59, 61, 62, 63, 64, 89, 106, 114, 18, 20, 21, 22, 29, 53, 58, 83, 31, 32, 34, 35, 36, 37, 44, 68, 73, 49, 82]
def LGt (f : FuncId) : Prop := f ∈ plainGt
theorem callGt : ∀ f ∈ plainGt, Callable Try.prog LGt f := by
  intro f hf
  have hf' := hf
  simp only [plainGt, List.mem_cons, List.not_mem_nil, or_false] at hf
  rcases hf with rfl | rfl | rfl | rfl | rfl | rfl | rfl | rfl | rfl | rfl | rfl | rfl | rfl | rfl | rfl | rfl | rfl | rfl | rfl | rfl | rfl | rfl | rfl | rfl | rfl | rfl | rfl | rfl
  · exact ⟨hf', Try.f56, Try.func56, by kernel_rfl, by kernel_rfl⟩
  · exact ⟨hf', Try.f59, Try.func59, by kernel_rfl, by kernel_rfl⟩
  · exact ⟨hf', Try.f61, Try.func61, by kernel_rfl, by kernel_rfl⟩
  · exact ⟨hf', Try.f62, Try.func62, by kernel_rfl, by kernel_rfl⟩
  · exact ⟨hf', Try.f63, Try.func63, by kernel_rfl, by kernel_rfl⟩
  · exact ⟨hf', Try.f64, Try.func64, by kernel_rfl, by kernel_rfl⟩
  · exact ⟨hf', Try.f89, Try.func89, by kernel_rfl, by kernel_rfl⟩
  · exact ⟨hf', Try.f106, Try.func106, by kernel_rfl, by kernel_rfl⟩
  · exact ⟨hf', Try.f114, Try.func114, by kernel_rfl, by kernel_rfl⟩
  · exact ⟨hf', Try.f18, Try.func18, by kernel_rfl, by kernel_rfl⟩
  · exact ⟨hf', Try.f20, Try.func20, by kernel_rfl, by kernel_rfl⟩
  · exact ⟨hf', Try.f21, Try.func21, by kernel_rfl, by kernel_rfl⟩
  · exact ⟨hf', Try.f22, Try.func22, by kernel_rfl, by kernel_rfl⟩
  · exact ⟨hf', Try.f29, Try.func29, by kernel_rfl, by kernel_rfl⟩
  · exact ⟨hf', Try.f53, Try.func53, by kernel_rfl, by kernel_rfl⟩
  · exact ⟨hf', Try.f58, Try.func58, by kernel_rfl, by kernel_rfl⟩
  · exact ⟨hf', Try.f83, Try.func83, by kernel_rfl, by kernel_rfl⟩
  · exact ⟨hf', Try.f31, Try.func31, by kernel_rfl, by kernel_rfl⟩
  · exact ⟨hf', Try.f32, Try.func32, by kernel_rfl, by kernel_rfl⟩
  · exact ⟨hf', Try.f34, Try.func34, by kernel_rfl, by kernel_rfl⟩
  · exact ⟨hf', Try.f35, Try.func35, by kernel_rfl, by kernel_rfl⟩
  · exact ⟨hf', Try.f36, Try.func36, by kernel_rfl, by kernel_rfl⟩
  · exact ⟨hf', Try.f37, Try.func37, by kernel_rfl, by kernel_rfl⟩
  · exact ⟨hf', Try.f44, Try.func44, by kernel_rfl, by kernel_rfl⟩
  · exact ⟨hf', Try.f68, Try.func68, by kernel_rfl, by kernel_rfl⟩
  · exact ⟨hf', Try.f73, Try.func73, by kernel_rfl, by kernel_rfl⟩
  · exact ⟨hf', Try.f49, Try.func49, by kernel_rfl, by kernel_rfl⟩
  · exact ⟨hf', Try.f82, Try.func82, by kernel_rfl, by kernel_rfl⟩
theorem fineGt : ∀ f, LGt f → fineFn Try.prog true LGt f := by
  intro f hf
  simp only [LGt, plainGt, List.mem_cons, List.not_mem_nil, or_false] at hf
  rcases hf with rfl | rfl | rfl | rfl | rfl | rfl | rfl | rfl | rfl | rfl | rfl | rfl | rfl | rfl | rfl | rfl | rfl | rfl | rfl | rfl | rfl | rfl | rfl | rfl | rfl | rfl | rfl | rfl
  · exact fineFn_askS callGt extT Try.func56 (c := Try.f56.body.getD .skip) (by rfl) (by kernel_rfl)
  · exact fineFn_askS callGt extT Try.func59 (c := Try.f59.body.getD .skip) (by rfl) (by kernel_rfl)
  · exact fineFn_askS callGt extT Try.func61 (c := Try.f61.body.getD .skip) (by rfl) (by kernel_rfl)
  · exact fineFn_askS callGt extT Try.func62 (c := Try.f62.body.getD .skip) (by rfl) (by kernel_rfl)
  · exact fineFn_askS callGt extT Try.func63 (c := Try.f63.body.getD .skip) (by rfl) (by kernel_rfl)
  · exact fineFn_askS callGt extT Try.func64 (c := Try.f64.body.getD .skip) (by rfl) (by kernel_rfl)
  · exact fineFn_askS callGt extT Try.func89 (c := Try.f89.body.getD .skip) (by rfl) (by kernel_rfl)
  · exact fineFn_askS callGt extT Try.func106 (c := Try.f106.body.getD .skip) (by rfl) (by kernel_rfl)
  · exact fineFn_askS callGt extT Try.func114 (c := Try.f114.body.getD .skip) (by rfl) (by kernel_rfl)
  · exact fineFn_askS callGt extT Try.func18 (c := Try.f18.body.getD .skip) (by rfl) (by kernel_rfl)
  · exact fineFn_askS callGt extT Try.func20 (c := Try.f20.body.getD .skip) (by rfl) (by kernel_rfl)
  · exact fineFn_askS callGt extT Try.func21 (c := Try.f21.body.getD .skip) (by rfl) (by kernel_rfl)
  · exact fineFn_askS callGt extT Try.func22 (c := Try.f22.body.getD .skip) (by rfl) (by kernel_rfl)
  · exact fineFn_askS callGt extT Try.func29 (c := Try.f29.body.getD .skip) (by rfl) (by kernel_rfl)
  · exact fineFn_askS callGt extT Try.func53 (c := Try.f53.body.getD .skip) (by rfl) (by kernel_rfl)
  · exact fineFn_askS callGt extT Try.func58 (c := Try.f58.body.getD .skip) (by rfl) (by kernel_rfl)
  · exact fineFn_askS callGt extT Try.func83 (c := Try.f83.body.getD .skip) (by rfl) (by kernel_rfl)
  · exact fineFn_askS callGt extT Try.func31 (c := Try.f31.body.getD .skip) (by rfl) (by kernel_rfl)
  · exact fineFn_askS callGt extT Try.func32 (c := Try.f32.body.getD .skip) (by rfl) (by kernel_rfl)
  · exact fineFn_askS callGt extT Try.func34 (c := Try.f34.body.getD .skip) (by rfl) (by kernel_rfl)
  · exact fineFn_askS callGt extT Try.func35 (c := Try.f35.body.getD .skip) (by rfl) (by kernel_rfl)
  · exact fineFn_askS callGt extT Try.func36 (c := Try.f36.body.getD .skip) (by rfl) (by kernel_rfl)
  · exact fineFn_askS callGt extT Try.func37 (c := Try.f37.body.getD .skip) (by rfl) (by kernel_rfl)
  · exact fineFn_askS callGt extT Try.func44 (c := Try.f44.body.getD .skip) (by rfl) (by kernel_rfl)
  · exact fineFn_askS callGt extT Try.func68 (c := Try.f68.body.getD .skip) (by rfl) (by kernel_rfl)
  · exact fineFn_askS callGt extT Try.func73 (c := Try.f73.body.getD .skip) (by rfl) (by kernel_rfl)
  · exact fineFn_askS callGt extT Try.func49 (c := Try.f49.body.getD .skip) (by rfl) (by kernel_rfl)
  · exact fineFn_askS callGt extT Try.func82 (c := Try.f82.body.getD .skip) (by rfl) (by kernel_rfl)
end Go.Proofs.Ytfjjoohflcchnaa
namespace Go.Proofs.Ytfjjoohflcchnaa.Gen
open Go Go.Lift Go.Conc Go.RowKit
/-- Code that returns, walked alone. -/
theorem goesI_retW {Ch : Nat → Prop} {Stop : Goroutine → World → Prop} {main : Bool} {f : FuncId} {c : Code} {act : Act} {more : List Item} {cs : List Frame} {v w : World} {Q : Act → World → Prop} (hvw : Rel zn v w) (hn : NoRow Ch v) (hc : fineCode Try.prog true LGt c) (ha : act.defers = [])
    (hwp : ∀ τ, c.wp Try.prog (fun e a w' => e = .ret ∧ Q a w') act (onTape v τ 0))
    (h : ∀ a' v' w' todo, Q a' v' → a'.defers = [] → Rel zn v' w' → NoRow Ch v' → GoesI Try.prog main (DT (ScZ zn) Ch) Stop (G { (base f).at a' todo with mode := .returning } cs) w') :
    GoesI Try.prog main (DT (ScZ zn) Ch) Stop (G ((base f).at act (.code c :: more)) cs) w := by
  have hfin := lift_code (P := Try.prog) (z := zn) (wr := true) (L := LGt) (D := DT (ScZ zn) Ch) (I := NoRow Ch) (main := main) (b := base f) (k := more) (cs := cs) hE fineGt noRow_keeps (fun v v' w w' es hi hr ho he => dt_of_z v v' w w' es hi hr ho he) hvw hc ha (by simp [base]) hn
    (Q := fun e a w' => e = .ret ∧ Q a w') hwp (fun e a w hq => .inr hq.1)
  refine hfin.then ?_
  rintro g w' ⟨a', v', hr, hiv, hd, ⟨⟨hq, _⟩, _⟩ | ⟨⟨_, hQ⟩, todo, rfl⟩⟩
  · cases hq
  · exact h a' v' w' todo hQ hd hr hiv

end Go.Proofs.Ytfjjoohflcchnaa.Gen
