/- LatchCounts: whatever the schedule, the number and the scripts, what the calls are told and what the trace says of the number is as the law asks. Part 27 of 35. (Joined, by program, of: LatInv, GIns, LatFin, La10a.) -/
import Derived.Test.YtfjjoohflcchnaaLatchCounts22
import Derived.Test.YtfjjoohflcchnaaLatchCounts24
import Derived.Test.YtfjjoohflcchnaaLatchCounts26
import Derived.BigQuiet
import Derived.Deep.RegionHeld3
set_option linter.unusedSimpArgs false
set_option linter.unusedVariables false
namespace Go.Proofs.Ytfjjoohflcchnaa.Gen
open Go Go.Lift Go.Conc Go.RowKit
open Go.ConcN (upd upd_same upd_ne)

/-- A step that counts down. -/
def isD (s : Stp) : Bool := s.op == 4 && s.ne == wrap64 (s.ol - 1)
def dn (L : List Stp) : Nat := L.countP isD
theorem dn_app (a b : List Stp) : dn (a ++ b) = dn a + dn b := List.countP_append ..
/-- An answered call, told OK for a Down. -/
def okD : Option Cl → Option (Int × Int) → Bool
  | some c, some a => c.po == 1 && a.1 == 0
  | _, _ => false
def cnt (calls : List Cl) (ans : List (Int × Int)) (u : Nat) : Nat := (List.range u).countP fun k => okD calls[k]? ans[k]?
theorem cnt_succ (calls : List Cl) (ans : List (Int × Int)) (u : Nat) : cnt calls ans (u + 1) = cnt calls ans u + if okD calls[u]? ans[u]? then 1 else 0 := by
  unfold cnt
  rw [List.range_succ, List.countP_append, List.countP_singleton]
theorem cnt_set (calls : List Cl) (ans : List (Int × Int)) (u : Nat) (a : Int × Int) : cnt calls (ans.set u a) u = cnt calls ans u := by
  unfold cnt
  apply List.countP_congr
  intro k hk
  have : k < u := List.mem_range.1 hk
  rw [List.getElem?_set, if_neg (by omega)]
/-- How many calls of a thread are answered. -/
def upTo (calls : List Cl) : Ph → Nat
  | .turn _ _ _ _ ii _ => ii
  | .wait _ _ _ ii _ => ii
  | .done _ => calls.length
/-- What an answer says, where d have been counted down. -/
def Ac (n0 : Int) (d : Nat) (stk : Bool) (c : Cl) (e : Int) : Prop := (c.po = 2 → e = 0 → n0 ≤ d) ∧ (e = 4 → stk = true)
theorem Ac.mono {n0 : Int} {d d' : Nat} {stk stk' : Bool} {c : Cl} {e : Int} (h : Ac n0 d stk c e) (hd : d ≤ d') (hs : stk = true → stk' = true) : Ac n0 d' stk' c e := ⟨fun h1 h2 => by have := h.1 h1 h2; omega, fun h1 => hs (h.2 h1)⟩
def AnsTo (calls : List Cl) (ans : List (Int × Int)) (u : Nat) (P : Cl → Int → Prop) : Prop := ∀ k c a, k < u → calls[k]? = some c → ans[k]? = some a → P c a.1
theorem AnsTo.set {calls : List Cl} {ans : List (Int × Int)} {u : Nat} {P : Cl → Int → Prop} (h : AnsTo calls ans u P) (a : Int × Int) (hP : ∀ c, calls[u]? = some c → P c a.1) : AnsTo calls (ans.set u a) (u + 1) P := fun k c b hk hc hb => by
  by_cases e : k = u
  · subst e
    rw [List.getElem?_set, if_pos rfl] at hb
    split at hb
    · cases hb; exact hP c hc
    · cases hb
  · rw [List.getElem?_set, if_neg (fun x => e x.symm)] at hb
    exact h k c b (by omega) hc hb
/-- Where a thread sits. -/
def Seat (n0 : Int) (se : Int) (calls : List Cl) : Ph → Prop
  | .turn op j q rest ii ans => j = 0 ∧ rest = calls.drop (ii + 1) ∧ ∃ c, calls[ii]? = some c ∧ ((q = (0, []) ∧ op = 1 ∧ c.po = 1) ∨ (∃ a, q = (1, [a]) ∧ op = 4 ∧ c.po = 1 ∧ 0 < a ∧ a ≤ n0) ∨ (q = (2, []) ∧ op = 1 ∧ c.po = 2))
  | .wait j q rest ii ans => j = 0 ∧ q = (3, []) ∧ rest = calls.drop (ii + 1) ∧ (∃ c, calls[ii]? = some c ∧ c.po = 2) ∧ se < n0
  | .done _ => True
structure TI (n0 : Int) (d : Nat) (stk : Bool) (se : Int) (calls : List Cl) (l : Ph) : Prop where
  len : l.ans.length = calls.length
  seat : Seat n0 se calls l
  ok : AnsTo calls l.ans (upTo calls l) (Ac n0 d stk)
theorem TI.mono {n0 : Int} {d d' : Nat} {stk stk' : Bool} {se : Int} {calls : List Cl} {l : Ph} (h : TI n0 d stk se calls l) (hd : d ≤ d') (hs : stk = true → stk' = true) : TI n0 d' stk' se calls l :=
  ⟨h.len, h.seat, fun k c a hk hc ha => (h.ok k c a hk hc ha).mono hd hs⟩
/-- What is told at a call's end. -/
def EndOk (N : Nat) (n0 : Int) (cl : Nat → List Cl) (d : Nat) (s : Stp) : Prop := s.op = 10 → ∃ (i ii : Nat) (c : Cl), s.th = i ∧ i < N ∧ s.ol = ii ∧ (cl i)[ii]? = some c ∧ (s.ne = 50 → n0 ≤ d) ∧ (c.po = 2 → s.ne = 0 → n0 ≤ d)
def Ends (N : Nat) (n0 : Int) (cl : Nat → List Cl) (L : List Stp) : Prop := ∀ A s B, L = A ++ s :: B → EndOk N n0 cl (dn A) s
theorem Ends.one {N : Nat} {n0 : Int} {cl : Nat → List Cl} {L : List Stp} (h : Ends N n0 cl L) {s : Stp} (hs : EndOk N n0 cl (dn L) s) : Ends N n0 cl (L ++ [s]) := fun A x B e => by
  rcases List.append_eq_append_iff.1 e with ⟨A', e1, e2⟩ | ⟨A', e1, e2⟩
  · cases A' with
    | nil =>
      simp at e1 e2
      obtain ⟨rfl, _⟩ := e2
      rw [e1]
      exact hs
    | cons y ys =>
      simp at e2
  · cases A' with
    | nil =>
      simp at e1 e2
      obtain ⟨rfl, _⟩ := e2
      rw [← e1]
      exact hs
    | cons y ys =>
      simp at e2
      obtain ⟨rfl, _⟩ := e2
      exact h A x ys e1
/-- Steps that count nothing down. -/
theorem Ends.more {N : Nat} {n0 : Int} {cl : Nat → List Cl} {d : Nat} : ∀ (X : List Stp) {L : List Stp}, Ends N n0 cl L → dn L = d → (∀ s ∈ X, isD s = false ∧ EndOk N n0 cl d s) → Ends N n0 cl (L ++ X) ∧ dn (L ++ X) = d
  | [], L, h, hd, _ => by rw [List.append_nil]; exact ⟨h, hd⟩
  | s :: X, L, h, hd, hX => by
    have h1 := hX s (List.mem_cons_self ..)
    have h2 : Ends N n0 cl (L ++ [s]) := h.one (by rw [hd]; exact h1.2)
    have h3 : dn (L ++ [s]) = d := by rw [dn_app, hd]; unfold dn; rw [List.countP_singleton, h1.1]; simp
    have := Ends.more X h2 h3 (fun x hx => hX x (List.mem_cons_of_mem _ hx))
    rw [List.append_assoc, List.singleton_append] at this
    exact this

/-- From a call's beginning to the next seat. -/
theorem fw_latch {N : Nat} {n0 : Int} {cl : Nat → List Cl} {i : Nat} (hi : i < N) {stk : Bool} {d : Nat} {rest : List Cl} {ii : Nat} {sk : Bool} {ans : List (Int × Int)} {X : List Stp} {l : Ph} (h : Fw mcLatch i stk rest ii sk ans X l) :
    rest = (cl i).drop ii → ii ≤ (cl i).length → ans.length = (cl i).length → (sk = true → stk = true) → AnsTo (cl i) ans ii (Ac n0 d stk) →
    (∀ se, TI n0 d stk se (cl i) l) ∧ cnt (cl i) l.ans (upTo (cl i) l) = cnt (cl i) ans ii ∧ (∀ s ∈ X, isD s = false ∧ EndOk N n0 cl d s) ∧ (∀ j q r k a, l ≠ .wait j q r k a) ∧ (sk = true → ∃ a, l = .done a) := by
  induction h with
  | @nil ii sk ans =>
    intro hr hl ha hs hA
    have : ii = (cl i).length := by
      have := congrArg List.length hr
      simp at this
      omega
    subst this
    exact ⟨fun se => ⟨ha, trivial, hA⟩, rfl, fun s hs => (nomatch hs), fun j q r k a h => (by cases h), fun _ => ⟨_, rfl⟩⟩
  | @skip c rest ii ans X l h ih =>
    intro hr hl ha hs hA
    have hlt : ii < (cl i).length := by
      have := congrArg List.length hr
      simp at this
      omega
    have hc : (cl i)[ii]? = some c := by
      have : ((cl i).drop ii)[0]? = some c := by rw [← hr]; rfl
      simpa using this
    have hr' : rest = (cl i).drop (ii + 1) := by
      have := congrArg List.tail hr
      simpa [List.tail_drop] using this
    obtain ⟨h1, h2, h3, h4, h5⟩ := ih hr' (by omega) (by simpa using ha) (fun _ => hs rfl) (hA.set _ (fun c hc => ⟨fun _ h => absurd h (by decide), fun _ => hs rfl⟩))
    refine ⟨h1, ?_, h3, h4, fun _ => h5 rfl⟩
    rw [h2, cnt_succ, cnt_set]
    have : okD (cl i)[ii]? (ans.set ii (4, 0))[ii]? = false := by
      rw [hc, List.getElem?_set, if_pos rfl, if_pos (by omega)]
      simp [okD]
    rw [this]
    simp
  | @ans c rest ii ans X l e x hst h ih =>
    intro hr hl ha hs hA
    have hlt : ii < (cl i).length := by
      have := congrArg List.length hr
      simp at this
      omega
    have hc : (cl i)[ii]? = some c := by
      have : ((cl i).drop ii)[0]? = some c := by rw [← hr]; rfl
      simpa using this
    have hr' : rest = (cl i).drop (ii + 1) := by
      have := congrArg List.tail hr
      simpa [List.tail_drop] using this
    have hst' : e = 1 ∧ x = 0 ∧ c.po ≠ 1 ∧ c.po ≠ 2 := by
      unfold mcLatch at hst
      simp only at hst
      split at hst
      · cases hst
      · split at hst
        · cases hst
        · cases hst
          exact ⟨rfl, rfl, by assumption, by assumption⟩
    obtain ⟨rfl, rfl, p1, p2⟩ := hst'
    obtain ⟨h1, h2, h3, h4, h5⟩ := ih hr' (by omega) (by simpa using ha) (fun h => by cases h) (hA.set _ (fun c' hc' => ⟨fun _ h => absurd h (by decide), fun h => absurd h (by decide)⟩))
    refine ⟨h1, ?_, ?_, h4, fun h => by cases h⟩
    · rw [h2, cnt_succ, cnt_set]
      have : okD (cl i)[ii]? (ans.set ii (1, 0))[ii]? = false := by
        rw [hc, List.getElem?_set, if_pos rfl, if_pos (by omega)]
        simp [okD]
      rw [this]
      simp
    · intro s hs
      simp only [List.mem_cons] at hs
      rcases hs with rfl | rfl | hs
      · exact ⟨rfl, fun h => absurd (show (9 : Int) = 10 from h) (by decide)⟩
      · exact ⟨rfl, fun _ => ⟨i, ii, c, rfl, hi, rfl, hc, fun h => absurd (show (1 : Int) = 50 from h) (by decide), fun h => absurd h p2⟩⟩
      · exact h3 s hs
  | @turn c rest ii ans op j q hst =>
    intro hr hl ha hs hA
    have hlt : ii < (cl i).length := by
      have := congrArg List.length hr
      simp at this
      omega
    have hc : (cl i)[ii]? = some c := by
      have : ((cl i).drop ii)[0]? = some c := by rw [← hr]; rfl
      simpa using this
    have hr' : rest = (cl i).drop (ii + 1) := by
      have := congrArg List.tail hr
      simpa [List.tail_drop] using this
    have hst' : j = 0 ∧ ((q = (0, []) ∧ op = 1 ∧ c.po = 1) ∨ (q = (2, []) ∧ op = 1 ∧ c.po = 2)) := by
      unfold mcLatch at hst
      simp only at hst
      split at hst
      · cases hst; exact ⟨rfl, .inl ⟨rfl, rfl, by assumption⟩⟩
      · split at hst
        · cases hst; exact ⟨rfl, .inr ⟨rfl, rfl, by assumption⟩⟩
        · cases hst
    refine ⟨fun se => ⟨ha, ⟨hst'.1, hr', c, hc, hst'.2.imp id .inr⟩, hA⟩, rfl, fun s hs => ?_, fun j q r k a h => (by cases h), fun h => by cases h⟩
    simp only [List.mem_singleton] at hs
    subst hs
    exact ⟨rfl, fun h => absurd (show (9 : Int) = 10 from h) (by decide)⟩
  | @wait c rest ii ans j q hst _ =>
    exfalso
    unfold mcLatch at hst
    simp only at hst
    split at hst
    · cases hst
    · split at hst <;> cases hst
  | @waits c rest ii ans X l j q hst _ _ _ =>
    exfalso
    unfold mcLatch at hst
    simp only at hst
    split at hst
    · cases hst
    · split at hst <;> cases hst

def sumF (N : Nat) (cl : Nat → List Cl) (l : Nat → Ph) : Nat := ((List.range N).map fun i => cnt (cl i) (l i).ans (upTo (cl i) (l i))).sum
theorem sumF_upd {N : Nat} {cl : Nat → List Cl} {l : Nat → Ph} {i : Nat} (hi : i < N) (l' : Ph) {e : Nat} (h : cnt (cl i) l'.ans (upTo (cl i) l') = cnt (cl i) (l i).ans (upTo (cl i) (l i)) + e) : sumF N cl (upd l i l') = sumF N cl l + e := by
  unfold sumF
  have : ∀ N, i < N → ((List.range N).map fun k => cnt (cl k) (upd l i l' k).ans (upTo (cl k) (upd l i l' k))).sum = ((List.range N).map fun k => cnt (cl k) (l k).ans (upTo (cl k) (l k))).sum + e := by
    intro N
    induction N with
    | zero => intro h; omega
    | succ N ih =>
      intro hN
      rw [List.range_succ, List.map_append, List.map_append, List.sum_append, List.sum_append]
      simp only [List.map_cons, List.map_nil, List.sum_cons, List.sum_nil, Nat.add_zero]
      by_cases hk : i = N
      · subst hk
        rw [upd_same, h]
        have e1 : (List.range i).map (fun k => cnt (cl k) (upd l i l' k).ans (upTo (cl k) (upd l i l' k))) = (List.range i).map (fun k => cnt (cl k) (l k).ans (upTo (cl k) (l k))) := List.map_congr_left fun k hk => by
          have : k < i := List.mem_range.1 hk
          rw [upd_ne _ _ (by omega)]
        rw [e1]
        omega
      · rw [ih (by omega), upd_ne _ _ (fun x => hk x.symm)]
        omega
  exact this N hi

/-- What holds of a latch's Play. -/
structure LI (N : Nat) (n0 : Int) (cl : Nat → List Cl) (v : Vw) : Prop where
  num : ∃ c : Int, v.K = [c] ∧ 0 ≤ c ∧ c + dn v.L = n0
  chg : v.chg = [(dn v.L : Int)]
  ends : Ends N n0 cl v.L
  thr : ∀ i, i < N → TI n0 (dn v.L) v.stk (v.se i) (cl i) (v.l i)
  sum : sumF N cl v.l = dn v.L
  stk : v.stk = true → (dn v.L : Int) < n0 ∧ ∀ i, i < N → ∀ op j q r k a, v.l i ≠ .turn op j q r k a

theorem TI.se {n0 : Int} {d : Nat} {stk : Bool} {se se' : Int} {calls : List Cl} {l : Ph} (h : TI n0 d stk se calls l) (e : se' = se) : TI n0 d stk se' calls l := by rw [e]; exact h

/-- The others, where one goes on. -/
theorem LI.els {N : Nat} {n0 : Int} {cl : Nat → List Cl} {v v1 : Vw} (h : LI N n0 cl v) {i : Nat} {l' : Ph} (e : Els i l' v v1) {d : Nat} (hd : dn v.L ≤ d) (hs : v.stk = true → v1.stk = true) (hi : TI n0 d v1.stk (v1.se i) (cl i) l') : ∀ k, k < N → TI n0 d v1.stk (v1.se k) (cl k) (v1.l k) := fun k hk => by
  rw [e.l]
  by_cases hne : k = i
  · subst hne
    rw [upd_same]
    exact hi
  · rw [upd_ne _ _ hne]
    exact ((h.thr k hk).mono hd hs).se (e.oth k hne)

set_option maxHeartbeats 1000000 in
theorem latch_mv {N : Nat} {n0 : Int} (hn0 : n0 ≤ 9223372036854775807) {cl : Nat → List Cl} {v v1 : Vw} (h : LI N n0 cl v) (m : Mv mcLatch N v v1) : LI N n0 cl v1 := by
  obtain ⟨c, hK, hc0, hcn⟩ := h.num
  cases m with
  | stuck hs hall hex e =>
    subst e
    have hdn : dn (v.L ++ [⟨-1, -1, 7, 0, 0⟩]) = dn v.L := by rw [dn_app]; rfl
    have hlt : (dn v.L : Int) < n0 := by
      obtain ⟨i, hi, j, q, r, k, a, hl⟩ := hex
      have hT := (h.thr i hi).seat
      rcases hall i hi with ⟨a', h'⟩ | ⟨j', q', r', k', a', h', hce⟩
      · rw [hl] at h'; cases h'
      · rw [hl] at h' hT
        cases h'
        obtain ⟨rfl, _, _, _, hse⟩ := hT
        rw [h.chg] at hce
        have : (dn v.L : Int) = v.se i := hce
        omega
    refine ⟨⟨c, hK, hc0, by rw [hdn]; exact hcn⟩, by rw [hdn]; exact h.chg, h.ends.one (fun h => absurd h (by decide)), fun i hi => ?_, by rw [hdn]; exact h.sum, fun _ => ⟨by rw [hdn]; exact hlt, fun i hi op j q r k a hl => ?_⟩⟩
    · rw [hdn]
      exact (h.thr i hi).mono (Nat.le_refl _) (fun _ => rfl)
    · rcases hall i hi with ⟨a', h'⟩ | ⟨j', q', r', k', a', h', _⟩
      · have hl : v.l i = _ := hl
        rw [hl] at h'; cases h'
      · have hl : v.l i = _ := hl
        rw [hl] at h'; cases h'
  | wake i j q rest ii ans X l' hi hl hs hce ho e eK eS eC eL =>
    have hT := h.thr i hi
    rw [hl] at hT
    obtain ⟨rfl, rfl, hr, ⟨c', hc', hp⟩, hse⟩ := hT.seat
    have hw : mcLatch.woke (3, []) = .turn 1 0 (2, []) := rfl
    rw [hw] at ho
    cases ho
    have hdn : dn v1.L = dn v.L := by rw [eL, dn_app]; rfl
    refine ⟨⟨c, by rw [eK]; exact hK, hc0, by rw [hdn]; exact hcn⟩, by rw [hdn, eC]; exact h.chg, by rw [eL]; exact h.ends.one (fun h => absurd (show (6 : Int) = 10 from h) (by decide)), fun k hk => ?_, ?_, fun h => by rw [eS] at h; cases h⟩
    · rw [hdn]
      refine h.els e (Nat.le_refl _) (fun x => by rw [hs] at x; cases x) ⟨hT.len, ⟨rfl, hr, c', hc', .inr (.inr ⟨rfl, rfl, hp⟩)⟩, fun k c a hk hc ha => (hT.ok k c a hk hc ha).mono (Nat.le_refl _) (fun x => by rw [hs] at x; cases x)⟩ k hk
    · have hS : sumF N cl (upd v.l i (.turn 1 0 (2, []) rest ii ans)) = sumF N cl v.l + 0 := sumF_upd hi _ (by rw [hl]; rfl)
      rw [hdn, e.l, hS, h.sum, Nat.add_zero]
  | free i j q rest ii ans X l' hi hl hs ho e eK eS eC eL =>
    have hT := h.thr i hi
    rw [hl] at hT
    obtain ⟨rfl, rfl, hr, ⟨c', hc', hp⟩, hse⟩ := hT.seat
    have hlt : ii < (cl i).length := (List.getElem?_eq_some_iff.1 hc').1
    have hA : AnsTo (cl i) (ans.set ii (4, 0)) (ii + 1) (Ac n0 (dn v.L) true) := AnsTo.set (fun k c a hk hc ha => (hT.ok k c a hk hc ha).mono (Nat.le_refl _) (fun _ => rfl)) _ (fun c hc => ⟨fun _ x => absurd x (by decide), fun _ => rfl⟩)
    obtain ⟨f1, f2, f3, f4, f5⟩ := fw_latch (N := N) (n0 := n0) (cl := cl) hi (d := dn v.L) ho hr (by omega) (by rw [List.length_set]; exact hT.len) (fun _ => rfl) hA
    have hX : ∀ s ∈ (⟨i, -1, 10, ii, (mcLatch.stuck (3, [])).1⟩ : Stp) :: X, isD s = false ∧ EndOk N n0 cl (dn v.L) s := fun s hs => by
      simp only [List.mem_cons] at hs
      rcases hs with rfl | hs
      · exact ⟨rfl, fun _ => ⟨i, ii, c', rfl, hi, rfl, hc', fun x => absurd (show (4 : Int) = 50 from x) (by decide), fun _ x => absurd (show (4 : Int) = 0 from x) (by decide)⟩⟩
      · exact f3 s hs
    obtain ⟨g1, g2⟩ := Ends.more _ h.ends rfl hX
    rw [← eL] at g1 g2
    have hcnt : cnt (cl i) (ans.set ii (4, 0)) (ii + 1) = cnt (cl i) ans ii := by
      rw [cnt_succ, cnt_set]
      have hlen : ans.length = (cl i).length := hT.len
      have : okD (cl i)[ii]? (ans.set ii (4, 0))[ii]? = false := by
        rw [hc', List.getElem?_set, if_pos rfl, if_pos (by omega)]
        simp [okD]
      rw [this]
      simp
    refine ⟨⟨c, by rw [eK]; exact hK, hc0, by rw [g2]; exact hcn⟩, by rw [g2, eC]; exact h.chg, g1, fun k hk => ?_, ?_, fun _ => ⟨by rw [g2]; exact (h.stk hs).1, fun k hk op j q r kk a hlk => ?_⟩⟩
    · rw [g2]
      exact h.els e (Nat.le_refl _) (fun _ => eS) (by rw [eS]; exact f1 _) k hk
    · have hS : sumF N cl (upd v.l i l') = sumF N cl v.l + 0 := sumF_upd hi _ (by
        rw [hl, f2]
        exact hcnt)
      rw [g2, e.l, hS, h.sum, Nat.add_zero]
    · rw [e.l] at hlk
      by_cases hne : k = i
      · subst hne
        rw [upd_same] at hlk
        obtain ⟨a', ha'⟩ := f5 rfl
        rw [ha'] at hlk
        cases hlk
      · rw [upd_ne _ _ hne] at hlk
        exact (h.stk hs).2 k hk _ _ _ _ _ _ hlk
  | turn i op j q rest ii ans X l' hi hl ho e eK eS eC eL =>
    have hT := h.thr i hi
    rw [hl] at hT
    have hns : v.stk = false := by
      cases hs : v.stk with
      | false => rfl
      | true => exact absurd hl ((h.stk hs).2 i hi _ _ _ _ _ _)
    obtain ⟨rfl, hr, c', hc', hq⟩ := hT.seat
    have hlt : ii < (cl i).length := (List.getElem?_eq_some_iff.1 hc').1
    have hlen : ans.length = (cl i).length := hT.len
    have hx : v.K.getD 0 0 = c := by rw [hK]; rfl
    rw [hx] at ho eK eC eL
    rw [hns] at ho
    have hAk : ∀ d, dn v.L ≤ d → AnsTo (cl i) ans ii (Ac n0 d false) := fun d hd k c a hk hc ha => (hT.ok k c a hk hc ha).mono hd (fun x => by rw [hns] at x; exact x)
    -- a move that counts nothing down, to a seat of the same call
    have stay : ∀ (s : Stp) (l2 : Ph), isD s = false → s.op ≠ 10 → v1.L = v.L ++ [s] → v1.K = [c] → v1.chg = v.chg → l' = l2 → (∀ se', (∀ j q r k a, l2 = .wait j q r k a → se' = chgOf v.chg j) → TI n0 (dn v.L) false se' (cl i) l2) → cnt (cl i) l2.ans (upTo (cl i) l2) = cnt (cl i) ans ii → LI N n0 cl v1 := fun s l2 h1 h2 h3 h4 h5 h6 h7 h8 => by
      have hdn : dn v1.L = dn v.L := by rw [h3, dn_app]; unfold dn; rw [List.countP_singleton, h1]; simp
      refine ⟨⟨c, h4, hc0, by rw [hdn]; exact hcn⟩, by rw [hdn, h5]; exact h.chg, by rw [h3]; exact h.ends.one (fun h => absurd h h2), fun k hk => ?_, ?_, fun hh => by rw [eS, hns] at hh; cases hh⟩
      · rw [hdn]
        refine h.els e (Nat.le_refl _) (fun x => by rw [eS]; exact x) ?_ k hk
        rw [eS, hns, h6]
        refine h7 _ (fun j q r k a hh => ?_)
        have := e.own j q r k a (by rw [h6]; exact hh)
        rw [h5] at this
        exact this
      · have hS : sumF N cl (upd v.l i l') = sumF N cl v.l + 0 := sumF_upd hi _ (by
          rw [hl, h6, h8]
          rfl)
        rw [hdn, e.l, hS, h.sum, Nat.add_zero]
    -- a call has its answer
    have done : ∀ (s : Stp) (ee yy : Int) (d : Nat) (b : Nat) (X' : List Stp) (c2 : Int), X = ⟨i, -1, 10, ii, ee⟩ :: X' → s.op ≠ 10 → dn (v.L ++ [s]) = d → d = dn v.L + b → v1.K = [c2] → 0 ≤ c2 → c2 + d = n0 → v1.chg = [(d : Int)] → v1.L = v.L ++ s :: X → ee ≠ 4 → (ee = 50 → n0 ≤ d) → (c'.po = 2 → ee = 0 → n0 ≤ d) → (if c'.po = 1 ∧ ee = 0 then 1 else 0) = b → Fw mcLatch i false rest (ii + 1) (ee == 4) (ans.set ii (ee, yy)) X' l' → LI N n0 cl v1 := fun s ee yy d b X' c2 h1 h2 h3 h4 h5 h6 h7 h8 h9 h10 h11 h12 h13 h14 => by
      have hA : AnsTo (cl i) (ans.set ii (ee, yy)) (ii + 1) (Ac n0 d false) := AnsTo.set (hAk d (by omega)) _ (fun c hc => ⟨fun hp he => by rw [hc'] at hc; cases hc; exact h12 hp he, fun he => absurd he h10⟩)
      have hsk : (ee == 4) = false := by simpa using h10
      rw [hsk] at h14
      obtain ⟨f1, f2, f3, f4, f5⟩ := fw_latch (N := N) (n0 := n0) (cl := cl) hi (d := d) h14 hr (by omega) (by simpa using hlen) (fun x => by cases x) hA
      have hE1 : Ends N n0 cl (v.L ++ [s]) := h.ends.one (fun h => absurd h h2)
      have hX : ∀ x ∈ X, isD x = false ∧ EndOk N n0 cl d x := fun x hx => by
        rw [h1] at hx
        simp only [List.mem_cons] at hx
        rcases hx with rfl | hx
        · exact ⟨rfl, fun _ => ⟨i, ii, c', rfl, hi, rfl, hc', h11, h12⟩⟩
        · exact f3 x hx
      obtain ⟨g1, g2⟩ := Ends.more X hE1 h3 hX
      rw [List.append_assoc, List.singleton_append, ← h9] at g1 g2
      have hcnt : cnt (cl i) (ans.set ii (ee, yy)) (ii + 1) = cnt (cl i) ans ii + b := by
        have e1 : (ans.set ii (ee, yy))[ii]? = some (ee, yy) := by rw [List.getElem?_set, if_pos rfl, if_pos (by omega)]
        rw [cnt_succ, cnt_set, ← h13, hc', e1]
        by_cases hh : c'.po = 1 ∧ ee = 0
        · rw [if_pos hh, if_pos (by simp [okD, hh.1, hh.2])]
        · rw [if_neg hh]
          have : okD (some c') (some (ee, yy)) = false := by
            simp only [okD, Bool.and_eq_false_iff, beq_eq_false_iff_ne]
            by_cases h1 : c'.po = 1
            · exact .inr (fun h2 => hh ⟨h1, h2⟩)
            · exact .inl h1
          rw [this]
          rfl
      refine ⟨⟨c2, h5, h6, by rw [g2]; exact h7⟩, by rw [g2]; exact h8, g1, fun k hk => ?_, ?_, fun hh => by rw [eS, hns] at hh; cases hh⟩
      · rw [g2]
        refine h.els e (by omega) (fun x => by rw [eS]; exact x) ?_ k hk
        rw [eS, hns]
        exact f1 _
      · have hS : sumF N cl (upd v.l i l') = sumF N cl v.l + b := sumF_upd hi _ (by
          rw [hl, f2]
          exact hcnt)
        rw [g2, e.l, hS, h.sum, h4]
    have hdn0 : ∀ s : Stp, isD s = false → dn (v.L ++ [s]) = dn v.L := fun s hs => by rw [dn_app]; unfold dn; rw [List.countP_singleton, hs]; simp
    rcases hq with ⟨rfl, rfl, hp⟩ | ⟨a, rfl, rfl, hp, ha0, han⟩ | ⟨rfl, rfl, hp⟩
    · -- Down looks
      have et : mcLatch.turn (0, []) c = ((c, c), c, if c = 0 then .ans 50 0 else .turn 4 0 (1, [c])) := rfl
      rw [et] at ho eK eC eL
      simp only at ho eK eC eL
      have eK' : v1.K = [c] := by rw [eK, hK]; rfl
      have eC' : v1.chg = v.chg := by rw [eC]; unfold bump; rw [if_neg (fun h => h.1 rfl)]
      by_cases hz : c = 0
      · rw [if_pos hz] at ho
        cases ho with
        | ans hF => exact done _ 50 0 (dn v.L) 0 _ c rfl (by show ¬ (1 : Int) = 10; decide) (hdn0 _ rfl) rfl eK' hc0 hcn (by rw [eC']; exact h.chg) eL (by decide) (fun _ => by omega) (fun hp' => by omega) (by simp) hF
      · rw [if_neg hz] at ho
        cases ho
        refine stay ⟨i, ((0 : Nat) : Int), 1, c, c⟩ (.turn 4 0 (1, [c]) rest ii ans) rfl (by show ¬ (1 : Int) = 10; decide) (by rw [eL]) eK' eC' rfl (fun se' _ => ⟨hlen, ⟨rfl, hr, c', hc', .inr (.inl ⟨c, rfl, rfl, hp, by omega, by omega⟩)⟩, hAk _ (Nat.le_refl _)⟩) rfl
    · -- Down tries
      have et : mcLatch.turn (1, [a]) c = ((effCas a (wrap64 (a - 1)) c).1, (effCas a (wrap64 (a - 1)) c).2.1, if c = a then .ans 0 0 else .turn 1 0 (0, [])) := rfl
      have hw : wrap64 (a - 1) = a - 1 := by unfold wrap64; omega
      rw [et, hw] at ho eK eC eL
      simp only at ho eK eC eL
      unfold effCas at eK eC eL
      by_cases hz : c = a
      · rw [if_pos hz] at ho eK eC eL
        simp only at ho eK eC eL
        have hD : dn (v.L ++ [(⟨i, ((0 : Nat) : Int), 4, a, a - 1⟩ : Stp)]) = dn v.L + 1 := by
          rw [dn_app]
          unfold dn
          rw [List.countP_singleton]
          simp [isD, hw]
        have eC' : v1.chg = [((dn v.L + 1 : Nat) : Int)] := by
          rw [eC, h.chg]
          unfold bump
          rw [if_pos ⟨by omega, by simp⟩]
          show [wrap64 ((dn v.L : Int) + 1)] = _
          have : wrap64 ((dn v.L : Int) + 1) = (dn v.L : Int) + 1 := by unfold wrap64; omega
          rw [this]
          rfl
        cases ho with
        | ans hF => exact done _ 0 0 (dn v.L + 1) 1 _ (a - 1) rfl (by show ¬ (4 : Int) = 10; decide) hD rfl (by rw [eK, hK]; rfl) (by omega) (by omega) eC' eL (by decide) (fun x => absurd x (by decide)) (fun x => by omega) (by simp [hp]) hF
      · rw [if_neg hz] at ho eK eC eL
        simp only at eK eC eL
        cases ho
        have eK' : v1.K = [c] := by rw [eK, hK]; rfl
        have eC' : v1.chg = v.chg := by rw [eC]; unfold bump; rw [if_neg (fun h => h.1 rfl)]
        refine stay ⟨i, ((0 : Nat) : Int), 4, c, c⟩ (.turn 1 0 (0, []) rest ii ans) ?_ (by show ¬ (4 : Int) = 10; decide) (by rw [eL]) eK' eC' rfl (fun se' _ => ⟨hlen, ⟨rfl, hr, c', hc', .inl ⟨rfl, rfl, hp⟩⟩, hAk _ (Nat.le_refl _)⟩) rfl
        have : ¬ c = wrap64 (c - 1) := by unfold wrap64; omega
        simp [isD, this]
    · -- Wait looks
      have et : mcLatch.turn (2, []) c = ((c, c), c, if c = 0 then .ans 0 0 else .wait 0 (3, [])) := rfl
      rw [et] at ho eK eC eL
      simp only at ho eK eC eL
      have eK' : v1.K = [c] := by rw [eK, hK]; rfl
      have eC' : v1.chg = v.chg := by rw [eC]; unfold bump; rw [if_neg (fun h => h.1 rfl)]
      by_cases hz : c = 0
      · rw [if_pos hz] at ho
        cases ho with
        | ans hF => exact done _ 0 0 (dn v.L) 0 _ c rfl (by show ¬ (1 : Int) = 10; decide) (hdn0 _ rfl) rfl eK' hc0 hcn (by rw [eC']; exact h.chg) eL (by decide) (fun x => absurd x (by decide)) (fun _ _ => by omega) (by rw [if_neg (fun hh => by omega)]) hF
      · rw [if_neg hz] at ho
        cases ho with
        | wait _ =>
          refine stay ⟨i, ((0 : Nat) : Int), 1, c, c⟩ (.wait 0 (3, []) rest ii ans) rfl (by show ¬ (1 : Int) = 10; decide) (by rw [eL]) eK' eC' rfl (fun se' hse => ⟨hlen, ⟨rfl, rfl, hr, ⟨c', hc', hp⟩, ?_⟩, hAk _ (Nat.le_refl _)⟩) rfl
          rw [hse 0 (3, []) rest ii ans rfl, h.chg]
          show (dn v.L : Int) < n0
          omega
        | waits hs _ => cases hs
end Go.Proofs.Ytfjjoohflcchnaa.Gen

namespace Go.Proofs.Ytfjjoohflcchnaa.Gen
open Go Go.Lift Go.Conc Go.RowKit

def InR (x : Int) : Prop := -9223372036854775808 ≤ x ∧ x < 9223372036854775808
def Cl.ok (c : Cl) : Prop := InR c.cb ∧ InR c.cc
/-- Where a list of ints lies that came in. -/
structure InI (W : World) (p : Option Addr) (b o : Nat) (xs : List Int) : Prop where
  at_ : 0 < xs.length → p = some ⟨b, o, none⟩
  cell : ∀ k x, xs[k]? = some x → W.cell? ⟨b, o + k, none⟩ = some (I x)
  inr : ∀ x ∈ xs, InR x
  len : xs.length ≤ 17592186043904
theorem InI.grows {W W' : World} {p : Option Addr} {b o : Nat} {xs : List Int} (h : InI W p b o xs) (g : Grows W W') : InI W' p b o xs :=
  ⟨h.at_, fun k x hk => g.cell (h.cell k x hk), h.inr, h.len⟩
/-- Where scripts lie that came in. -/
structure InS (W : World) (p : Option Addr) (b o n : Nat) (pc : Nat → Option Addr) (ln cp rb : Nat → Nat) (cl : Nat → List Cl) : Prop where
  at_ : 0 < n → p = some ⟨b, o, none⟩
  row : ∀ k, k < n → W.cell? ⟨b, o + k, none⟩ = some (.slice (pc k) (ln k) (cp k))
  len : ∀ j, j < n → (cl j).length = ln j
  pq : ∀ j, j < n → 0 < ln j → pc j = some ⟨rb j, roOf (pc j), none⟩
  call : ∀ j, j < n → ∀ (k : Nat) (c : Cl), (cl j)[k]? = some c → W.cell? ⟨rb j, roOf (pc j) + k * 4, none⟩ = some (I c.po) ∧ W.cell? ⟨rb j, roOf (pc j) + k * 4 + 1, none⟩ = some (I c.ca) ∧ W.cell? ⟨rb j, roOf (pc j) + k * 4 + 2, none⟩ = some (I c.cb) ∧ W.cell? ⟨rb j, roOf (pc j) + k * 4 + 3, none⟩ = some (I c.cc)
  ok : ∀ j, j < n → ∀ c ∈ cl j, InR c.ca ∧ c.ok
  n : n ≤ 17592186043904
theorem InS.grows {W W' : World} {p : Option Addr} {b o n : Nat} {pc : Nat → Option Addr} {ln cp rb : Nat → Nat} {cl : Nat → List Cl} (h : InS W p b o n pc ln cp rb cl) (g : Grows W W') : InS W' p b o n pc ln cp rb cl :=
  ⟨h.at_, fun k hk => g.cell (h.row k hk), h.len, h.pq, fun j hj k c hc => by
    have := h.call j hj k c hc
    exact ⟨g.cell this.1, g.cell this.2.1, g.cell this.2.2.1, g.cell this.2.2.2⟩, h.ok, h.n⟩

theorem lens_scrs (mc : Mc) (fid : FuncId) (caps : Array Value) (pk : Nat → Option Obj) (N n : Nat) (K : List (Nat × Int)) (pc : Nat → Option Addr) (ln cp rb : Nat → Nat) (cl : Nat → List Cl) (hl : ∀ j, j < n → (cl j).length ≤ 64) : lens (scrs mc fid caps pk N n K pc ln cp rb cl) ≤ 64 * n := by
  unfold lens scrs
  rw [List.map_map]
  have : ∀ (m j : Nat), j + m ≤ n → ((List.range' j m).map ((fun s : Scr mc => s.calls.length) ∘ scrOf mc fid caps pk N n (K.map (·.1)) pc ln cp rb cl)).sum ≤ 64 * m := by
    intro m
    induction m with
    | zero => intro j _; simp
    | succ m ih =>
      intro j hj
      rw [List.range'_succ, List.map_cons, List.sum_cons]
      have h1 := ih (j + 1) (by omega)
      have h2 : ((fun s : Scr mc => s.calls.length) ∘ scrOf mc fid caps pk N n (K.map (·.1)) pc ln cp rb cl) j ≤ 64 := hl j (by omega)
      omega
  exact this n 0 (by omega)
theorem scrs_len (mc : Mc) (fid : FuncId) (caps : Array Value) (pk : Nat → Option Obj) (N n : Nat) (K : List (Nat × Int)) (pc : Nat → Option Addr) (ln cp rb : Nat → Nat) (cl : Nat → List Cl) : (scrs mc fid caps pk N n K pc ln cp rb cl).length = n := by simp [scrs]
/-- The world is new: the scripts lie there for Play. -/
theorem asked_of {W v : World} {p : Option Addr} {b o n : Nat} {pc : Nat → Option Addr} {ln cp rb : Nat → Nat} {cl : Nat → List Cl} (h : InS W p b o n pc ln cp rb cl) {xs : List Int} {wb bk : Nat} {sc : Value} (hn : IsNew W xs wb bk sc v) (h64 : ∀ j, j < n → ln j ≤ 64) (h0 : 0 < n) : Asked v (newS wb bk W.heap.size sc xs) n b o pc ln cp rb cl := by
  have g := h.grows hn.old
  have far : ∀ (a : Addr) (x : Value), W.cell? a = some x → ¬ Own (newS wb bk W.heap.size sc xs) [] a.block := fun a x ha ho => by
    have := hn.new _ (.inl ho)
    have := World.block_lt_of_cell? _ _ ha
    omega
  refine ⟨fun j hj => ⟨h.len j hj, h64 j hj⟩, g.row, far _ _ (h.row 0 h0), fun j hj hl => ⟨h.pq j hj hl, ?_⟩, g.call, fun j hj c hc => (h.ok j hj c hc).1⟩
  obtain ⟨c, hc⟩ : ∃ c, (cl j)[0]? = some c := ⟨_, List.getElem?_eq_getElem (by rw [h.len j hj]; exact hl)⟩
  exact far _ _ (h.call j hj 0 c hc).1

end Go.Proofs.Ytfjjoohflcchnaa.Gen

namespace Go.Proofs.Ytfjjoohflcchnaa.Gen
open Go Go.Lift Go.Conc Go.RowKit
open Go.ConcN (upd upd_same upd_ne)

/-- While threads are hired: the first k sit. -/
structure LH (N k : Nat) (n0 : Int) (cl : Nat → List Cl) (v : Vw) : Prop where
  num : v.K = [n0]
  zero : dn v.L = 0
  chg : v.chg = [0]
  stk : v.stk = false
  ends : Ends N n0 cl v.L
  thr : ∀ i, i < k → TI n0 0 false (v.se i) (cl i) (v.l i)
  sum : sumF k cl v.l = 0
theorem hi_latch {N : Nat} {n0 : Int} {cl : Nat → List Cl} {k : Nat} {cs : List (List Cl)} {v v' : Vw} (h : Hi mcLatch k cs v v') : cs = (List.range' k cs.length).map cl → k + cs.length = N → LH N k n0 cl v → LH N N n0 cl v' := by
  induction h with
  | nil => intro _ hN hv; simp at hN; rw [← hN] at hv ⊢; exact hv
  | @cons k c cs v v1 v2 X l' hF e1 e2 e3 e4 e5 h ih =>
    intro hc hN hv
    rw [List.length_cons, List.range'_succ, List.map_cons] at hc
    obtain ⟨hc1, hc2⟩ := List.cons.inj hc
    simp only [List.length_cons] at hN
    rw [hv.stk, hc1] at hF
    obtain ⟨f1, f2, f3, f4, f5⟩ := fw_latch (N := N) (n0 := n0) (cl := cl) (i := k) (by omega) (d := 0) hF (by simp) (Nat.zero_le _) (by simp) (fun x => by cases x) (fun k c a hk => by omega)
    obtain ⟨g1, g2⟩ := Ends.more X hv.ends hv.zero f3
    rw [← e4] at g1 g2
    refine ih hc2 (by omega) ⟨by rw [e1]; exact hv.num, g2, by rw [e3]; exact hv.chg, by rw [e2]; exact hv.stk, g1, fun i hi => ?_, ?_⟩
    · rw [e5.l]
      by_cases hne : i = k
      · subst hne
        rw [upd_same]
        exact f1 _
      · rw [upd_ne _ _ hne]
        exact (hv.thr i (by omega)).se (e5.oth i hne)
    · unfold sumF
      rw [List.range_succ, List.map_append, List.sum_append, e5.l]
      simp only [List.map_cons, List.map_nil, List.sum_cons, List.sum_nil, Nat.add_zero, upd_same]
      rw [f2]
      have e6 : (List.range k).map (fun i => cnt (cl i) (upd v.l k l' i).ans (upTo (cl i) (upd v.l k l' i))) = (List.range k).map (fun i => cnt (cl i) (v.l i).ans (upTo (cl i) (v.l i))) := List.map_congr_left fun i hi => by
        have : i < k := List.mem_range.1 hi
        rw [upd_ne _ _ (by omega)]
      rw [e6]
      have := hv.sum
      unfold sumF at this
      rw [this]
      rfl

/-- What a latch's Play comes to. -/
structure LatEnd (n : Nat) (n0 : Int) (cl : Nat → List Cl) (l : Nat → Ph) (L : List Stp) : Prop where
  ends : Ends n n0 cl L
  le : (dn L : Int) ≤ n0
  sum : ((List.range n).map fun i => cnt (cl i) (l i).ans (cl i).length).sum = dn L
  wait : ∀ (i k : Nat) (c : Cl) (a : Int × Int), i < n → (cl i)[k]? = some c → (l i).ans[k]? = some a → c.po = 2 → a.1 = 0 → n0 ≤ dn L
  stk : ∀ (i k : Nat) (a : Int × Int), i < n → (l i).ans[k]? = some a → k < (cl i).length → a.1 = 4 → (dn L : Int) < n0
theorem latch_run {caps : Array Value} {pk : Nat → Option Obj} {N n : Nat} {cb : Nat} {n0 : Int} (h0 : 0 ≤ n0) (hn0 : n0 ≤ 9223372036854775807) {pc : Nat → Option Addr} {ln cp rb : Nat → Nat} {cl : Nat → List Cl} {wb bk base : Nat} {sc cv : Value} {sched : List Int} {l0 l1 : Nat → Ph} {S1 : TS} {m : Nat} {p' : PSt} (hl0 : ∀ i, l0 i = .done [])
    (hlen : ∀ j, j < n → (cl j).length = ln j ∧ ln j ≤ 64) (hn8 : n ≤ 8)
    (hH : Hires mcLatch 0 (scrs mcLatch 69 caps pk N n [(cb, n0)] pc ln cp rb cl) (nv { cellsS (newS wb bk base sc sched) cv 1 with ran := true }) l0 S1 l1) (hT : Turns mcLatch m ⟨S1, [(cb, n0)], l1⟩ p') :
    ∃ L, p'.S.tr = flat L ∧ p'.S.n = L.length ∧ LatEnd n n0 cl p'.l L := by
  let v0 : Vw := ⟨[n0], false, [0], fun _ => 0, l0, []⟩
  have hs0 : Seen ⟨nv { cellsS (newS wb bk base sc sched) cv 1 with ran := true }, [(cb, n0)], l0⟩ v0 := ⟨rfl, rfl, rfl, fun i => rfl, rfl, rfl, rfl, fun i t ht => by cases ht⟩
  have hcs : (scrs mcLatch 69 caps pk N n [(cb, n0)] pc ln cp rb cl).map (·.calls) = (List.range' 0 n).map cl := by
    unfold scrs
    rw [List.map_map]
    rfl
  obtain ⟨v1, hi1, hs1⟩ := hires_hi (K := [(cb, n0)]) hH v0 rfl (fun s hs => by
    simp only [scrs, List.mem_map, List.mem_range'] at hs
    obtain ⟨j, ⟨i, hi, rfl⟩, rfl⟩ := hs
    show List.replicate (ln (0 + 1 * i)) (0, 0) = List.replicate (cl (0 + 1 * i)).length (0, 0)
    rw [(hlen _ (by omega)).1]) hs0
  rw [hcs] at hi1
  have hlh : LH n n n0 cl v1 := hi_latch hi1 (by simp) (by simp) ⟨rfl, rfl, rfl, rfl, fun A s B e => by simp [v0] at e, fun i hi => by omega, rfl⟩
  have hli : LI n n0 cl v1 := ⟨⟨n0, hlh.num, h0, by rw [hlh.zero]; simp⟩, by rw [hlh.zero]; exact hlh.chg, hlh.ends, fun i hi => by rw [hlh.zero, hlh.stk]; exact hlh.thr i hi, by rw [hlh.zero]; exact hlh.sum, fun x => by rw [hlh.stk] at x; cases x⟩
  obtain ⟨a1, a2, a3, a4⟩ := hires_gd metLatch hH rfl (by rw [scrs_len]; omega) (fun i t ht => by cases ht)
  rw [scrs_len, Nat.zero_add] at a1
  have g : Gd metLatch ⟨S1, [(cb, n0)], l1⟩ := ⟨by show S1.thr.length ≤ 8; omega, a2⟩
  obtain ⟨v', hI, hs', _, hd⟩ := turns_mv metLatch (N := n) (Inv := LI n n0 cl) (fun v v1 hv hm => latch_mv hn0 hv hm) hT v1 a1 g hs1 hli
  obtain ⟨c, hK, hc0, hcn⟩ := hI.num
  have hup : ∀ i, i < n → upTo (cl i) (v'.l i) = (cl i).length := fun i hi => by
    obtain ⟨a, ha⟩ := hd i hi
    rw [ha]
    rfl
  refine ⟨v'.L, hs'.tr, hs'.n, ?_⟩
  rw [← hs'.l]
  refine ⟨hI.ends, by omega, ?_, fun i k c a hi hc ha hp he => ?_, fun i k a hi ha hk he => ?_⟩
  · rw [← hI.sum]
    unfold sumF
    congr 1
    exact List.map_congr_left fun i hi => by rw [hup i (List.mem_range.1 hi)]
  · have hT := hI.thr i hi
    exact (hT.ok k c a (by rw [hup i hi]; exact (List.getElem?_eq_some_iff.1 hc).1) hc ha).1 hp he
  · have hT := hI.thr i hi
    have hc : (cl i)[k]? = some (cl i)[k] := List.getElem?_eq_getElem hk
    exact (hI.stk ((hT.ok k _ a (by rw [hup i hi]; exact hk) hc ha).2 he)).1
end Go.Proofs.Ytfjjoohflcchnaa.Gen

namespace Go.Proofs.Ytfjjoohflcchnaa.Gen
open Go Go.Lift Go.Conc Go.RowKit

def condF : Code → Code
  | .cond _ _ b => b
  | _ => .skip
noncomputable def LB10 : Code := Try.f10.body.getD .skip
noncomputable def e2 : Code := seq1 (seq2 (seq2 LB10))
noncomputable def e3 : Code := seq1 (seq2 (seq2 (seq2 LB10)))
noncomputable def e4 : Code := seq1 (seq2 (seq2 (seq2 (seq2 LB10))))
noncomputable def e6 : Code := seq1 (seq2 (seq2 (seq2 (seq2 (seq2 LB10)))))
noncomputable def e8 : Code := seq1 (seq2 (seq2 (seq2 (seq2 (seq2 (seq2 LB10))))))
noncomputable def e9 : Code := seq1 (seq2 (seq2 (seq2 (seq2 (seq2 (seq2 (seq2 LB10)))))))
noncomputable def e10 : Code := seq1 (seq2 (seq2 (seq2 (seq2 (seq2 (seq2 (seq2 (seq2 LB10))))))))
noncomputable def e11 : Code := seq1 (seq2 (seq2 (seq2 (seq2 (seq2 (seq2 (seq2 (seq2 (seq2 LB10)))))))))
noncomputable def CA : Code := seq1 (seq2 (seq2 (seq2 (seq2 (seq2 (seq2 (seq2 (seq2 (seq2 (seq2 LB10))))))))))
noncomputable def e31 : Code := seq1 (seq2 (seq2 (seq2 (seq2 (seq2 (seq2 (seq2 (seq2 (seq2 (seq2 (seq2 LB10)))))))))))
noncomputable def e32 : Code := seq1 (seq2 (seq2 (seq2 (seq2 (seq2 (seq2 (seq2 (seq2 (seq2 (seq2 (seq2 (seq2 LB10))))))))))))
noncomputable def CT : Code := seq1 (seq2 (seq2 (seq2 (seq2 (seq2 (seq2 (seq2 (seq2 (seq2 (seq2 (seq2 (seq2 (seq2 LB10)))))))))))))
noncomputable def e45 : Code := seq1 (seq2 (seq2 (seq2 (seq2 (seq2 (seq2 (seq2 (seq2 (seq2 (seq2 (seq2 (seq2 (seq2 (seq2 LB10))))))))))))))
noncomputable def e47 : Code := (seq2 (seq2 (seq2 (seq2 (seq2 (seq2 (seq2 (seq2 (seq2 (seq2 (seq2 (seq2 (seq2 (seq2 (seq2 LB10)))))))))))))))
noncomputable def e12 : Code := seq1 CA
noncomputable def LA : Code := loopC (blockC (seq2 CA))
noncomputable def a13 : Code := seq1 (seq1 LA)
noncomputable def a14 : Code := seq2 (seq2 LA)
noncomputable def IA : Code := blockC (seq1 (seq2 LA))
noncomputable def a15 : Code := seq1 IA
noncomputable def a17 : Code := seq1 (seq2 IA)
noncomputable def LJ : Code := loopC (blockC (seq2 (seq2 IA)))
noncomputable def a18 : Code := seq1 (seq1 LJ)
noncomputable def a19 : Code := seq2 (seq2 LJ)
noncomputable def IJ : Code := blockC (seq1 (seq2 LJ))
noncomputable def a20 : Code := seq1 IJ
noncomputable def a21 : Code := seq1 (seq2 IJ)
noncomputable def SJ : Code := blockC (seq2 (seq2 IJ))
noncomputable def a22 : Code := seq1 SJ
noncomputable def KA : Code := condA (seq2 SJ)
noncomputable def a23 : Code := seq1 KA
noncomputable def a24 : Code := seq1 (seq2 KA)
noncomputable def a25 : Code := condA (seq2 (seq2 KA))
noncomputable def KB : Code := condF (seq2 SJ)
noncomputable def a26 : Code := seq1 KB
noncomputable def KC : Code := condA (seq2 KB)
noncomputable def a27 : Code := seq1 (seq1 KC)
noncomputable def a28 : Code := condA (seq2 (seq1 KC))
noncomputable def a29 : Code := seq1 (seq2 KC)
noncomputable def a30 : Code := condA (seq2 (seq2 KC))
noncomputable def e33 : Code := seq1 CT
noncomputable def LT : Code := loopC (blockC (seq2 CT))
noncomputable def t34 : Code := seq1 (seq1 LT)
noncomputable def t35 : Code := seq2 (seq2 LT)
noncomputable def IT : Code := blockC (seq1 (seq2 LT))
noncomputable def t36 : Code := seq1 IT
noncomputable def t37 : Code := seq1 (seq1 (seq2 IT))
noncomputable def t38 : Code := condA (seq2 (seq1 (seq2 IT)))
noncomputable def t39 : Code := seq1 (seq1 (seq2 (seq2 IT)))
noncomputable def t40 : Code := seq1 (seq2 (seq2 (seq2 IT)))
noncomputable def t42 : Code := seq1 (seq2 (seq2 (seq2 (seq2 IT))))
noncomputable def t43 : Code := seq2 (seq2 (seq2 (seq2 (seq2 IT))))
noncomputable def P10 : Code := .seq e2 (.seq e3 (.seq e4 (.seq e6 (.seq e8 (.seq e9 (.seq e10 (.seq e11 (.seq CA (.seq e31 (.seq e32 (.seq CT (.seq e45 e47))))))))))))
theorem eLB10 : LB10 = .seq (seq1 LB10) (.seq (seq1 (seq2 LB10)) P10) := by kernel_rfl
theorem eCA : CA = .seq e12 (.block 0 (.loop LA)) := by kernel_rfl
theorem eLA : LA = .seq (.seq a13 (.cond (.tmp 56) .skip (.exit 0))) (.seq (.block 1 IA) a14) := by kernel_rfl
theorem eIA : IA = .seq a15 (.seq a17 (.block 2 (.loop LJ))) := by kernel_rfl
theorem eLJ : LJ = .seq (.seq a18 (.cond (.tmp 76) .skip (.exit 2))) (.seq (.block 3 IJ) a19) := by kernel_rfl
theorem eIJ : IJ = .seq a20 (.seq a21 (.block 4 SJ)) := by kernel_rfl
theorem eSJ : SJ = .seq a22 (.cond (.tmp 95) KA KB) := by kernel_rfl
theorem eKA : KA = .seq a23 (.seq a24 (.cond (.tmp 100) a25 .skip)) := by kernel_rfl
theorem eKB : KB = .seq a26 (.cond (.tmp 103) KC .skip) := by kernel_rfl
theorem eKC : KC = .seq (.seq a27 (.cond (.tmp 106) a28 .skip)) (.seq a29 (.cond (.tmp 110) a30 .skip)) := by kernel_rfl
theorem eCT : CT = .seq e33 (.block 5 (.loop LT)) := by kernel_rfl
theorem eLT : LT = .seq (.seq t34 (.cond (.tmp 118) .skip (.exit 5))) (.seq (.block 6 IT) t35) := by kernel_rfl
theorem eIT : IT = .seq t36 (.seq (.seq t37 (.cond (.tmp 135) t38 .skip)) (.seq (.seq t39 (.cond (.tmp 140) (.exit 6) .skip)) (.seq t40 (.seq t42 t43)))) := by kernel_rfl
end Go.Proofs.Ytfjjoohflcchnaa.Gen
