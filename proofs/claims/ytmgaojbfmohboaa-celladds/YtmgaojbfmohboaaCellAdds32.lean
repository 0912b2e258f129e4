/- The statement CellAdds of the package butlerlaw02 (cell), in full form: for every input the law answers true, and its arguments read behind the call as before; no conditions. Part 32 of 36. (Joined, by program, of: AddP, Add4.) -/
import Derived.Test.YtmgaojbfmohboaaCellAdds31

/- A Play of Adds alone (and one Until that need not wait): nothing is lost, each answers another number; as facts on the state. -/
set_option linter.unusedSimpArgs false
set_option linter.unusedVariables false
namespace Go.Proofs.Ytmgaojbfmohboaa
open Go Go.Lift Go.Conc Go.RowKit
open Go.ConcN (upd upd_same upd_ne)

def addCl (n : Nat) : Cl := ⟨5, 0, n, 0⟩
def untCl (start : Int) : Cl := ⟨6, 0, wrap64 (start - 1), 0⟩
/-- A thread's script. -/
def addS (start : Int) (az : Nat → List Nat) (i : Nat) : List Cl := (az i).map addCl ++ if i = 0 then [untCl start] else []
/-- What a trace's last Add has left. -/
def lastAdd : Int → List Stp → Int
  | x, [] => x
  | x, s :: L => lastAdd (if s.op = 5 then s.ne else x) L
theorem lastAdd_app (a b : List Stp) : ∀ x, lastAdd x (a ++ b) = lastAdd (lastAdd x a) b := by
  induction a with
  | nil => intro x; rfl
  | cons s a ih => intro x; exact ih _
theorem lastAdd_quiet (x : Int) : ∀ (L : List Stp), (∀ s ∈ L, s.op ≠ 5) → lastAdd x L = x
  | [], _ => rfl
  | s :: L, h => by
    show lastAdd (if s.op = 5 then s.ne else x) L = x
    rw [if_neg (h s List.mem_cons_self)]
    exact lastAdd_quiet x L (fun y hy => h y (List.mem_cons_of_mem _ hy))

/-- Where a thread is whose Adds so far made these sums. -/
def PhA (start : Int) (az : Nat → List Nat) (i : Nat) (A : List Nat) : Ph → Prop
  | .turn rest ii ans => rest = (addS start az i).drop ii ∧ rest ≠ [] ∧ ii ≤ (addS start az i).length ∧ A.length = min ii (az i).length ∧ ans.length = (addS start az i).length ∧ ∀ (k x : Nat), A[k]? = some x → ans[k]? = some (0, wrap64 (start + x))
  | .wait _ _ _ => False
  | .done ans => A.length = (az i).length ∧ ans.length = (addS start az i).length ∧ ∀ (k x : Nat), A[k]? = some x → ans[k]? = some (0, wrap64 (start + x))

/-- What has been done so far: the sum s; A: the sums that each thread's Adds made. -/
structure AddI (start : Int) (az : Nat → List Nat) (n cb : Nat) (A : Nat → List Nat) (s : Nat) (p : PSt) : Prop where
  K : p.K = [(cb, wrap64 (start + s))]
  ph : ∀ i, i < n → PhA start az i (A i) (p.l i)
  le : ∀ i, i < n → ∀ x ∈ A i, x ≤ s
  own : ∀ i, i < n → (A i).Pairwise (· ≠ ·)
  dis : ∀ i j, i < n → j < n → i ≠ j → ∀ x ∈ A i, ∀ y ∈ A j, x ≠ y
  left : s + ((List.range n).map fun i => ((az i).drop (A i).length).sum).sum = ((List.range n).map fun i => (az i).sum).sum
  tr : ∃ L, p.S.tr = flat L ∧ p.S.n = L.length ∧ lastAdd start L = (if s = 0 then start else wrap64 (start + s))

theorem addS_get {start : Int} {az : Nat → List Nat} {i ii : Nat} {c : Cl} (h : (addS start az i)[ii]? = some c) : (∃ m, (az i)[ii]? = some m ∧ c = addCl m) ∨ (ii = (az i).length ∧ i = 0 ∧ c = untCl start) := by
  unfold addS at h
  rw [List.getElem?_append] at h
  split at h
  · rw [List.getElem?_map] at h
    cases hm : (az i)[ii]? with
    | none => rw [hm] at h; cases h
    | some m => rw [hm] at h; cases h; exact .inl ⟨m, rfl, rfl⟩
  · rename_i hl
    simp only [List.length_map] at hl h
    split at h
    · rename_i h0
      right
      have : ii - (az i).length = 0 := by
        have := (List.getElem?_eq_some_iff.1 h).1
        simp at this
        omega
      rw [this] at h
      cases h
      exact ⟨by omega, h0, rfl⟩
    · cases h

theorem sum_upd (f g : Nat → Nat) (d i : Nat) : ∀ k, i < k → (∀ j, j < k → j ≠ i → g j = f j) → g i + d = f i → ((List.range k).map g).sum + d = ((List.range k).map f).sum
  | k + 1, hi, h, hd => by
    rw [List.range_succ, List.map_append, List.map_append, List.sum_append, List.sum_append]
    simp only [List.map_cons, List.map_nil, List.sum_cons, List.sum_nil]
    by_cases hk : i = k
    · subst hk
      have : (List.range i).map g = (List.range i).map f := List.map_congr_left (fun j hj => h j (by have := List.mem_range.1 hj; omega) (by have := List.mem_range.1 hj; omega))
      rw [this]
      omega
    · have := sum_upd f g d i k (by omega) (fun j hj hn => h j (by omega) hn) hd
      have h1 := h k (by omega) (fun e => hk e.symm)
      omega

/-- From the loop's head to the next seat. -/
theorem flow_add (start : Int) (az : Nat → List Nat) (i ii : Nat) (A : List Nat) (ans : List (Int × Int)) (S : TS) (hi : ii ≤ (addS start az i).length) (hA : A.length = min ii (az i).length) (hl : ans.length = (addS start az i).length) (ha : ∀ (k x : Nat), A[k]? = some x → ans[k]? = some (0, wrap64 (start + x))) :
    PhA start az i A (flow i 1 ((addS start az i).drop ii) ii false ans S).2 ∧ ∃ L, Adds S (flow i 1 ((addS start az i).drop ii) ii false ans S).1 L ∧ ∀ s ∈ L, s.op ≠ 5 := by
  cases h : (addS start az i).drop ii with
  | nil =>
    have : (addS start az i).length ≤ ii := List.drop_eq_nil_iff.1 h
    refine ⟨⟨?_, hl, ha⟩, [], ⟨(by simp [flat]; rfl), rfl⟩, fun _ h => nomatch h⟩
    have : (az i).length ≤ (addS start az i).length := by unfold addS; simp
    omega
  | cons c rest =>
    have hg : (addS start az i)[ii]? = some c := by
      have := congrArg (·[0]?) h
      simpa using this
    have hpo : 1 ≤ c.po ∧ c.po ≤ 6 := by
      rcases addS_get hg with ⟨m, _, rfl⟩ | ⟨_, _, rfl⟩
      · exact ⟨(by decide : (1 : Int) ≤ 5), (by decide : (5 : Int) ≤ 6)⟩
      · exact ⟨(by decide : (1 : Int) ≤ 6), (by decide : (6 : Int) ≤ 6)⟩
    rw [flow_cons, if_pos hpo]
    refine ⟨⟨h.symm, by simp, hi, hA, hl, ha⟩, [⟨i, -1, 9, ii, 0⟩], ⟨rfl, rfl⟩, fun s hs => ?_⟩
    have := List.mem_singleton.1 hs
    subst this
    exact (by decide : (9 : Int) ≠ 5)

theorem back_add (start : Int) (az : Nat → List Nat) (i ii : Nat) (A : List Nat) (ans : List (Int × Int)) (x : Int) (S : TS) (K : List (Nat × Int)) (hi : ii < (addS start az i).length) (hA : A.length = min (ii + 1) (az i).length) (hl : ans.length = (addS start az i).length) (ha : ∀ (k y : Nat), A[k]? = some y → (ans.set ii (0, x))[k]? = some (0, wrap64 (start + y))) (rest : List Cl) (hr : rest = (addS start az i).drop (ii + 1)) :
    PhA start az i A (back i 1 rest ii ans 0 x S K).2.2 ∧ (back i 1 rest ii ans 0 x S K).2.1 = K ∧ ∃ L, Adds S (back i 1 rest ii ans 0 x S K).1 L ∧ ∀ s ∈ L, s.op ≠ 5 := by
  subst hr
  obtain ⟨f1, L, f2, f3⟩ := flow_add start az i (ii + 1) A (ans.set ii (0, x)) (noted S undef i 10 (-1) ii 0) hi hA (by simpa using hl) ha
  refine ⟨f1, rfl, _, (adds_noted S undef i 10 (-1) ii 0).trans f2, fun s hs => ?_⟩
  simp only [List.cons_append, List.nil_append, List.mem_cons] at hs
  rcases hs with rfl | hs
  · exact (by decide : (10 : Int) ≠ 5)
  · exact f3 s hs

theorem wrap_add (a b : Int) : wrap64 (wrap64 a + b) = wrap64 (a + b) := by unfold wrap64; omega
theorem wrap_apart {start : Int} {x y : Nat} (hx : x ≤ 1000000) (hy : y ≤ 1000000) (h : wrap64 (start + x) = wrap64 (start + y)) : x = y := by unfold wrap64 at h; omega
theorem wrap_not {start : Int} {x : Nat} (hx : x ≤ 1000000) : wrap64 (start + x) ≠ wrap64 (start - 1) := by unfold wrap64; omega

section
variable {start : Int} {az : Nat → List Nat} {n cb : Nat} {A : Nat → List Nat} {s : Nat} {p p1 : PSt}
theorem AddI.sum_le (h : AddI start az n cb A s p) (hb : ((List.range n).map fun i => (az i).sum).sum ≤ 1000000) : s ≤ 1000000 := by have := h.left; omega

/-- A thread goes: an Add, or the last look. -/
theorem resume_add (h : AddI start az n cb A s p) (hpos : ∀ i, i < n → ∀ m ∈ az i, 0 < m) (hb : ((List.range n).map fun i => (az i).sum).sum ≤ 1000000) {i : Nat} (hi : i < n) {t : Thr} (S : TS) (hS : ∃ L, S.tr = flat L ∧ S.n = L.length ∧ lastAdd start L = (if s = 0 then start else wrap64 (start + s))) (ht : S.thr[i]? = some t) (hf : FitsN 1 (p.l i) t) :
    ∃ A' s', AddI start az n cb A' s' ⟨(resume i 1 (p.l i) S p.K).1, (resume i 1 (p.l i) S p.K).2.1, upd p.l i (resume i 1 (p.l i) S p.K).2.2⟩ := by
  have eth : thrI S i = t := thrI_of ht
  have hph := h.ph i hi
  match hpl : p.l i, hph, hf with
  | .turn (c :: rest) ii ans, hph, hf =>
    obtain ⟨h1, _, h2, h3, h4, h5⟩ := hph
    have hg : (addS start az i)[ii]? = some c := by
      have := congrArg (·[0]?) h1
      simpa using this.symm
    have hlt : ii < (addS start az i).length := (List.getElem?_eq_some_iff.1 hg).1
    have hrest : rest = (addS start az i).drop (ii + 1) := by
      have := congrArg List.tail h1
      simpa using this
    rw [h.K]
    rcases addS_get hg with ⟨m, hm, rfl⟩ | ⟨hii, h0, rfl⟩
    · have hml : ii < (az i).length := (List.getElem?_eq_some_iff.1 hm).1
      have hAl : (A i).length = ii := by omega
      have ew : which 0 1 = 0 := rfl
      have er : resume i 1 (.turn (addCl m :: rest) ii ans) S [(cb, wrap64 (start + s))] = back i 1 rest ii ans 0 (wrap64 (start + ((s + m : Nat) : Int))) (didS S undef i t (wrap64 (wrap64 (wrap64 (start + s) + m) - m)) (wrap64 (wrap64 (start + s) + m))) [(cb, wrap64 (start + ((s + m : Nat) : Int)))] := by
        rw [resume_turn, if_neg (fun h => by have := h.1; simp [addCl] at this), eth]
        have e2 : wrap64 (start + ((s + m : Nat) : Int)) = wrap64 (wrap64 (start + s) + m) := by rw [wrap_add, Int.natCast_add, Int.add_assoc]
        rw [e2]
        rfl
      rw [er]
      have hm0 : 0 < m := hpos i hi m (List.mem_of_getElem? hm)
      have hget : ∀ (k y : Nat), (A i ++ [s + m])[k]? = some y → (ans.set ii (0, wrap64 (start + ((s + m : Nat) : Int))))[k]? = some (0, wrap64 (start + y)) := fun k y hk => by
        rw [List.getElem?_append] at hk
        split at hk
        · rename_i hlt'
          rw [List.getElem?_set, if_neg (by omega)]
          exact h5 k y hk
        · have hk0 : k - (A i).length = 0 := by
            have := (List.getElem?_eq_some_iff.1 hk).1
            simp at this
            omega
          rw [hk0] at hk
          cases hk
          rw [List.getElem?_set, if_pos (by omega), if_pos (by omega)]
      obtain ⟨b1, b2, L', b3, b4⟩ := back_add start az i ii (A i ++ [s + m]) ans (wrap64 (start + ((s + m : Nat) : Int))) (didS S undef i t (wrap64 (wrap64 (wrap64 (start + s) + m) - m)) (wrap64 (wrap64 (start + s) + m))) [(cb, wrap64 (start + ((s + m : Nat) : Int)))] hlt (by simp; omega) h4 hget rest hrest
      refine ⟨upd A i (A i ++ [s + m]), s + m, ⟨?_, fun j hj => ?_, fun j hj x hx => ?_, fun j hj => ?_, fun j j' hj hj' hne x hx y hy => ?_, ?_, ?_⟩⟩
      · exact b2
      · show PhA start az j (upd A i (A i ++ [s + m]) j) (upd p.l i _ j)
        by_cases e : j = i
        · subst e; rw [upd_same, upd_same]; exact b1
        · rw [upd_ne _ _ e, upd_ne _ _ e]; exact h.ph j hj
      · by_cases e : j = i
        · subst e
          rw [upd_same] at hx
          rcases List.mem_append.1 hx with hx | hx
          · have := h.le j hj x hx; omega
          · have := List.mem_singleton.1 hx; omega
        · rw [upd_ne _ _ e] at hx
          have := h.le j hj x hx; omega
      · by_cases e : j = i
        · subst e
          rw [upd_same, List.pairwise_append]
          refine ⟨h.own j hj, List.pairwise_singleton _ _, fun x hx y hy => ?_⟩
          have := List.mem_singleton.1 hy
          have := h.le j hj x hx
          omega
        · rw [upd_ne _ _ e]; exact h.own j hj
      · by_cases e : j = i
        · subst e
          rw [upd_same] at hx
          rw [upd_ne _ _ (fun e => hne e.symm)] at hy
          rcases List.mem_append.1 hx with hx | hx
          · exact h.dis j j' hj hj' hne x hx y hy
          · have := List.mem_singleton.1 hx
            have := h.le j' hj' y hy
            omega
        · rw [upd_ne _ _ e] at hx
          by_cases e' : j' = i
          · subst e'
            rw [upd_same] at hy
            rcases List.mem_append.1 hy with hy | hy
            · exact h.dis j j' hj hj' hne x hx y hy
            · have := List.mem_singleton.1 hy
              have := h.le j hj x hx
              omega
          · rw [upd_ne _ _ e'] at hy
            exact h.dis j j' hj hj' hne x hx y hy
      · have hd : ((az i).drop ii).sum = m + ((az i).drop (ii + 1)).sum := by
          rw [List.drop_eq_getElem_cons hml]
          rw [List.getElem?_eq_getElem hml] at hm
          rw [Option.some.inj hm]
          simp
        have := sum_upd (fun j => ((az j).drop (A j).length).sum) (fun j => ((az j).drop (upd A i (A i ++ [s + m]) j).length).sum) m i n hi (fun j _ hne => by rw [upd_ne _ _ hne]) (by
          rw [upd_same, List.length_append, hAl, hd]
          simp
          omega)
        have hle := h.left
        omega
      · obtain ⟨L, l1, l2, l3⟩ := hS
        have a0 := adds_did S undef i t (wrap64 (wrap64 (wrap64 (start + s) + m) - m)) (wrap64 (wrap64 (start + s) + m))
        have a1 := a0.trans b3
        refine ⟨L ++ ([⟨i, t.ce, t.op, wrap64 (wrap64 (wrap64 (start + s) + m) - m), wrap64 (wrap64 (start + s) + m)⟩] ++ L'), (by rw [flat_app, ← l1]; exact a1.tr), (by rw [List.length_append, ← l2]; exact a1.n), ?_⟩
        rw [lastAdd_app, lastAdd_app, if_neg (by omega)]
        have hop : t.op = 5 := hf.1
        show lastAdd (lastAdd (if t.op = 5 then wrap64 (wrap64 (start + s) + m) else lastAdd start L) []) L' = _
        rw [if_pos hop]
        show lastAdd (wrap64 (wrap64 (start + s) + m)) L' = _
        rw [lastAdd_quiet _ L' b4, wrap_add, Int.natCast_add, Int.add_assoc]
    · have ew : which 0 1 = 0 := rfl
      have hs := h.sum_le hb
      have hne : wrap64 (start + s) ≠ wrap64 (start - 1) := wrap_not hs
      have er : resume i 1 (.turn (untCl start :: rest) ii ans) S [(cb, wrap64 (start + s))] = back i 1 rest ii ans 0 0 (didS S undef i t (wrap64 (start + s)) (wrap64 (start + s))) [(cb, wrap64 (start + s))] := by
        rw [resume_turn, if_neg (fun h => hne h.2), eth]
        rfl
      rw [er]
      have hAl : (A i).length = (az i).length := by omega
      obtain ⟨b1, b2, L', b3, b4⟩ := back_add start az i ii (A i) ans 0 (didS S undef i t (wrap64 (start + s)) (wrap64 (start + s))) [(cb, wrap64 (start + s))] hlt (by omega) h4 (fun k y hk => by
        have hkl := (List.getElem?_eq_some_iff.1 hk).1
        rw [List.getElem?_set, if_neg (by omega)]
        exact h5 k y hk) rest hrest
      refine ⟨A, s, ⟨?_, fun j hj => ?_, h.le, h.own, h.dis, h.left, ?_⟩⟩
      · exact b2
      · show PhA start az j (A j) (upd p.l i _ j)
        by_cases e : j = i
        · subst e; rw [upd_same]; exact b1
        · rw [upd_ne _ _ e]; exact h.ph j hj
      · obtain ⟨L, l1, l2, l3⟩ := hS
        have a0 := adds_did S undef i t (wrap64 (start + s)) (wrap64 (start + s))
        have a1 := a0.trans b3
        refine ⟨L ++ ([⟨i, t.ce, t.op, wrap64 (start + s), wrap64 (start + s)⟩] ++ L'), (by rw [flat_app, ← l1]; exact a1.tr), (by rw [List.length_append, ← l2]; exact a1.n), ?_⟩
        rw [lastAdd_app, lastAdd_app]
        have hop : t.op = 1 := hf.1
        show lastAdd (lastAdd (if t.op = 5 then wrap64 (start + s) else lastAdd start L) []) L' = _
        rw [if_neg (by rw [hop]; decide)]
        show lastAdd (lastAdd start L) L' = _
        rw [lastAdd_quiet _ L' b4]
        exact l3
  | .turn [] _ _, _, hf => exact hf.elim
  | .wait _ _ _, hph, _ => exact hph.elim
  | .done ans, hph, hf =>
    have e : resume i 1 (.done ans) S p.K = (S, p.K, .done ans) := rfl
    rw [e]
    refine ⟨A, s, ⟨h.K, fun j hj => ?_, h.le, h.own, h.dis, h.left, hS⟩⟩
    show PhA start az j (A j) (upd p.l i (.done ans) j)
    by_cases ej : j = i
    · subst ej; rw [upd_same]; exact hph
    · rw [upd_ne _ _ ej]; exact h.ph j hj

theorem pturn_add (h : AddI start az n cb A s p) (hpos : ∀ i, i < n → ∀ m ∈ az i, 0 < m) (hb : ((List.range n).map fun i => (az i).sum).sum ≤ 1000000) (hn : p.S.thr.length = n) (g : Good 1 p) (e : pturn 1 p = some p1) : (∃ A' s', AddI start az n cb A' s' p1) ∧ p1.S.thr.length = n := by
  unfold pturn at e
  split at e
  · split at e
    · rename_i hw
      exfalso
      unfold waits2 at hw
      rw [List.any_eq_true] at hw
      obtain ⟨i, hi, hst⟩ := hw
      cases ht : p.S.thr[i]? with
      | none => rw [ht] at hst; cases hst
      | some t =>
        rw [ht] at hst
        have hst : t.st = 2 := by simpa using hst
        have hin : i < n := by rw [← hn]; exact (List.getElem?_eq_some_iff.1 ht).1
        have h1 := (g.sit i t ht).2
        have h2 := h.ph i hin
        match hpl : p.l i, h1, h2 with
        | .turn _ _ _, h1, _ => have : t.st = 1 := h1; omega
        | .wait _ _ _, _, h2 => exact h2
        | .done _, h1, _ => have : t.st = 3 := h1; omega
    · cases e
  · rename_i h0
    obtain ⟨t, ht, hrd⟩ := nextI_in h0
    generalize hi : nextI p.S = i at ht e
    have eth : thrI p.S i = t := thrI_of ht
    rw [eth] at e
    have hin : i < n := by rw [← hn]; exact (List.getElem?_eq_some_iff.1 ht).1
    obtain ⟨hfit, hst⟩ := g.sit i t ht
    have hfit0 : FitsN 1 (p.l i) { t with st := 0 } := by
      match hpl : p.l i, hfit, hst with
      | .turn (c :: _) _ _, hf, _ => exact hf
      | .turn [] _ _, hf, _ => exact hf
      | .wait (c :: _) _ _, hf, _ => exact hf
      | .wait [] _ _, hf, _ => exact hf
      | .done _, _, hst =>
        exfalso
        have : t.st = 3 := hst
        simp [rdy, this] at hrd
    have hk := going_keeps (S := p.S) (i := i) (t := t)
    have key := resume_add h hpos hb hin (going p.S i t) (by rw [hk.2.2.1, hk.2.2.2]; exact h.tr) (going_thr ht) hfit0
    cases e
    refine ⟨key, ?_⟩
    show (resume i 1 (p.l i) (going p.S i t) p.K).1.thr.length = n
    rw [(resume_sta _ _ _ _ _).len, going_len, hn]

theorem turns_add {m : Nat} {p' : PSt} (h : Turns 1 m p p') (hpos : ∀ i, i < n → ∀ m ∈ az i, 0 < m) (hb : ((List.range n).map fun i => (az i).sum).sum ≤ 1000000) : ∀ {A : Nat → List Nat} {s : Nat}, p.S.thr.length = n → Good 1 p → AddI start az n cb A s p → ∃ A' s', AddI start az n cb A' s' p' := by
  induction h with
  | stop => intro A s _ _ h; exact ⟨A, s, h⟩
  | @step k p p1 p' e _ ih =>
    intro A s hn g h
    obtain ⟨⟨A', s', h'⟩, hn'⟩ := pturn_add h hpos hb hn g e
    obtain ⟨g1, _, _⟩ := pturn_mu g e
    exact ih hn' g1 h'
end

theorem hires_add (start : Int) (az : Nat → List Nat) {k : Nat} {ss : List Scr} {S S' : TS} {l l' : Nat → Ph} (h : Hires 1 k ss S l S' l') : (∀ (j : Nat) (s : Scr), ss[j]? = some s → s.calls = addS start az (k + j) ∧ s.ans.length = (addS start az (k + j)).length) → (∀ i, i < k → PhA start az i [] (l i)) →
    (∃ L, Adds S S' L ∧ ∀ s ∈ L, s.op ≠ 5) ∧ ∀ i, i < k + ss.length → PhA start az i [] (l' i) := by
  induction h with
  | nil => intro _ hl; exact ⟨⟨[], Adds.refl _, fun _ h => nomatch h⟩, fun i hi => hl i (by simpa using hi)⟩
  | @cons k s ss S S' l l' tv tb gc h ih =>
    intro hs hl
    obtain ⟨c1, c2⟩ := hs 0 s rfl
    rw [Nat.add_zero] at c1 c2
    have f := flow_add start az k 0 [] s.ans (hiredS S tv tb gc) (Nat.zero_le _) (by simp) c2 (fun k x hk => by simp at hk)
    rw [List.drop_zero, ← c1] at f
    obtain ⟨f1, L, f2, f3⟩ := f
    obtain ⟨⟨L', i1, i2⟩, i3⟩ := ih (fun j s' hj => by
      have := hs (j + 1) s' hj
      rw [show k + (j + 1) = k + 1 + j by omega] at this
      exact this) (fun i hi => by
      by_cases e : i = k
      · subst e; rw [upd_same]; exact f1
      · rw [upd_ne _ _ e]; exact hl i (by omega))
    refine ⟨⟨L ++ L', ?_, fun x hx => (List.mem_append.1 hx).elim (f3 x) (i2 x)⟩, fun i hi => i3 i (by simp only [List.length_cons] at hi; omega)⟩
    have : Adds S (flow k 1 s.calls 0 false s.ans (hiredS S tv tb gc)).1 L := ⟨f2.tr, f2.n⟩
    exact this.trans i1

/-- The sum of all that is added. -/
def total (az : Nat → List Nat) (n : Nat) : Nat := ((List.range n).map fun i => (az i).sum).sum
theorem play_adds {start : Int} {az : Nat → List Nat} {n cb m : Nat} {ss : List Scr} {S S1 : TS} {l0 l1 : Nat → Ph} {p' : PSt} (hstart : InR start) (h : Hires 1 0 ss S l0 S1 l1) (hT : Turns 1 m ⟨S1, [(cb, start)], l1⟩ p') (h0 : S.thr = []) (hn8 : n ≤ 8) (hss : ss.length = n) (hn : S.n = 0) (htr : S.tr = [])
    (hs : ∀ (j : Nat) (s : Scr), ss[j]? = some s → s.calls = addS start az j ∧ s.ans.length = (addS start az j).length) (hpos : ∀ i, i < n → ∀ m ∈ az i, 0 < m) (hb : total az n ≤ 1000000) (hdone : ∀ j, j < n → ∃ a, p'.l j = .done a) :
    ∃ A : Nat → List Nat, (∀ j, j < n → ∃ ans, p'.l j = .done ans ∧ ans.length = (addS start az j).length ∧ (A j).length = (az j).length ∧ (∀ (k x : Nat), (A j)[k]? = some x → ans[k]? = some (0, wrap64 (start + x))) ∧ (∀ x ∈ A j, x ≤ 1000000) ∧ (A j).Pairwise (· ≠ ·)) ∧
      (∀ i j, i < n → j < n → i ≠ j → ∀ x ∈ A i, ∀ y ∈ A j, x ≠ y) ∧ ∃ L, p'.S.tr = flat L ∧ p'.S.n = L.length ∧ lastAdd start L = wrap64 (start + total az n) := by
  obtain ⟨a1, a2, a3, a4⟩ := hires_good h (by rw [h0]; rfl) (by omega) (fun i t ht => by rw [h0] at ht; cases ht)
  have g : Good 1 ⟨S1, [(cb, start)], l1⟩ := ⟨by show S1.thr.length ≤ 8; omega, a2⟩
  have hw0 : wrap64 start = start := by unfold InR at hstart; unfold wrap64; omega
  obtain ⟨⟨L, b1, b2⟩, b3⟩ := hires_add start az h (fun j s hj => by rw [Nat.zero_add]; exact hs j s hj) (fun i hi => by omega)
  rw [hss] at b3
  have i0 : AddI start az n cb (fun _ => []) 0 ⟨S1, [(cb, start)], l1⟩ := by
    refine ⟨?_, fun i hi => b3 i (by omega), fun _ _ x hx => (nomatch hx), fun _ _ => List.Pairwise.nil, fun _ _ _ _ _ x hx => (nomatch hx), ?_, L, ?_, ?_, ?_⟩
    · show [(cb, start)] = [(cb, wrap64 (start + ((0 : Nat) : Int)))]
      rw [Int.natCast_zero, Int.add_zero, hw0]
    · simp
    · show S1.tr = flat L
      rw [b1.tr, htr, List.nil_append]
    · show S1.n = L.length
      rw [b1.n, hn, Nat.zero_add]
    · rw [lastAdd_quiet _ L b2]; rfl
  obtain ⟨A, s, hI⟩ := turns_add hT hpos hb (by show S1.thr.length = n; omega) g i0
  have hlen : ∀ j, j < n → (A j).length = (az j).length := fun j hj => by
    obtain ⟨a, ha⟩ := hdone j hj
    have := hI.ph j hj
    rw [ha] at this
    exact this.1
  have hs0 : ((List.range n).map fun i => ((az i).drop (A i).length).sum).sum = 0 := by
    have : (List.range n).map (fun i => ((az i).drop (A i).length).sum) = (List.range n).map (fun _ => 0) := List.map_congr_left (fun i hi => by
      rw [hlen i (List.mem_range.1 hi)]
      simp)
    rw [this]
    have z : ∀ l : List Nat, (l.map fun _ => 0).sum = 0 := fun l => by
      induction l with
      | nil => rfl
      | cons _ l ih => rw [List.map_cons, List.sum_cons, ih]
    exact z _
  have hs : s = total az n := by
    have := hI.left
    rw [hs0] at this
    exact this
  refine ⟨A, fun j hj => ?_, hI.dis, ?_⟩
  · obtain ⟨a, ha⟩ := hdone j hj
    have := hI.ph j hj
    rw [ha] at this
    exact ⟨a, ha, this.2.1, this.1, this.2.2, fun x hx => by have := hI.le j hj x hx; omega, hI.own j hj⟩
  · obtain ⟨L', c1, c2, c3⟩ := hI.tr
    refine ⟨L', c1, c2, ?_⟩
    rw [c3]
    split
    · rename_i e
      rw [← hs, e, Int.natCast_zero, Int.add_zero, hw0]
    · rw [hs]
end Go.Proofs.Ytmgaojbfmohboaa

/- The law CellAdds (4): ahead of its Play, walked alone. -/
set_option linter.unusedSimpArgs false
set_option linter.unusedVariables false
namespace Go.Proofs.Ytmgaojbfmohboaa
open Go Go.Lift Go.Conc Go.RowKit

noncomputable def B4 : Code := Try.f4.body.getD .skip
noncomputable def U4 : Code := seq2 (seq2 B4)
noncomputable def e42 : Code := seq1 U4
noncomputable def e44 : Code := seq1 (seq2 U4)
noncomputable def e45 : Code := seq1 (seq2 (seq2 U4))
noncomputable def e46 : Code := seq1 (seq2 (seq2 (seq2 U4)))
noncomputable def e419 : Code := seq1 (seq2 (seq2 (seq2 (seq2 U4))))
noncomputable def e420 : Code := seq1 (seq2 (seq2 (seq2 (seq2 (seq2 U4)))))
noncomputable def e421 : Code := seq1 (seq2 (seq2 (seq2 (seq2 (seq2 (seq2 U4))))))
noncomputable def P4 : Code := seq2 (seq2 (seq2 (seq2 (seq2 (seq2 (seq2 U4))))))
theorem eB4 : B4 = .seq (seq1 B4) (.seq (seq1 (seq2 B4)) (.seq e42 (.seq e44 (.seq e45 (.seq e46 (.seq e419 (.seq e420 (.seq e421 P4)))))))) := by kernel_rfl
theorem fine42 : fineCode Try.prog true LO e42 := fineCode_ask callO extT (by kernel_rfl)
theorem fine44 : fineCode Try.prog true LO e44 := fineCode_ask callO extT (by kernel_rfl)
theorem fine45 : fineCode Try.prog true LO e45 := fineCode_ask callO extT (by kernel_rfl)
theorem fine46 : fineCode Try.prog true LO e46 := fineCode_ask callO extT (by kernel_rfl)
theorem fine419 : fineCode Try.prog true LO e419 := fineCode_ask callO extT (by kernel_rfl)
theorem fine420 : fineCode Try.prog true LO e420 := fineCode_ask callO extT (by kernel_rfl)

/-- What is known of a frame's slots. -/
def FrL (a : Act) : List (Nat × Value) → Prop
  | [] => True
  | x :: l => a.tmps.getD x.1 undef = x.2 ∧ FrL a l
structure Fram (n : Nat) (fs : List (Nat × Value)) (a : Act) : Prop where
  size : a.tmps.size = n
  defers : a.defers = []
  at_ : FrL a fs

/-- All but some blocks stay. -/
structure Stn (P : Nat → Prop) (u u' : World) : Prop where
  size : u.heap.size ≤ u'.heap.size
  blk : ∀ b, b < u.heap.size → ¬ P b → u'.heap[b]? = u.heap[b]?
  os : u'.os = u.os
  out : u'.output = u.output
theorem Stn.own {P : Nat → Prop} {u u' : World} (h : Stn P u u') {base : Nat} {e : TypeId} {s : Nat} {v : Value} {n : Nat} {xs : List Value} (ho : u.ownsRow base e s v n xs) (hP : ∀ b, v.ownBlock = some b → ¬ P b) : u'.ownsRow base e s v n xs :=
  own_stay (fun b hb => h.blk b (own_lt ho b hb).2 (hP b hb)) ho
theorem Stn.cell {P : Nat → Prop} {u u' : World} (h : Stn P u u') {a : Addr} {x : Value} (hc : u.cell? a = some x) (hP : ¬ P a.block) : u'.cell? a = some x := by
  rw [World.cell?_of_block (w := u) (w' := u') (h.blk a.block (World.block_lt_of_cell? _ _ hc) hP)]
  exact hc
theorem stn_append {u u' : World} {o : Obj} {row : Option Nat} (h : (u.alloc o).grownBy u' row) : Stn (fun b => row = some b) u u' := by
  refine ⟨Nat.le_trans (by show u.heap.size ≤ (u.heap.push _).size; simp) h.size, fun b hb hP => ?_, h.os, h.output⟩
  rw [h.block b (by show b < (u.heap.push _).size; simp; omega) (fun e => hP e.symm)]
  show (u.heap.push _)[b]? = _
  rw [Array.getElem?_push, if_neg (by omega)]

def calls4 (l : List Cl) : List Value := l.flatMap fun c => [I c.po, I c.ca, I c.cb, I c.cc]
theorem calls4_app (a b : List Cl) : calls4 (a ++ b) = calls4 a ++ calls4 b := List.flatMap_append
theorem calls4_len (l : List Cl) : (calls4 l).length = l.length * 4 := by
  induction l with
  | nil => rfl
  | cons a l ih => simp only [calls4, List.flatMap_cons, List.length_append, List.length_cons, List.length_nil] at ih ⊢; omega
theorem calls4_get : ∀ (l : List Cl) (k : Nat) (c : Cl), l[k]? = some c → (calls4 l)[k * 4]? = some (I c.po) ∧ (calls4 l)[k * 4 + 1]? = some (I c.ca) ∧ (calls4 l)[k * 4 + 2]? = some (I c.cb) ∧ (calls4 l)[k * 4 + 3]? = some (I c.cc)
  | b :: l, 0, a, h => by obtain rfl : b = a := by simpa using h
                          exact ⟨rfl, rfl, rfl, rfl⟩
  | b :: l, k + 1, a, h => by
    have := calls4_get l k a (by simpa using h)
    have e0 : ∀ j, (calls4 (b :: l))[j + 4]? = (calls4 l)[j]? := fun j => rfl
    rw [show (k + 1) * 4 = k * 4 + 4 by omega, show k * 4 + 4 + 1 = (k * 4 + 1) + 4 by omega, show k * 4 + 4 + 2 = (k * 4 + 2) + 4 by omega, show k * 4 + 4 + 3 = (k * 4 + 3) + 4 by omega]
    simp only [e0]
    exact this
theorem calls4_one (l : List Cl) : ∀ u ∈ calls4 l, u.oneCell' = true := fun u hu => by
  simp only [calls4, List.mem_flatMap] at hu
  obtain ⟨s, _, hu⟩ := hu
  simp only [List.mem_cons, List.not_mem_nil, or_false] at hu
  rcases hu with rfl | rfl | rfl | rfl <;> rfl

/-- Where the numbers lie that came in. -/
structure InA (W : World) (p : Option Addr) (b o n : Nat) (qa : Nat → Option Addr) (ca ib io : Nat → Nat) (za : Nat → List Int) : Prop where
  at_ : 0 < n → p = some ⟨b, o, none⟩
  row : ∀ k, k < n → W.cell? ⟨b, o + k, none⟩ = some (.slice (qa k) (za k).length (ca k))
  qa : ∀ j, j < n → 0 < (za j).length → qa j = some ⟨ib j, io j, none⟩
  cell : ∀ j, j < n → ∀ (k : Nat) (x : Int), (za j)[k]? = some x → W.cell? ⟨ib j, io j + k, none⟩ = some (I x)
theorem InA.stn {P : Nat → Prop} {W W' : World} {p : Option Addr} {b o n : Nat} {qa : Nat → Option Addr} {ca ib io : Nat → Nat} {za : Nat → List Int} (h : InA W p b o n qa ca ib io za) (g : Grows W W') : InA W' p b o n qa ca ib io za :=
  ⟨h.at_, fun k hk => g.cell (h.row k hk), h.qa, fun j hj k x hx => g.cell (h.cell j hj k x hx)⟩
/-- What is added for a number that came in. -/
def incr (x : Int) : Nat := (1 + bits .and .i64 x 1023).toNat
theorem incr_and (x : Int) : 0 ≤ bits .and .i64 x 1023 ∧ bits .and .i64 x 1023 ≤ 1023 := by
  have e : bits .and .i64 x 1023 = IntKind.i64.wrap ((BitVec.ofInt 64 x &&& BitVec.ofInt 64 1023).toNat : Int) := rfl
  have h : (BitVec.ofInt 64 x &&& BitVec.ofInt 64 1023).toNat ≤ 1023 := by
    rw [BitVec.toNat_and]
    exact Nat.le_trans Nat.and_le_right (by decide)
  rw [e, IntKind.wrap_i64]
  generalize (BitVec.ofInt 64 x &&& BitVec.ofInt 64 1023).toNat = k at h
  omega
theorem incr_in (x : Int) : (incr x : Int) = 1 + bits .and .i64 x 1023 ∧ 1 ≤ incr x ∧ incr x ≤ 1024 := by
  have := incr_and x
  unfold incr
  omega

/-- The scripts so far. -/
structure Built (v : World) (az : Nat → List Nat) (k : Nat) (V8 : Value) (V : Nat → Value) (u : World) : Prop where
  outer : u.ownsRow v.heap.size 37 1 V8 k ((List.range k).map V)
  inner : ∀ j, j < k → u.ownsRow v.heap.size 39 4 (V j) (az j).length (calls4 ((az j).map addCl))
  ap8 : ∀ j, j < k → ∀ b, (V j).ownBlock = some b → V8.ownBlock ≠ some b
  ap : ∀ i j, i < k → j < k → i ≠ j → ∀ b, (V i).ownBlock = some b → (V j).ownBlock ≠ some b
  old : Grows v u
theorem own_low {w : World} {base : Nat} {e : TypeId} {s : Nat} {v : Value} {n : Nat} {xs : List Value} (h : w.ownsRow base e s v n xs) {b : Nat} (hb : v.ownBlock = some b) : base ≤ b ∧ b < w.heap.size := own_lt h b hb
theorem Built.stn {v u u' : World} {az : Nat → List Nat} {k : Nat} {V8 : Value} {V : Nat → Value} {P : Nat → Prop} (h : Built v az k V8 V u) (s : Stn P u u') (h8 : ∀ b, V8.ownBlock = some b → ¬ P b) (hV : ∀ j, j < k → ∀ b, (V j).ownBlock = some b → ¬ P b) (hlow : ∀ b, P b → v.heap.size ≤ b) : Built v az k V8 V u' :=
  ⟨s.own h.outer h8, fun j hj => s.own (h.inner j hj) (hV j hj), h.ap8, h.ap, ⟨Nat.le_trans h.old.size s.size, fun b hb => by rw [s.blk b (by have := h.old.size; omega) (fun hp => by have := hlow b hp; omega)]; exact h.old.old b hb, s.os.trans h.old.os, s.out.trans h.old.output⟩⟩
/-- .. and the one that is being built. -/
structure Being (v : World) (az : Nat → List Nat) (k : Nat) (V8 : Value) (V : Nat → Value) (Vl : Value) (kk : Nat) (u : World) : Prop where
  built : Built v az k V8 V u
  cur : u.ownsRow v.heap.size 39 4 Vl kk (calls4 (((az k).take kk).map addCl))
  ap8 : ∀ b, Vl.ownBlock = some b → V8.ownBlock ≠ some b
  ap : ∀ j, j < k → ∀ b, (V j).ownBlock = some b → Vl.ownBlock ≠ some b
theorem Being.next {v u u' : World} {az : Nat → List Nat} {k kk g cap m : Nat} {V8 Vl : Value} {V : Nat → Value} {o : Obj} (h : Being v az k V8 V Vl kk u) (hg : (u.alloc o).grownBy u' Vl.ownBlock) (hm : (az k)[kk]? = some m) (hown : u'.ownsRow v.heap.size 39 4 (.slice (some ⟨g, 0, none⟩) (kk + 1) cap) (kk + 1) (calls4 (((az k).take kk).map addCl) ++ [I 5, I 0, I m, I 0])) (hat : Vl.ownBlock = some g ∨ g = (u.alloc o).heap.size) : Being v az k V8 V (.slice (some ⟨g, 0, none⟩) (kk + 1) cap) (kk + 1) u' := by
  have st := stn_append hg
  have hsz : (u.alloc o).heap.size = u.heap.size + 1 := by show (u.heap.push _).size = _; simp
  have hl : kk < (az k).length := (List.getElem?_eq_some_iff.1 hm).1
  refine ⟨h.built.stn st (fun b hb hp => h.ap8 b hp hb) (fun j hj b hb hp => h.ap j hj b hb hp) (fun b hp => (own_low h.cur hp).1), ?_, fun b hb => ?_, fun j hj b hb => ?_⟩
  · have e : (az k).take (kk + 1) = (az k).take kk ++ [m] := by rw [List.take_add_one, hm]; rfl
    rw [e, List.map_append, calls4_app]
    exact hown
  · cases hb
    rcases hat with h1 | h1
    · exact h.ap8 _ h1
    · intro e
      have : g < u.heap.size := (own_low h.built.outer e).2
      omega
  · rintro e
    cases e
    rcases hat with h1 | h1
    · exact h.ap j hj _ hb h1
    · have : g < u.heap.size := (own_low (h.built.inner j hj) hb).2
      omega
theorem Built.next {v u u' : World} {az : Nat → List Nat} {k g cap : Nat} {V8 Vl : Value} {V : Nat → Value} {o : Obj} (h : Being v az k V8 V Vl (az k).length u) (hg : (u.alloc o).grownBy u' V8.ownBlock) (hown : u'.ownsRow v.heap.size 37 1 (.slice (some ⟨g, 0, none⟩) (k + 1) cap) (k + 1) ((List.range k).map V ++ [Vl])) (hat : V8.ownBlock = some g ∨ g = (u.alloc o).heap.size) : Built v az (k + 1) (.slice (some ⟨g, 0, none⟩) (k + 1) cap) (fun j => if j = k then Vl else V j) u' := by
  have st := stn_append hg
  have hsz : (u.alloc o).heap.size = u.heap.size + 1 := by show (u.heap.push _).size = _; simp
  have hcur := h.cur
  rw [List.take_length] at hcur
  have each : ∀ j, j < k + 1 → u.ownsRow v.heap.size 39 4 (if j = k then Vl else V j) (az j).length (calls4 ((az j).map addCl)) ∧ ∀ b, (if j = k then Vl else V j).ownBlock = some b → V8.ownBlock ≠ some b := fun j hj => by
    by_cases e : j = k
    · subst e
      rw [if_pos rfl]
      exact ⟨hcur, h.ap8⟩
    · rw [if_neg e]
      exact ⟨h.built.inner j (by omega), h.built.ap8 j (by omega)⟩
  refine ⟨?_, fun j hj => st.own (each j hj).1 (fun b hb hp => (each j hj).2 b hb hp), fun j hj b hb e => ?_, fun i j hi hj hne b hb e => ?_, ⟨Nat.le_trans h.built.old.size st.size, fun b hb => by rw [st.blk b (by have := h.built.old.size; omega) (fun hp => by have := (own_low h.built.outer hp).1; omega)]; exact h.built.old.old b hb, st.os.trans h.built.old.os, st.out.trans h.built.old.output⟩⟩
  · rw [List.range_succ, List.map_append]
    have e1 : (List.range k).map (fun j => if j = k then Vl else V j) = (List.range k).map V := List.map_congr_left (fun j hj => by rw [if_neg (by have := List.mem_range.1 hj; omega)])
    rw [e1]
    simp only [List.map_cons, List.map_nil, if_true]
    exact hown
  · cases e
    rcases hat with h1 | h1
    · exact (each j hj).2 _ hb h1
    · have : g < u.heap.size := (own_low (each j hj).1 hb).2
      omega
  · by_cases ei : i = k
    · rw [if_pos ei] at hb
      rw [if_neg (by omega)] at e
      exact h.ap j (by omega) b e hb
    · rw [if_neg ei] at hb
      by_cases ej : j = k
      · rw [if_pos ej] at e
        exact h.ap i (by omega) b hb e
      · rw [if_neg ej] at e
        exact h.built.ap i j (by omega) (by omega) hne b hb e

set_option maxHeartbeats 4000000 in
set_option maxRecDepth 100000 in
/-- Too few or too many: true. -/
theorem e42_wp {v : World} {s0 : Value} {start : Int} {p : Option Addr} {n cap : Nat} {a : Act} (hF : Fram 191 [(0, s0), (1, I start), (2, .slice p n cap), (7, .bool true)] a) :
    e42.wp Try.prog (fun e a w' => (w'.heap = v.heap ∧ w'.os = v.os ∧ w'.output = v.output) ∧ ((e = .ret ∧ a.tmps.getD 6 undef = .bool true ∧ ¬ (0 < n ∧ n ≤ 8)) ∨ (e = .normal ∧ (0 < n ∧ n ≤ 8) ∧ Fram 191 [(0, s0), (1, I start), (2, .slice p n cap), (7, .bool true)] a))) a v := by
  obtain ⟨f0, f1, f2, f7, -⟩ := hF.at_
  obtain ⟨u, rfl, hg⟩ := litN hF.size hF.defers
  have u0 := (hg 0).symm.trans f0
  have u1 := (hg 1).symm.trans f1
  have u2 := (hg 2).symm.trans f2
  have u7 := (hg 7).symm.trans f7
  clear hg hF f0 f1 f2 f7
  show Code.wp Try.prog (seq1 (seq2 (seq2 B4))) _ _ _
  unfold B4 Try.f4 seq2 seq1
  simp only [Option.getD_some, lis, Nat.reduceAdd, u0, u1, u2, u7]
  clear u0 u1 u2 u7
  by_cases h0 : (n : Int) < 1
  · go_wp2_with fail
    exact fun h => by omega
  · by_cases h8 : (8 : Int) < (n : Int)
    · go_wp2_with fail
      exact fun h => by omega
    · go_wp2_with fail
      exact ⟨by omega, ⟨rfl, rfl, rfl, rfl, rfl, rfl, trivial⟩⟩

set_option maxHeartbeats 4000000 in
set_option maxRecDepth 100000 in
theorem e44_wp {v : World} {s0 : Value} {start : Int} {p : Option Addr} {n cap : Nat} {a : Act} (hF : Fram 191 [(0, s0), (1, I start), (2, .slice p n cap), (7, .bool true)] a) :
    e44.wp Try.prog (fun e a w' => e = .normal ∧ Fram 191 [(0, s0), (1, I start), (2, .slice p n cap), (7, .bool true), (8, .slice none 0 0)] a ∧ (w'.heap = v.heap ∧ w'.os = v.os ∧ w'.output = v.output)) a v := by
  obtain ⟨f0, f1, f2, f7, -⟩ := hF.at_
  obtain ⟨u, rfl, hg⟩ := litN hF.size hF.defers
  have u0 := (hg 0).symm.trans f0
  have u1 := (hg 1).symm.trans f1
  have u2 := (hg 2).symm.trans f2
  have u7 := (hg 7).symm.trans f7
  clear hg hF f0 f1 f2 f7
  show Code.wp Try.prog (seq1 (seq2 (seq2 (seq2 B4)))) _ _ _
  unfold B4 Try.f4 seq2 seq1
  simp only [Option.getD_some, lis, Nat.reduceAdd, u0, u1, u2, u7]
  clear u0 u1 u2 u7
  go_wp2_with fail
  exact ⟨rfl, rfl, rfl, rfl, rfl, rfl, rfl, trivial⟩
set_option maxHeartbeats 4000000 in
set_option maxRecDepth 100000 in
theorem e45_wp {v : World} {s0 : Value} {start : Int} {p : Option Addr} {n cap : Nat} {a : Act} (hF : Fram 191 [(0, s0), (1, I start), (2, .slice p n cap), (7, .bool true), (8, .slice none 0 0)] a) :
    e45.wp Try.prog (fun e a w' => e = .normal ∧ Fram 191 [(0, s0), (1, I start), (2, .slice p n cap), (7, .bool true), (8, .slice none 0 0), (9, I start)] a ∧ (w'.heap = v.heap ∧ w'.os = v.os ∧ w'.output = v.output)) a v := by
  obtain ⟨f0, f1, f2, f7, f8, -⟩ := hF.at_
  obtain ⟨u, rfl, hg⟩ := litN hF.size hF.defers
  have u0 := (hg 0).symm.trans f0
  have u1 := (hg 1).symm.trans f1
  have u2 := (hg 2).symm.trans f2
  have u7 := (hg 7).symm.trans f7
  have u8 := (hg 8).symm.trans f8
  clear hg hF f0 f1 f2 f7 f8
  show Code.wp Try.prog (seq1 (seq2 (seq2 (seq2 (seq2 B4))))) _ _ _
  unfold B4 Try.f4 seq2 seq1
  simp only [Option.getD_some, lis, Nat.reduceAdd, u0, u1, u2, u7, u8]
  clear u0 u1 u2 u7 u8
  go_wp2_with fail
  exact ⟨rfl, rfl, rfl, rfl, rfl, rfl, rfl, rfl, trivial⟩
end Go.Proofs.Ytmgaojbfmohboaa
