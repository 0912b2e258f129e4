/-
  Events by a look through the whole trace, and step by step: they are the same.
-/
import Derived.Test.YteniopbmkooomaaAwake
namespace Go.Proofs.Yteniopbmkooomaa
open Go.RowKit Hi Go.Deep Go.Maps

def step0 : Step := ⟨0, 0, 0, 0, 0⟩

/-- Does a step end the call that began at that step (and not by being stuck)? -/
def endsB (x b : Step) : Bool := x.op == 10 && x.thr == b.thr && x.old == b.old && x.new != 4
theorem ends_iff {x b : Step} : endsB x b = true ↔ x.op = 10 ∧ x.thr = b.thr ∧ x.old = b.old ∧ x.new ≠ 4 := by
  unfold endsB; simp [and_assoc]

/-- The event of the call that began at i, by the steps behind i, n of them. -/
def scan (sc : List (List Call)) (an : List (List (Int × Int))) (tr : List Step) (i : Nat) : Nat → Ev
  | 0 => begunEv (tr.getD i step0).thr i ((sc.getD (tr.getD i step0).thr.toNat []).getD (tr.getD i step0).old.toNat call0)
  | n + 1 => if endsB (tr.getD (i + 1 + n) step0) (tr.getD i step0) = true then ended (i + 1 + n) ((an.getD (tr.getD i step0).thr.toNat []).getD (tr.getD i step0).old.toNat (0, 0)) (scan sc an tr i n) else scan sc an tr i n

/-- The places below k at which calls begin. -/
def begs (tr : List Step) (k : Nat) : List Nat := (List.range k).filter fun i => (tr.getD i step0).op == 9

theorem begs_succ (tr : List Step) (k : Nat) : begs tr (k + 1) = begs tr k ++ (if (tr.getD k step0).op = 9 then [k] else []) := by
  unfold begs
  rw [List.range_succ, List.filter_append]
  congr 1
  by_cases h : (tr.getD k step0).op = 9
  · rw [if_pos h, List.filter_cons_of_pos (by simpa using h)]; rfl
  · rw [if_neg h, List.filter_cons_of_neg (by simpa using h)]; rfl

theorem begs_lt {tr : List Step} {k i : Nat} (h : i ∈ begs tr k) : i < k := by
  unfold begs at h
  rw [List.mem_filter] at h
  exact List.mem_range.1 h.1

/-- What is so on the way. -/
structure ScanInv (sc : List (List Call)) (an : List (List (Int × Int))) (tr : List Step) (k : Nat) (st : St) : Prop where
  evs : st.evs = (begs tr k).map fun i => scan sc an tr i (k - i - 1)
  ok : ∀ t, (st.tab t).2.1 ≤ (st.tab t).1 ∧ (st.tab t).1 ≤ (st.tab t).2.1 + 1
  its : ∀ i ∈ begs tr k, ∃ t o : Nat, (tr.getD i step0).thr = t ∧ (tr.getD i step0).old = o ∧ o < (st.tab t).1
  one : ∀ i ∈ begs tr k, ∀ j ∈ begs tr k, (tr.getD i step0).thr = (tr.getD j step0).thr → (tr.getD i step0).old = (tr.getD j step0).old → i = j
  last : ∀ t, (st.tab t).2.1 < (st.tab t).1 → ∃ i, (begs tr k)[(st.tab t).2.2]? = some i ∧ (tr.getD i step0).thr = t ∧ (tr.getD i step0).old = (st.tab t).2.1

theorem scanInv_start (sc : List (List Call)) (an : List (List (Int × Int))) (tr : List Step) : ScanInv sc an tr 0 st0 :=
  ⟨rfl, fun _ => ⟨Nat.le_refl _, Nat.zero_le _⟩, fun i hi => by simp [begs] at hi, fun i hi => by simp [begs] at hi, fun t h => absurd h (Nat.lt_irrefl _)⟩

theorem scan_step {sc : List (List Call)} {an : List (List (Int × Int))} {tr : List Step} {k i : Nat} (hi : i < k) :
    scan sc an tr i (k + 1 - i - 1) = if endsB (tr.getD k step0) (tr.getD i step0) = true then ended k ((an.getD (tr.getD i step0).thr.toNat []).getD (tr.getD i step0).old.toNat (0, 0)) (scan sc an tr i (k - i - 1)) else scan sc an tr i (k - i - 1) := by
  have e1 : k + 1 - i - 1 = (k - i - 1) + 1 := by omega
  have e2 : i + 1 + (k - i - 1) = k := by omega
  rw [e1, scan, e2]

theorem scanInv_skip {sc : List (List Call)} {an : List (List (Int × Int))} {tr : List Step} {k : Nat} {st : St} (h : ScanInv sc an tr k st) (h9 : (tr.getD k step0).op ≠ 9) (h10 : (tr.getD k step0).op ≠ 10) : ScanInv sc an tr (k + 1) st := by
  have hb : begs tr (k + 1) = begs tr k := by rw [begs_succ, if_neg h9, List.append_nil]
  refine ⟨?_, h.ok, by rw [hb]; exact h.its, by rw [hb]; exact h.one, by rw [hb]; exact h.last⟩
  rw [hb, h.evs]
  apply List.map_congr_left
  intro i hi
  rw [scan_step (begs_lt hi), if_neg (fun he => h10 (ends_iff.1 he).1)]

theorem scanInv_begin {sc : List (List Call)} {an : List (List (Int × Int))} {tr : List Step} {k t : Nat} {st : St} (h : ScanInv sc an tr k st) (h9 : (tr.getD k step0).op = 9) (ht : (tr.getD k step0).thr = t) (ho : beginOk an st t (tr.getD k step0)) :
    ScanInv sc an tr (k + 1) (beginSt sc st t k) := by
  have hb : begs tr (k + 1) = begs tr k ++ [k] := by rw [begs_succ, if_pos h9]
  have hold : (tr.getD k step0).old = (st.tab t).1 := ho.2.2.1
  have hbe := ho.1
  refine ⟨?_, fun t' => ?_, fun i hi => ?_, fun i hi j hj h1 h2 => ?_, fun t' h' => ?_⟩
  · rw [hb, List.map_append]
    show st.evs ++ [begunEv t k _] = _
    congr 1
    · rw [h.evs]
      apply List.map_congr_left
      intro i hi
      rw [scan_step (begs_lt hi), if_neg (fun he => by have := (ends_iff.1 he).1; omega)]
    · have e1 : k + 1 - k - 1 = 0 := by omega
      simp only [List.map_cons, List.map_nil, e1, scan, ht, hold]
      simp
  · by_cases e : t' = t
    · subst e; simp only [beginSt, upd, if_pos]; omega
    · simp only [beginSt, upd, if_neg e]; exact h.ok t'
  · rw [hb, List.mem_append] at hi
    rcases hi with hi | hi
    · obtain ⟨t', o, e1, e2, e3⟩ := h.its i hi
      refine ⟨t', o, e1, e2, ?_⟩
      by_cases e : t' = t
      · subst e; simp only [beginSt, upd, if_pos]; omega
      · simp only [beginSt, upd, if_neg e]; exact e3
    · simp at hi
      subst hi
      exact ⟨t, (st.tab t).1, ht, hold, by simp [beginSt, upd]⟩
  · rw [hb, List.mem_append] at hi hj
    rcases hi with hi | hi <;> rcases hj with hj | hj
    · exact h.one i hi j hj h1 h2
    · simp at hj
      subst hj
      obtain ⟨t', o, e1, e2, e3⟩ := h.its i hi
      have : t' = t := by omega
      subst this
      omega
    · simp at hi
      subst hi
      obtain ⟨t', o, e1, e2, e3⟩ := h.its j hj
      have : t' = t := by omega
      subst this
      omega
    · simp at hi hj; omega
  · have hlen : (begs tr k).length = st.evs.length := by rw [h.evs, List.length_map]
    by_cases e : t' = t
    · subst e
      refine ⟨k, ?_, ht, ?_⟩
      · simp only [beginSt, upd, if_pos]
        rw [hb, ← hlen]; simp
      · simp only [beginSt, upd, if_pos]; omega
    · simp only [beginSt, upd, if_neg e] at h' ⊢
      obtain ⟨i, e1, e2, e3⟩ := h.last t' h'
      refine ⟨i, ?_, e2, e3⟩
      rw [hb, List.getElem?_append_left (List.getElem?_eq_some_iff.1 e1).1]
      exact e1

theorem scanInv_end {sc : List (List Call)} {an : List (List (Int × Int))} {tr : List Step} {k t : Nat} {st : St} (h : ScanInv sc an tr k st) (h10 : (tr.getD k step0).op = 10) (ht : (tr.getD k step0).thr = t) (ho : endOk an st t (tr.getD k step0)) :
    ScanInv sc an tr (k + 1) (endSt an st t k) := by
  have hb : begs tr (k + 1) = begs tr k := by rw [begs_succ, if_neg (by omega), List.append_nil]
  obtain ⟨ho1, ho2, ho3⟩ := ho
  obtain ⟨iv, v1, v2, v3⟩ := h.last t ho1
  have htab : (endSt an st t k).tab = upd st.tab t ((st.tab t).1, (st.tab t).2.1 + 1, (st.tab t).2.2) := rfl
  have hok := h.ok t
  refine ⟨?_, fun t' => ?_, fun i hi => ?_, by rw [hb]; exact h.one, fun t' h' => ?_⟩
  · rw [hb]
    have hval : ∀ i ∈ begs tr k, endsB (tr.getD k step0) (tr.getD i step0) = true ↔ (i = iv ∧ ((an.getD t []).getD (st.tab t).2.1 (0, 0)).1 ≠ 4) := by
      intro i hi
      rw [ends_iff]
      constructor
      · rintro ⟨_, e2, e3, e4⟩
        refine ⟨h.one i hi iv (List.mem_of_getElem? v1) (by omega) (by omega), by rw [← ho3]; exact e4⟩
      · rintro ⟨rfl, e⟩
        exact ⟨h10, by omega, by omega, by rw [ho3]; exact e⟩
    show (if ((an.getD t []).getD (st.tab t).2.1 (0, 0)).1 = 4 then st.evs else st.evs.set (st.tab t).2.2 (ended k ((an.getD t []).getD (st.tab t).2.1 (0, 0)) (st.evs.getD (st.tab t).2.2 ev0))) = _
    by_cases h4 : ((an.getD t []).getD (st.tab t).2.1 (0, 0)).1 = 4
    · rw [if_pos h4, h.evs]
      apply List.map_congr_left
      intro i hi
      rw [scan_step (begs_lt hi), if_neg (fun he => ((hval i hi).1 he).2 h4)]
    · rw [if_neg h4]
      apply List.ext_getElem?
      intro m
      have hlen : (begs tr k).length = st.evs.length := by rw [h.evs, List.length_map]
      rw [List.getElem?_set, List.getElem?_map]
      by_cases em : (st.tab t).2.2 = m
      · subst em
        have hlt : (st.tab t).2.2 < st.evs.length := by rw [← hlen]; exact (List.getElem?_eq_some_iff.1 v1).1
        rw [if_pos rfl, if_pos hlt, v1]
        have hmem := List.mem_of_getElem? v1
        simp only [Option.map_some]
        rw [scan_step (begs_lt hmem), if_pos ((hval iv hmem).2 ⟨rfl, h4⟩)]
        have e1 : st.evs.getD (st.tab t).2.2 ev0 = scan sc an tr iv (k - iv - 1) := by
          rw [List.getD_eq_getElem?_getD, h.evs, List.getElem?_map, v1]; rfl
        rw [e1, v2, v3]
        simp
      · rw [if_neg em]
        cases hm : (begs tr k)[m]? with
        | none =>
          have : st.evs[m]? = none := by rw [h.evs, List.getElem?_map, hm]; rfl
          rw [this]; rfl
        | some i =>
          have hmem := List.mem_of_getElem? hm
          have hne : i ≠ iv := fun e => by
            subst e
            have hnd : (begs tr k).Nodup := List.Nodup.sublist List.filter_sublist List.nodup_range
            have l1 := (List.getElem?_eq_some_iff.1 v1)
            have l2 := (List.getElem?_eq_some_iff.1 hm)
            obtain ⟨p1, q1⟩ := l1
            obtain ⟨p2, q2⟩ := l2
            rcases Nat.lt_or_gt_of_ne em with hl | hl
            · exact List.pairwise_iff_getElem.1 hnd _ _ p1 p2 hl (q1.trans q2.symm)
            · exact List.pairwise_iff_getElem.1 hnd _ _ p2 p1 hl (q2.trans q1.symm)
          have : st.evs[m]? = some (scan sc an tr i (k - i - 1)) := by rw [h.evs, List.getElem?_map, hm]; rfl
          rw [this]
          simp only [Option.map_some]
          rw [scan_step (begs_lt hmem), if_neg (fun he => hne ((hval i hmem).1 he).1)]
  · rw [htab]
    by_cases e : t' = t
    · subst e; simp only [upd, if_pos]; omega
    · simp only [upd, if_neg e]; exact h.ok t'
  · rw [hb] at hi
    obtain ⟨t', o, e1, e2, e3⟩ := h.its i hi
    refine ⟨t', o, e1, e2, ?_⟩
    rw [htab]
    by_cases e : t' = t
    · subst e; simp only [upd, if_pos]; exact e3
    · simp only [upd, if_neg e]; exact e3
  · rw [htab] at h' ⊢
    rw [hb]
    by_cases e : t' = t
    · subst e; simp only [upd, if_pos] at h'; omega
    · simp only [upd, if_neg e] at h' ⊢; exact h.last t' h'

theorem scanInv_run {sc : List (List Call)} {an : List (List (Int × Int))} {tr : List Step} : ∀ (l : List Step) (k : Nat) (st r : St), k ≤ tr.length → tr.drop k = l → ScanInv sc an tr k st → Ofs sc an k l st (some r) → ScanInv sc an tr tr.length r
  | [], k, st, r, hk, hd, hi, h => by
    have hk' : tr.length ≤ k := List.drop_eq_nil_iff.1 hd
    have : k = tr.length := by omega
    subst this
    cases h
    exact hi
  | s :: l, k, st, r, hk, hd, hi, h => by
    have hlt : k < tr.length := by
      rcases Nat.lt_or_ge k tr.length with h' | h'
      · exact h'
      · rw [List.drop_eq_nil_iff.2 h'] at hd; cases hd
    rw [List.drop_eq_getElem_cons hlt] at hd
    have hs : tr.getD k step0 = s := by
      rw [List.getD_eq_getElem?_getD, List.getElem?_eq_getElem hlt]
      exact (List.cons.inj hd).1
    have hd' := (List.cons.inj hd).2
    rcases h with ⟨h1, h2, h⟩ | ⟨_, _, h⟩ | ⟨t, h1, h2, h3, h4, h⟩ | ⟨t, h1, h2, h3, h4, h⟩ | ⟨t, h1, h2, h3, h4, h⟩ | ⟨t, h1, h2, h3, h4, h⟩
    · exact scanInv_run l (k + 1) st r hlt hd' (scanInv_skip hi (by rw [hs]; exact h1) (by rw [hs]; exact h2)) h
    · cases h
    · exact scanInv_run l (k + 1) _ r hlt hd' (scanInv_begin hi (by rw [hs]; exact h3) (by rw [hs]; exact h1) (by rw [hs]; exact h4)) h
    · exact scanInv_run l (k + 1) _ r hlt hd' (scanInv_end hi (by rw [hs]; exact h3) (by rw [hs]; exact h1) (by rw [hs]; exact h4)) h
    · cases h
    · cases h

/-- The events that Of makes, by a look through the whole trace. -/
def refEvs (sc : List (List Call)) (an : List (List (Int × Int))) (tr : List Step) (k : Nat) : List Ev := (begs tr k).map fun i => scan sc an tr i (tr.length - i - 1)

theorem evs_ref {sc : List (List Call)} {an : List (List (Int × Int))} {tr : List Step} {r : St} (h : Ofs sc an 0 tr st0 (some r)) : r.evs = refEvs sc an tr tr.length :=
  (scanInv_run tr 0 st0 r (Nat.zero_le _) rfl (scanInv_start sc an tr) h).evs

end Go.Proofs.Yteniopbmkooomaa
