/- CellRows returns true, whatever the schedule, the values and the scripts, and leaves what it was given as it was: of the law's statement as given, with no condition of our own. Part 30 of 33. (Joined, by program, of: Meas, Trail.) -/
import Derived.Test.YtfjjoohflcchnaaCellRows25
set_option linter.unusedSimpArgs false
set_option linter.unusedVariables false
namespace Go.Proofs.Ytfjjoohflcchnaa
open Go Go.Lift Go.Conc Go.RowKit
open Go.ConcN (upd upd_same upd_ne)

/-- How many calls are left to a thread. -/
def Ph.left : Ph → Nat
  | .turn r _ _ => r.length
  | .wait r _ _ => r.length
  | .done _ => 0
/-- What a seat weighs besides. -/
def wt (S : TS) (t : Thr) : Ph → Nat
  | .turn _ _ _ => 1
  | .wait _ _ _ => if chgOf S.chg t.ce = t.se then 0 else 2
  | .done _ => 0
theorem wt_le (S : TS) (t : Thr) (l : Ph) : wt S t l ≤ 2 := by
  cases l with
  | turn _ _ _ => exact (by decide : 1 ≤ 2)
  | wait _ _ _ => show (if _ then 0 else 2) ≤ 2; split <;> omega
  | done _ => exact Nat.zero_le _
def wtI (p : PSt) (i : Nat) : Nat := 24 * (p.l i).left + wt p.S (thrI p.S i) (p.l i)
def mu (p : PSt) : Nat := (if p.S.stk then 0 else 1) + ((List.range p.S.thr.length).map (wtI p)).sum

theorem sum_le (f g : Nat → Nat) (e : Nat) : ∀ k, (∀ j, j < k → g j ≤ f j + e) → ((List.range k).map g).sum ≤ ((List.range k).map f).sum + e * k
  | 0, _ => by simp
  | k + 1, h => by
    have := sum_le f g e k (fun j hj => h j (by omega))
    have h1 := h k (by omega)
    rw [List.range_succ, List.map_append, List.map_append, List.sum_append, List.sum_append, Nat.mul_succ]
    simp only [List.map_cons, List.map_nil, List.sum_cons, List.sum_nil]
    omega
theorem sum_drop (f g : Nat → Nat) (e d i : Nat) : ∀ k, i < k → (∀ j, j < k → j ≠ i → g j ≤ f j + e) → g i + d ≤ f i → ((List.range k).map g).sum + d ≤ ((List.range k).map f).sum + e * k
  | k + 1, hi, h, hd => by
    rw [List.range_succ, List.map_append, List.map_append, List.sum_append, List.sum_append, Nat.mul_succ]
    simp only [List.map_cons, List.map_nil, List.sum_cons, List.sum_nil]
    by_cases hk : i = k
    · subst hk
      have := sum_le f g e i (fun j hj => h j (by omega) (by omega))
      omega
    · have := sum_drop f g e d i k (by omega) (fun j hj hn => h j (by omega) hn) hd
      have h1 := h k (by omega) (fun e => hk e.symm)
      omega

theorem flow_left (i nk : Nat) : ∀ (rest : List Cl) (ii : Nat) (sk : Bool) (ans : List (Int × Int)) (S : TS), (flow i nk rest ii sk ans S).2.left ≤ rest.length ∧ (flow i nk rest ii sk ans S).1.n + 2 * (flow i nk rest ii sk ans S).2.left ≤ S.n + 2 * rest.length + 1 ∧ (flow i nk rest ii sk ans S).1.chg = S.chg ∧ wt (flow i nk rest ii sk ans S).1 (thrI (flow i nk rest ii sk ans S).1 i) (flow i nk rest ii sk ans S).2 ≤ 1
  | [], ii, sk, ans, S => by cases sk <;> exact ⟨Nat.le_refl _, Nat.le_succ _, rfl, Nat.zero_le _⟩
  | c :: rest, ii, true, ans, S => by
    have := flow_left i nk rest (ii + 1) true (ans.set ii (4, 0)) S
    have e : flow i nk (c :: rest) ii true ans S = flow i nk rest (ii + 1) true (ans.set ii (4, 0)) S := rfl
    rw [e]
    simp only [List.length_cons]
    exact ⟨by omega, by omega, this.2.2⟩
  | c :: rest, ii, false, ans, S => by
    rw [flow_cons]
    split
    · refine ⟨Nat.le_refl _, ?_, rfl, Nat.le_refl _⟩
      show S.n + 1 + 2 * (c :: rest).length ≤ _
      omega
    · have := flow_left i nk rest (ii + 1) false (ans.set ii (1, 0)) (noted (noted S undef i 9 (-1) ii 0) undef i 10 (-1) ii 1)
      have e : (noted (noted S undef i 9 (-1) ii 0) undef i 10 (-1) ii 1).n = S.n + 2 := rfl
      rw [e] at this
      simp only [List.length_cons]
      exact ⟨by omega, by omega, this.2.2⟩
theorem did_n (S : TS) (tv : Value) (i : Nat) (t : Thr) (b a : Int) : (didS S tv i t b a).n = S.n + 1 := by
  unfold didS; split <;> rfl
theorem did_same (S : TS) (tv : Value) (i : Nat) (t : Thr) (b : Int) : didS S tv i t b b = noted S tv i t.op t.ce b b := by
  unfold didS; rw [if_neg (fun h => h.1 rfl)]

/-- A run's state in which all threads sit. -/
structure Good (nk : Nat) (p : PSt) : Prop where
  len : p.S.thr.length ≤ 8
  sit : ∀ i t, p.S.thr[i]? = some t → FitsN nk (p.l i) t ∧ StN (p.l i) t

theorem nextI_in {S : TS} (h : rdyIds S S.thr.length ≠ []) : ∃ t, S.thr[nextI S]? = some t ∧ rdy S t = true := by
  have h0 : 0 < (rdyIds S S.thr.length).length := List.length_pos_iff.2 h
  have h1 := pickAt_lt S h0
  have h2 : nextI S ∈ rdyIds S S.thr.length := by
    unfold nextI
    rw [List.getElem?_eq_getElem h1]
    exact List.getElem_mem h1
  unfold rdyIds at h2
  rw [List.mem_filter] at h2
  cases h3 : S.thr[nextI S]? with
  | none => rw [h3] at h2; cases h2.2
  | some t => rw [h3] at h2; exact ⟨t, rfl, h2.2⟩

section
variable {S : TS} {i : Nat} {t : Thr}
theorem going_thr (ht : S.thr[i]? = some t) : (going S i t).thr[i]? = some { t with st := 0 } := by
  have e : (picked S).thr = S.thr := by unfold picked; split <;> rfl
  show ((picked S).thr.set i _)[i]? = _
  rw [e]
  exact set_get ht
theorem going_oth {j : Nat} (hj : j ≠ i) : (going S i t).thr[j]? = S.thr[j]? := by
  have e : (picked S).thr = S.thr := by unfold picked; split <;> rfl
  show ((picked S).thr.set i _)[j]? = _
  rw [e, List.getElem?_set, if_neg (fun e => hj e.symm)]
theorem going_len : (going S i t).thr.length = S.thr.length := by
  have e : (picked S).thr = S.thr := by unfold picked; split <;> rfl
  show ((picked S).thr.set i _).length = _
  rw [e, List.length_set]
theorem going_keeps : (going S i t).chg = S.chg ∧ (going S i t).stk = S.stk ∧ (going S i t).n = S.n ∧ (going S i t).tr = S.tr := by
  have e : (picked S).chg = S.chg ∧ (picked S).stk = S.stk ∧ (picked S).n = S.n ∧ (picked S).tr = S.tr := by unfold picked; split <;> exact ⟨rfl, rfl, rfl, rfl⟩
  exact e
end

/-- What a thread's going does to what is left: d of its own weight, and what others may gain. -/
theorem resume_mu (nk i : Nat) (l : Ph) (S : TS) (K : List (Nat × Int)) (t : Thr) (ht : S.thr[i]? = some t) (hl : (∃ r k a, l = .turn r k a) ∨ ∃ r k a, l = .wait r k a) (hf : FitsN nk l t) (hr : ∀ r k a, l = .wait r k a → S.stk = true ∨ chgOf S.chg t.ce ≠ t.se) :
    ((resume i nk l S K).1.chg = S.chg ∧ (resume i nk l S K).1.n ≤ S.n + 1 ∧ 24 * (resume i nk l S K).2.2.left + wt (resume i nk l S K).1 (thrI (resume i nk l S K).1 i) (resume i nk l S K).2.2 + 1 ≤ 24 * l.left + wt S t l) ∨
    ∃ s, (resume i nk l S K).2.2.left + s + 1 = l.left ∧ wt (resume i nk l S K).1 (thrI (resume i nk l S K).1 i) (resume i nk l S K).2.2 ≤ 1 ∧ (resume i nk l S K).1.n ≤ S.n + 3 + 2 * s := by
  have hb : ∀ (rest : List Cl) (ii : Nat) (ans : List (Int × Int)) (e x : Int) (S1 : TS) (K1 : List (Nat × Int)), S1.n ≤ S.n + 1 → ∃ s, (back i nk rest ii ans e x S1 K1).2.2.left + s = rest.length ∧ wt (back i nk rest ii ans e x S1 K1).1 (thrI (back i nk rest ii ans e x S1 K1).1 i) (back i nk rest ii ans e x S1 K1).2.2 ≤ 1 ∧ (back i nk rest ii ans e x S1 K1).1.n ≤ S.n + 3 + 2 * s := fun rest ii ans e x S1 K1 h1 => by
    have := flow_left i nk rest (ii + 1) (e == 4) (ans.set ii (e, x)) (noted S1 undef i 10 (-1) ii e)
    have e2 : (noted S1 undef i 10 (-1) ii e).n = S1.n + 1 := rfl
    rw [e2] at this
    unfold back
    refine ⟨rest.length - (flow i nk rest (ii + 1) (e == 4) (ans.set ii (e, x)) (noted S1 undef i 10 (-1) ii e)).2.left, ?_, this.2.2.2, ?_⟩
    · show (flow i nk rest (ii + 1) (e == 4) (ans.set ii (e, x)) (noted S1 undef i 10 (-1) ii e)).2.left + _ = _
      omega
    · show (flow i nk rest (ii + 1) (e == 4) (ans.set ii (e, x)) (noted S1 undef i 10 (-1) ii e)).1.n ≤ _
      omega
  have eth : thrI S i = t := thrI_of ht
  match l, hf, hl, hr with
  | .turn (c :: rest) ii ans, hf, _, hr =>
    rw [resume_turn]
    split
    · split
      · obtain ⟨s, h1, h2, h3⟩ := hb rest ii ans 4 0 (didS S undef i (thrI S i) c.cb c.cb) K (by rw [did_n]; exact Nat.le_refl _)
        exact .inr ⟨s, by show _ + s + 1 = rest.length + 1; omega, h2, h3⟩
      · left
        rw [did_same]
        refine ⟨rfl, Nat.le_refl _, ?_⟩
        have e1 : thrI (waiting (noted S undef i (thrI S i).op (thrI S i).ce c.cb c.cb) i (thrI S i) 2 6 (which c.ca nk)) i = { t with st := 2, ce := which c.ca nk, op := 6, se := chgOf S.chg (which c.ca nk) } := by
          rw [eth]
          exact thrI_of (set_get (S := noted S undef i t.op t.ce c.cb c.cb) ht)
        show 24 * (c :: rest).length + wt _ _ (.wait (c :: rest) ii ans) + 1 ≤ 24 * (c :: rest).length + 1
        have e2 : wt (waiting (noted S undef i (thrI S i).op (thrI S i).ce c.cb c.cb) i (thrI S i) 2 6 (which c.ca nk)) (thrI (waiting (noted S undef i (thrI S i).op (thrI S i).ce c.cb c.cb) i (thrI S i) 2 6 (which c.ca nk)) i) (.wait (c :: rest) ii ans) = 0 := by
          rw [e1]
          exact if_pos rfl
        rw [show wt _ _ (Ph.wait (c :: rest) ii ans) = 0 from e2]
        exact Nat.le_refl _
    · obtain ⟨s, h1, h2, h3⟩ := hb rest ii ans (ansC c (cellAt K (which c.ca nk)).2).1 (ansC c (cellAt K (which c.ca nk)).2).2 (didS S undef i (thrI S i) (effC c (cellAt K (which c.ca nk)).2).1.1 (effC c (cellAt K (which c.ca nk)).2).1.2) (K.set (which c.ca nk) ((cellAt K (which c.ca nk)).1, (effC c (cellAt K (which c.ca nk)).2).2.1)) (by rw [did_n]; exact Nat.le_refl _)
      exact .inr ⟨s, by show _ + s + 1 = rest.length + 1; omega, h2, h3⟩
  | .wait (c :: rest) ii ans, hf, _, hr =>
    rw [resume_wait]
    split
    · obtain ⟨s, h1, h2, h3⟩ := hb rest ii ans 4 0 S K (Nat.le_succ _)
      exact .inr ⟨s, by show _ + s + 1 = rest.length + 1; omega, h2, h3⟩
    · rename_i hs
      left
      refine ⟨rfl, Nat.le_refl _, ?_⟩
      have h2 : wt S t (.wait (c :: rest) ii ans) = 2 := if_neg ((hr _ _ _ rfl).resolve_left (by simpa using hs))
      rw [h2]
      show 24 * (c :: rest).length + 1 + 1 ≤ _
      exact Nat.le_refl _
  | .turn [] _ _, hf, _, _ => exact hf.elim
  | .wait [] _ _, hf, _, _ => exact hf.elim
  | .done _, _, hl, _ => exact absurd hl (by simp)

theorem resume_good (nk i : Nat) (l : Ph) (S : TS) (K : List (Nat × Int)) (t : Thr) (ht : S.thr[i]? = some t) (hl : (∃ r k a, l = .turn r k a) ∨ ∃ r k a, l = .wait r k a) (hf : FitsN nk l t) :
    ∃ t', (resume i nk l S K).1.thr[i]? = some t' ∧ FitsN nk (resume i nk l S K).2.2 t' ∧ StN (resume i nk l S K).2.2 t' := by
  match l, hf, hl with
  | .turn (c :: rest) ii ans, hf, _ =>
    obtain ⟨t1, h1, h2⟩ := resume_fits i nk c rest ii ans S K t ht _ (.inl rfl) hf
    obtain ⟨t2, k1, k2⟩ := resume_st i nk c rest ii ans S K t ht _ (.inl rfl)
    rw [h1] at k1; cases k1
    exact ⟨t1, h1, h2, k2⟩
  | .wait (c :: rest) ii ans, hf, _ =>
    obtain ⟨t1, h1, h2⟩ := resume_fits i nk c rest ii ans S K t ht _ (.inr rfl) hf
    obtain ⟨t2, k1, k2⟩ := resume_st i nk c rest ii ans S K t ht _ (.inr rfl)
    rw [h1] at k1; cases k1
    exact ⟨t1, h1, h2, k2⟩
  | .turn [] _ _, hf, _ => exact hf.elim
  | .wait [] _ _, hf, _ => exact hf.elim
  | .done _, _, hl => exact absurd hl (by simp)

theorem fits_st0 {nk : Nat} {l : Ph} {t : Thr} (hl : (∃ r k a, l = .turn r k a) ∨ ∃ r k a, l = .wait r k a) (h : FitsN nk l t) : FitsN nk l { t with st := 0 } := by
  match l, h, hl with
  | .turn (c :: _) _ _, h, _ => exact h
  | .turn [] _ _, h, _ => exact h.elim
  | .wait (c :: _) _ _, h, _ => exact h
  | .wait [] _ _, h, _ => exact h.elim
  | .done _, _, hl => exact absurd hl (by simp)

theorem pturn_mu {nk : Nat} {p p1 : PSt} (g : Good nk p) (e : pturn nk p = some p1) : Good nk p1 ∧ mu p1 < mu p ∧ p1.S.n + mu p1 ≤ p.S.n + mu p := by
  unfold pturn at e
  split at e
  · rename_i h0
    split at e
    · rename_i hw
      cases e
      unfold waits2 at hw
      rw [List.any_eq_true] at hw
      obtain ⟨i, hi, hst⟩ := hw
      cases ht : p.S.thr[i]? with
      | none => rw [ht] at hst; cases hst
      | some t =>
        rw [ht] at hst
        have hst : t.st = 2 := by simpa using hst
        have hs : p.S.stk = false := by
          cases hs : p.S.stk with
          | false => rfl
          | true =>
            have : i ∈ rdyIds p.S p.S.thr.length := by
              unfold rdyIds
              rw [List.mem_filter]
              exact ⟨hi, by rw [ht]; simp [rdy, hst, hs]⟩
            rw [h0] at this; cases this
        have hmu : mu ⟨stuckS p.S undef, p.K, p.l⟩ + 1 = mu p := by
          unfold mu
          rw [hs]
          show 0 + ((List.range p.S.thr.length).map (wtI ⟨stuckS p.S undef, p.K, p.l⟩)).sum + 1 = 1 + _
          have : wtI ⟨stuckS p.S undef, p.K, p.l⟩ = wtI p := rfl
          rw [this]; omega
        refine ⟨⟨g.len, g.sit⟩, by omega, ?_⟩
        show p.S.n + 1 + _ ≤ _
        omega
    · cases e
  · rename_i h0
    obtain ⟨t, ht, hrd⟩ := nextI_in h0
    generalize hi : nextI p.S = i at ht e
    have eth : thrI p.S i = t := thrI_of ht
    rw [eth] at e
    obtain ⟨hfit, hst⟩ := g.sit i t ht
    have hl : (∃ r k a, p.l i = .turn r k a) ∨ ∃ r k a, p.l i = .wait r k a := by
      match hpl : p.l i, hst with
      | .turn r k a, _ => exact .inl ⟨r, k, a, rfl⟩
      | .wait r k a, _ => exact .inr ⟨r, k, a, rfl⟩
      | .done a, hst =>
        exfalso
        have : t.st = 3 := hst
        simp [rdy, this] at hrd
    have hk := going_keeps (S := p.S) (i := i) (t := t)
    have hgt := going_thr ht
    have hw : ∀ r k a, p.l i = .wait r k a → (going p.S i t).stk = true ∨ chgOf (going p.S i t).chg ({ t with st := 0 } : Thr).ce ≠ ({ t with st := 0 } : Thr).se := fun r k a hpl => by
      rw [hpl] at hst
      have hst : t.st = 2 := hst
      rw [hk.1, hk.2.1]
      have : p.S.stk = true ∨ ¬ chgOf p.S.chg t.ce = t.se := by simpa [rdy, hst] using hrd
      exact this
    have hm := resume_mu nk i (p.l i) (going p.S i t) p.K { t with st := 0 } hgt hl (fits_st0 hl hfit) hw
    have hg := resume_good nk i (p.l i) (going p.S i t) p.K { t with st := 0 } hgt hl (fits_st0 hl hfit)
    have sta := resume_sta i nk (p.l i) (going p.S i t) p.K
    generalize resume i nk (p.l i) (going p.S i t) p.K = R at e hm hg sta
    cases e
    have hilt : i < p.S.thr.length := (List.getElem?_eq_some_iff.1 ht).1
    have hlen : R.1.thr.length = p.S.thr.length := by rw [sta.len, going_len]
    have hoth : ∀ j, j ≠ i → R.1.thr[j]? = p.S.thr[j]? := fun j hj => by rw [sta.oth j hj, going_oth hj]
    have hstk : R.1.stk = p.S.stk := by rw [sta.stk, hk.2.1]
    have hwi : wtI ⟨R.1, R.2.1, upd p.l i R.2.2⟩ i = 24 * R.2.2.left + wt R.1 (thrI R.1 i) R.2.2 := by
      show 24 * (upd p.l i R.2.2 i).left + wt R.1 (thrI R.1 i) (upd p.l i R.2.2 i) = _
      rw [upd_same]
    have hwi0 : wtI p i = 24 * (p.l i).left + wt p.S t (p.l i) := by unfold wtI; rw [eth]
    have hwt : wt (going p.S i t) { t with st := 0 } (p.l i) = wt p.S t (p.l i) := by
      cases p.l i with
      | turn _ _ _ => rfl
      | done _ => rfl
      | wait _ _ _ => show (if chgOf (going p.S i t).chg t.ce = t.se then 0 else 2) = if _ then 0 else 2; rw [hk.1]
    rw [hwt] at hm
    have hj : ∀ j, j ≠ i → thrI R.1 j = thrI p.S j := fun j hne => by unfold thrI; rw [hoth j hne]
    have key : ∃ d, 1 ≤ d ∧ R.1.n ≤ p.S.n + d ∧ ((List.range R.1.thr.length).map (wtI ⟨R.1, R.2.1, upd p.l i R.2.2⟩)).sum + d ≤ ((List.range p.S.thr.length).map (wtI p)).sum := by
      rw [hlen]
      rcases hm with ⟨m1, m2, m3⟩ | ⟨s, m1, m2, m3⟩
      · refine ⟨1, Nat.le_refl _, by rw [hk.2.2.1] at m2; exact m2, ?_⟩
        have := sum_drop (wtI p) (wtI ⟨R.1, R.2.1, upd p.l i R.2.2⟩) 0 1 i p.S.thr.length hilt (fun j _ hne => by
          show 24 * (upd p.l i R.2.2 j).left + wt R.1 (thrI R.1 j) (upd p.l i R.2.2 j) ≤ _
          rw [upd_ne _ _ hne, hj j hne]
          have e3 : wt R.1 (thrI p.S j) (p.l j) = wt p.S (thrI p.S j) (p.l j) := by
            cases p.l j with
            | turn _ _ _ => rfl
            | done _ => rfl
            | wait _ _ _ => show (if chgOf R.1.chg _ = _ then 0 else 2) = if _ then 0 else 2; rw [m1, hk.1]
          rw [e3]
          exact Nat.le_refl _) (by rw [hwi, hwi0]; exact m3)
        omega
      · refine ⟨3 + 2 * s, by omega, by rw [hk.2.2.1] at m3; omega, ?_⟩
        have := sum_drop (wtI p) (wtI ⟨R.1, R.2.1, upd p.l i R.2.2⟩) 2 (23 + 24 * s) i p.S.thr.length hilt (fun j _ hne => by
          show 24 * (upd p.l i R.2.2 j).left + wt R.1 (thrI R.1 j) (upd p.l i R.2.2 j) ≤ _
          rw [upd_ne _ _ hne]
          have := wt_le R.1 (thrI R.1 j) (p.l j)
          unfold wtI
          omega) (by rw [hwi, hwi0]; omega)
        have h8 := g.len
        omega
    obtain ⟨d, d1, d2, d3⟩ := key
    refine ⟨⟨by rw [hlen]; exact g.len, fun j tj htj => ?_⟩, ?_, ?_⟩
    · by_cases hne : j = i
      · subst hne
        obtain ⟨t', g1, g2⟩ := hg
        have htj : R.1.thr[j]? = some tj := htj
        rw [g1] at htj
        obtain rfl := Option.some.inj htj
        show FitsN nk (upd p.l j R.2.2 j) _ ∧ StN (upd p.l j R.2.2 j) _
        rw [upd_same]
        exact g2
      · show FitsN nk (upd p.l i R.2.2 j) tj ∧ StN (upd p.l i R.2.2 j) tj
        rw [upd_ne _ _ hne]
        have htj : R.1.thr[j]? = some tj := htj
        exact g.sit j tj (by rw [← hoth j hne]; exact htj)
    · unfold mu
      show (if R.1.stk then 0 else 1) + ((List.range R.1.thr.length).map (wtI ⟨R.1, R.2.1, upd p.l i R.2.2⟩)).sum < _
      rw [hstk]
      omega
    · unfold mu
      show R.1.n + ((if R.1.stk then 0 else 1) + ((List.range R.1.thr.length).map (wtI ⟨R.1, R.2.1, upd p.l i R.2.2⟩)).sum) ≤ _
      rw [hstk]
      omega

/-- The turns come to an end. -/
theorem turns_end {nk : Nat} : ∀ (m : Nat) (p : PSt), mu p ≤ m → Good nk p → ∃ n p', n ≤ m ∧ Turns nk n p p' ∧ p'.S.n ≤ p.S.n + mu p := by
  intro m
  induction m with
  | zero =>
    intro p hm g
    cases e : pturn nk p with
    | none => exact ⟨0, p, Nat.le_refl _, .stop e, Nat.le_add_right _ _⟩
    | some p1 => have := (pturn_mu g e).2.1; omega
  | succ m ih =>
    intro p hm g
    cases e : pturn nk p with
    | none => exact ⟨0, p, Nat.zero_le _, .stop e, Nat.le_add_right _ _⟩
    | some p1 =>
      obtain ⟨g1, h1, h2⟩ := pturn_mu g e
      obtain ⟨n, p', k1, k2, k3⟩ := ih p1 (by omega) g1
      exact ⟨n + 1, p', by omega, .step e k2, by omega⟩

/-- Behind the hiring all threads sit. -/
theorem hires_good {nk : Nat} {k : Nat} {ss : List Scr} {S S' : TS} {l l' : Nat → Ph} (h : Hires nk k ss S l S' l') (hk : S.thr.length = k) (h8 : k + ss.length ≤ 8) (hs : ∀ i t, S.thr[i]? = some t → FitsN nk (l i) t ∧ StN (l i) t) :
    S'.thr.length = k + ss.length ∧ (∀ i t, S'.thr[i]? = some t → FitsN nk (l' i) t ∧ StN (l' i) t) ∧ S'.n ≤ S.n + 2 * lens ss ∧ ((List.range S'.thr.length).map fun i => (l' i).left).sum ≤ ((List.range S.thr.length).map fun i => (l i).left).sum + lens ss := by
  induction h with
  | nil => exact ⟨by simpa using hk, hs, Nat.le_add_right _ _, Nat.le_add_right _ _⟩
  | @cons k s ss S S' l l' tv tb gc h ih =>
    have hlen : (hiredS S tv tb gc).thr.length = k + 1 := by simp [hiredS, hk]
    obtain ⟨t0, ht0⟩ : ∃ t0, (hiredS S tv tb gc).thr[k]? = some t0 := ⟨_, List.getElem?_eq_getElem (by omega)⟩
    have sta := flow_sta k nk s.calls 0 false s.ans (hiredS S tv tb gc)
    obtain ⟨t1, f1, f2⟩ := flow_fits k nk s.calls 0 false s.ans (hiredS S tv tb gc) t0 ht0
    obtain ⟨t2, g1, g2⟩ := flow_st k nk s.calls 0 false s.ans (hiredS S tv tb gc) t0 ht0
    rw [f1] at g1; cases g1
    have hle := flow_le k nk s.calls 0 false s.ans (hiredS S tv tb gc)
    have hlf := (flow_left k nk s.calls 0 false s.ans (hiredS S tv tb gc)).1
    have hn0 : (hiredS S tv tb gc).n = S.n := rfl
    simp only [List.length_cons] at h8
    obtain ⟨i1, i2, i3, i4⟩ := ih (by rw [sta.len, hlen]) (by omega) (fun i t ht => by
      by_cases hi : i = k
      · subst hi
        rw [f1] at ht; cases ht
        rw [upd_same]
        exact ⟨f2, g2⟩
      · rw [upd_ne _ _ hi]
        rw [sta.oth i hi] at ht
        refine hs i t ?_
        have : i < k := by
          have := (List.getElem?_eq_some_iff.1 ht).1
          omega
        simpa [hiredS, List.getElem?_append, hk, this] using ht)
    refine ⟨by rw [i1]; simp only [List.length_cons]; omega, i2, ?_, ?_⟩
    · simp only [lens, List.map_cons, List.sum_cons] at i3 ⊢
      omega
    · have e1 : (flow k nk s.calls 0 false s.ans (hiredS S tv tb gc)).1.thr.length = k + 1 := by rw [sta.len, hlen]
      rw [e1, List.range_succ, List.map_append, List.sum_append] at i4
      simp only [List.map_cons, List.map_nil, List.sum_cons, List.sum_nil] at i4
      rw [upd_same] at i4
      have e2 : (List.range k).map (fun i => (upd l k (flow k nk s.calls 0 false s.ans (hiredS S tv tb gc)).2 i).left) = (List.range k).map (fun i => (l i).left) := List.map_congr_left (fun i hi => by
        have : i < k := List.mem_range.1 hi
        rw [upd_ne _ _ (by omega)])
      rw [e2] at i4
      rw [hk]
      simp only [lens, List.map_cons, List.sum_cons] at i4 ⊢
      omega

theorem mu_le (p : PSt) (h8 : p.S.thr.length ≤ 8) : mu p ≤ 17 + 24 * ((List.range p.S.thr.length).map fun i => (p.l i).left).sum := by
  have h : ∀ k, ((List.range k).map (wtI p)).sum ≤ 24 * ((List.range k).map fun i => (p.l i).left).sum + 2 * k := fun k => by
    induction k with
    | zero => simp
    | succ k ih =>
      rw [List.range_succ, List.map_append, List.map_append, List.sum_append, List.sum_append]
      simp only [List.map_cons, List.map_nil, List.sum_cons, List.sum_nil]
      have := wt_le p.S (thrI p.S k) (p.l k)
      unfold wtI at ih ⊢
      omega
  have := h p.S.thr.length
  unfold mu
  split <;> omega

/-- So a Play of up to eight scripts comes to its end. -/
theorem play_ends {nk : Nat} {ss : List Scr} {S S1 : TS} {l0 l1 : Nat → Ph} {K : List (Nat × Int)} (h : Hires nk 0 ss S l0 S1 l1) (h0 : S.thr = []) (h8 : ss.length ≤ 8) (hl : lens ss ≤ 512) (hn : S.n = 0) :
    ∃ m p', m ≤ 12305 ∧ Turns nk m ⟨S1, K, l1⟩ p' ∧ p'.S.n * 40 ≤ 140737488355328 := by
  obtain ⟨a1, a2, a3, a4⟩ := hires_good h (by rw [h0]; rfl) (by omega) (fun i t ht => by rw [h0] at ht; cases ht)
  have g : Good nk ⟨S1, K, l1⟩ := ⟨by show S1.thr.length ≤ 8; omega, a2⟩
  have hm := mu_le ⟨S1, K, l1⟩ g.len
  rw [h0] at a4
  simp only [List.length_nil, List.range_zero, List.map_nil, List.sum_nil] at a4
  have hm2 : mu ⟨S1, K, l1⟩ ≤ 12305 := by
    refine Nat.le_trans hm ?_
    show 17 + 24 * ((List.range S1.thr.length).map fun i => (l1 i).left).sum ≤ 12305
    omega
  obtain ⟨m, p', k1, k2, k3⟩ := turns_end 12305 ⟨S1, K, l1⟩ hm2 g
  refine ⟨m, p', k1, k2, ?_⟩
  have k3 : p'.S.n ≤ S1.n + mu ⟨S1, K, l1⟩ := k3
  omega
end Go.Proofs.Ytfjjoohflcchnaa

namespace Go.Proofs.Ytfjjoohflcchnaa
open Go Go.Lift Go.Conc Go.RowKit
open Go.ConcN (upd upd_same upd_ne)

/-- A step of a trace. -/
structure Stp where
  th : Int
  ce : Int
  op : Int
  ol : Int
  ne : Int
def flat (L : List Stp) : List Value := L.flatMap fun s => [I s.th, I s.ce, I s.op, I s.ol, I s.ne]
theorem flat_app (a b : List Stp) : flat (a ++ b) = flat a ++ flat b := List.flatMap_append
theorem flat_get : ∀ (L : List Stp) (k : Nat) (s : Stp), L[k]? = some s → (flat L)[k * 5]? = some (I s.th) ∧ (flat L)[k * 5 + 1]? = some (I s.ce) ∧ (flat L)[k * 5 + 2]? = some (I s.op) ∧ (flat L)[k * 5 + 3]? = some (I s.ol) ∧ (flat L)[k * 5 + 4]? = some (I s.ne)
  | b :: l, 0, a, h => by obtain rfl : b = a := by simpa using h
                          exact ⟨rfl, rfl, rfl, rfl, rfl⟩
  | b :: l, k + 1, a, h => by
    have := flat_get l k a (by simpa using h)
    have e : flat (b :: l) = I b.th :: I b.ce :: I b.op :: I b.ol :: I b.ne :: flat l := rfl
    rw [e]
    have e0 : ∀ j, (I b.th :: I b.ce :: I b.op :: I b.ol :: I b.ne :: flat l)[j + 5]? = (flat l)[j]? := fun j => rfl
    rw [show (k + 1) * 5 = k * 5 + 5 by omega, show k * 5 + 5 + 1 = (k * 5 + 1) + 5 by omega, show k * 5 + 5 + 2 = (k * 5 + 2) + 5 by omega, show k * 5 + 5 + 3 = (k * 5 + 3) + 5 by omega, show k * 5 + 5 + 4 = (k * 5 + 4) + 5 by omega]
    simp only [e0]
    exact this
theorem flat_one (L : List Stp) : ∀ u ∈ flat L, u.oneCell' = true := fun u hu => by
  simp only [flat, List.mem_flatMap] at hu
  obtain ⟨s, _, hu⟩ := hu
  simp only [List.mem_cons, List.not_mem_nil, or_false] at hu
  rcases hu with rfl | rfl | rfl | rfl | rfl <;> rfl

/-- A step of a cell: what stands there then; none: it did not begin where the one ahead left it. -/
def rstep (now : List Int) (s : Stp) : Option (List Int) :=
  if s.op < 1 ∨ 5 < s.op then some now
  else if 0 ≤ s.ce ∧ now[s.ce.toNat]? = some s.ol ∧ (s.op = 1 → s.ne = s.ol) then some (now.set s.ce.toNat s.ne) else none
def replay : List Int → List Stp → Option (List Int)
  | now, [] => some now
  | now, s :: L => match rstep now s with
    | some n => replay n L
    | none => none
theorem replay_app (a b : List Stp) : ∀ now, replay now (a ++ b) = (replay now a).bind fun n => replay n b := by
  induction a with
  | nil => intro now; rfl
  | cons s a ih =>
    intro now
    simp only [List.cons_append, replay]
    cases rstep now s with
    | none => rfl
    | some n => exact ih n
theorem replay_quiet (now : List Int) : ∀ (L : List Stp), (∀ s ∈ L, s.op < 1 ∨ 5 < s.op) → replay now L = some now
  | [], _ => rfl
  | s :: L, h => by
    have : rstep now s = some now := by unfold rstep; rw [if_pos (h s (List.mem_cons_self))]
    simp only [replay, this]
    exact replay_quiet now L (fun x hx => h x (List.mem_cons_of_mem _ hx))

def InR (x : Int) : Prop := -9223372036854775808 ≤ x ∧ x < 9223372036854775808
/-- A call's numbers are ints. -/
def Cl.ok (c : Cl) : Prop := InR c.cb ∧ InR c.cc
def Ph.ok : Ph → Prop
  | .turn r _ _ => (∀ c ∈ r, c.ok) ∧ ∀ c r', r = c :: r' → 1 ≤ c.po ∧ c.po ≤ 6
  | .wait r _ _ => ∀ c ∈ r, c.ok
  | .done _ => True

/-- The trace so far leads from the values to what stands in the cells now. -/
structure TrS (xs : List Int) (S : TS) (K : List (Nat × Int)) : Prop where
  tr : ∃ L, S.tr = flat L ∧ S.n = L.length ∧ replay xs L = some (K.map (·.2))
  inr : ∀ c ∈ K, InR c.2
structure Trail (xs : List Int) (p : PSt) : Prop where
  at_ : TrS xs p.S p.K
  ok : ∀ i, (p.l i).ok

/-- What is added to a trace. -/
structure Adds (S S' : TS) (L : List Stp) : Prop where
  tr : S'.tr = S.tr ++ flat L
  n : S'.n = S.n + L.length
theorem Adds.refl (S : TS) : Adds S S [] := ⟨by simp [flat], rfl⟩
theorem Adds.trans {S S1 S2 : TS} {L L' : List Stp} (h : Adds S S1 L) (k : Adds S1 S2 L') : Adds S S2 (L ++ L') := ⟨by rw [k.tr, h.tr, flat_app, List.append_assoc], by rw [k.n, h.n, List.length_append, Nat.add_assoc]⟩
theorem adds_noted (S : TS) (tv : Value) (i : Nat) (op ce ol ne : Int) : Adds S (noted S tv i op ce ol ne) [⟨i, ce, op, ol, ne⟩] := ⟨rfl, rfl⟩
theorem adds_did (S : TS) (tv : Value) (i : Nat) (t : Thr) (b a : Int) : Adds S (didS S tv i t b a) [⟨i, t.ce, t.op, b, a⟩] := by
  unfold didS
  split <;> exact ⟨rfl, rfl⟩
theorem flow_adds (i nk : Nat) : ∀ (rest : List Cl) (ii : Nat) (sk : Bool) (ans : List (Int × Int)) (S : TS), (∀ c ∈ rest, c.ok) → ∃ L, Adds S (flow i nk rest ii sk ans S).1 L ∧ (∀ s ∈ L, s.op < 1 ∨ 5 < s.op) ∧ (flow i nk rest ii sk ans S).2.ok
  | [], ii, sk, ans, S, _ => by cases sk <;> exact ⟨[], ⟨(by simp [flat]; rfl), rfl⟩, (fun _ h => nomatch h), trivial⟩
  | c :: rest, ii, true, ans, S, h => flow_adds i nk rest (ii + 1) true _ S (fun x hx => h x (List.mem_cons_of_mem _ hx))
  | c :: rest, ii, false, ans, S, h => by
    rw [flow_cons]
    split
    · exact ⟨[⟨i, -1, 9, ii, 0⟩], ⟨rfl, rfl⟩, fun s hs => by
        have := List.mem_singleton.1 hs
        subst this
        right; exact (by decide : (5 : Int) < 9), h, fun c' r' e => by
        cases e
        exact ‹_›⟩
    · obtain ⟨L, h1, h2, h3⟩ := flow_adds i nk rest (ii + 1) false (ans.set ii (1, 0)) (noted (noted S undef i 9 (-1) ii 0) undef i 10 (-1) ii 1) (fun x hx => h x (List.mem_cons_of_mem _ hx))
      refine ⟨_, ((adds_noted S undef i 9 (-1) ii 0).trans (adds_noted _ undef i 10 (-1) ii 1)).trans h1, fun s hs => ?_, h3⟩
      simp only [List.cons_append, List.nil_append, List.mem_cons] at hs
      rcases hs with rfl | rfl | hs
      · right; exact (by decide : (5 : Int) < 9)
      · right; exact (by decide : (5 : Int) < 10)
      · exact h2 s hs

theorem wrap_in (x : Int) : InR (wrap64 x) := by
  unfold InR wrap64
  omega
theorem wrap_back {x n : Int} (hx : InR x) : wrap64 (wrap64 (x + n) - n) = x := by
  unfold InR at hx
  unfold wrap64
  omega

/-- A step that a turn does. -/
theorem eff_step {c : Cl} {x : Int} (hx : InR x) (hc : c.ok) : (effC c x).1.1 = x ∧ (effC c x).1.2 = (effC c x).2.1 ∧ InR (effC c x).2.1 ∧ (opn c.po = 1 → (effC c x).2.1 = x) := by
  unfold effC opn
  obtain ⟨h1, h2⟩ := hc
  split
  · rename_i e
    exact ⟨rfl, rfl, h1, fun h => by rw [e] at h; simp at h⟩
  · split
    · rename_i e
      exact ⟨rfl, rfl, h1, fun h => by rw [e] at h; simp at h⟩
    · split
      · rename_i e
        unfold effCas
        split
        · rename_i ex
          exact ⟨ex.symm, rfl, h2, fun h => by rw [e] at h; simp at h⟩
        · exact ⟨rfl, rfl, hx, fun _ => rfl⟩
      · split
        · rename_i e
          exact ⟨wrap_back hx, rfl, wrap_in _, fun h => by rw [e] at h; simp at h⟩
        · exact ⟨rfl, rfl, hx, fun _ => rfl⟩

theorem opn_in {po : Int} (h : 1 ≤ po ∧ po ≤ 6) : ¬ (opn po < 1 ∨ 5 < opn po) := by
  unfold opn
  split <;> omega

section
variable {xs : List Int} {S S' : TS} {K : List (Nat × Int)} {L : List Stp}
theorem TrS.quiet (h : TrS xs S K) (a : Adds S S' L) (q : ∀ s ∈ L, s.op < 1 ∨ 5 < s.op) : TrS xs S' K := by
  obtain ⟨L0, h1, h2, h3⟩ := h.tr
  refine ⟨⟨L0 ++ L, by rw [a.tr, h1, flat_app], by rw [a.n, h2, List.length_append], ?_⟩, h.inr⟩
  rw [replay_app, h3]
  exact replay_quiet _ L q
theorem cellAt_get {j : Nat} (hj : j < K.length) : K[j]? = some (cellAt K j) := by
  unfold cellAt
  rw [List.getElem?_eq_getElem hj]
  rfl
theorem kset_cellAt {j : Nat} (hj : j < K.length) : K.set j (cellAt K j) = K := by
  have : cellAt K j = K[j] := by unfold cellAt; rw [List.getElem?_eq_getElem hj]; rfl
  rw [this]
  exact List.set_getElem_self hj
theorem TrS.step (h : TrS xs S K) {th : Int} {j : Nat} {op x y : Int} (hj : j < K.length) (hop : ¬ (op < 1 ∨ 5 < op)) (a : Adds S S' [⟨th, j, op, x, y⟩]) (hx : (cellAt K j).2 = x) (hy : InR y) (h1 : op = 1 → y = x) : TrS xs S' (K.set j ((cellAt K j).1, y)) := by
  obtain ⟨L0, g1, g2, g3⟩ := h.tr
  refine ⟨⟨L0 ++ [⟨th, j, op, x, y⟩], by rw [a.tr, g1, flat_app], by rw [a.n, g2, List.length_append], ?_⟩, fun c hc => ?_⟩
  · rw [replay_app, g3]
    show replay (K.map (·.2)) [⟨th, j, op, x, y⟩] = _
    have e : rstep (K.map (·.2)) ⟨th, j, op, x, y⟩ = some ((K.map (·.2)).set j y) := by
      unfold rstep
      rw [if_neg hop, if_pos ⟨Int.natCast_nonneg _, by
        show (K.map (·.2))[((j : Int)).toNat]? = some x
        rw [Int.toNat_natCast, List.getElem?_map, cellAt_get hj, ← hx]
        rfl, h1⟩]
      rfl
    simp only [replay, e]
    rw [List.map_set]
  · rcases List.mem_or_eq_of_mem_set hc with h2 | rfl
    · exact h.inr c h2
    · exact hy
theorem adds_wait (S : TS) (i : Nat) (t : Thr) (s o c : Int) : Adds S (waiting S i t s o c) [] := ⟨by simp [flat]; rfl, rfl⟩
theorem adds_going (S : TS) (i : Nat) (t : Thr) : Adds S (going S i t) [] := by
  have := going_keeps (S := S) (i := i) (t := t)
  exact ⟨by rw [this.2.2.2]; simp [flat], this.2.2.1⟩
theorem adds_stuck (S : TS) (tv : Value) : Adds S (stuckS S tv) [⟨-1, -1, 7, 0, 0⟩] := ⟨rfl, rfl⟩
theorem back_trail (i nk : Nat) {rest : List Cl} (hok : ∀ c ∈ rest, c.ok) (ii : Nat) (ans : List (Int × Int)) (e x : Int) (h : TrS xs S K) : TrS xs (back i nk rest ii ans e x S K).1 K ∧ (back i nk rest ii ans e x S K).2.1 = K ∧ (back i nk rest ii ans e x S K).2.2.ok := by
  obtain ⟨L, h1, h2, h3⟩ := flow_adds i nk rest (ii + 1) (e == 4) (ans.set ii (e, x)) (noted S undef i 10 (-1) ii e) hok
  refine ⟨h.quiet ((adds_noted S undef i 10 (-1) ii e).trans h1) (fun s hs => ?_), rfl, h3⟩
  simp only [List.cons_append, List.nil_append, List.mem_cons] at hs
  rcases hs with rfl | hs
  · right; exact (by decide : (5 : Int) < 10)
  · exact h2 s hs
theorem resume_trail (i : Nat) (l : Ph) (S : TS) (t : Thr) (hk : 0 < K.length) (ht : S.thr[i]? = some t) (hl : (∃ r k a, l = .turn r k a) ∨ ∃ r k a, l = .wait r k a) (hf : FitsN K.length l t) (hok : l.ok) (h : TrS xs S K) :
    TrS xs (resume i K.length l S K).1 (resume i K.length l S K).2.1 ∧ (resume i K.length l S K).2.2.ok ∧ (resume i K.length l S K).2.1.length = K.length := by
  have eth : thrI S i = t := thrI_of ht
  match l, hf, hl, hok with
  | .turn (c :: rest) ii ans, hf, _, hok =>
    have hj := which_lt c.ca hk
    have hin := hok.2 c rest rfl
    have hr : ∀ x ∈ rest, x.ok := fun x hx => hok.1 x (List.mem_cons_of_mem _ hx)
    have hx : InR (cellAt K (which c.ca K.length)).2 := h.inr _ (List.mem_of_getElem? (cellAt_get hj))
    have hst := eff_step hx (hok.1 c List.mem_cons_self)
    rw [resume_turn, eth]
    split
    · rename_i hc
      have a0 := adds_did S undef i t c.cb c.cb
      rw [hf.1, hf.2] at a0
      have h0 : TrS xs (didS S undef i t c.cb c.cb) K := by
        have := h.step hj (opn_in hin) a0 hc.2 (by rw [← hc.2]; exact hx) (fun _ => rfl)
        rw [show ((cellAt K (which c.ca K.length)).1, c.cb) = cellAt K (which c.ca K.length) by rw [← hc.2], kset_cellAt hj] at this
        exact this
      split
      · obtain ⟨b1, b2, b3⟩ := back_trail i K.length hr ii ans 4 0 h0
        rw [b2]
        exact ⟨b1, b3, rfl⟩
      · exact ⟨h0.quiet (adds_wait _ _ _ _ _ _) (fun _ h => by cases h), hok.1, rfl⟩
    · have a0 := adds_did S undef i t (effC c (cellAt K (which c.ca K.length)).2).1.1 (effC c (cellAt K (which c.ca K.length)).2).1.2
      rw [hf.1, hf.2] at a0
      have h0 := h.step hj (opn_in hin) a0 hst.1.symm (by rw [hst.2.1]; exact hst.2.2.1) (fun e => by rw [hst.2.1, hst.2.2.2 e, hst.1])
      rw [hst.2.1] at h0
      obtain ⟨b1, b2, b3⟩ := back_trail i K.length hr ii ans (ansC c (cellAt K (which c.ca K.length)).2).1 (ansC c (cellAt K (which c.ca K.length)).2).2 h0
      rw [hst.2.1, b2]
      exact ⟨b1, b3, by simp⟩
  | .wait (c :: rest) ii ans, hf, _, hok =>
    have hr : ∀ x ∈ rest, x.ok := fun x hx => hok x (List.mem_cons_of_mem _ hx)
    rw [resume_wait, eth]
    split
    · obtain ⟨b1, b2, b3⟩ := back_trail i K.length hr ii ans 4 0 h
      rw [b2]
      exact ⟨b1, b3, rfl⟩
    · refine ⟨h.quiet ((adds_noted S undef i 6 (which c.ca K.length) 0 0).trans (adds_wait _ _ _ _ _ _)) (fun s hs => ?_), ⟨hok, fun c' r' e => ?_⟩, rfl⟩
      · simp only [List.append_nil, List.mem_singleton] at hs
        subst hs
        right; exact (by decide : (5 : Int) < 6)
      · cases e
        have : c.po = 6 := hf
        omega
  | .turn [] _ _, hf, _, _ => exact hf.elim
  | .wait [] _ _, hf, _, _ => exact hf.elim
  | .done _, _, hl, _ => exact absurd hl (by simp)
end

theorem pturn_trail {xs : List Int} {p p1 : PSt} (hk : 0 < p.K.length) (g : Good p.K.length p) (h : Trail xs p) (e : pturn p.K.length p = some p1) : Trail xs p1 ∧ p1.K.length = p.K.length := by
  unfold pturn at e
  split at e
  · split at e
    · cases e
      exact ⟨⟨h.at_.quiet (adds_stuck p.S undef) (fun s hs => by
        have := List.mem_singleton.1 hs
        subst this
        right; exact (by decide : (5 : Int) < 7)), h.ok⟩, rfl⟩
    · cases e
  · rename_i h0
    obtain ⟨t, ht, hrd⟩ := nextI_in h0
    generalize hi : nextI p.S = i at ht e
    have eth : thrI p.S i = t := thrI_of ht
    rw [eth] at e
    obtain ⟨hfit, hst⟩ := g.sit i t ht
    have hl : (∃ r k a, p.l i = .turn r k a) ∨ ∃ r k a, p.l i = .wait r k a := by
      match hpl : p.l i, hst with
      | .turn r k a, _ => exact .inl ⟨r, k, a, rfl⟩
      | .wait r k a, _ => exact .inr ⟨r, k, a, rfl⟩
      | .done a, hst =>
        exfalso
        have : t.st = 3 := hst
        simp [rdy, this] at hrd
    obtain ⟨r1, r2, r3⟩ := resume_trail (xs := xs) (K := p.K) i (p.l i) (going p.S i t) { t with st := 0 } hk (going_thr ht) hl (fits_st0 hl hfit) (h.ok i) (h.at_.quiet (adds_going _ _ _) (fun _ h => by cases h))
    cases e
    refine ⟨⟨r1, fun j => ?_⟩, r3⟩
    show (upd p.l i _ j).ok
    by_cases hj : j = i
    · subst hj; rw [upd_same]; exact r2
    · rw [upd_ne _ _ hj]; exact h.ok j

theorem turns_trail {xs : List Int} {nk m : Nat} {p p' : PSt} (h : Turns nk m p p') : nk = p.K.length → 0 < p.K.length → Good nk p → Trail xs p → Trail xs p' ∧ p'.K.length = p.K.length := by
  induction h with
  | stop => intro _ _ _ h; exact ⟨h, rfl⟩
  | @step n p p1 p' e _ ih =>
    intro hnk hk g h
    subst hnk
    obtain ⟨t1, t2⟩ := pturn_trail hk g h e
    obtain ⟨g1, _, _⟩ := pturn_mu g e
    obtain ⟨r1, r2⟩ := ih t2.symm (by omega) g1 t1
    exact ⟨r1, r2.trans t2⟩

theorem hires_trail {nk k : Nat} {ss : List Scr} {S S' : TS} {l l' : Nat → Ph} (h : Hires nk k ss S l S' l') (hss : ∀ s ∈ ss, ∀ c ∈ s.calls, c.ok) (hl : ∀ i, (l i).ok) : (∃ L, Adds S S' L ∧ ∀ s ∈ L, s.op < 1 ∨ 5 < s.op) ∧ ∀ i, (l' i).ok := by
  induction h with
  | nil => exact ⟨⟨[], Adds.refl _, fun _ h => by cases h⟩, hl⟩
  | @cons k s ss S S' l l' tv tb gc h ih =>
    obtain ⟨L, f1, f2, f3⟩ := flow_adds k nk s.calls 0 false s.ans (hiredS S tv tb gc) (hss s List.mem_cons_self)
    obtain ⟨⟨L', i1, i2⟩, i3⟩ := ih (fun s hs => hss s (List.mem_cons_of_mem _ hs)) (fun i => by
      by_cases hi : i = k
      · subst hi; rw [upd_same]; exact f3
      · rw [upd_ne _ _ hi]; exact hl i)
    refine ⟨⟨L ++ L', ?_, fun s hs => (List.mem_append.1 hs).elim (f2 s) (i2 s)⟩, i3⟩
    have : Adds S (flow k nk s.calls 0 false s.ans (hiredS S tv tb gc)).1 L := ⟨f1.tr, f1.n⟩
    exact this.trans i1

/-- What a Play's trace tells. -/
theorem play_trail {ss : List Scr} {S S1 : TS} {l0 l1 : Nat → Ph} {K : List (Nat × Int)} {m : Nat} {p' : PSt} (h : Hires K.length 0 ss S l0 S1 l1) (hT : Turns K.length m ⟨S1, K, l1⟩ p') (hk : 0 < K.length) (h0 : S.thr = []) (h8 : ss.length ≤ 8) (hn : S.n = 0) (htr : S.tr = []) (hl0 : ∀ i, (l0 i).ok) (hss : ∀ s ∈ ss, ∀ c ∈ s.calls, c.ok) (hin : ∀ c ∈ K, InR c.2) :
    ∃ L, p'.S.tr = flat L ∧ p'.S.n = L.length ∧ ∃ now, replay (K.map (·.2)) L = some now := by
  obtain ⟨a1, a2, a3, a4⟩ := hires_good h (by rw [h0]; rfl) (by omega) (fun i t ht => by rw [h0] at ht; cases ht)
  have g : Good K.length ⟨S1, K, l1⟩ := ⟨by show S1.thr.length ≤ 8; omega, a2⟩
  obtain ⟨⟨L, b1, b2⟩, b3⟩ := hires_trail h hss hl0
  have t0 : TrS (K.map (·.2)) S K := ⟨⟨[], htr, hn, rfl⟩, hin⟩
  obtain ⟨r1, _⟩ := turns_trail hT rfl hk g ⟨t0.quiet b1 b2, b3⟩
  obtain ⟨L', c1, c2, c3⟩ := r1.at_.tr
  exact ⟨L', c1, c2, _, c3⟩
end Go.Proofs.Ytfjjoohflcchnaa
