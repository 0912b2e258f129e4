/-
  What Linear of package history tells: whether there is an order, by the document's objects.
-/
import Derived.Test.YteniopbmkooomaaOncesOf
import Derived.Test.YteniopbmkooomaaExplP
import Derived.Test.YteniopbmkooomaaExplS
import Derived.Test.YteniopbmkooomaaAwake
namespace Go.Proofs.Yteniopbmkooomaa
open Go.RowKit Hi Go.Deep Go.Maps

/-- What is kept of a pile while an order goes on. -/
def InvP (l : List Ev) (T : Nat) (p : Pile) : Prop := p.xs.length ≤ reachOf l ∧ p.xs.length ≤ took (fun i => pushB (l.getD i ev0)) T l.length ∧ ∀ v ∈ p.xs, Fits v

theorem invP_good {l : List Ev} (h12 : l.length ≤ 12) {T : Nat} {p : Pile} (h : InvP l T p) : GoodP p := by
  refine ⟨?_, h.2.2⟩
  have h1 := reach_pushes l
  have h2 := took_le (fun i => pushB (l.getD i ev0)) T l.length
  have h3 := h.1
  have h4 := h.2.1
  unfold pushesOf at h1
  omega

theorem invP_fit {l : List Ev} (hfa : ∀ i, i < l.length → Fits (l.getD i ev0).a) (T : Nat) (s : Pile) (i : Nat) (h : InvP l T s) (hi : i < l.length) (ht : T.testBit i = false) : ∀ o ∈ wayPile (reachOf l) s (l.getD i ev0), InvP l (T ||| 2 ^ i) o.2 := by
  intro o ho
  obtain ⟨h1, h2, h3⟩ := h
  have ht' := took_or (p := fun i => pushB (l.getD i ev0)) ht hi
  have hstay : InvP l (T ||| 2 ^ i) s := ⟨h1, by omega, h3⟩
  unfold wayPile at ho
  split at ho
  · rename_i h1'
    have hp : pushB (l.getD i ev0) = true := by unfold pushB; simpa using h1'
    rw [if_pos hp] at ht'
    simp only [List.mem_cons, List.not_mem_nil, or_false] at ho
    rcases ho with rfl | rfl
    · unfold Pile.push
      split
      · refine ⟨by simp only [List.length_take, List.length_cons]; omega, by simp only [List.length_take, List.length_cons]; omega, fun v hv => ?_⟩
        have := List.mem_of_mem_take hv
        rcases List.mem_cons.1 this with rfl | hm
        · exact hfa i hi
        · exact h3 v hm
      · rename_i hne
        refine ⟨by simp only [List.length_cons]; omega, by simp only [List.length_cons]; omega, fun v hv => ?_⟩
        rcases List.mem_cons.1 hv with rfl | hm
        · exact hfa i hi
        · exact h3 v hm
    · exact hstay
  · split at ho
    · obtain ⟨xs, d⟩ := s
      cases xs with
      | cons v r =>
        simp only [List.mem_cons, List.not_mem_nil, or_false] at ho
        subst ho
        simp only [List.length_cons] at h1 h2
        exact ⟨by simp only []; omega, by simp only []; omega, fun u hu => h3 u (by simp [hu])⟩
      | nil =>
        simp only [] at ho
        split at ho
        · simp only [List.mem_cons, List.not_mem_nil, or_false] at ho
          subst ho
          exact hstay
        · simp at ho
    · simp at ho

theorem len_pile (reach : Nat) (s : Pile) (x : Ev) : (wayPile reach s x).length ≤ 2 := by
  unfold wayPile
  repeat' split
  all_goals simp

theorem explained_stack (l : List Ev) (h12 : l.length ≤ 12) (hh : Hist l) (hfa : ∀ i, i < l.length → Fits (l.getD i ev0).a) (v : Value) (w : World) (hE : Evs w v l) (br : Nat) (hc : w.cell? ⟨br, 0, none⟩ = some (I (reachOf l))) :
    Calls Try.prog 28 #[v, .agg (stP ⟨[], false⟩), .func (.func 50) #[] #[P1 br]] w fun e w' => RetB e (Lin wayStack [] l) ∧ Below w.heap.size w w' := by
  have := explainedP br l h12 hh (wayPile (reachOf l)) (InvP l) (fun w => w.cell? ⟨br, 0, none⟩ = some (I (reachOf l))) (fun T s h => invP_good h12 h)
    (fun T s i w hI hi ht hcw => by
      refine askP_any (reachOf l) s (l.getD i ev0) br (invP_good h12 hI).1 hI.1 (fun ho he => ?_) (fun ho he => ?_) w hcw
      · have hp : pushB (l.getD i ev0) = true := by unfold pushB; simpa using ho
        have h1 := took_lt (p := fun i => pushB (l.getD i ev0)) ht hp hi
        have h2 := reach_pushes l
        have h3 := hI.2.1
        unfold pushesOf at h2
        omega
      · have hp : pushB (l.getD i ev0) = true := by unfold pushB; simpa using ho
        have h1 := took_lt (p := fun i => pushB (l.getD i ev0)) ht hp hi
        have h2 := reach_pushes l
        have h3 := hI.2.1
        unfold pushesOf at h2
        omega)
    (invP_fit hfa) (len_pile (reachOf l)) v ⟨[], false⟩ ⟨Nat.zero_le _, Nat.zero_le _, by simp⟩ w hE hc
    (fun a b ha hb => kcell' hb (World.block_lt_of_cell? _ _ hc) ha)
  refine this.mono ?_
  rintro e w' ⟨⟨b, rfl, hb⟩, hB⟩
  exact ⟨⟨b, rfl, hb.trans (lin_pile hh)⟩, hB⟩

theorem len_shelf (place : Int → Nat) (n : Int) (s : Shelf) (x : Ev) : (wayShelf place n s x).length ≤ 2 := by
  unfold wayShelf
  repeat' split
  all_goals simp

theorem idx_get {ks : List Int} {k : Int} (h : k ∈ ks) : ks[ks.idxOf k]? = some k := by
  rw [List.getElem?_eq_getElem (List.idxOf_lt_length_iff.2 h), List.getElem_idxOf]

theorem act_fits {x : Ev} (hb : Fits x.b) {g : Int × Int} (h : actOf x = some g) : Fits g.1 ∧ Fits g.2 := by
  unfold actOf at h
  have e0 : Fits 0 := fits_zero
  have e1 : Fits 70 := by unfold Fits; omega
  have e2 : Fits 71 := by unfold Fits; omega
  have e3 : Fits 72 := by unfold Fits; omega
  split at h
  · cases h; exact ⟨e0, hb⟩
  · split at h
    · cases h; exact ⟨e1, hb⟩
    · split at h
      · cases h; exact ⟨e2, hb⟩
      · split at h
        · cases h; exact ⟨e1, e3⟩
        · cases h

theorem explained_onces (n : Int) (h1 : 1 ≤ n) (h2 : n ≤ 1000) (l : List Ev) (h12 : l.length ≤ 12) (hh : Hist l) (hfb : ∀ i, i < l.length → Fits (l.getD i ev0).b) (v : Value) (w : World) (hE : Evs w v l) (br bt bp : Nat) (ks : List Int)
    (cr : w.cell? ⟨br, 0, none⟩ = some (.map (some bp))) (ct : w.cell? ⟨bt, 0, none⟩ = some (I n)) (hp : Plc w bp ks) (hk : ks.length ≤ l.length) (hin : ∀ i, i < l.length → (l.getD i ev0).a % n ∈ ks) :
    Calls Try.prog 32 #[v, .agg (stS (List.replicate 12 none)), .func (.func 56) #[] #[P1 br, P1 bt]] w fun e w' => RetB e (Lin (wayOnces n) (fun _ => none) l) ∧ Below w.heap.size w w' := by
  have hlt : ∀ i, i < l.length → ks.idxOf ((l.getD i ev0).a % n) < 12 := fun i hi => by
    have := List.idxOf_lt_length_iff.2 (hin i hi)
    omega
  have := explainedS br bt l h12 hh (wayShelf (fun k => ks.idxOf k) n) (fun _ s => GoodS s) (fun w => w.cell? ⟨br, 0, none⟩ = some (.map (some bp)) ∧ w.cell? ⟨bt, 0, none⟩ = some (I n) ∧ Plc w bp ks) (fun T s h => h)
    (fun T s i w hI hi ht hcw => askS_any ks n h1 h2 (fun k => ks.idxOf k) s hI (l.getD i ev0) (idx_get (hin i hi)) (hlt i hi) br bt bp w hcw.1 hcw.2.1 hcw.2.2)
    (fun T s i hI hi ht o ho => by
      unfold wayShelf at ho
      cases hg : actOf (l.getD i ev0) with
      | none => rw [hg] at ho; simp at ho
      | some g =>
        rw [hg] at ho
        simp only [] at ho
        split at ho
        · simp only [List.mem_cons, List.not_mem_nil, or_false] at ho
          subst ho
          exact hI
        · simp only [List.mem_cons, List.not_mem_nil, or_false] at ho
          subst ho
          refine ⟨by simp [hI.1], fun a ha => ?_⟩
          rcases List.mem_or_eq_of_mem_set ha with h | h
          · exact hI.2 a h
          · cases h
            exact act_fits (hfb i hi) hg)
    (len_shelf _ n) v (List.replicate 12 none) ⟨rfl, fun a ha => by simp at ha⟩ w hE ⟨cr, ct, hp⟩
    (fun a b ha hb => ⟨kcell' hb (World.block_lt_of_cell? _ _ cr) ha.1, kcell' hb (World.block_lt_of_cell? _ _ ct) ha.2.1, ha.2.2.later hb hp.lt⟩)
  refine this.mono ?_
  rintro e w' ⟨⟨b, rfl, hb⟩, hB⟩
  refine ⟨⟨b, rfl, hb.trans (lin_shelf hh (fun i j hi hj he => ?_) hlt)⟩, hB⟩
  have e1 := idx_get (hin i hi)
  have e2 := idx_get (hin j hj)
  rw [he, e2] at e1
  exact (Option.some.inj e1).symm

set_option maxHeartbeats 1000000 in
theorem linear_big (ob st : Int) (v : Value) (l : List Ev) (w : World) (hs : Starts ob st) (h12 : 12 < l.length) (hE : Evs w v l) :
    Calls Try.prog 10 #[I ob, I st, v] w fun e w' => RetL e 3 False ∧ w' = w := by
  have HS : Hid (Starts ob st) := hs
  obtain ⟨p, cap, rfl, hc, hm, _⟩ := hE
  unfold maxLen at hm
  clear hs
  go_enter Try.func10, Try.ntmps10
  go_wp2_with fail
  refine (mayStart_any ob st _).mono ?_
  rintro e w1 ⟨⟨b, rfl, hb⟩, hw⟩
  have hw' := hw.symm
  subst hw'
  have : b = true := hb.2 HS.out
  subst this
  clear hb hw
  go_wp2_with fail
  go_ret2
  exact ⟨⟨false, rfl, by simp⟩, rfl⟩

set_option maxHeartbeats 1000000 in
theorem linear_none (ob st : Int) (v : Value) (l : List Ev) (w : World) (hs : Starts ob st) (h12 : l.length ≤ 12) (hh : ¬ Hist l) (hE : Evs w v l) :
    Calls Try.prog 10 #[I ob, I st, v] w fun e w' => RetL e 30 False ∧ Below w.heap.size w w' := by
  have HE : Hid (Evs w v l) := hE
  have HH : Hid (¬ Hist l) := hh
  have HS : Hid (Starts ob st) := hs
  obtain ⟨p, cap, rfl, hc, hm, _⟩ := hE
  unfold maxLen at hm
  clear hh hs
  go_enter Try.func10, Try.ntmps10
  go_wp2_with fail
  refine (mayStart_any ob st _).mono ?_
  rintro e w1 ⟨⟨b, rfl, hb⟩, hw⟩
  have hw' := hw.symm
  subst hw'
  have : b = true := hb.2 HS.out
  subst this
  clear hb hw
  go_wp2_with fail
  refine (isHistory_any _ l _ HE.out).mono ?_
  rintro e w1 ⟨⟨b, rfl, hb⟩, hb1⟩
  have : b = false := by
    cases b with
    | false => rfl
    | true => exact absurd (hb.1 rfl) HH.out
  subst this
  have HB1 : Hid (Below w.heap.size w w1) := hb1
  clear hb hb1
  go_wp2_with fail
  go_ret2
  exact ⟨⟨false, rfl, by simp⟩, HB1.out⟩

set_option maxHeartbeats 1000000 in
theorem linear_counter (st : Int) (v : Value) (l : List Ev) (w : World) (hs : Fits st) (h12 : l.length ≤ 12) (hh : Hist l) (hE : Evs w v l) :
    Calls Try.prog 10 #[I 3, I st, v] w fun e w' => RetL e 0 (Lin wayCounter st l) ∧ Below w.heap.size w w' := by
  have HE : Hid (Evs w v l) := hE
  have HH : Hid (Hist l) := hh
  have HS : Hid (Fits st) := hs
  obtain ⟨p, cap, rfl, hc, hm, _⟩ := hE
  unfold maxLen at hm
  clear hh hs
  go_enter Try.func10, Try.ntmps10
  go_wp2_with fail
  refine (mayStart_any 3 st _).mono ?_
  rintro e w1 ⟨⟨b, rfl, hb⟩, hw⟩
  have hw' := hw.symm
  subst hw'
  have : b = true := hb.2 (.inr (.inl rfl))
  subst this
  clear hb hw
  go_wp2_with fail
  refine (isHistory_any _ l _ HE.out).mono ?_
  rintro e w1 ⟨⟨b, rfl, hb⟩, hb1⟩
  have : b = true := hb.2 HH.out
  subst this
  have HB1 : Hid (Below w.heap.size w w1) := hb1
  clear hb hb1
  go_wp2_with fail
  refine (explained_counter l h12 HH.out _ st HS.out _ (HE.out.later HB1.out)).mono ?_
  rintro e w2 ⟨⟨b, rfl, hb⟩, hb2⟩
  have HBB : Hid (b = true ↔ Lin wayCounter st l) := hb
  have HB2 : Hid (Below w1.heap.size w1 w2) := hb2
  clear hb hb2
  go_wp2_with fail
  go_ret2
  exact ⟨⟨b, rfl, HBB.out⟩, below_step HB1.out HB2.out⟩

set_option maxHeartbeats 1000000 in
theorem linear_latch (st : Int) (v : Value) (l : List Ev) (w : World) (hs : Fits st) (h0 : 0 ≤ st) (h12 : l.length ≤ 12) (hh : Hist l) (hE : Evs w v l) :
    Calls Try.prog 10 #[I 4, I st, v] w fun e w' => RetL e 0 (Lin wayLatch st l) ∧ Below w.heap.size w w' := by
  have HE : Hid (Evs w v l) := hE
  have HH : Hid (Hist l) := hh
  have HS : Hid (Fits st) := hs
  have H0 : Hid (0 ≤ st) := h0
  obtain ⟨p, cap, rfl, hc, hm, _⟩ := hE
  unfold maxLen at hm
  clear hh hs h0
  go_enter Try.func10, Try.ntmps10
  go_wp2_with fail
  refine (mayStart_any 4 st _).mono ?_
  rintro e w1 ⟨⟨b, rfl, hb⟩, hw⟩
  have hw' := hw.symm
  subst hw'
  have : b = true := hb.2 (.inr (.inr (.inr (.inl ⟨rfl, H0.out⟩))))
  subst this
  clear hb hw
  go_wp2_with fail
  refine (isHistory_any _ l _ HE.out).mono ?_
  rintro e w1 ⟨⟨b, rfl, hb⟩, hb1⟩
  have : b = true := hb.2 HH.out
  subst this
  have HB1 : Hid (Below w.heap.size w w1) := hb1
  clear hb hb1
  go_wp2_with fail
  refine (explained_latch l h12 HH.out _ st HS.out _ (HE.out.later HB1.out)).mono ?_
  rintro e w2 ⟨⟨b, rfl, hb⟩, hb2⟩
  have HBB : Hid (b = true ↔ Lin wayLatch st l) := hb
  have HB2 : Hid (Below w1.heap.size w1 w2) := hb2
  clear hb hb2
  go_wp2_with fail
  go_ret2
  exact ⟨⟨b, rfl, HBB.out⟩, below_step HB1.out HB2.out⟩

set_option maxHeartbeats 1000000 in
theorem linear_stack (v : Value) (l : List Ev) (w : World) (hfa : ∀ i, i < l.length → Fits (l.getD i ev0).a) (h12 : l.length ≤ 12) (hh : Hist l) (hE : Evs w v l) :
    Calls Try.prog 10 #[I 2, I 0, v] w fun e w' => RetL e 0 (Lin wayStack [] l) ∧ Below w.heap.size w w' := by
  have HE : Hid (Evs w v l) := hE
  have HH : Hid (Hist l) := hh
  have HF : Hid (∀ i, i < l.length → Fits (l.getD i ev0).a) := hfa
  obtain ⟨p, cap, rfl, hc, hm, _⟩ := hE
  unfold maxLen at hm
  clear hh hfa
  go_enter Try.func10, Try.ntmps10
  go_wp2_with fail
  refine (mayStart_any 2 0 _).mono ?_
  rintro e w1 ⟨⟨b, rfl, hb⟩, hw⟩
  have hw' := hw.symm
  subst hw'
  have : b = true := hb.2 (.inr (.inr (.inl ⟨rfl, rfl⟩)))
  subst this
  clear hb hw
  go_wp2_with fail
  refine (isHistory_any _ l _ HE.out).mono ?_
  rintro e w1 ⟨⟨b, rfl, hb⟩, hb1⟩
  have : b = true := hb.2 HH.out
  subst this
  have HB1 : Hid (Below w.heap.size w w1) := hb1
  clear hb hb1
  go_wp2_with fail
  refine (stackOf_any _ l _ (HE.out.later HB1.out)).mono ?_
  rintro e w2 ⟨rfl, hone, hb2⟩
  have HB2 : Hid (Below w1.heap.size w1 w2) := hb2
  have HONE : Hid (One w2 w1.heap.size 3 (I (reachOf l))) := hone
  clear hone hb2
  go_wp2_with fail
  refine (explained_stack l h12 HH.out HF.out _ _ (HE.out.later (below_step HB1.out HB2.out)) w1.heap.size HONE.out.cell).mono ?_
  rintro e w3 ⟨⟨b, rfl, hb⟩, hb3⟩
  have HBB : Hid (b = true ↔ Lin wayStack [] l) := hb
  have HB3 : Hid (Below w2.heap.size w2 w3) := hb3
  clear hb hb3
  go_wp2_with fail
  go_ret2
  exact ⟨⟨b, rfl, HBB.out⟩, below_step (below_step HB1.out HB2.out) HB3.out⟩

set_option maxHeartbeats 1000000 in
theorem linear_onces (n : Int) (h1 : 1 ≤ n) (h2 : n ≤ 1000) (v : Value) (l : List Ev) (w : World) (hfb : ∀ i, i < l.length → Fits (l.getD i ev0).b) (h12 : l.length ≤ 12) (hh : Hist l) (hE : Evs w v l) :
    Calls Try.prog 10 #[I 5, I n, v] w fun e w' => RetL e 0 (Lin (wayOnces n) (fun _ => none) l) ∧ Below w.heap.size w w' := by
  have HE : Hid (Evs w v l) := hE
  have HH : Hid (Hist l) := hh
  have HF : Hid (∀ i, i < l.length → Fits (l.getD i ev0).b) := hfb
  obtain ⟨p, cap, rfl, hc, hm, _⟩ := hE
  unfold maxLen at hm
  clear hh hfb
  go_enter Try.func10, Try.ntmps10
  go_wp2_with fail
  refine (mayStart_any 5 n _).mono ?_
  rintro e w1 ⟨⟨b, rfl, hb⟩, hw⟩
  have hw' := hw.symm
  subst hw'
  have : b = true := hb.2 (.inr (.inr (.inr (.inr ⟨rfl, h1, h2⟩))))
  subst this
  clear hb hw
  go_wp2_with fail
  refine (isHistory_any _ l _ HE.out).mono ?_
  rintro e w1 ⟨⟨b, rfl, hb⟩, hb1⟩
  have : b = true := hb.2 HH.out
  subst this
  have HB1 : Hid (Below w.heap.size w w1) := hb1
  clear hb hb1
  go_wp2_with fail
  refine (oncesOf_any n h1 h2 _ l _ (HE.out.later HB1.out) h12).mono ?_
  rintro e w2 ⟨ks, rfl, cr, ct, hp, hkl, hin, hb2⟩
  have HB2 : Hid (Below w1.heap.size w1 w2) := hb2
  have HCR : Hid _ := cr
  have HCT : Hid _ := ct
  have HP : Hid (Plc w2 (w1.heap.size + 1) ks) := hp
  have HIN : Hid (∀ i, i < l.length → (l.getD i ev0).a % n ∈ ks) := hin
  clear cr ct hp hin hb2
  go_wp2_with fail
  refine (explained_onces n h1 h2 l h12 HH.out HF.out _ _ (HE.out.later (below_step HB1.out HB2.out)) _ _ _ ks HCR.out HCT.out HP.out hkl HIN.out).mono ?_
  rintro e w3 ⟨⟨b, rfl, hb⟩, hb3⟩
  have HBB : Hid (b = true ↔ Lin (wayOnces n) (fun _ => none) l) := hb
  have HB3 : Hid (Below w2.heap.size w2 w3) := hb3
  clear hb hb3
  go_wp2_with fail
  go_ret2
  exact ⟨⟨b, rfl, HBB.out⟩, below_step (below_step HB1.out HB2.out) HB3.out⟩

/-- What Linear answers. -/
def LinOut (ob st : Int) (l : List Ev) (b : Bool) (c : Int) : Prop :=
  (¬ Starts ob st ∧ b = false ∧ c = 1) ∨ (Starts ob st ∧ 12 < l.length ∧ b = false ∧ c = 3) ∨ (Starts ob st ∧ l.length ≤ 12 ∧ ¬ Hist l ∧ b = false ∧ c = 30) ∨
    (Starts ob st ∧ l.length ≤ 12 ∧ Hist l ∧ c = 0 ∧ (b = true ↔ Lin (refWays ob st) (firstOf ob st) l))

theorem retL_no {e : Ending} {c : Int} (h : RetL e c False) : e = .returned (.tuple #[.bool false, I c]) := by
  obtain ⟨b, rfl, hb⟩ := h
  cases b with
  | false => rfl
  | true => exact absurd (hb.1 rfl) (fun h => h)

theorem linear_any (ob st : Int) (hst : Fits st) (v : Value) (l : List Ev) (w : World) (hE : Evs w v l) (hf : ∀ i, i < l.length → Fits (l.getD i ev0).a ∧ Fits (l.getD i ev0).b) :
    Calls Try.prog 10 #[I ob, I st, v] w fun e w' => (∃ b c, e = .returned (.tuple #[.bool b, I c]) ∧ LinOut ob st l b c) ∧ Below w.heap.size w w' := by
  by_cases hs : Starts ob st
  · by_cases h12 : l.length ≤ 12
    · by_cases hh : Hist l
      · have key : ∀ {p : Prop} {e : Ending} {w' : World}, (RetL e 0 p ∧ Below w.heap.size w w') → (p ↔ Lin (refWays ob st) (firstOf ob st) l) → (∃ b c, e = .returned (.tuple #[.bool b, I c]) ∧ LinOut ob st l b c) ∧ Below w.heap.size w w' := by
          rintro p e w' ⟨⟨b, rfl, hb⟩, hB⟩ hp
          exact ⟨⟨b, 0, rfl, .inr (.inr (.inr ⟨hs, h12, hh, rfl, hb.trans hp⟩))⟩, hB⟩
        rcases id hs with rfl | rfl | ⟨rfl, rfl⟩ | ⟨rfl, h0⟩ | ⟨rfl, h1, h2⟩
        · exact (linear_adder st v l w hst h12 hh hE).mono fun e w' h => key h (lin_adder hh st)
        · exact (linear_counter st v l w hst h12 hh hE).mono fun e w' h => key h (lin_counter hh st)
        · exact (linear_stack v l w (fun i hi => (hf i hi).1) h12 hh hE).mono fun e w' h => key h (lin_stack 0)
        · exact (linear_latch st v l w hst h0 h12 hh hE).mono fun e w' h => key h (lin_latch hh st h0 hst)
        · exact (linear_onces st h1 h2 v l w (fun i hi => (hf i hi).2) h12 hh hE).mono fun e w' h => key h (lin_three hh st h1)
      · refine (linear_none ob st v l w hs h12 hh hE).mono ?_
        rintro e w' ⟨h, hB⟩
        exact ⟨⟨false, 30, retL_no h, .inr (.inr (.inl ⟨hs, h12, hh, rfl, rfl⟩))⟩, hB⟩
    · refine (linear_big ob st v l w hs (by omega) hE).mono ?_
      rintro e w' ⟨h, rfl⟩
      exact ⟨⟨false, 3, retL_no h, .inr (.inl ⟨hs, by omega, rfl, rfl⟩)⟩, Below.refl _ _⟩
  · refine (linear_arg ob st v w hs).mono ?_
    rintro e w' ⟨h, rfl⟩
    exact ⟨⟨false, 1, retL_no h, .inl ⟨hs, rfl, rfl⟩⟩, Below.refl _ _⟩

end Go.Proofs.Yteniopbmkooomaa
