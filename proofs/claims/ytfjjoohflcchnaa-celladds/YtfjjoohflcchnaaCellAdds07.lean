/- CellAdds returns true, whatever the schedule, the start and the numbers, and leaves what it was given as it was: of the law's statement as given, with no condition of our own. Part 7 of 34. (Joined, by program, of: Lift16, Lift17, Lift18, Lift19, Lift20, Lift21.) -/
import Derived.Test.YtfjjoohflcchnaaCellAdds06
import Derived.Conc.CompanyDraw
import Derived.Below
import Derived.Conc.Own5
import Derived.Conc.Walk
import Derived.Conc.Own3
import Derived.Conc.AtomicLaws
set_option linter.unusedSimpArgs false
set_option linter.unusedVariables false
namespace Go.Lift
open Go.Conc

/-- What is listed is closed under what comes ahead. -/
def Closed (md : Region.Mode) (ops : Array Oper) (listed : Array Bool) : Prop :=
  ∀ (s : Nat) (o : Oper), ops[s]? = some o → listed.getD s false = true → ∀ e ∈ o.after.toList, Region.binds md e = true → listed.getD e.on false = true

/-- Each of the first n comes ahead of a later one, of those or of number n itself. -/
def leadsOn (md : Region.Mode) (ops : Array Oper) (n : Nat) : Bool :=
  (List.range n).all fun q => (List.range (n + 1)).any fun s => decide (q < s) && ((ops[s]?).map fun o => o.after.toList.any fun e => Region.binds md e && e.on == q).getD false

theorem leadsOn_spec {md : Region.Mode} {ops : Array Oper} {n : Nat} (h : leadsOn md ops n = true) {q : Nat} (hq : q < n) : ∃ s o e, q < s ∧ s ≤ n ∧ ops[s]? = some o ∧ e ∈ o.after.toList ∧ Region.binds md e = true ∧ e.on = q := by
  unfold leadsOn at h
  rw [List.all_eq_true] at h
  have := h q (List.mem_range.2 hq)
  rw [List.any_eq_true] at this
  obtain ⟨s, hs, h2⟩ := this
  rw [Bool.and_eq_true] at h2
  obtain ⟨h3, h4⟩ := h2
  cases ho : ops[s]? with
  | none => rw [ho] at h4; simp at h4
  | some o =>
    rw [ho] at h4
    simp only [Option.map_some, Option.getD_some, List.any_eq_true, Bool.and_eq_true, beq_iff_eq] at h4
    obtain ⟨e, he, hb, hon⟩ := h4
    exact ⟨s, o, e, of_decide_eq_true h3, by have := List.mem_range.1 hs; omega, ho, he, hb, hon⟩

/-- Where number n may come up all of the first n are listed. -/
theorem all_listed {md : Region.Mode} {ops : Array Oper} {n : Nat} (hl : leadsOn md ops n = true) {listed : Array Bool} (hc : Closed md ops listed) {o : Oper} (ho : ops[n]? = some o)
    (hr : ∀ e ∈ o.after.toList, Region.binds md e = true → listed.getD e.on false = true) : ∀ m q, n - q = m → q < n → listed.getD q false = true := by
  intro m
  induction m using Nat.strongRecOn with
  | ind m ih =>
    intro q hm hq
    obtain ⟨s, os, e, h1, h2, h3, h4, h5, h6⟩ := leadsOn_spec hl hq
    by_cases hs : s = n
    · subst hs
      rw [ho] at h3
      cases h3
      rw [← h6]; exact hr e h4 h5
    · have := ih (n - s) (by omega) s rfl (by omega)
      rw [← h6]; exact hc s os h3 this e h4 h5

theorem mem_ready {md : Region.Mode} {ops : Array Oper} {listed : Array Bool} {i : Nat} (h : i ∈ Region.ready md ops listed) :
    listed.getD i true = false ∧ ∃ o, ops[i]? = some o ∧ ∀ e ∈ o.after.toList, Region.binds md e = true → listed.getD e.on false = true := by
  unfold Region.ready at h
  rw [List.mem_filter] at h
  obtain ⟨_, h⟩ := h
  rw [Bool.and_eq_true] at h
  obtain ⟨h1, h2⟩ := h
  refine ⟨by simpa using h1, ?_⟩
  cases ho : ops[i]? with
  | none => rw [ho] at h2; simp at h2
  | some o =>
    rw [ho] at h2
    simp only [Option.map_some, Option.getD_some] at h2
    refine ⟨o, rfl, fun e he hb => ?_⟩
    rw [← Array.all_toList, List.all_eq_true] at h2
    have := h2 e he
    rw [hb] at this
    simpa using this

/-- What comes ahead of an operation stands ahead of it in the text; what stands behind number n waits for one from n on. -/
def inText (md : Region.Mode) (ops : Array Oper) (n : Nat) : Bool :=
  (List.range ops.size).all fun i => ((ops[i]?).map fun o => (o.after.toList.all fun e => decide (e.on < i)) && (decide (i ≤ n) || o.after.toList.any fun e => Region.binds md e && decide (n ≤ e.on))).getD false

theorem inText_spec {md : Region.Mode} {ops : Array Oper} {n : Nat} (h : inText md ops n = true) {i : Nat} {o : Oper} (ho : ops[i]? = some o) : (∀ e ∈ o.after.toList, e.on < i) ∧ (n < i → ∃ e ∈ o.after.toList, Region.binds md e = true ∧ n ≤ e.on) := by
  unfold inText at h
  rw [List.all_eq_true] at h
  have hi : i < ops.size := (Array.getElem?_eq_some_iff.1 ho).1
  have := h i (List.mem_range.2 hi)
  rw [ho] at this
  simp only [Option.map_some, Option.getD_some, Bool.and_eq_true, List.all_eq_true, decide_eq_true_eq, Bool.or_eq_true, List.any_eq_true] at this
  obtain ⟨h1, h2⟩ := this
  refine ⟨h1, fun hn => ?_⟩
  rcases h2 with h2 | ⟨e, he, hb, hon⟩
  · omega
  · exact ⟨e, he, hb, hon⟩

/-- The temporaries behind those of the first n that are listed. -/
structure Agr (ops : Array Oper) (n : Nat) (val : Nat → Value) (a0 : Act) (listed : Array Bool) (a : Act) : Prop where
  defers : a.defers = a0.defers
  size : a.tmps.size = a0.tmps.size
  done : ∀ (j : Nat) (o : Oper) (t : Tmp), j < n → ops[j]? = some o → listed.getD j false = true → o.dst = some t → a.tmps[t]? = some (val j)
  else_ : ∀ t : Tmp, (∀ (j : Nat) (o : Oper), j < n → ops[j]? = some o → listed.getD j false = true → o.dst ≠ some t) → a.tmps[t]? = a0.tmps[t]?

theorem getD_set (l : Array Bool) (i j : Nat) (hi : i < l.size) : (l.setIfInBounds i true).getD j false = if j = i then true else l.getD j false := by
  simp only [Array.getD_eq_getD_getElem?, Array.getElem?_setIfInBounds]
  by_cases h : j = i
  · subst h; simp [hi]
  · rw [if_neg h, if_neg (fun e => h e.symm)]
theorem getD_true_false {l : Array Bool} {i : Nat} (h : l.getD i true = false) : i < l.size ∧ l.getD i false = false := by
  simp only [Array.getD_eq_getD_getElem?] at *
  cases e : l[i]? with
  | none => rw [e] at h; cases h
  | some x => rw [e] at h; exact ⟨(Array.getElem?_eq_some_iff.1 e).1, h⟩

section
variable {ops : Array Oper} {n : Nat} {val : Nat → Value} {a0 : Act}

theorem Agr.put (hdist : ∀ (i j : Nat) (oi oj : Oper) (t : Tmp), i < n → j < n → ops[i]? = some oi → ops[j]? = some oj → oi.dst = some t → oj.dst = some t → i = j)
    (hin : ∀ (i : Nat) (o : Oper) (t : Tmp), i < n → ops[i]? = some o → o.dst = some t → t < a0.tmps.size) {listed : Array Bool} {a : Act} (h : Agr ops n val a0 listed a) {i : Nat} {o : Oper} (hi : i < n) (ho : ops[i]? = some o) (hs : i < listed.size) :
    Agr ops n val a0 (listed.setIfInBounds i true) (a.put o.dst (val i)) := by
  cases hd : o.dst with
  | none =>
    refine ⟨h.defers, h.size, fun j oj t hj hoj hl ht => ?_, fun t ht => ?_⟩
    · rw [getD_set _ _ _ hs] at hl
      by_cases e : j = i
      · subst e; rw [ho] at hoj; cases hoj; rw [hd] at ht; cases ht
      · rw [if_neg e] at hl; exact h.done j oj t hj hoj hl ht
    · exact h.else_ t fun j oj hj hoj hl => ht j oj hj hoj (by rw [getD_set _ _ _ hs]; split; rfl; exact hl)
  | some d =>
    have hdb : d < a.tmps.size := by rw [h.size]; exact hin i o d hi ho hd
    refine ⟨h.defers, by simp [Act.put, h.size], fun j oj t hj hoj hl ht => ?_, fun t ht => ?_⟩
    · rw [getD_set _ _ _ hs] at hl
      by_cases e : j = i
      · subst e
        rw [ho] at hoj; cases hoj
        rw [hd] at ht; cases ht
        simp [Act.put, hdb]
      · rw [if_neg e] at hl
        have hne : d ≠ t := fun e' => e (hdist j i oj o t hj hi hoj ho ht (e' ▸ hd))
        simp only [Act.put]
        rw [Array.getElem?_setIfInBounds_ne hne]
        exact h.done j oj t hj hoj hl ht
    · have hne : d ≠ t := fun e => ht i o hi ho (by rw [getD_set _ _ _ hs, if_pos rfl]) (e ▸ hd)
      simp only [Act.put]
      rw [Array.getElem?_setIfInBounds_ne hne]
      exact h.else_ t fun j oj hj hoj hl => ht j oj hj hoj (by rw [getD_set _ _ _ hs]; split; rfl; exact hl)

/-- Two that have all of them behind them are one. -/
theorem Agr.one {l l' : Array Bool} {a a' : Act} (h : Agr ops n val a0 l a) (h' : Agr ops n val a0 l' a') (hl : ∀ j, j < n → l.getD j false = true) (hl' : ∀ j, j < n → l'.getD j false = true) : a = a' := by
  have ht : a.tmps = a'.tmps := by
    apply Array.ext_getElem?
    intro t
    by_cases hx : ∃ j o, j < n ∧ ops[j]? = some o ∧ o.dst = some t
    · obtain ⟨j, o, hj, ho, hd⟩ := hx
      rw [h.done j o t hj ho (hl j hj) hd, h'.done j o t hj ho (hl' j hj) hd]
    · rw [h.else_ t fun j o hj ho _ hd => hx ⟨j, o, hj, ho, hd⟩, h'.else_ t fun j o hj ho _ hd => hx ⟨j, o, hj, ho, hd⟩]
  have hd : a.defers = a'.defers := h.defers.trans h'.defers.symm
  cases a; cases a'; simp_all
end

/-- How many of the first n are not listed. -/
def unl (l : Array Bool) : Nat → Nat
  | 0 => 0
  | n + 1 => unl l n + if l.getD n false = true then 0 else 1
theorem unl_same {l : Array Bool} {i : Nat} (hs : i < l.size) : ∀ {n : Nat}, n ≤ i → unl (l.setIfInBounds i true) n = unl l n
  | 0, _ => rfl
  | n + 1, h => by
    unfold unl
    have e : (l.setIfInBounds i true).getD n false = l.getD n false := by rw [getD_set _ _ _ hs, if_neg (by omega)]
    rw [unl_same hs (by omega), e]
theorem unl_set {l : Array Bool} {i : Nat} (hs : i < l.size) (hf : l.getD i false = false) : ∀ {n : Nat}, i < n → unl (l.setIfInBounds i true) n + 1 = unl l n
  | 0, h => by omega
  | n + 1, h => by
    unfold unl
    by_cases e : i = n
    · subst e
      rw [unl_same hs (Nat.le_refl _), getD_set _ _ _ hs, if_pos rfl, hf]
      simp
    · have := unl_set hs hf (n := n) (by omega)
      have e2 : (l.setIfInBounds i true).getD n false = l.getD n false := by rw [getD_set _ _ _ hs, if_neg (fun x => e x.symm)]
      rw [e2]
      omega
theorem unl_zero {l : Array Bool} : ∀ {n : Nat}, unl l n = 0 → ∀ j, j < n → l.getD j false = true
  | 0, _, j, hj => by omega
  | n + 1, h, j, hj => by
    unfold unl at h
    by_cases e : l.getD n false = true
    · by_cases ej : j = n
      · subst ej; exact e
      · exact unl_zero (n := n) (by omega) j (by omega)
    · rw [if_neg e] at h; omega
theorem unl_least {l : Array Bool} : ∀ {n : Nat}, unl l n ≠ 0 → ∃ q, q < n ∧ l.getD q false = false ∧ ∀ j, j < q → l.getD j false = true
  | 0, h => absurd rfl h
  | n + 1, h => by
    by_cases h0 : unl l n = 0
    · unfold unl at h
      rw [h0] at h
      by_cases e : l.getD n false = true
      · rw [if_pos e] at h; omega
      · exact ⟨n, by omega, Bool.eq_false_iff.2 e, unl_zero h0⟩
    · obtain ⟨q, h1, h2, h3⟩ := unl_least h0
      exact ⟨q, by omega, h2, h3⟩

def listedN (m n : Nat) : Array Bool := (Array.range m).map fun j => decide (j < n)
theorem listedN_get {m n j : Nat} (hj : j < m) : (listedN m n)[j]? = some (decide (j < n)) := by
  simp [listedN, hj]

section
variable {P : Program} {main : Bool} {D : World → World → Array Event → Prop} {Stop : Goroutine → World → Prop} {b : Frame} {k : List Item} {cs : List Frame}
variable {md : Region.Mode} {ops : Array Oper} {n : Nat} {val : Nat → Value} {a0 : Act}

/-- WHATEVER THE ORDER: the first n leave one state, and then number n comes up. -/
theorem quiet_first (J : World → Prop) (hlead : leadsOn md ops n = true) (htext : inText md ops n = true) {on : Oper} (hon : ops[n]? = some on)
    (hdist : ∀ (i j : Nat) (oi oj : Oper) (t : Tmp), i < n → j < n → ops[i]? = some oi → ops[j]? = some oj → oi.dst = some t → oj.dst = some t → i = j)
    (hin : ∀ (i : Nat) (o : Oper) (t : Tmp), i < n → ops[i]? = some o → o.dst = some t → t < a0.tmps.size)
    (hQ : ∀ (i : Nat) (o : Oper) (rest : List Nat) (listed : Array Bool) (a : Act) (w : World), i < n → ops[i]? = some o → (∀ e ∈ o.after.toList, Region.binds md e = true → listed.getD e.on false = true) → Agr ops n val a0 listed a → J w →
      (∀ w', J w' → GoesI P main D Stop (G (b.at (a.put o.dst (val i)) (.inRegion ops rest :: k)) cs) w') → GoesI P main D Stop (G (b.at a (.inRegion ops (i :: rest) :: k)) cs) w)
    (aF : Act) (hF : Agr ops n val a0 (listedN ops.size n) aF)
    (hN : ∀ t w, J w → GoesI P main D Stop (G (b.at aF (.inRegion ops (Region.linearise.go md ops (ops.size - n) t (listedN ops.size n) []) :: k)) cs) w) :
    ∀ (m t : Nat) (listed : Array Bool) (a : Act) (w : World), unl listed n = m → listed.size = ops.size → (∀ j, n ≤ j → listed.getD j false = false) → Closed md ops listed → Agr ops n val a0 listed a → J w →
      GoesI P main D Stop (G (b.at a (.inRegion ops (Region.linearise.go md ops (ops.size - n + m) t listed []) :: k)) cs) w := by
  have hns : n < ops.size := (Array.getElem?_eq_some_iff.1 hon).1
  intro m
  induction m with
  | zero =>
    intro t listed a w hm hsz hge _ hA hJ
    have hall := unl_zero hm
    have e : listed = listedN ops.size n := by
      apply Array.ext_getElem?
      intro j
      by_cases hj : j < ops.size
      · rw [listedN_get hj]
        have hjl : j < listed.size := by omega
        have hg : listed.getD j false = listed[j] := by rw [Array.getD_eq_getD_getElem?, Array.getElem?_eq_getElem hjl]; rfl
        rw [Array.getElem?_eq_getElem hjl, ← hg]
        by_cases hjn : j < n
        · rw [hall j hjn]; simp [hjn]
        · rw [hge j (by omega)]; simp [hjn]
      · rw [Array.getElem?_eq_none (by omega), Array.getElem?_eq_none (by simp [listedN]; omega)]
    subst e
    have ea := hA.one hF hall hall
    subst ea
    exact hN t w hJ
  | succ m ih =>
    intro t listed a w hm hsz hge hcl hA hJ
    rw [show ops.size - n + (m + 1) = (ops.size - n + m) + 1 by omega]
    simp only [Region.linearise.go]
    change GoesI P main D Stop (G (b.at a (.inRegion ops (match (Region.ready md ops listed)[t % (Region.ready md ops listed).length]? with
      | some i => Region.linearise.go md ops (ops.size - n + m) (t / (Region.ready md ops listed).length) (listed.setIfInBounds i true) [i]
      | none => [].reverse) :: k)) cs) w
    cases hi : (Region.ready md ops listed)[t % (Region.ready md ops listed).length]? with
    | none =>
      exfalso
      obtain ⟨q, hq1, hq2, hq3⟩ := unl_least (l := listed) (n := n) (by omega)
      have hqs : q < ops.size := by omega
      have hmem : q ∈ Region.ready md ops listed := by
        unfold Region.ready
        rw [List.mem_filter]
        refine ⟨List.mem_range.2 hqs, ?_⟩
        have hgt : listed.getD q true = false := by
          rw [Array.getD_eq_getD_getElem?, Array.getElem?_eq_getElem (by omega)] at hq2 ⊢
          exact hq2
        rw [hgt, Array.getElem?_eq_getElem hqs]
        simp only [Bool.not_false, Option.map_some, Option.getD_some, Bool.true_and, ← Array.all_toList, List.all_eq_true]
        intro e he
        rw [hq3 e.on ((inText_spec htext (Array.getElem?_eq_getElem hqs)).1 e he)]
        simp
      have hpos : 0 < (Region.ready md ops listed).length := List.length_pos_of_mem hmem
      have := List.getElem?_eq_none_iff.1 hi
      have := Nat.mod_lt t hpos
      omega
    | some i =>
      obtain ⟨h1, o, ho, hdep⟩ := mem_ready (List.mem_of_getElem? hi)
      obtain ⟨hil, hif⟩ := getD_true_false h1
      have hin' : i < n := by
        rcases Nat.lt_trichotomy i n with h | h | h
        · exact h
        · subst h
          obtain ⟨q, hq1, hq2, _⟩ := unl_least (l := listed) (n := i) (by omega)
          have := all_listed hlead hcl ho hdep (i - q) q rfl hq1
          rw [hq2] at this; cases this
        · obtain ⟨e, he, hb, hge'⟩ := (inText_spec htext ho).2 h
          have := hdep e he hb
          rw [hge _ hge'] at this; cases this
      simp only []
      rw [linearise_go_acc, List.reverse_singleton, List.singleton_append]
      refine hQ i o _ listed a w hin' ho hdep hA hJ fun w' hJ' => ?_
      refine ih _ _ _ _ ?_ (by simpa using hsz) (fun j hj => ?_) (fun s os hos hls e he hb => ?_) (hA.put hdist hin hin' ho hil) hJ'
      · have := unl_set hil hif hin'; omega
      · rw [getD_set _ _ _ hil, if_neg (by omega)]; exact hge j hj
      · rw [getD_set _ _ _ hil]
        split
        · rfl
        · rw [getD_set _ _ _ hil] at hls
          by_cases hsi : s = i
          · subst hsi
            rw [ho] at hos; cases hos
            exact hdep e he hb
          · rw [if_neg hsi] at hls
            exact hcl s os hos hls e he hb

/-- .. from the region's beginning. -/
theorem goesI_region_quiet (J : World → Prop) (hmix : P.follows .mixedOrders = true) (hJd : ∀ w d, J w → J (w.at d)) (hDd : ∀ w : World, D w { w with drawn := w.drawn + 1 } #[])
    (hlead : leadsOn .any ops n = true) (htext : inText .any ops n = true) {on : Oper} (hon : ops[n]? = some on)
    (hdist : ∀ (i j : Nat) (oi oj : Oper) (t : Tmp), i < n → j < n → ops[i]? = some oi → ops[j]? = some oj → oi.dst = some t → oj.dst = some t → i = j)
    (hin : ∀ (i : Nat) (o : Oper) (t : Tmp), i < n → ops[i]? = some o → o.dst = some t → t < a0.tmps.size)
    (hQ : ∀ (i : Nat) (o : Oper) (rest : List Nat) (listed : Array Bool) (a : Act) (w : World), i < n → ops[i]? = some o → (∀ e ∈ o.after.toList, Region.binds .any e = true → listed.getD e.on false = true) → Agr ops n val a0 listed a → J w →
      (∀ w', J w' → GoesI P main D Stop (G (b.at (a.put o.dst (val i)) (.inRegion ops rest :: k)) cs) w') → GoesI P main D Stop (G (b.at a (.inRegion ops (i :: rest) :: k)) cs) w)
    (aF : Act) (hF : Agr ops n val a0 (listedN ops.size n) aF)
    (hN : ∀ t w, J w → GoesI P main D Stop (G (b.at aF (.inRegion ops (Region.linearise.go .any ops (ops.size - n) t (listedN ops.size n) []) :: k)) cs) w) {id : Nat} {w : World} (hw : J w) :
    GoesI P main D Stop (G (b.at a0 (.code (.region id ops true) :: k)) cs) w := by
  have hns : n < ops.size := (Array.getElem?_eq_some_iff.1 hon).1
  refine .step rfl (fun d => G (b.at a0 (.inRegion ops (Region.schedule (P.follows .mixedOrders) ops ((w.at d).tape (w.at d).drawn (.order b.fn id))) :: k)) cs) (fun d => { w.at d with drawn := (w.at d).drawn + 1 }) (fun _ => #[]) (fun d => stepG_region_draw) (fun d => hDd _) (fun d => ?_)
  simp only [Region.schedule, hmix, Bool.true_or, if_true, Region.linearise]
  have hu : ∀ m, unl (Array.replicate ops.size false) m = m := fun m => by
    induction m with
    | zero => rfl
    | succ m ih =>
      unfold unl
      rw [ih, if_neg]
      simp only [Array.getD_eq_getD_getElem?, Array.getElem?_replicate]
      split <;> simp
  have hff : ∀ j, (Array.replicate ops.size false).getD j false = false := fun j => by
    simp only [Array.getD_eq_getD_getElem?, Array.getElem?_replicate]
    split <;> rfl
  have key := quiet_first (P := P) (main := main) (D := D) (Stop := Stop) (b := b) (k := k) (cs := cs) J hlead htext hon hdist hin hQ aF hF hN n ((w.at d).tape (w.at d).drawn (.order b.fn id)) (Array.replicate ops.size false) a0 { w.at d with drawn := (w.at d).drawn + 1 } (hu n) (by simp) (fun j _ => hff j)
    (fun s o _ hs => by rw [hff] at hs; cases hs) ⟨rfl, rfl, fun j o t _ _ hl => by (rw [hff] at hl; cases hl), fun _ _ => rfl⟩ (hJd w (d + 1) hw)
  rw [show ops.size - n + n = ops.size by omega] at key
  exact key
end

end Go.Lift

namespace Go.Lift
open Go.Conc
open Go.ConcN (sumTo upd sumTo_upd upd_ne upd_same)
section
variable {P : Program} {K : World → Prop} {Still : Loc → Prop} {Mem : Nat → Prop} {Inb : Nat → Option Seat} {h : Nat}

/-- It stands at a send of v on channel c; behind it it is on its way to its seat (some s), or only leaves (none); F is known of the world. -/
def AtGive (P : Program) (K : World → Prop) (Still : Loc → Prop) (h c : Nat) (v : Value) (o : Option Seat) (F : World → Prop) (a : Goroutine) (w : World) : Prop :=
  a.status = .running ∧ F w ∧ ∃ (a₂ : Goroutine) (z : Value) (es : Array Event) (nh B₀ : Nat), B₀ ≤ w.heap.size ∧ (∀ d, stepG P (h == 0) a (w.at d) = .comm a₂ #[scase c v z] true .send (w.at d) es) ∧ (∀ B, B₀ ≤ B → ∀ e ∈ es, EvHd Still B e) ∧
    ∀ B, B₀ ≤ B → ∀ T, Deaf T h = 0 → Idle P K Still B T h nh (Go.Conc.served a₂ undef) o

/-- THE TOKEN IS HANDED ON: from the holder's walk to its send, to the one who sits there, served. -/
theorem pass_on (hKat : ∀ w d, K w → K (w.at d)) {o : Option Seat} {F : World → Prop} {D : World → World → Array Event → Prop}
    (hseat : ∀ s, o = some s → s.Wf ∧ (∀ i s' c, i ≠ h → Inb i = some s' → s'.has c → ¬ s.has c) ∧ ∀ w, F w → ∀ c, s.has c → ∃ cap k, w.heap[c]? = some (.chan cap #[] false k k false))
    (hKc : ∀ w i s c cap buf cl a b tm, upd Inb h o i = some s → s.has c → K w → K (w.setChan c cap buf cl a b tm))
    (hKc0 : ∀ w i s c cap buf cl a b tm, Inb i = some s → s.has c → K w → K (w.setChan c cap buf cl a b tm))
    (hD : ∀ w w' es, D w w' es → K w → (∀ i s c, Inb i = some s → s.has c → ∃ o, w.heap[c]? = some o) → w.heap.size ≤ w'.heap.size ∧ ∀ B, w'.heap.size ≤ B → DH K Still B Inb w w' es)
    {a : Goroutine} {w : World} {j c kk : Nat} {s : Seat} {v z : Value} (hjh : j ≠ h) (hj : Inb j = some s) (hk : s.cases[kk]? = some (rcase c z)) (hMh : Mem h)
    (hG : GoesI P (h == 0) D (AtGive P K Still h c v o F) a w) (gs : Array Goroutine) (sl : Option (Nat × Nat)) (T : Trace) (q : Nat → Nat) (B : Nat) (hjlt : j < gs.size) (ha : gs[h]? = some a) (C : Ring P K Still B Mem Inb h T gs w q) :
    ∃ (N : Nat) (gs' : Array Goroutine) (w' : World) (g₂ : Goroutine) (d k cap : Nat) (sl' : Option (Nat × Nat)) (T' : Trace) (q' : Nat → Nat) (B' : Nat),
      runNT P N (crowd gs w sl) T = (.next (crowd gs' ((w'.at d).setChan c cap #[] false (k + 1) (k + 1) false) sl'), T') ∧ F w' ∧ gs'.size = gs.size ∧ gs'[j]? = some (Go.Conc.served g₂ (commResult s.cases s.shape kk v true)) ∧ s.home g₂ ∧ w'.heap[c]? = some (.chan cap #[] false k k false) ∧ (B ≤ B' ∧ B' ≤ max B w'.heap.size ∧ w.heap.size ≤ w'.heap.size) ∧
      Ring P K Still B' (fun g => Mem g ∧ (upd Inb h o g ≠ none ∨ g = j)) (upd Inb h o) j T' gs' ((w'.at d).setChan c cap #[] false (k + 1) (k + 1) false) q' := by
  obtain ⟨N1, gs1, a1, w1, sl1, T1, q1, B1, r1, z1, h1, ⟨hrun, hF, a₂, zz, es, nh, B₀, hB₀, hsend, hes, hafter⟩, ⟨hB1, hB1b, hB1c⟩, C1⟩ := hold_goes (Mem := Mem) hKat hD hG gs sl T q B ha C
  have hjo : upd Inb h o j = some s := by rw [upd_ne _ _ hjh]; exact hj
  have hsub : ∃ B2, B1 ≤ B2 ∧ B₀ ≤ B2 ∧ B2 ≤ max B w1.heap.size ∧ ∃ Inb1 : Nat → Option Seat, (∀ x, x ≠ h → upd Inb h o x = Inb1 x) ∧ (upd Inb h o h = Inb1 h ∨ upd Inb h o h = none) ∧ (∀ x, x ≠ h → Inb1 x = Inb x) ∧ (Inb1 = Inb ∨ upd Inb h o = Inb1) ∧ Ring P K Still B2 Mem Inb1 h T1 gs1 w1 q1 := by
    cases o with
    | none =>
      refine ⟨max B1 B₀, Nat.le_max_left _ _, Nat.le_max_right _ _, by omega, Inb, fun x hx => upd_ne _ _ hx, .inr (upd_same _ _ _), fun _ _ => rfl, .inl rfl, Ring.raise C1 (Nat.le_max_left _ _)⟩
    | some s' =>
      obtain ⟨k1, k2, k3⟩ := hseat s' rfl
      obtain ⟨Bc, hBcs, hBc⟩ : ∃ Bc, Bc = w1.heap.size ∧ ∀ c', s'.has c' → c' < Bc := by
        refine ⟨w1.heap.size, rfl, fun c' hc' => ?_⟩
        obtain ⟨cap, kk', e⟩ := k3 w1 hF c' hc'
        exact (Array.getElem?_eq_some_iff.1 e).1
      have C2 := Ring.reseat (Ring.raise C1 (show B1 ≤ max (max B1 B₀) Bc by omega)) hMh s' k1 k2 (k3 w1 hF) (fun c' hc' => by have := hBc c' hc'; omega)
      exact ⟨max (max B1 B₀) Bc, by omega, by omega, by omega, upd Inb h (some s'), fun _ _ => rfl, .inl rfl, fun x hx => upd_ne _ _ hx, .inr rfl, C2⟩
  obtain ⟨B2, hB2, hB02, hB2b, Inb1, hI1, hI2, hI3, hI5, C2⟩ := hsub
  have hj1 : Inb1 j = some s := by rw [← hI1 j hjh]; exact hjo
  have hKc1 : ∀ w i s c cap buf cl a b tm, Inb1 i = some s → s.has c → K w → K (w.setChan c cap buf cl a b tm) := by
    intro w i s c cap buf cl a b tm e hc hw
    by_cases ei : i = h
    · subst ei
      rcases hI2 with e2 | e2
      · exact hKc w i s c cap buf cl a b tm (by rw [e2]; exact e) hc hw
      · rw [upd_same] at e2
        rcases hI5 with e5 | e5
        · exact hKc0 w i s c cap buf cl a b tm (by rw [← e5]; exact e) hc hw
        · exact hKc w i s c cap buf cl a b tm (by rw [e5]; exact e) hc hw
    · exact hKc0 w i s c cap buf cl a b tm (by rw [← hI3 i ei]; exact e) hc hw
  obtain ⟨N2, m2, T2, r2, gs2, g₂, d, k, cap, sl2, q2, rfl, z2, h2, hh, hch, C3⟩ := give (sl := sl1) (Inb := Inb1) (Inb' := upd Inb h o) hKat hKc1 hjh (by omega) hj1 hk hMh h1 hrun hsend (hes B2 hB02) C2 hI1 hI2 (nh := nh) (fun T' hT' => by rw [upd_same]; exact hafter B2 hB02 T' hT')
  exact ⟨N1 + N2, gs2, w1, g₂, d, k, cap, sl2, T2, q2, B2, runNT_then r1 r2, hF, z2.trans z1, h2, hh, hch, ⟨Nat.le_trans hB1 hB2, hB2b, hB1c⟩, C3⟩
end
end Go.Lift

namespace Go.Lift
open Go.Conc
open Go.ConcN (sumTo upd sumTo_upd upd_ne upd_same)
section
variable {P : Program} {K : World → Prop} {Still : Loc → Prop} {Mem : Nat → Prop} {Inb : Nat → Option Seat} {h : Nat}

/-- It stands at a go statement whose goroutine is 'child'; behind it it is on its way to its seat (some s), or only leaves (none); F is known of the child and the world. -/
def AtHire (P : Program) (K : World → Prop) (Still : Loc → Prop) (h : Nat) (o : Option Seat) (F : Goroutine → World → Prop) (a : Goroutine) (w : World) : Prop :=
  a.status = .running ∧ ∃ (a' child : Goroutine) (es : Array Event) (nh B₀ : Nat), B₀ ≤ w.heap.size ∧ F child w ∧ (∀ d, stepG P (h == 0) a (w.at d) = .spawn a' child (w.at d) es) ∧ (∀ B, B₀ ≤ B → ∀ e ∈ es, EvHd Still B e) ∧
    ∀ B, B₀ ≤ B → ∀ T, Deaf T h = 0 → Idle P K Still B T h nh a' o

/-- THE CHILD HOLDS. -/
theorem hire_on (hKat : ∀ w d, K w → K (w.at d)) {o : Option Seat} {F : Goroutine → World → Prop} {D : World → World → Array Event → Prop}
    (hseat : ∀ s, o = some s → s.Wf ∧ (∀ i s' c, i ≠ h → Inb i = some s' → s'.has c → ¬ s.has c) ∧ ∀ g w, F g w → ∀ c, s.has c → ∃ cap k, w.heap[c]? = some (.chan cap #[] false k k false))
    (hD : ∀ w w' es, D w w' es → K w → (∀ i s c, Inb i = some s → s.has c → ∃ o, w.heap[c]? = some o) → w.heap.size ≤ w'.heap.size ∧ ∀ B, w'.heap.size ≤ B → DH K Still B Inb w w' es)
    {a : Goroutine} {w : World} (hMh : Mem h) (hG : GoesI P (h == 0) D (AtHire P K Still h o F) a w) (gs : Array Goroutine) (sl : Option (Nat × Nat)) (T : Trace) (q : Nat → Nat) (B : Nat) (hnew : Inb gs.size = none) (ha : gs[h]? = some a) (C : Ring P K Still B Mem Inb h T gs w q) :
    ∃ (N : Nat) (gs' : Array Goroutine) (w' : World) (child : Goroutine) (d : Nat) (sl' : Option (Nat × Nat)) (T' : Trace) (q' : Nat → Nat) (B' : Nat),
      runNT P N (crowd gs w sl) T = (.next (crowd gs' (w'.at d) sl'), T') ∧ F child w' ∧ gs'.size = gs.size + 1 ∧ gs'[gs.size]? = some child ∧ (B ≤ B' ∧ B' ≤ max B w'.heap.size ∧ w.heap.size ≤ w'.heap.size) ∧
      Ring P K Still B' (fun g => (Mem g ∧ upd Inb h o g ≠ none) ∨ g = gs.size) (upd Inb h o) gs.size T' gs' (w'.at d) q' := by
  obtain ⟨N1, gs1, a1, w1, sl1, T1, q1, B1, r1, z1, h1, ⟨hrun, a', child, es, nh, B₀, hB₀, hF, hgo, hes, hafter⟩, ⟨hB1, hB1b, hB1c⟩, C1⟩ := hold_goes (Mem := Mem) hKat hD hG gs sl T q B ha C
  have hhs : h ≠ gs.size := fun e => by have := (Array.getElem?_eq_some_iff.1 ha).1; omega
  have hsub : ∃ B2, B1 ≤ B2 ∧ B₀ ≤ B2 ∧ B2 ≤ max B w1.heap.size ∧ ∃ Inb1 : Nat → Option Seat, (∀ x, x ≠ h → upd Inb h o x = Inb1 x) ∧ (upd Inb h o h = Inb1 h ∨ upd Inb h o h = none) ∧ (∀ x, x ≠ h → Inb1 x = Inb x) ∧ Ring P K Still B2 Mem Inb1 h T1 gs1 w1 q1 := by
    cases o with
    | none => exact ⟨max B1 B₀, Nat.le_max_left _ _, Nat.le_max_right _ _, by omega, Inb, fun x hx => upd_ne _ _ hx, .inr (upd_same _ _ _), fun _ _ => rfl, Ring.raise C1 (Nat.le_max_left _ _)⟩
    | some s' =>
      obtain ⟨k1, k2, k3⟩ := hseat s' rfl
      have hBc : ∀ c', s'.has c' → c' < w1.heap.size := fun c' hc' => by
        obtain ⟨cap, kk', e⟩ := k3 child w1 hF c' hc'
        exact (Array.getElem?_eq_some_iff.1 e).1
      have C2 := Ring.reseat (Ring.raise C1 (show B1 ≤ max (max B1 B₀) w1.heap.size by omega)) hMh s' k1 k2 (k3 child w1 hF) (fun c' hc' => by have := hBc c' hc'; omega)
      exact ⟨max (max B1 B₀) w1.heap.size, by omega, by omega, by omega, upd Inb h (some s'), fun _ _ => rfl, .inl rfl, fun x hx => upd_ne _ _ hx, C2⟩
  obtain ⟨B2, hB2, hB02, hB2b, Inb1, hI1, hI2, hI3, C2⟩ := hsub
  obtain ⟨N2, gs2, d, sl2, T2, q2, r2, z2, h2, C3⟩ := hire_give (sl := sl1) (Inb := Inb1) (Inb' := upd Inb h o) hKat hMh h1 hrun hgo (hes B2 hB02) C2 (by rw [z1, hI3 _ (Ne.symm hhs)]; exact hnew) hI1 hI2 (nh := nh) (fun T' hT' => by rw [upd_same]; exact hafter B2 hB02 T' hT')
  rw [z1] at z2 h2 C3
  exact ⟨N1 + N2, gs2, w1, child, d, sl2, T2, q2, B2, runNT_then r1 r2, hF, z2, h2, ⟨Nat.le_trans hB1 hB2, hB2b, hB1c⟩, C3⟩
end
end Go.Lift

namespace Go.Lift
open Go.Conc

/-- What is listed is well: no still cell is written. -/
def OkT (Sc : Addr → Prop) (e : Event) : Prop := Okay true e ∧ ∀ a, e.loc = .cell a → e.write = true → ¬ Sc a
/-- A holder that writes while others sit: still cells stay, seats' channels stay. -/
def DTw (Sc : Addr → Prop) (Ch : Nat → Prop) (w w' : World) (es : Array Event) : Prop :=
  (∀ a v, Sc a → w.cell? a = some v → w'.cell? a = some v) ∧ (∀ c o, Ch c → w.heap[c]? = some o → w'.heap[c]? = some o) ∧ ∀ e ∈ es, OkT Sc e
/-- No block goes; what is listed lies there. -/
def Lo (w w' : World) (es : Array Event) : Prop := w.heap.size ≤ w'.heap.size ∧ ∀ e ∈ es, e.loc.low w'.heap.size
def DT (Sc : Addr → Prop) (Ch : Nat → Prop) (w w' : World) (es : Array Event) : Prop := DTw Sc Ch w w' es ∧ Lo w w' es
/-- Still places are still cells. -/
def StillC (Sc : Addr → Prop) (l : Loc) : Prop := ∃ a, l = .cell a ∧ Sc a
/-- What lies in the still cells. -/
def KC (Sc : Addr → Prop) (cont : Addr → Value) (w : World) : Prop := ∀ a, Sc a → w.cell? a = some (cont a)

theorem dt_idle (Sc : Addr → Prop) (Ch : Nat → Prop) (w : World) : DT Sc Ch w w #[] := ⟨⟨fun _ _ _ h => h, fun _ _ _ h => h, fun e he => by simp at he⟩, Nat.le_refl _, fun e he => by simp at he⟩
theorem dt_draw (Sc : Addr → Prop) (Ch : Nat → Prop) (w : World) : DT Sc Ch w { w with drawn := w.drawn + 1 } #[] := ⟨⟨fun _ _ _ h => h, fun _ _ _ h => h, fun e he => by simp at he⟩, Nat.le_refl _, fun e he => by simp at he⟩

theorem okT_evHd {Sc : Addr → Prop} {e : Event} (he : OkT Sc e) {B : Nat} (hB : e.loc.low B) : EvHd (StillC Sc) B e := by
  obtain ⟨hok, hs⟩ := he
  obtain ⟨loc, write, sync⟩ := e
  rcases hok with ⟨a, h1, _⟩ | ⟨r, h1, h2⟩ | h1 | ⟨f, h1⟩
  · simp only at h1
    subst h1
    refine ⟨fun x hx hst => ?_, by simp, by simp, hB⟩
    simp only [MemAct.ofEvent, MemAct.touch?, Option.some.injEq] at hx
    subst hx
    obtain ⟨a', e, hsc⟩ := hst
    simp only [Loc.cell.injEq] at e
    subst e
    cases write with
    | false => rfl
    | true => exact absurd hsc (hs a rfl rfl)
  · simp only at h1 h2
    subst h1 h2
    refine ⟨fun x hx _ => ?_, by simp, by simp, hB⟩
    simp only [MemAct.ofEvent, MemAct.touch?, Option.some.injEq] at hx
    subst hx
    rfl
  · simp only at h1
    subst h1
    exact ⟨fun x hx _ => by simp [MemAct.ofEvent, MemAct.touch?] at hx, by simp, by simp, trivial⟩
  · simp only at h1
    subst h1
    exact ⟨fun x hx _ => by simp [MemAct.ofEvent, MemAct.touch?] at hx, by simp, by simp, trivial⟩

theorem dh_of_dt {Sc : Addr → Prop} {cont : Addr → Value} {Ch : Nat → Prop} {Inb : Nat → Option Seat} (hCh : ∀ i s c, Inb i = some s → s.has c → Ch c) (w w' : World) (es : Array Event) (h : DT Sc Ch w w' es) (_ : KC Sc cont w)
    (hc : ∀ i s c, Inb i = some s → s.has c → ∃ o, w.heap[c]? = some o) : w.heap.size ≤ w'.heap.size ∧ ∀ B, w'.heap.size ≤ B → DH (KC Sc cont) (StillC Sc) B Inb w w' es :=
  ⟨h.2.1, fun B hb => ⟨fun hk a ha => h.1.1 a _ ha (hk a ha), fun i s c e hs => by obtain ⟨o, ho⟩ := hc i s c e hs; rw [ho]; exact h.1.2.1 c o (hCh i s c e hs) ho, fun e he => okT_evHd (h.1.2.2 e he) (Loc.low_mono hb (h.2.2 e he))⟩⟩

theorem kc_at {Sc : Addr → Prop} {cont : Addr → Value} (w : World) (d : Nat) (h : KC Sc cont w) : KC Sc cont (w.at d) := h

end Go.Lift

namespace Go.Lift
open Go.Conc
theorem ask_heap {α : Type} : ∀ (a : Ask α) (w : World), (w.ask a).2.heap = w.heap := by
  intro a
  induction a with
  | done x => intro w; rfl
  | ask what range k ih =>
    intro w
    simp only [World.ask]
    split
    · exact ih _ _
    · exact ih _ _
theorem sys_heap (w : World) (c : Sys) : (w.sys c).2.heap = w.heap := by
  have := ask_heap (Kernel.perform c w.os) w
  unfold World.sys
  split
  · rfl
  · rename_i h
    rw [h] at this
    exact this
theorem farStore_size {P : Program} {v v' : World} {a : Addr} {x : Value} {b : Bool} {l : List Addr} (h : v.farStore P a x b = .ok (v', l)) : v'.heap.size = v.heap.size := by
  have hr : Rel zn v v := ⟨fun r => (by cases v.heap[r]? <;> simp [zap_none]), fun _ _ _ _ _ h => (nomatch h), fun _ _ h => (nomatch h), rfl, rfl⟩
  obtain ⟨_, _, _, _, _, _, _, h1, _⟩ := farStore_rel hr h
  exact h1
/-- What an operation that comes to its end lists lies there. -/
theorem runT_lo {P : Program} {α : Type} : ∀ (s : Sem α) (w : World) (es : Array Event) (x : α) (w' : World) (es' : Array Event), s.runT P w es = (.ok x w', es') → w.heap.size ≤ w'.heap.size ∧ ∀ e ∈ es', e ∈ es ∨ e.loc.low w'.heap.size := by
  intro s
  induction s with
  | pure a =>
    intro w es x w' es' h
    simp only [Sem.runT, Prod.mk.injEq, Result.ok.injEq] at h
    obtain ⟨⟨_, rfl⟩, rfl⟩ := h
    exact ⟨Nat.le_refl _, fun e he => .inl he⟩
  | load m a k ih =>
    intro w es x w' es' h
    simp only [Sem.runT] at h
    cases hc : w.cell? a with
    | some y =>
      rw [hc] at h
      obtain ⟨h1, h2⟩ := ih y _ _ _ _ _ h
      refine ⟨h1, fun e he => (h2 e he).elim (fun h3 => ?_) .inr⟩
      rcases Array.mem_push.1 h3 with h5 | rfl
      · exact .inl h5
      · exact .inr (Nat.lt_of_lt_of_le (World.block_lt_of_cell? _ _ hc) h1)
    | none =>
      rw [hc] at h
      cases hfl : w.farLoad P a (m == .atomic) with
      | error e => simp only [hfl] at h; cases h
      | ok r =>
        simp only [hfl] at h
        obtain ⟨h1, h2⟩ := ih r.1 _ _ _ _ _ h
        refine ⟨h1, fun e he => (h2 e he).elim (fun h3 => ?_) .inr⟩
        rcases Array.mem_append.1 h3 with h5 | h5
        · exact .inl h5
        · obtain ⟨b, hb, rfl⟩ := Array.mem_map.1 h5
          exact .inr (Nat.lt_of_lt_of_le (farLoad_low hfl b (by simpa using hb)) h1)
  | store m a y k ih =>
    intro w es x w' es' h
    cases y
    case agg => simp [Sem.runT] at h
    case tuple => simp [Sem.runT] at h
    all_goals
      simp only [Sem.runT] at h
      cases hc : w.cell? a with
      | none =>
        rw [hc] at h
        simp only [] at h
        split at h
        rotate_left
        · cases h
        · rename_i v₁ l e1
          obtain ⟨h1, h2⟩ := ih _ _ _ _ _ h
          have hz := farStore_size e1
          refine ⟨by omega, fun e he => (h2 e he).elim (fun h3 => ?_) .inr⟩
          rcases Array.mem_append.1 h3 with h5 | h5
          · exact .inl h5
          · obtain ⟨b, hb, rfl⟩ := Array.mem_map.1 h5
            have := farStore_low e1 b (by simpa using hb)
            exact .inr (show b.block < w'.heap.size by omega)
      | some z =>
        rw [hc] at h
        simp only [] at h
        split at h
        · cases h
        · obtain ⟨h1, h2⟩ := ih _ _ _ _ _ h
          have hs : w.heap.size ≤ w'.heap.size := by simpa [World.setCell] using h1
          refine ⟨hs, fun e he => (h2 e he).elim (fun h3 => ?_) .inr⟩
          rcases Array.mem_push.1 h3 with h5 | rfl
          · exact .inl h5
          · exact .inr (Nat.lt_of_lt_of_le (World.block_lt_of_cell? _ _ hc) hs)
  | new o k ih =>
    intro w es x w' es' h
    obtain ⟨h1, h2⟩ := ih _ _ _ _ _ _ h
    exact ⟨by simp only [Array.size_push] at h1; omega, h2⟩
  | shape r k ih => intro w es x w' es' h; exact ih _ _ _ _ _ _ h
  | freeze a n k ih =>
    intro w es x w' es' h
    obtain ⟨h1, h2⟩ := ih _ _ _ _ _ h
    refine ⟨Nat.le_trans (Nat.le_of_eq ?_) h1, h2⟩
    unfold World.freeze
    split
    · rfl
    · simp
  | frozen a k ih => intro w es x w' es' h; exact ih _ _ _ _ _ _ h
  | getObj r k ih =>
    intro w es x w' es' h
    simp only [Sem.runT] at h
    split at h
    · cases h
    · rename_i o ho1 ho
      obtain ⟨h1, h2⟩ := ih _ _ _ _ _ _ h
      refine ⟨h1, fun e he => (h2 e he).elim (fun h3 => ?_) .inr⟩
      rcases Array.mem_push.1 h3 with h5 | rfl
      · exact .inl h5
      · exact .inr (Nat.lt_of_lt_of_le (Array.getElem?_eq_some_iff.1 ho).1 h1)
    · cases h
  | setObj r o k ih =>
    intro w es x w' es' h
    simp only [Sem.runT] at h
    split at h
    · cases h
    · rename_i o' ho1 ho
      obtain ⟨h1, h2⟩ := ih _ _ _ _ _ h
      have h1' : w.heap.size ≤ w'.heap.size := by simpa using h1
      refine ⟨h1', fun e he => (h2 e he).elim (fun h3 => ?_) .inr⟩
      rcases Array.mem_push.1 h3 with h5 | rfl
      · exact .inl h5
      · exact .inr (Nat.lt_of_lt_of_le (Array.getElem?_eq_some_iff.1 ho).1 h1')
    · cases h
  | choose q k ih =>
    intro w es x w' es' h
    simp only [Sem.runT] at h
    split at h
    · exact ih _ _ _ _ _ _ h
    · exact ih _ { w with drawn := w.drawn + 1 } _ _ _ _ h
  | sys c k ih =>
    intro w es x w' es' h
    obtain ⟨h1, h2⟩ := ih _ _ _ _ _ _ h
    refine ⟨by rw [sys_heap] at h1; exact h1, fun e he => (h2 e he).elim (fun h3 => ?_) .inr⟩
    rcases Array.mem_push.1 h3 with h5 | rfl
    · exact .inl h5
    · exact .inr trivial
  | program k ih => intro w es x w' es' h; exact ih _ _ _ _ _ _ h
  | mark m k ih =>
    intro w es x w' es' h
    obtain ⟨h1, h2⟩ := ih _ _ _ _ _ h
    refine ⟨h1, fun e he => (h2 e he).elim (fun h3 => ?_) .inr⟩
    rcases Array.mem_push.1 h3 with h5 | rfl
    · exact .inl h5
    · exact .inr trivial
  | halt y => intro w es x w' es' h; simp [Sem.runT] at h

section
variable {P : Program} {main : Bool} {D : World → World → Array Event → Prop} {Stop : Goroutine → World → Prop}

theorem goesI_goes {g : Goroutine} {w : World} (hs : g.status = .running) (h : ∀ d, (stepG P main g (w.at d)).goes fun g' w' es => D (w.at d) w' es ∧ GoesI P main D Stop g' w') : GoesI P main D Stop g w := by
  have hx : ∀ d, ∃ g' w' es, stepG P main g (w.at d) = .go g' w' es ∧ D (w.at d) w' es ∧ GoesI P main D Stop g' w' := fun d => by
    have := h d
    revert this
    cases e : stepG P main g (w.at d) <;> simp only [GStep.goes, false_imp_iff]
    exact fun ⟨x, y⟩ => ⟨_, _, _, rfl, x, y⟩
  exact .step hs (fun d => (hx d).choose) (fun d => (hx d).choose_spec.choose) (fun d => (hx d).choose_spec.choose_spec.choose) (fun d => (hx d).choose_spec.choose_spec.choose_spec.1) (fun d => (hx d).choose_spec.choose_spec.choose_spec.2.1) (fun d => (hx d).choose_spec.choose_spec.choose_spec.2.2)

variable {b : Frame} {a : Act} {k : List Item} {cs : List Frame} {w : World} {ops : Array Oper} {i : Nat} {rest : List Nat} {o : Oper}

theorem lo_listed {P : Program} {f : FuncId} {a : Act} {o : Oper} {w w' : World} {x : Next} (h : (execOp a.eval o).run P w = .ok x w') : Lo w w' (listed P f a o w) := by
  have e : (execOp a.eval o).runT P w #[] = (.ok x w', (execOp a.eval o).events P w #[]) := by
    rw [← h, ← runT_fst (execOp a.eval o) w #[]]
    rfl
  have := runT_lo _ _ _ _ _ _ e
  exact ⟨this.1, fun y hy => (this.2 y (mem_listed hy)).elim (fun h => by simp at h) id⟩

theorem goesI_oper {Sc : Addr → Prop} {Ch : Nat → Prop} (ho : ops[i]? = some o) (hw : Region.wanted o (yielded ops a.tmps) = true) (hk : b.kind ≠ .early)
    (h : ∀ d (K' : Act → World → Prop), (∀ a' w', DTw Sc Ch (w.at d) w' (listed P b.fn a o (w.at d)) ∧ GoesI P main (DT Sc Ch) Stop (G (b.at a' (.inRegion ops rest :: k)) cs) w' → K' a' w') → uponK o a K' ((execOp a.eval o).run P (w.at d))) :
    GoesI P main (DT Sc Ch) Stop (G (b.at a (.inRegion ops (i :: rest) :: k)) cs) w :=
  goesI_goes rfl fun d => goes_oper_k ho hw hk (fun K' hK' => by
    have hx := h d (fun a' w' => DTw Sc Ch (w.at d) w' (listed P b.fn a o (w.at d)) ∧ GoesI P main (DT Sc Ch) Stop (G (b.at a' (.inRegion ops rest :: k)) cs) w') (fun _ _ h => h)
    cases hr : (execOp a.eval o).run P (w.at d) with
    | halt _ _ => rw [hr] at hx; exact hx.elim
    | ok x w' =>
      have lo : Lo (w.at d) w' (listed P b.fn a o (w.at d)) := lo_listed hr
      rw [hr] at hx
      cases x <;> first | exact hx.elim | exact hK' _ _ ⟨⟨hx.1, lo⟩, hx.2⟩)

theorem okT_read (Sc : Addr → Prop) (a : Addr) (sy : Bool) : OkT Sc ⟨.cell a, false, sy⟩ := ⟨.inl ⟨a, rfl, fun _ => rfl⟩, fun _ _ h => nomatch h⟩
/-- A step that leaves the world as it is and lists reads alone. -/
theorem dt_reads {Sc : Addr → Prop} {Ch : Nat → Prop} {es : Array Event} (h : ∀ e ∈ es, ∃ a sy, e = ⟨.cell a, false, sy⟩) : DTw Sc Ch w w es :=
  ⟨fun _ _ _ h => h, fun _ _ _ h => h, fun e he => by obtain ⟨a, sy, rfl⟩ := h e he; exact okT_read Sc a sy⟩

end

/-- A call of a function with a body lists nothing. -/
theorem events_callFunc_body {P : Program} {f : FuncId} {fn : Func} {c : Code} (hf : P.funcs[f]? = some fn) (hname : (fn.name == "runtime.NumGoroutine") = false) (hb : fn.body = some c) (args : Array Value) (w : World) (es : Array Event) :
    (callFunc f args).events P w es = es := by
  have h1 : fn.name ≠ "runtime.NumGoroutine" := by simpa using hname
  simp [callFunc, Sem.events_bind, run_program, Result.evThen_ok, events_program, hf, h1, hb]

end Go.Lift

namespace Go.Lift
open Go.Conc
section
variable {P : Program} {main : Bool} {D : World → World → Array Event → Prop} {Stop : Goroutine → World → Prop} {k : List Item} {cs : List Frame} {w : World} {ops : Array Oper} {i : Nat} {rest : List Nat} {o : Oper}

end
end Go.Lift
