/- Recipes as plain data: what reaches what, what can be built and what it gives, and the asking for keys. -/
set_option linter.unusedVariables false
set_option linter.unusedSimpArgs false
namespace Go.Proofs.Ytgohfdgkihoilaa.Rcp
open Classical

/-- A recipe. -/
structure Rc where
  needs : List Int
  level : Int
  act : Int
  value : Int
  fin : Int

def r0 : Rc := ⟨[], 0, 0, 0, 0⟩
def Long (l : List Rc) : Prop := 100 < l.length ∨ ∃ r ∈ l, 20 < r.needs.length
def okR (r : Rc) : Prop := 0 ≤ r.level ∧ r.level ≤ 7 ∧ 0 ≤ r.act ∧ r.act ≤ 2 ∧ 0 ≤ r.fin ∧ r.fin ≤ 2 ∧ -1000 ≤ r.value ∧ r.value ≤ 1000
def okN (l : List Rc) (r : Rc) : Prop := ∀ n ∈ r.needs, 0 ≤ n ∧ n < l.length ∧ (l.getD n.toNat r0).level ≤ r.level
def Good (l : List Rc) : Prop := 0 < l.length ∧ ∀ r ∈ l, okR r ∧ okN l r
/-- What Right tells. -/
noncomputable def rightS (l : List Rc) : Int := if Long l then 2 else if Good l then 0 else 110
structure RIGHT (l : List Rc) : Prop where
  short : ¬ Long l
  good : Good l
theorem rightS_iff (l : List Rc) : rightS l = 0 ↔ RIGHT l := by
  unfold rightS
  by_cases h : Long l
  · simp [h]; exact fun h' => h'.short h
  · by_cases g : Good l
    · simp [h, g]; exact ⟨h, g⟩
    · simp [h, g]; exact fun h' => g h'.good

def nd (l : List Rc) (k : Nat) : List Nat := (l.getD k r0).needs.map Int.toNat
def gives (l : List Rc) (k : Nat) : Bool := (l.getD k r0).act == 0
def vl (l : List Rc) (k : Nat) : Int := (l.getD k r0).value

/-- What reaches what. -/
inductive Rch (N : Nat → List Nat) : Nat → Nat → Prop
  | one {a b : Nat} : b ∈ N a → Rch N a b
  | step {a b c : Nat} : b ∈ N a → Rch N b c → Rch N a c
theorem Rch.trans {N : Nat → List Nat} {a b c : Nat} (h : Rch N a b) (k : Rch N b c) : Rch N a c := by
  induction h with
  | one h => exact .step h k
  | step h _ ih => exact .step h (ih k)
theorem Rch.snoc {N : Nat → List Nat} {a b c : Nat} (h : Rch N a b) (k : c ∈ N b) : Rch N a c := h.trans (.one k)
theorem Rch.lt {N : Nat → List Nat} {m a b : Nat} (hN : ∀ k, k < m → ∀ j ∈ N k, j < m) (h : Rch N a b) (ha : a < m) : b < m := by
  induction h with
  | one h => exact hN _ ha _ h
  | step h _ ih => exact ih (hN _ ha _ h)

def sumO : List (Option Int) → Option Int
  | [] => some 0
  | none :: _ => none
  | some a :: r => (sumO r).map (a + ·)
theorem sumO_some : ∀ {l : List (Option Int)} {s : Int}, sumO l = some s → ∀ o ∈ l, ∃ a, o = some a
  | [], _, _ => fun o ho => by cases ho
  | none :: r, s, h => by simp [sumO] at h
  | some a :: r, s, h => by
    intro o ho
    rcases List.mem_cons.1 ho with rfl | ho
    · exact ⟨a, rfl⟩
    · cases hr : sumO r with
      | none => simp [sumO, hr] at h
      | some t => exact sumO_some hr o ho
theorem sumO_map {α : Type} (f : α → Option Int) (g : α → Int) : ∀ (l : List α), (∀ x ∈ l, f x = some (g x)) → sumO (l.map f) = some ((l.map g).sum)
  | [], _ => rfl
  | x :: r, h => by
    simp only [List.map_cons, h x (by simp), sumO, sumO_map f g r (fun y hy => h y (by simp [hy])), Option.map_some, List.sum_cons]

/-- What a key gives, gone down so far. -/
def gvF (N : Nat → List Nat) (A : Nat → Bool) (V : Nat → Int) : Nat → Nat → Option Int
  | 0, _ => none
  | n + 1, k => if A k = true then (sumO ((N k).map (gvF N A V n))).map (fun s => (V k + s) % 1000003) else none

section
variable {N : Nat → List Nat} {A : Nat → Bool} {V : Nat → Int}
theorem gvF_mono : ∀ {n k : Nat} {v : Int}, gvF N A V n k = some v → gvF N A V (n + 1) k = some v
  | 0, _, _, h => by simp [gvF] at h
  | n + 1, k, v, h => by
    unfold gvF at h ⊢
    by_cases hA : A k = true
    · rw [if_pos hA] at h ⊢
      cases hs : sumO ((N k).map (gvF N A V n)) with
      | none => simp [hs] at h
      | some s =>
        have h1 := sumO_some hs
        have e : (N k).map (gvF N A V (n + 1)) = (N k).map (gvF N A V n) := List.map_congr_left fun j hj => by
          obtain ⟨a, ha⟩ := h1 _ (List.mem_map_of_mem hj)
          rw [ha, gvF_mono ha]
        rw [e]
        exact h
    · rw [if_neg hA] at h; cases h
theorem gvF_le {n m k : Nat} {v : Int} (h : gvF N A V n k = some v) (hm : n ≤ m) : gvF N A V m k = some v := by
  induction hm with
  | refl => exact h
  | step _ ih => exact gvF_mono ih
end
def Can (N : Nat → List Nat) (A : Nat → Bool) (V : Nat → Int) (k : Nat) : Prop := ∃ n v, gvF N A V n k = some v
/-- What a key gives; 0 where it cannot be built. -/
noncomputable def val (N : Nat → List Nat) (A : Nat → Bool) (V : Nat → Int) (k : Nat) : Int :=
  if h : ∃ v, ∃ n, gvF N A V n k = some v then h.choose else 0

section
variable {N : Nat → List Nat} {A : Nat → Bool} {V : Nat → Int}
theorem val_of {n k : Nat} {v : Int} (h : gvF N A V n k = some v) : val N A V k = v := by
  have he : ∃ v, ∃ n, gvF N A V n k = some v := ⟨v, n, h⟩
  unfold val
  rw [dif_pos he]
  obtain ⟨m, hm⟩ := he.choose_spec
  have h1 := gvF_le h (Nat.le_max_left n m)
  have h2 := gvF_le hm (Nat.le_max_right n m)
  rw [h1] at h2
  exact (Option.some.inj h2).symm
theorem val_no {k : Nat} (h : ¬ Can N A V k) : val N A V k = 0 := by
  unfold val
  rw [dif_neg]
  rintro ⟨v, n, h'⟩
  exact h ⟨n, v, h'⟩
theorem can_all : ∀ (l : List Nat), (∀ j ∈ l, Can N A V j) → ∃ n, ∀ j ∈ l, gvF N A V n j = some (val N A V j)
  | [], _ => ⟨0, fun j hj => by cases hj⟩
  | x :: r, h => by
    obtain ⟨n, hn⟩ := can_all r (fun j hj => h j (by simp [hj]))
    obtain ⟨m, v, hm⟩ := h x (by simp)
    refine ⟨max n m, fun j hj => ?_⟩
    rcases List.mem_cons.1 hj with rfl | hj
    · rw [val_of hm]; exact gvF_le hm (Nat.le_max_right _ _)
    · exact gvF_le (hn j hj) (Nat.le_max_left _ _)
theorem gv_build {k : Nat} (hA : A k = true) (h : ∀ j ∈ N k, Can N A V j) : ∃ n, gvF N A V n k = some ((V k + ((N k).map (val N A V)).sum) % 1000003) := by
  obtain ⟨n, hn⟩ := can_all _ h
  exact ⟨n + 1, by unfold gvF; rw [if_pos hA, sumO_map _ _ _ hn]; rfl⟩
theorem can_iff {k : Nat} : Can N A V k ↔ A k = true ∧ ∀ j ∈ N k, Can N A V j := by
  constructor
  · rintro ⟨n, v, h⟩
    cases n with
    | zero => simp [gvF] at h
    | succ n =>
      unfold gvF at h
      by_cases hA : A k = true
      · refine ⟨hA, fun j hj => ?_⟩
        rw [if_pos hA] at h
        cases hs : sumO ((N k).map (gvF N A V n)) with
        | none => simp [hs] at h
        | some s =>
          obtain ⟨a, ha⟩ := sumO_some hs _ (List.mem_map_of_mem hj)
          exact ⟨n, a, ha⟩
      · rw [if_neg hA] at h; cases h
  · rintro ⟨hA, h⟩
    obtain ⟨n, hn⟩ := gv_build hA h
    exact ⟨n, _, hn⟩
theorem val_eq {k : Nat} (h : Can N A V k) : val N A V k = (V k + ((N k).map (val N A V)).sum) % 1000003 := by
  obtain ⟨hA, hj⟩ := can_iff.1 h
  obtain ⟨n, hn⟩ := gv_build hA hj
  exact val_of hn
theorem val_range (k : Nat) : 0 ≤ val N A V k ∧ val N A V k < 1000003 := by
  by_cases h : Can N A V k
  · rw [val_eq h]; omega
  · rw [val_no h]; omega
theorem can_reach {k j : Nat} (h : Rch N k j) : Can N A V k → Can N A V j := by
  induction h with
  | one h => exact fun hc => (can_iff.1 hc).2 _ h
  | step h _ ih => exact fun hc => ih ((can_iff.1 hc).2 _ h)
theorem gv_one {n k j : Nat} (hk : ∃ v, gvF N A V n k = some v) (h : j ∈ N k) : ∃ n', n' < n ∧ ∃ v, gvF N A V n' j = some v := by
  obtain ⟨v, hv⟩ := hk
  cases n with
  | zero => simp [gvF] at hv
  | succ n =>
    unfold gvF at hv
    by_cases hA : A k = true
    · rw [if_pos hA] at hv
      cases hs : sumO ((N k).map (gvF N A V n)) with
      | none => simp [hs] at hv
      | some s =>
        obtain ⟨a, ha⟩ := sumO_some hs _ (List.mem_map_of_mem h)
        exact ⟨n, Nat.lt_succ_self _, a, ha⟩
    · rw [if_neg hA] at hv; cases hv
theorem gv_down {n k j : Nat} (hk : ∃ v, gvF N A V n k = some v) (h : Rch N k j) : ∃ n', n' < n ∧ ∃ v, gvF N A V n' j = some v := by
  induction h generalizing n with
  | one h => exact gv_one hk h
  | step h _ ih =>
    obtain ⟨n1, h1, hv1⟩ := gv_one hk h
    obtain ⟨n2, h2, hv2⟩ := ih hv1
    exact ⟨n2, Nat.lt_trans h2 h1, hv2⟩
theorem can_noring {k : Nat} (h : Can N A V k) : ¬ Rch N k k := by
  intro hr
  obtain ⟨n, v, hv⟩ := h
  have : ∀ n, (∃ v, gvF N A V n k = some v) → False := by
    intro n
    induction n using Nat.strongRecOn with
    | ind n ih =>
      intro hk
      obtain ⟨n', h1, h2⟩ := gv_down hk hr
      exact ih n' h1 h2
  exact this n ⟨v, hv⟩

/-- How many of the first m keys have it. -/
noncomputable def cnt (m : Nat) (p : Nat → Prop) : Nat := ((List.range m).filter (fun i => decide (p i))).length
theorem filter_len_le {α : Type} (p q : α → Bool) : ∀ (l : List α), (∀ x ∈ l, p x = true → q x = true) → (l.filter p).length ≤ (l.filter q).length
  | [], _ => Nat.le_refl _
  | x :: r, h => by
    have ih := filter_len_le p q r (fun y hy => h y (by simp [hy]))
    have hx := h x (by simp)
    rw [List.filter_cons, List.filter_cons]
    by_cases hp : p x = true
    · simp [hp, hx hp]; exact ih
    · by_cases hq : q x = true
      · simp [hp, hq]; omega
      · simp [hp, hq]; exact ih
theorem filter_len_lt {α : Type} (p q : α → Bool) : ∀ (l : List α), (∀ x ∈ l, p x = true → q x = true) → (∃ x ∈ l, p x = false ∧ q x = true) → (l.filter p).length < (l.filter q).length
  | [], _, h => by obtain ⟨x, hx, _⟩ := h; cases hx
  | x :: r, h, he => by
    have hle := filter_len_le p q r (fun y hy => h y (by simp [hy]))
    have hx := h x (by simp)
    rw [List.filter_cons, List.filter_cons]
    by_cases hp : p x = true
    · have : ∃ y ∈ r, p y = false ∧ q y = true := by
        obtain ⟨y, hy, h1, h2⟩ := he
        rcases List.mem_cons.1 hy with rfl | hy
        · rw [hp] at h1; cases h1
        · exact ⟨y, hy, h1, h2⟩
      have ih := filter_len_lt p q r (fun y hy => h y (by simp [hy])) this
      simp [hp, hx hp]; exact ih
    · by_cases hq : q x = true
      · simp [hp, hq]; omega
      · have : ∃ y ∈ r, p y = false ∧ q y = true := by
          obtain ⟨y, hy, h1, h2⟩ := he
          rcases List.mem_cons.1 hy with rfl | hy
          · exact absurd h2 hq
          · exact ⟨y, hy, h1, h2⟩
        have ih := filter_len_lt p q r (fun y hy => h y (by simp [hy])) this
        simp [hp, hq]; exact ih
theorem cnt_lt {m : Nat} {p q : Nat → Prop} (h : ∀ i, i < m → p i → q i) {k : Nat} (hk : k < m) (h1 : ¬ p k) (h2 : q k) : cnt m p < cnt m q :=
  filter_len_lt _ _ _ (fun x hx hp => by simp at hx hp ⊢; exact h x hx hp) ⟨k, by simpa using hk, by simpa using h1, by simpa using h2⟩
theorem cnt_le {m : Nat} {p q : Nat → Prop} (h : ∀ i, i < m → p i → q i) : cnt m p ≤ cnt m q :=
  filter_len_le _ _ _ (fun x hx hp => by simp at hx hp ⊢; exact h x hx hp)
theorem cnt_le_m (m : Nat) (p : Nat → Prop) : cnt m p ≤ m := by
  have := List.length_filter_le (fun i => decide (p i)) (List.range m)
  simpa [cnt] using this

/-- Who reaches no ring, and nobody who does not give, can be built. -/
theorem can_of {m : Nat} (hN : ∀ k, k < m → ∀ j ∈ N k, j < m) : ∀ (n k : Nat), k < m → cnt m (Rch N k) ≤ n → A k = true → ¬ Rch N k k → (∀ j, Rch N k j → A j = true ∧ ¬ Rch N j j) → Can N A V k := by
  intro n
  induction n with
  | zero =>
    intro k hk hc hA hr hj
    refine can_iff.2 ⟨hA, fun j hjn => ?_⟩
    have := cnt_lt (m := m) (p := fun _ => False) (q := Rch N k) (fun _ _ h => h.elim) (hN k hk j hjn) (fun h => h) (Rch.one hjn)
    omega
  | succ n ih =>
    intro k hk hc hA hr hj
    refine can_iff.2 ⟨hA, fun j hjn => ?_⟩
    have h1 := hj j (.one hjn)
    refine ih j (hN k hk j hjn) ?_ h1.1 h1.2 (fun i hi => hj i (.step hjn hi))
    have := cnt_lt (m := m) (p := Rch N j) (q := Rch N k) (fun i _ h => .step hjn h) (hN k hk j hjn) h1.2 (.one hjn)
    omega
theorem can_just {m : Nat} (hN : ∀ k, k < m → ∀ j ∈ N k, j < m) {k : Nat} (hk : k < m) : Can N A V k ↔ A k = true ∧ ¬ Rch N k k ∧ ∀ j, Rch N k j → A j = true ∧ ¬ Rch N j j :=
  ⟨fun h => ⟨(can_iff.1 h).1, can_noring h, fun j hj => ⟨(can_iff.1 (can_reach hj h)).1, can_noring (can_reach hj h)⟩⟩,
   fun ⟨h1, h2, h3⟩ => can_of hN _ k hk (Nat.le_refl _) h1 h2 h3⟩

/-- What a key does not reach is nothing to it. -/
theorem gvF_same {N' : Nat → List Nat} {A' : Nat → Bool} {V' : Nat → Int} {S : Nat → Prop} (hS : ∀ k, S k → ∀ j ∈ N k, S j) (h1 : ∀ k, S k → N' k = N k) (h2 : ∀ k, S k → A' k = A k) (h3 : ∀ k, S k → V' k = V k) :
    ∀ (n k : Nat), S k → gvF N' A' V' n k = gvF N A V n k
  | 0, _, _ => rfl
  | n + 1, k, hk => by
    unfold gvF
    rw [h1 k hk, h2 k hk, h3 k hk, List.map_congr_left (fun j hj => gvF_same hS h1 h2 h3 n j (hS k hk j hj))]
theorem can_same {N' : Nat → List Nat} {A' : Nat → Bool} {V' : Nat → Int} {k : Nat} (h1 : ∀ j, j = k ∨ Rch N k j → N' j = N j) (h2 : ∀ j, j = k ∨ Rch N k j → A' j = A j) (h3 : ∀ j, j = k ∨ Rch N k j → V' j = V j) :
    (Can N' A' V' k ↔ Can N A V k) ∧ val N' A' V' k = val N A V k := by
  have hs := gvF_same (N' := N') (A' := A') (V' := V') (S := fun j => j = k ∨ Rch N k j) (fun i hi j hj => by
    rcases hi with rfl | hi
    · exact .inr (.one hj)
    · exact .inr (hi.snoc hj)) h1 h2 h3
  constructor
  · constructor
    · rintro ⟨n, v, h⟩; exact ⟨n, v, by rw [← hs n k (.inl rfl)]; exact h⟩
    · rintro ⟨n, v, h⟩; exact ⟨n, v, by rw [hs n k (.inl rfl)]; exact h⟩
  · by_cases h : Can N A V k
    · obtain ⟨n, v, h⟩ := h
      rw [val_of h, val_of (show gvF N' A' V' n k = some v by rw [hs n k (.inl rfl)]; exact h)]
    · rw [val_no h, val_no]
      rintro ⟨n, v, h'⟩
      exact h ⟨n, v, by rw [← hs n k (.inl rfl)]; exact h'⟩
end
end Go.Proofs.Ytgohfdgkihoilaa.Rcp
