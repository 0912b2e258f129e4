/- What was begun, and in which order keys were told. -/
import Derived.Test.YtgohfdgkihoilaaAk
set_option linter.unusedVariables false
set_option linter.unusedSimpArgs false
namespace Go.Proofs.Ytgohfdgkihoilaa.Rcp
open Classical

/-- Needs up to the first that cannot be built. -/
noncomputable def upto (C : Nat → Prop) : List Nat → List Nat
  | [] => []
  | k :: ks => k :: if C k then upto C ks else []
noncomputable def asks (C : Nat → Prop) (b : Bool) (ks : List Nat) : List Nat := if b = true then ks else upto C ks
/-- Who is asked for, if these are. -/
inductive Askd (C : Nat → Prop) (N : Nat → List Nat) (ks : List Nat) : Nat → Prop
  | base {k : Nat} : k ∈ ks → Askd C N ks k
  | step {j k : Nat} : Askd C N ks j → k ∈ upto C (N j) → Askd C N ks k
section
variable {C : Nat → Prop} {N : Nat → List Nat}
theorem Askd.mono {ks ks' : List Nat} {k : Nat} (h : Askd C N ks k) (hs : ∀ x ∈ ks, Askd C N ks' x) : Askd C N ks' k := by
  induction h with
  | base h => exact hs _ h
  | step _ h ih => exact .step ih h
theorem upto_sub : ∀ (ks : List Nat), ∀ x ∈ upto C ks, x ∈ ks
  | [], x, h => by cases h
  | k :: ks, x, h => by
    unfold upto at h
    rcases List.mem_cons.1 h with rfl | h
    · simp
    · split at h
      · exact List.mem_cons_of_mem _ (upto_sub ks x h)
      · cases h
theorem upto_all : ∀ (ks : List Nat), (∀ x ∈ ks, C x) → upto C ks = ks
  | [], _ => rfl
  | k :: ks, h => by unfold upto; rw [if_pos (h k (by simp)), upto_all ks (fun x hx => h x (by simp [hx]))]
theorem upto_stop : ∀ (ks rest : List Nat) (k : Nat), (∀ x ∈ ks, C x) → ¬ C k → upto C (ks ++ k :: rest) = ks ++ [k]
  | [], rest, k, _, hk => by show upto C (k :: rest) = [k]; unfold upto; rw [if_neg hk]
  | x :: ks, rest, k, h, hk => by
    show upto C (x :: (ks ++ k :: rest)) = x :: (ks ++ [k])
    unfold upto
    rw [if_pos (h x (by simp)), upto_stop ks rest k (fun y hy => h y (by simp [hy])) hk]
theorem asks_cut {b : Bool} {k x : Nat} {ks : List Nat} : x ∈ asks C b (k :: ks) ↔ x = k ∨ x ∈ asks C b (cut C b k ks) := by
  unfold asks cut
  cases b with
  | true => simp
  | false =>
    simp only [Bool.false_eq_true, if_false, false_or]
    conv => lhs; unfold upto
    rw [List.mem_cons]
    by_cases h : C k
    · rw [if_pos h, if_pos h]
    · rw [if_neg h, if_neg h]; rfl
theorem Ak.begun {b : Bool} {s s' : St} {ks : List Nat} (h : Ak C N b s ks s') : ∀ i, s'.bg i = true → s.bg i = true ∨ Askd C N (asks C b ks) i := by
  induction h with
  | nil b s => exact fun i hi => .inl hi
  | old hb h ih =>
    intro i hi
    rcases ih i hi with h | h
    · exact .inl h
    · exact .inr (h.mono fun x hx => .base (asks_cut.2 (.inr hx)))
  | @new b s s1 s' k ks hb h1 h2 ih1 ih2 =>
    intro i hi
    have hk : Askd C N (asks C b (k :: ks)) k := .base (asks_cut.2 (.inl rfl))
    rcases ih2 i hi with h | h
    · rw [St.tell_bg] at h
      rcases ih1 i h with h | h
      · simp [St.beg] at h
        rcases h with rfl | h
        · exact .inr hk
        · exact .inl h
      · refine .inr (h.mono fun x hx => .step hk ?_)
        simpa [asks] using hx
    · exact .inr (h.mono fun x hx => .base (asks_cut.2 (.inr hx)))
theorem Ak.whole {b : Bool} {s s' : St} {ks : List Nat} (h : Ak C N b s ks s') : (∀ k ∈ asks C b ks, s'.bg k = true) ∧ ∀ i, s'.bg i = true → s.bg i = true ∨ ∀ j ∈ upto C (N i), s'.bg j = true := by
  induction h with
  | nil b s => exact ⟨fun k hk => by unfold asks at hk; split at hk <;> simp [upto] at hk, fun i hi => .inl hi⟩
  | old hb h ih =>
    refine ⟨fun x hx => ?_, ih.2⟩
    rcases asks_cut.1 hx with rfl | hx
    · exact h.more.1 _ hb
    · exact ih.1 x hx
  | @new b s s1 s' k ks hb h1 h2 ih1 ih2 =>
    have hm : ∀ i, s1.bg i = true → s'.bg i = true := fun i hi => h2.more.1 i (by rw [St.tell_bg]; exact hi)
    refine ⟨fun x hx => ?_, fun i hi => ?_⟩
    · rcases asks_cut.1 hx with rfl | hx
      · exact hm _ (h1.more.1 _ (beg_bg s _))
      · exact ih2.1 x hx
    · rcases ih2.2 i hi with h | h
      · rw [St.tell_bg] at h
        rcases ih1.2 i h with h | h
        · simp [St.beg] at h
          rcases h with rfl | h
          · exact .inr fun j hj => hm j (ih1.1 j (by simpa [asks] using hj))
          · exact .inl h
        · exact .inr fun j hj => hm j (h j hj)
      · exact .inr h
/-- Each once, and behind its needs. -/
def TdOk (N : Nat → List Nat) (td : List Nat) : Prop := ∀ p k, td[p]? = some k → k ∉ td.take p ∧ ∀ j ∈ N k, j ∈ td.take p
theorem TdOk.snoc {td : List Nat} {k : Nat} (h : TdOk N td) (hk : k ∉ td) (hj : ∀ j ∈ N k, j ∈ td) : TdOk N (td ++ [k]) := by
  intro p x hx
  by_cases hp : p < td.length
  · rw [List.getElem?_append_left hp] at hx
    rw [List.take_append_of_le_length (Nat.le_of_lt hp)]
    exact h p x hx
  · have hpe : p = td.length := by have := (List.getElem?_eq_some_iff.1 hx).1; simp at this; omega
    subst hpe
    simp at hx
    subst hx
    simp
    exact ⟨hk, hj⟩
theorem Ak.tdOk (hC : ∀ i, C i → ¬ Rch N i i) (hCN : ∀ i, C i → ∀ j ∈ N i, C j) {b : Bool} {s s' : St} {ks : List Nat} (h : Ak C N b s ks s') : ∀ S, (∀ a ∈ S, ∀ k ∈ ks, Rch N a k) → Inv C s S → TdOk N s.td → TdOk N s'.td := by
  induction h with
  | nil b s => exact fun _ _ _ h => h
  | old hb h ih => exact fun S hS hI hT => ih S (fun a ha k hk => hS a ha k (by simp [mem_cut hk])) hI hT
  | @new b s s1 s' k ks hb h1 h2 ih1 ih2 =>
    intro S hS hI hT
    have hS1 : ∀ a ∈ k :: S, ∀ j ∈ N k, Rch N a j := fun a ha j hj => by
      rcases List.mem_cons.1 ha with rfl | ha
      · exact .one hj
      · exact (hS a ha k (by simp)).snoc hj
    have i1 := h1.inv (k :: S) hS1 (hI.beg k)
    have t1 := ih1 (k :: S) hS1 (hI.beg k) hT
    have hbk := h1.more.1 k (beg_bg s k)
    refine ih2 S (fun a ha j hj => hS a ha j (by simp [mem_cut hj])) (i1.tell hbk) ?_
    by_cases hc : C k
    · unfold St.tell
      rw [if_pos hc]
      refine t1.snoc (fun hk => ?_) (fun j hj => ?_)
      · obtain ⟨t, ht, hn⟩ := h1.more.2
        rw [ht] at hk
        rcases List.mem_append.1 hk with hk | hk
        · have := (hI.2 k hk).2
          rw [hb] at this; cases this
        · have := hn k hk
          rw [beg_bg] at this; cases this
      · have hcj := hCN k hc j hj
        have hall : asks C false (N k) = N k := by unfold asks; simp; exact upto_all _ (hCN k hc)
        have hbj := h1.whole.1 j (by rw [hall]; exact hj)
        rcases i1.1 j hbj hcj with h | h
        · exact h
        · exact absurd (hS1 j h j hj) (hC j hcj)
    · unfold St.tell
      rw [if_neg hc]
      exact t1
theorem TdOk.reach {td : List Nat} (h : TdOk N td) {k m : Nat} (hr : Rch N k m) : ∀ p, td[p]? = some k → m ∈ td.take p := by
  induction hr with
  | one hj => exact fun p hp => (h p _ hp).2 _ hj
  | @step a b c hj _ ih =>
    intro p hp
    have hb := (h p _ hp).2 _ hj
    obtain ⟨q, hq⟩ := List.getElem?_of_mem hb
    have hqp : q < p := by have := (List.getElem?_eq_some_iff.1 hq).1; rw [List.length_take] at this; omega
    rw [List.getElem?_take_of_lt hqp] at hq
    have := ih q hq
    exact List.take_subset_take_left td (Nat.le_of_lt hqp) this
theorem TdOk.nodup {td : List Nat} (h : TdOk N td) {p q k : Nat} (hp : td[p]? = some k) (hq : td[q]? = some k) : p = q := by
  rcases Nat.lt_trichotomy p q with hlt | he | hlt
  · refine absurd ?_ (h q k hq).1
    exact List.mem_of_getElem? (by rw [List.getElem?_take_of_lt hlt]; exact hp)
  · exact he
  · refine absurd ?_ (h p k hp).1
    exact List.mem_of_getElem? (by rw [List.getElem?_take_of_lt hlt]; exact hq)
theorem len_le_of_sub : ∀ (a b : List Nat), (∀ (p q k : Nat), a[p]? = some k → a[q]? = some k → p = q) → (∀ x ∈ a, x ∈ b) → a.length ≤ b.length
  | [], b, _, _ => Nat.zero_le _
  | x :: a, b, hn, hs => by
    have hx : x ∈ b := hs x (by simp)
    have ih := len_le_of_sub a (b.erase x) (fun p q k hp hq => by have := hn (p + 1) (q + 1) k (by simpa using hp) (by simpa using hq); omega) (fun y hy => by
      refine (List.mem_erase_of_ne fun e => ?_).2 (hs y (by simp [hy]))
      subst e
      obtain ⟨q, hq⟩ := List.getElem?_of_mem hy
      have := hn 0 (q + 1) y (by simp) (by simpa using hq)
      omega)
    rw [List.length_erase_of_mem hx] at ih
    have : 0 < b.length := List.length_pos_of_mem hx
    simp
    omega
theorem askd_congr {ks ks' : List Nat} (h : ∀ x, x ∈ ks ↔ x ∈ ks') (i : Nat) : Askd C N ks i ↔ Askd C N ks' i :=
  ⟨fun h1 => h1.mono fun x hx => .base ((h x).1 hx), fun h1 => h1.mono fun x hx => .base ((h x).2 hx)⟩
theorem Askd.lt {m : Nat} (hN : ∀ k, k < m → ∀ j ∈ N k, j < m) {ks : List Nat} (hk : ∀ k ∈ ks, k < m) {i : Nat} (h : Askd C N ks i) : i < m := by
  induction h with
  | base h => exact hk _ h
  | step _ h ih => exact hN _ ih _ (upto_sub _ _ h)
end
end Go.Proofs.Ytgohfdgkihoilaa.Rcp
