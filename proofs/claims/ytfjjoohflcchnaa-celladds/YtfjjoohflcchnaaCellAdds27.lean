/- CellAdds returns true, whatever the schedule, the start and the numbers, and leaves what it was given as it was: of the law's statement as given, with no condition of our own. Part 27 of 34. (Joined, by program, of: Run20c, CallD, Run20d, Lone.) -/
import Derived.Test.YtfjjoohflcchnaaCellAdds19
import Derived.Test.YtfjjoohflcchnaaCellAdds26
set_option linter.unusedSimpArgs false
set_option linter.unusedVariables false
namespace Go.Proofs.Ytfjjoohflcchnaa
open Go Go.Lift Go.Conc Go.RowKit

/-- What lies there ahead of play.Run: the cells' row, the scripts' calls. -/
structure Told (v : World) (S : TS) (K : List (Nat × Int)) (xb rk ck n : Nat) (pc : Nat → Option Addr) (ln cp rb : Nat → Nat) (cl : Nat → List Cl) : Prop where
  hx : v.cell? ⟨xb, 0, none⟩ = some (.slice (some ⟨rk, 0, none⟩) K.length ck)
  hr : ∀ (j b : Nat), (K.map (·.1))[j]? = some b → v.cell? ⟨rk, j, none⟩ = some (Pt b 0)
  xo : ¬ Own S K xb ∧ ¬ Own S K rk
  kl : 0 < K.length ∧ (K.length : Int) < 9223372036854775808
  len : ∀ j, j < n → (cl j).length = ln j ∧ ln j ≤ 64
  pq : ∀ j, j < n → 0 < ln j → pc j = some ⟨rb j, roOf (pc j), none⟩ ∧ ¬ Own S K (rb j)
  call : ∀ j, j < n → ∀ (k : Nat) (c : Cl), (cl j)[k]? = some c → v.cell? ⟨rb j, roOf (pc j) + k * 4, none⟩ = some (I c.po) ∧ v.cell? ⟨rb j, roOf (pc j) + k * 4 + 1, none⟩ = some (I c.ca) ∧ v.cell? ⟨rb j, roOf (pc j) + k * 4 + 2, none⟩ = some (I c.cb) ∧ v.cell? ⟨rb j, roOf (pc j) + k * 4 + 3, none⟩ = some (I c.cc)
  ca : ∀ j, j < n → ∀ c ∈ cl j, -9223372036854775808 ≤ c.ca ∧ c.ca < 9223372036854775808

/-- All that is not the world's. -/
noncomputable def allM (S : TS) (K : List (Nat × Int)) (u : World) : Nat → Option Obj := fun b => open Classical in if Own S K b ∨ b = S.bk then none else u.heap[b]?
theorem allM_at {S : TS} {K : List (Nat × Int)} {u : World} {b : Nat} (h1 : ¬ Own S K b) (h2 : b ≠ S.bk) : allM S K u b = u.heap[b]? := by
  unfold allM
  rw [if_neg (fun h => h.elim h1 h2)]
theorem allM_own {S : TS} {K : List (Nat × Int)} {u : World} {b : Nat} (h : allM S K u b ≠ none) : ¬ Own S K b ∧ b ≠ S.bk := by
  constructor <;> intro e <;> apply h <;> unfold allM
  · rw [if_pos (.inl e)]
  · rw [if_pos (.inr e)]
theorem allM_has {S : TS} {K : List (Nat × Int)} {u : World} : Has (allM S K u) u := fun b o h => by
  have := allM_own (b := b) (by rw [h]; simp)
  rw [allM_at this.1 this.2] at h
  exact h

/-- The script of thread j. -/
def scrOf (N n xb rk ck : Nat) (kb : List Nat) (pc : Nat → Option Addr) (ln cp rb : Nat → Nat) (cl : Nat → List Cl) (j : Nat) : Scr :=
  { calls := cl j, ans := List.replicate (ln j) (0, 0)
    X := fun h tb gc b0 => { h := h, i := j, tb := tb, gc := gc, bb := b0, calls := cl j, pc := pc j, rb := if ln j = 0 then b0 else rb j, cap := cp j, asl := .slice (some ⟨N + 4 + 3 * j + 2, 0, none⟩) (ln j) (ln j), ab := if ln j = 0 then b0 else N + 4 + 3 * j + 2, cap2 := ln j, aty := 42, xb := xb, rk := rk, ck := ck, kb := kb }
    p1 := N + 4 + 3 * j + 1, p2 := N, p3 := N + 2, p4 := N + 4 + 3 * j, rr := N + 1, m := n, cp := n, ix := j, csl := .slice (pc j) (cl j).length (cp j), asl := .slice (some ⟨N + 4 + 3 * j + 2, 0, none⟩) (ln j) (ln j), xb := xb }

theorem made_arow (n : Nat) : (.cells (madeCells #[I 0, I 0] (n * 2)) 42 : Obj) = .cells (arow (List.replicate n (0, 0))).toArray 42 (0, 0) := by
  have : madeCells #[I 0, I 0] (n * 2) = (arow (List.replicate n (0, 0))).toArray := by
    apply Array.ext_getElem?
    intro i
    rw [show (arow (List.replicate n (0, 0))).toArray[i]? = (arow (List.replicate n (0, 0)))[i]? by simp]
    by_cases hi : i < n * 2
    · have e1 : (madeCells #[I 0, I 0] (n * 2))[i]? = some (I 0) := by
        have : i % 2 = 0 ∨ i % 2 = 1 := by omega
        rcases this with h | h <;> simp [madeCells, hi, h]
      rw [e1]
      have h2 : i / 2 < n := by omega
      have h3 := arow_get (List.replicate n (0, 0)) (i / 2) (0, 0) (by simp [List.getElem?_replicate, h2])
      have : i = i / 2 * 2 ∨ i = i / 2 * 2 + 1 := by omega
      rcases this with h | h
      · rw [h]; exact h3.1.symm
      · rw [h]; exact h3.2.symm
    · rw [Array.getElem?_eq_none (by simp [madeCells]; omega), List.getElem?_eq_none (by rw [arow_len]; simp; omega)]
  rw [this]

section
variable {v u : World} {S : TS} {K : List (Nat × Int)} {xb rk ck n : Nat} {pc : Nat → Option Addr} {ln cp rb : Nat → Nat} {cl : Nat → List Cl}

/-- What is left to be given away from thread j on. -/
def futOf (N n : Nat) (ln : Nat → Nat) (j b : Nat) : Prop := ∃ i, j ≤ i ∧ i < n ∧ 0 < ln i ∧ b = N + 4 + 3 * i + 2

theorem script_of (hm : Mem zn S K v) (hb : Open v S.bk) (t : Told v S K xb rk ck n pc ln cp rb cl) (s : Set20 v xb n pc ln cp u) {j : Nat} (hj : j < n) {Mm : Nat → Option Obj} {Fut : Nat → Prop} (hM : ∀ b, (∀ i, i < j → b ≠ v.heap.size + 4 + 3 * i + 2) → Mm b = allM S K u b) (hF : ∀ b, Fut b ↔ futOf v.heap.size n ln j b) :
    Script Mm Fut j (v.heap.size + 3) (K.map (·.1)) (scrOf v.heap.size n xb rk ck (K.map (·.1)) pc ln cp rb cl j) := by
  have hbk : S.bk < v.heap.size := by obtain ⟨c, m, h⟩ := hb; exact (Array.getElem?_eq_some_iff.1 h).1
  have hOw : ∀ b, v.heap.size ≤ b → ¬ Own S K b ∧ b ≠ S.bk := fun b hb => ⟨fun h => by have := hm.lt h; omega, by omega⟩
  have cbk : ∀ (a : Addr) (x : Value), v.cell? a = some x → a.block ≠ S.bk := fun a x ha e => by
    obtain ⟨c, m, h⟩ := hb
    unfold World.cell? at ha
    rw [e, h] at ha
    cases ha
  have clt : ∀ (a : Addr) (x : Value), v.cell? a = some x → a.block < v.heap.size := fun a x ha => World.block_lt_of_cell? _ _ ha
  have hnew : ∀ b, v.heap.size ≤ b → (∀ i, i < j → b ≠ v.heap.size + 4 + 3 * i + 2) → Mm b = u.heap[b]? := fun b h1 h2 => by rw [hM b h2, allM_at (hOw b h1).1 (hOw b h1).2]
  have hold : ∀ (a : Addr) (x : Value), v.cell? a = some x → ¬ Own S K a.block → Mm a.block = v.heap[a.block]? := fun a x ha ho => by
    rw [hM a.block (fun i _ => by have := clt a x ha; omega), allM_at ho (cbk a x ha), s.old _ (clt a x ha)]
  have some_of : ∀ (a : Addr) (x : Value), v.cell? a = some x → ∃ o, v.heap[a.block]? = some o := fun a x ha => ⟨_, Array.getElem?_eq_getElem (clt a x ha)⟩
  have holdc : ∀ (w : World), Has Mm w → ∀ (a : Addr) (x : Value), v.cell? a = some x → ¬ Own S K a.block → w.cell? a = some x := fun w hw a x ha ho => by
    obtain ⟨o, e⟩ := some_of a x ha
    have := hw a.block o (by rw [hold a x ha ho, e])
    rw [World.cell?_of_block (w := v) (w' := w) (by rw [this, e])]
    exact ha
  have newc : ∀ (w : World), Has Mm w → ∀ (a : Addr) (x : Value), v.heap.size ≤ a.block → (∀ i, i < j → a.block ≠ v.heap.size + 4 + 3 * i + 2) → u.cell? a = some x → w.cell? a = some x := fun w hw a x h1 h2 ha => by
    have hl := World.block_lt_of_cell? _ _ ha
    have e : u.heap[a.block]? = some u.heap[a.block] := Array.getElem?_eq_getElem hl
    have := hw a.block _ (by rw [hnew a.block h1 h2, e])
    rw [World.cell?_of_block (w := u) (w' := w) (by rw [this, e])]
    exact ha
  have hb3 := s.blk j hj
  have hln := t.len j hj
  have c1 : ∀ {b : Nat} {x : Value} {ty : TypeId}, u.heap[b]? = some (.cells #[x] ty) → u.cell? ⟨b, 0, none⟩ = some x := fun {b x ty} h => by unfold World.cell?; rw [h]; rfl
  have hab : 0 < ln j → Mm (v.heap.size + 4 + 3 * j + 2) ≠ none := fun _ => by
    rw [hnew _ (by omega) (fun i hi => by omega), hb3.2.2]; simp
  refine ⟨hj, fun w hw => ⟨?_, ?_, ?_, ?_, ?_, ?_⟩, fun h tb gc b0 hh hb0 => ⟨⟨hh, by simpa [scrOf] using t.kl, ?_, t.ca j hj, fun h0 => ?_, fun h0 => ?_, fun h0 => ?_, fun h0 => ?_⟩, rfl, rfl, rfl, rfl, rfl, rfl, rfl, rfl, rfl, rfl, fun w hw hbx => ⟨hbx, fun k c hk => ?_, fun h0 => ?_, ?_, ?_, fun i b hi => ?_⟩, fun b hp => ?_, fun b hp hf => ?_, ?_⟩⟩
  · exact newc w hw ⟨v.heap.size + 3, j, none⟩ _ (by show _ ≤ v.heap.size + 3; omega) (fun i hi => by show v.heap.size + 3 ≠ _; omega) (s.brow.cell hj)
  · exact newc w hw ⟨_, 0, none⟩ _ (by show _ ≤ v.heap.size + 4 + 3 * j + 1; omega) (fun i hi => by show v.heap.size + 4 + 3 * j + 1 ≠ _; omega) (by show u.cell? ⟨v.heap.size + 4 + 3 * j + 1, 0, none⟩ = some (.slice (pc j) (cl j).length (cp j)); rw [hln.1]; exact c1 hb3.2.1)
  · exact newc w hw ⟨_, 0, none⟩ _ (by show _ ≤ v.heap.size; omega) (fun i hi => by show v.heap.size ≠ _; omega) (c1 s.p2)
  · exact newc w hw ⟨_, 0, none⟩ _ (by show _ ≤ v.heap.size + 2; omega) (fun i hi => by show v.heap.size + 2 ≠ _; omega) (c1 s.p3)
  · exact newc w hw ⟨_, 0, none⟩ _ (by show _ ≤ v.heap.size + 4 + 3 * j; omega) (fun i hi => by show v.heap.size + 4 + 3 * j ≠ _; omega) (c1 hb3.1)
  · exact newc w hw ⟨v.heap.size + 1, j, none⟩ _ (by show _ ≤ v.heap.size + 1; omega) (fun i hi => by show v.heap.size + 1 ≠ _; omega) (s.rrow.cell hj)
  · show ((cl j).length : Int) < _
    rw [hln.1]; omega
  · have h0' : 0 < ln j := by rw [← hln.1]; exact h0
    show pc j = some ⟨if ln j = 0 then b0 else rb j, roOf (pc j), none⟩
    rw [if_neg (by omega)]
    exact (t.pq j hj h0').1
  · have h0' : 0 < ln j := by rw [← hln.1]; exact h0
    show Value.slice (some ⟨v.heap.size + 4 + 3 * j + 2, 0, none⟩) (ln j) (ln j) = .slice (some ⟨if ln j = 0 then b0 else v.heap.size + 4 + 3 * j + 2, 0, none⟩) (cl j).length (ln j)
    rw [if_neg (by omega), hln.1]
  · have h0' : ln j = 0 := by rw [← hln.1]; exact h0
    show (if ln j = 0 then b0 else rb j) = b0 ∧ (if ln j = 0 then b0 else v.heap.size + 4 + 3 * j + 2) = b0
    rw [if_pos h0', if_pos h0']
    exact ⟨rfl, rfl⟩
  · have h0' : 0 < ln j := by rw [← hln.1]; exact h0
    show (if ln j = 0 then b0 else v.heap.size + 4 + 3 * j + 2) ≠ b0 ∧ (if ln j = 0 then b0 else v.heap.size + 4 + 3 * j + 2) ≠ (if ln j = 0 then b0 else rb j) ∧ (if ln j = 0 then b0 else v.heap.size + 4 + 3 * j + 2) ≠ xb ∧ (if ln j = 0 then b0 else v.heap.size + 4 + 3 * j + 2) ≠ rk
    rw [if_neg (by omega), if_neg (by omega)]
    have hxl := clt _ _ t.hx
    obtain ⟨b, hb⟩ : ∃ b, (K.map (·.1))[0]? = some b := ⟨_, List.getElem?_eq_getElem (by simpa using t.kl.1)⟩
    have hrl := clt _ _ (t.hr 0 b hb)
    obtain ⟨c, hc⟩ : ∃ c, (cl j)[0]? = some c := ⟨_, List.getElem?_eq_getElem h0⟩
    have hcl := clt _ _ (t.call j hj 0 c hc).1
    simp only at hxl hrl hcl
    exact ⟨hb0 _ (hab h0'), by omega, by omega, by omega⟩
  · have hk' : (cl j)[k]? = some c := hk
    have h0 : 0 < ln j := by have := (List.getElem?_eq_some_iff.1 hk').1; omega
    have ho := (t.pq j hj h0).2
    have h4 := t.call j hj k c hk'
    show w.cell? ⟨if ln j = 0 then b0 else rb j, _, none⟩ = _ ∧ w.cell? ⟨if ln j = 0 then b0 else rb j, _, none⟩ = _ ∧ w.cell? ⟨if ln j = 0 then b0 else rb j, _, none⟩ = _ ∧ w.cell? ⟨if ln j = 0 then b0 else rb j, _, none⟩ = _
    rw [if_neg (by omega)]
    exact ⟨holdc w hw _ _ h4.1 ho, holdc w hw _ _ h4.2.1 ho, holdc w hw _ _ h4.2.2.1 ho, holdc w hw _ _ h4.2.2.2 ho⟩
  · have h0' : 0 < ln j := by rw [← hln.1]; exact h0
    show w.heap[if ln j = 0 then b0 else v.heap.size + 4 + 3 * j + 2]? = some (.cells (arow (List.replicate (ln j) (0, 0))).toArray 42 (0, 0))
    rw [if_neg (by omega), ← made_arow]
    exact hw _ _ (by rw [hnew _ (by omega) (fun i hi => by omega)]; exact hb3.2.2)
  · show (List.replicate (ln j) ((0 : Int), (0 : Int))).length = (cl j).length
    rw [List.length_replicate, hln.1]
  · show w.cell? ⟨xb, 0, none⟩ = some (.slice (some ⟨rk, 0, none⟩) (K.map (·.1)).length ck)
    rw [List.length_map]
    exact holdc w hw _ _ t.hx t.xo.1
  · exact holdc w hw _ _ (t.hr i b hi) t.xo.2
  · obtain ⟨b9, hb9⟩ : ∃ b, (K.map (·.1))[0]? = some b := ⟨_, List.getElem?_eq_getElem (by simpa using t.kl.1)⟩
    have mm : ∀ (a : Addr) (x : Value), v.cell? a = some x → ¬ Own S K a.block → Mm a.block ≠ none := fun a x ha ho => by
      obtain ⟨o, e⟩ := some_of a x ha
      rw [hold a x ha ho, e]; simp
    by_cases h0 : ln j = 0
    · simp only [Fix.Pr, scrOf, if_pos h0] at hp
      rcases hp with h | h | h | h | h
      · exact .inl h
      · exact .inl h
      · exact .inl h
      · subst h; exact .inr (mm _ _ t.hx t.xo.1)
      · subst h; exact .inr (mm _ _ (t.hr 0 b9 hb9) t.xo.2)
    · simp only [Fix.Pr, scrOf, if_neg h0] at hp
      rcases hp with h | h | h | h | h
      · exact .inl h
      · subst h
        obtain ⟨c, hc⟩ : ∃ c, (cl j)[0]? = some c := ⟨_, List.getElem?_eq_getElem (by omega)⟩
        exact .inr (mm _ _ (t.call j hj 0 c hc).1 (t.pq j hj (by omega)).2)
      · subst h; exact .inr (hab (by omega))
      · subst h; exact .inr (mm _ _ t.hx t.xo.1)
      · subst h; exact .inr (mm _ _ (t.hr 0 b9 hb9) t.xo.2)
  · obtain ⟨i, h1, h2, h3, rfl⟩ := (hF b).1 hf
    have hxl := clt _ _ t.hx
    obtain ⟨b9, hb9⟩ : ∃ b, (K.map (·.1))[0]? = some b := ⟨_, List.getElem?_eq_getElem (by simpa using t.kl.1)⟩
    have hrl := clt _ _ (t.hr 0 b9 hb9)
    simp only at hxl hrl
    have hn0 : v.heap.size + 4 + 3 * i + 2 ≠ b0 := hb0 _ (by
      rw [hnew _ (by omega) (fun i' hi' => by omega), (s.blk i h2).2.2]; simp)
    by_cases h0 : ln j = 0
    · simp only [Fix.Pr, scrOf, if_pos h0] at hp ⊢
      rcases hp with h | h | h | h | h <;> first | exact absurd h hn0 | omega
    · simp only [Fix.Pr, scrOf, if_neg h0] at hp ⊢
      obtain ⟨c, hc⟩ : ∃ c, (cl j)[0]? = some c := ⟨_, List.getElem?_eq_getElem (by omega)⟩
      have hcl := clt _ _ (t.call j hj 0 c hc).1
      simp only at hcl
      rcases hp with h | h | h | h | h <;> first | exact absurd h hn0 | omega
  · show (if ln j = 0 then b0 else v.heap.size + 4 + 3 * j + 2) = b0 ∨ Fut (if ln j = 0 then b0 else v.heap.size + 4 + 3 * j + 2)
    by_cases h0 : ln j = 0
    · rw [if_pos h0]; exact .inl rfl
    · rw [if_neg h0]; exact .inr ((hF _).2 ⟨j, Nat.le_refl _, hj, by omega, rfl⟩)

theorem scripts_of (hm : Mem zn S K v) (hb : Open v S.bk) (t : Told v S K xb rk ck n pc ln cp rb cl) (s : Set20 v xb n pc ln cp u) : ∀ (m j : Nat), j + m = n → ∀ (Mm : Nat → Option Obj) (Fut : Nat → Prop), (∀ b, (∀ i, i < j → b ≠ v.heap.size + 4 + 3 * i + 2) → Mm b = allM S K u b) → (∀ b, Fut b ↔ futOf v.heap.size n ln j b) →
    Scripts (v.heap.size + 3) (K.map (·.1)) j Mm Fut ((List.range' j m).map (scrOf v.heap.size n xb rk ck (K.map (·.1)) pc ln cp rb cl))
  | 0, j, hjm, Mm, Fut, hM, hF => .nil
  | m + 1, j, hjm, Mm, Fut, hM, hF => by
    have hj : j < n := by omega
    have hbk : S.bk < v.heap.size := by obtain ⟨c, m, h⟩ := hb; exact (Array.getElem?_eq_some_iff.1 h).1
    have hOw : ∀ b, v.heap.size ≤ b → ¬ Own S K b ∧ b ≠ S.bk := fun b hb => ⟨fun h => by have := hm.lt h; omega, by omega⟩
    rw [List.range'_succ, List.map_cons]
    refine .cons (script_of hm hb t s hj hM hF) (fun h tb gc b0 hb0 => ?_)
    refine scripts_of hm hb t s m (j + 1) (by omega) _ _ (fun b hbi => ?_) (fun b => ?_)
    · show (if b = (if ln j = 0 then b0 else v.heap.size + 4 + 3 * j + 2) then none else Mm b) = _
      by_cases h0 : ln j = 0
      · rw [if_pos h0]
        by_cases e : b = b0
        · rw [if_pos e, ← hM b (fun i hi => hbi i (by omega))]
          cases h9 : Mm b with
          | none => rfl
          | some o => exact absurd e (hb0 b (by rw [h9]; simp))
        · rw [if_neg e]
          exact hM b (fun i hi => hbi i (by omega))
      · rw [if_neg h0, if_neg (hbi j (by omega))]
        exact hM b (fun i hi => hbi i (by omega))
    · show Fut b ∧ b ≠ (if ln j = 0 then b0 else v.heap.size + 4 + 3 * j + 2) ↔ _
      rw [hF b]
      constructor
      · rintro ⟨⟨i, h1, h2, h3, rfl⟩, hne⟩
        refine ⟨i, ?_, h2, h3, rfl⟩
        rcases Nat.lt_or_ge j i with h4 | h4
        · omega
        · have : i = j := by omega
          subst this
          rw [if_neg (by omega)] at hne
          exact absurd rfl hne
      · rintro ⟨i, h1, h2, h3, rfl⟩
        refine ⟨⟨i, by omega, h2, h3, rfl⟩, ?_⟩
        by_cases h0 : ln j = 0
        · rw [if_pos h0]
          refine hb0 _ ?_
          rw [hM _ (fun i' hi' => by omega), allM_at (hOw _ (by omega)).1 (hOw _ (by omega)).2, (s.blk i h2).2.2]
          simp
        · rw [if_neg h0]; omega
end
end Go.Proofs.Ytfjjoohflcchnaa

namespace Go.Proofs.Ytfjjoohflcchnaa
open Go Go.Lift Go.Conc Go.RowKit

set_option maxHeartbeats 2000000 in
set_option maxRecDepth 100000 in
theorem calld : CallDef := by
  intro z Ch Stop main v w cb tb po ca n cc cs bc ac ops q rest oc k hoc hpo hvw hn hk code hc
  have n1 : ¬ po = 1 := by omega
  have n2 : ¬ po = 2 := by omega
  have n3 : ¬ po = 3 := by omega
  have n4 : ¬ po = 4 := by omega
  have n5 : ¬ po = 5 := by omega
  have n6 : ¬ po = 6 := by omega
  clear hpo
  have hw0 : code = .seq call0 (seq2 (Try.f57.body.getD .skip)) := by
    rw [hc]; obtain rfl := Option.some.inj hc; rfl
  subst hw0
  clear hc
  refine goesI_seq (dt_idle _ _) ?_
  refine goesI_plain (z := z) (wr := true) (L := LT) (I := NoRow Ch) hE fineT noRow_keeps (fun v v' w w' es hi hr ho he => dt_of_z v v' w w' es hi hr ho he) hvw fineCall0 rfl (by simp [base]) hn
    (Q := fun a w' => a = { tmps := #[Pt cb 0, Pt tb 0, .agg #[I po, I ca, I n, I cc], undef, undef, Pt v.heap.size 0, Pt (v.heap.size + 1) 0] ++ Array.replicate 53 undef, defers := [] } ∧
      w'.heap = (v.heap.push (.cells #[I po, I ca, I n, I cc] 39)).push (.cells #[I 0, I 0] 42) ∧ w'.os = v.os ∧ w'.output = v.output) (fun τ => ?_) ?_
  · clear n1 n2 n3 n4 n5 n6
    show Code.wp Try.prog (seq1 (Try.f57.body.getD .skip)) _ _ _
    unfold Try.f57 seq1
    simp only [Option.getD_some, Array.replicate_succ, Array.replicate_zero, List.push_toArray, List.append_toArray, List.nil_append, List.cons_append]
    go_wp2_with fail
    exact ⟨rfl, rfl, rfl, rfl⟩
  rintro a' v' w' ⟨rfl, hv1, hv2, hv3⟩ hr' hn' -
  have hsz : v'.heap.size = v.heap.size + 2 := by rw [hv1]; simp
  have hg : Grows v v' := ⟨by omega, fun b hb => by rw [hv1, Array.getElem?_push, if_neg (by simp; omega), Array.getElem?_push, if_neg (by omega)], hv2, hv3⟩
  have hbox : v'.heap[v.heap.size]? = some (.cells #[I po, I ca, I n, I cc] 39) := by rw [hv1, Array.getElem?_push, if_neg (by simp)]; exact Array.getElem?_push_size
  have hans : v'.heap[v.heap.size + 1]? = some (.cells #[I 0, I 0] 42) := by rw [hv1, Array.getElem?_push, if_pos (by simp)]
  have b0 : w'.cell? ⟨v.heap.size, 0, none⟩ = some (I po) := by rw [hr'.cell?]; simp [World.cell?, hbox]
  have HV : Hid (Grows v v' ∧ v'.heap[v.heap.size + 1]? = some (.cells #[I 0, I 0] 42) ∧ NoRow Ch v') := ⟨⟨hg, hans, hn'⟩⟩
  clear hv1 hv2 hv3 hsz hg hbox hans hn' hvw hn
  generalize hN : v.heap.size = N at b0 HV ⊢
  simp only [Array.replicate_succ, Array.replicate_zero, List.push_toArray, List.append_toArray, List.nil_append, List.cons_append]
  show GoesI Try.prog main (DT (ScZ z) Ch) Stop (G ((base 57).at _ [.code (seq2 (Try.f57.body.getD .skip))]) _) w'
  unfold Try.f57 seq2
  simp only [Option.getD_some]
  refine goesI_seq (dt_idle _ _) ?_
  refine goesI_seq (dt_idle _ _) ?_
  refine goesI_region (dt_idle _ _) ?_
  simp only [List.size_toArray, List.length_cons, List.length_nil, Nat.reduceAdd, Nat.zero_add, List.range, List.range.loop]
  iterate 2
    (refine goesI_oper rfl rfl (by decide) (fun d K hK => ?_)
     go_simp
     refine hK _ _ ⟨dt_reads (fun e he => ?_), GoesI.at ?_ d⟩
     · have hm := mem_listed he
       simp [go_sem, *] at hm
       try exact ⟨_, _, hm⟩
     clear hK K)
  refine goesI_regionEnd (dt_idle _ _) ?_
  refine goesI_block (dt_idle _ _) ?_
  refine goesI_seq (dt_idle _ _) ?_
  refine goesI_region (dt_idle _ _) ?_
  simp only [List.size_toArray, List.length_cons, List.length_nil, Nat.reduceAdd, Nat.zero_add, List.range, List.range.loop]
  iterate 2
    (refine goesI_oper rfl rfl (by decide) (fun d K hK => ?_)
     go_simp
     refine hK _ _ ⟨dt_reads (fun e he => ?_), GoesI.at ?_ d⟩
     · have hm := mem_listed he
       simp [go_sem, *] at hm
       try exact ⟨_, _, hm⟩
     clear hK K)
  refine goesI_regionEnd (dt_idle _ _) ?_
  refine goesI_cond (dt_idle _ _) (t := false) (by simp [Act.eval, n1, n2, n3, n4, n5, n6]) ?_
  simp only [if_true, if_false, Bool.false_eq_true]
  refine goesI_seq (dt_idle _ _) ?_
  refine goesI_region (dt_idle _ _) ?_
  simp only [List.size_toArray, List.length_cons, List.length_nil, Nat.reduceAdd, Nat.zero_add, List.range, List.range.loop]
  iterate 2
    (refine goesI_oper rfl rfl (by decide) (fun d K hK => ?_)
     go_simp
     refine hK _ _ ⟨dt_reads (fun e he => ?_), GoesI.at ?_ d⟩
     · have hm := mem_listed he
       simp [go_sem, *] at hm
       try exact ⟨_, _, hm⟩
     clear hK K)
  refine goesI_regionEnd (dt_idle _ _) ?_
  refine goesI_cond (dt_idle _ _) (t := false) (by simp [Act.eval, n1, n2, n3, n4, n5, n6]) ?_
  simp only [if_true, if_false, Bool.false_eq_true]
  refine goesI_seq (dt_idle _ _) ?_
  refine goesI_region (dt_idle _ _) ?_
  simp only [List.size_toArray, List.length_cons, List.length_nil, Nat.reduceAdd, Nat.zero_add, List.range, List.range.loop]
  iterate 2
    (refine goesI_oper rfl rfl (by decide) (fun d K hK => ?_)
     go_simp
     refine hK _ _ ⟨dt_reads (fun e he => ?_), GoesI.at ?_ d⟩
     · have hm := mem_listed he
       simp [go_sem, *] at hm
       try exact ⟨_, _, hm⟩
     clear hK K)
  refine goesI_regionEnd (dt_idle _ _) ?_
  refine goesI_cond (dt_idle _ _) (t := false) (by simp [Act.eval, n1, n2, n3, n4, n5, n6]) ?_
  simp only [if_true, if_false, Bool.false_eq_true]
  refine goesI_seq (dt_idle _ _) ?_
  refine goesI_region (dt_idle _ _) ?_
  simp only [List.size_toArray, List.length_cons, List.length_nil, Nat.reduceAdd, Nat.zero_add, List.range, List.range.loop]
  iterate 2
    (refine goesI_oper rfl rfl (by decide) (fun d K hK => ?_)
     go_simp
     refine hK _ _ ⟨dt_reads (fun e he => ?_), GoesI.at ?_ d⟩
     · have hm := mem_listed he
       simp [go_sem, *] at hm
       try exact ⟨_, _, hm⟩
     clear hK K)
  refine goesI_regionEnd (dt_idle _ _) ?_
  refine goesI_cond (dt_idle _ _) (t := false) (by simp [Act.eval, n1, n2, n3, n4, n5, n6]) ?_
  simp only [if_true, if_false, Bool.false_eq_true]
  refine goesI_seq (dt_idle _ _) ?_
  refine goesI_region (dt_idle _ _) ?_
  simp only [List.size_toArray, List.length_cons, List.length_nil, Nat.reduceAdd, Nat.zero_add, List.range, List.range.loop]
  iterate 2
    (refine goesI_oper rfl rfl (by decide) (fun d K hK => ?_)
     go_simp
     refine hK _ _ ⟨dt_reads (fun e he => ?_), GoesI.at ?_ d⟩
     · have hm := mem_listed he
       simp [go_sem, *] at hm
       try exact ⟨_, _, hm⟩
     clear hK K)
  refine goesI_regionEnd (dt_idle _ _) ?_
  refine goesI_cond (dt_idle _ _) (t := false) (by simp [Act.eval, n1, n2, n3, n4, n5, n6]) ?_
  simp only [if_true, if_false, Bool.false_eq_true]
  refine goesI_seq (dt_idle _ _) ?_
  refine goesI_region (dt_idle _ _) ?_
  simp only [List.size_toArray, List.length_cons, List.length_nil, Nat.reduceAdd, Nat.zero_add, List.range, List.range.loop]
  iterate 2
    (refine goesI_oper rfl rfl (by decide) (fun d K hK => ?_)
     go_simp
     refine hK _ _ ⟨dt_reads (fun e he => ?_), GoesI.at ?_ d⟩
     · have hm := mem_listed he
       simp [go_sem, *] at hm
       try exact ⟨_, _, hm⟩
     clear hK K)
  refine goesI_regionEnd (dt_idle _ _) ?_
  refine goesI_cond (dt_idle _ _) (t := false) (by simp [Act.eval, n1, n2, n3, n4, n5, n6]) ?_
  simp only [if_true, if_false, Bool.false_eq_true]
  refine goesI_skip (dt_idle _ _) ?_
  refine goesI_inBlock (dt_idle _ _) ?_
  refine goesI_seq (dt_idle _ _) ?_
  refine goesI_region (dt_idle _ _) ?_
  simp only [List.size_toArray, List.length_cons, List.length_nil, Nat.reduceAdd, Nat.zero_add, List.range, List.range.loop]
  iterate 1
    (refine goesI_oper rfl rfl (by decide) (fun d K hK => ?_)
     go_simp
     refine hK _ _ ⟨dt_reads (fun e he => ?_), GoesI.at ?_ d⟩
     · have hm := mem_listed he
       simp [go_sem, *] at hm
       try exact ⟨_, _, hm⟩
     clear hK K)
  have c0 : v'.cell? ⟨N + 1, 0, none⟩ = some (I 0) := by simp [World.cell?, HV.out.2.1]
  have c1 : v'.cell? ⟨N + 1, 1, none⟩ = some (I 0) := by simp [World.cell?, HV.out.2.1]
  have f0 : v'.frozen? ⟨N + 1, 0, none⟩ = false := by simp [World.frozen?, HV.out.2.1]
  have f1 : v'.frozen? ⟨N + 1, 1, none⟩ = false := by simp [World.frozen?, HV.out.2.1]
  clear b0 n1 n2 n3 n4 n5 n6
  refine goesI_doZ (L := LT) rfl rfl (by decide) (fineOp_ask callT extT (by kernel_rfl)) hr' HV.out.2.2 (v' := (v'.setCell ⟨N + 1, 0, none⟩ (I 1)).setCell ⟨N + 1, 1, none⟩ (I 0)) (by go_simp) rfl (fun w2 hr2 hn2 => ?_)
  have hrow : ((v'.setCell ⟨N + 1, 0, none⟩ (I 1)).setCell ⟨N + 1, 1, none⟩ (I 0)).heap[N + 1]? = some (.cells #[I 1, I 0] 42 (0, 0)) := by
    have := heap_setCell_same (o := 1) (heap_setCell_same (o := 0) HV.out.2.1 (I 1)) (I 0)
    simpa using this
  have hG : Grows v ((v'.setCell ⟨N + 1, 0, none⟩ (I 1)).setCell ⟨N + 1, 1, none⟩ (I 0)) := ⟨by have := HV.out.1.size; simpa [World.setCell] using this, fun b hb => by
    rw [Below.heap_setCell _ _ _ _ (by show b ≠ N + 1; omega), Below.heap_setCell _ _ _ _ (by show b ≠ N + 1; omega)]
    exact HV.out.1.old b hb, HV.out.1.os, HV.out.1.output⟩
  refine goesI_regionEnd (dt_idle _ _) ?_
  refine GoesI.ctl rfl (fun _ => stepG_ret') (dt_idle _ _) ?_
  refine goesI_leaveZ (f := 57) (fn := Try.f57) (x := .agg #[I 1, I 0]) hr2 hn2 Try.func57 rfl hoc ?_ (fun w' r' => hk _ w' r' hn2 hG)
  generalize ((v'.setCell ⟨N + 1, 0, none⟩ (I 1)).setCell ⟨N + 1, 1, none⟩ (I 0)) = V at hrow
  have k0 : V.cell? ⟨N + 1, 0, none⟩ = some (I 1) := by simp [World.cell?, hrow]
  have k1 : V.cell? ⟨N + 1, 1, none⟩ = some (I 0) := by simp [World.cell?, hrow]
  simp [results, go_sem, Try.f57, *]
end Go.Proofs.Ytfjjoohflcchnaa

namespace Go.Proofs.Ytfjjoohflcchnaa
open Go Go.Lift Go.Conc Go.RowKit

section
variable {S : TS} {K : List (Nat × Int)} {xb rk ck n : Nat} {pc : Nat → Option Addr} {ln cp rb : Nat → Nat} {cl : Nat → List Cl}

/-- The scripts. -/
abbrev scrs (N n xb rk ck : Nat) (K : List (Nat × Int)) (pc : Nat → Option Addr) (ln cp rb : Nat → Nat) (cl : Nat → List Cl) : List Scr := (List.range' 0 n).map (scrOf N n xb rk ck (K.map (·.1)) pc ln cp rb cl)

/-- What lies there behind it. -/
structure Out20 (w : World) (S : TS) (K : List (Nat × Int)) (n : Nat) (ln : Nat → Nat) (S' : TS) (K' : List (Nat × Int)) (l : Nat → Ph) (w' : World) : Prop where
  mem : Mem zn S' K' w'
  size : w.heap.size ≤ w'.heap.size
  old : ∀ b, b < w.heap.size → ¬ Own S K b → b ≠ S.bk → w'.heap[b]? = w.heap[b]? ∧ ¬ Own S' K' b
  rows : ∀ j, j < n → w'.cell? ⟨w.heap.size + 1, j, none⟩ = some (.slice (some ⟨w.heap.size + 4 + 3 * j + 2, 0, none⟩) (ln j) (ln j))
  ans : ∀ j, j < n → (l j).ans.length = ln j ∧ (0 < ln j → w'.heap[w.heap.size + 4 + 3 * j + 2]? = some (.cells (arow (l j).ans).toArray 42 (0, 0))) ∧ ∃ a, l j = .done a
  os : w'.os = w.os
  out : w'.output = w.output

set_option maxHeartbeats 1000000 in
theorem run20_all {sb so cap : Nat} {cs : List Frame} {bc : Frame} {ac : Act} {ops : Array Oper} {q0 : Nat} {rest : List Nat} {oc : Oper} {k0 : List Item} (hoc : ops[q0]? = some oc) {w : World} {T : Trace} {gs : Array Goroutine} {q : Nat → Nat} (sl : Option (Nat × Nat)) (NT : Nat) (A : Alone gs w T q)
    (hg : gs[0]? = some (G ((base 54).at { tmps := #[Pt S.wb 0, .slice (some ⟨sb, so, none⟩) n cap, .func (.func 55) #[] #[Pt xb 0]] ++ Array.replicate 36 undef, defers := [] } [.code B20]) (bc.at ac (.inRegion ops (q0 :: rest) :: k0) :: cs)))
    (hm : Mem zn S K w) (hthr : S.thr = []) (hran : S.ran = false) (hbk : Open w S.bk) (t : Told w S K xb rk ck n pc ln cp rb cl) (hs : ∀ k, k < n → w.cell? ⟨sb, so + k, none⟩ = some (.slice (pc k) (ln k) (cp k))) (hsb : sb < w.heap.size) (hn8 : n ≤ 8)
    (hlen : S.n + 2 * lens (scrs w.heap.size n xb rk ck K pc ln cp rb cl) ≤ 1000000) (hsl : S.sched.length ≤ 4611686018427387904) (hsc : ∀ x ∈ S.sched, -9223372036854775808 ≤ x ∧ x < 9223372036854775808) (l0 : Nat → Ph)
    (hturn : ∀ S1 l1, Hires K.length 0 (scrs w.heap.size n xb rk ck K pc ln cp rb cl) (nv { S with ran := true }) l0 S1 l1 → ∃ m p', m ≤ NT ∧ Turns K.length m ⟨S1, K, l1⟩ p' ∧ p'.S.n * 40 ≤ 140737488355328) :
    ∃ (N' : Nat) (gs' : Array Goroutine) (w' : World) (sl' : Option (Nat × Nat)) (T' : Trace) (q' : Nat → Nat) (S' : TS) (S1 : TS) (l1 : Nat → Ph) (m : Nat) (p' : PSt),
      runNT Try.prog N' (crowd gs w sl) T = (.next (crowd gs' w' sl'), T') ∧ gs'.size = gs.size + n ∧ gs'[0]? = some (G (bc.at (ac.put oc.dst (.slice (some ⟨w.heap.size + 1, 0, none⟩) n n)) (.inRegion ops rest :: k0)) cs) ∧
      Alone gs' w' T' q' ∧ nv S' = p'.S ∧ Hires K.length 0 (scrs w.heap.size n xb rk ck K pc ln cp rb cl) (nv { S with ran := true }) l0 S1 l1 ∧ Turns K.length m ⟨S1, K, l1⟩ p' ∧ Out20 w S K n ln S' p'.K p'.l w' := by
  have hG : GoesI Try.prog true (DT (ScZ zn) (fun _ => False)) (fun g w' => ∃ (bd : Frame) (ad : Act) (od : Array Oper) (qd : Nat) (rd : List Nat) (oe : Oper) (kd : List Item), Set20 w xb n pc ln cp w' ∧ od[qd]? = some oe ∧
      (∀ (Ch : Nat → Prop) (Stop : Goroutine → World → Prop) (w1 : World) (x : Value), w1.cell? ⟨w.heap.size + 2, 0, none⟩ = some x → (∀ d, GoesI Try.prog true (DT (ScZ zn) Ch) Stop (G (bc.at (ac.put oc.dst x) (.inRegion ops rest :: k0)) cs) (w1.at d)) → GoesI Try.prog true (DT (ScZ zn) Ch) Stop (G (bd.at (ad.put oe.dst (.tuple #[])) (.inRegion od rd :: kd)) (bc.at ac (.inRegion ops (q0 :: rest) :: k0) :: cs)) w1) ∧
      g = G ((base 86).at { tmps := #[Pt S.wb 0, .slice (some ⟨w.heap.size + 3, 0, none⟩) n n] ++ Array.replicate 60 undef, defers := [] } [.code B35]) (bd.at ad (.inRegion od (qd :: rd) :: kd) :: bc.at ac (.inRegion ops (q0 :: rest) :: k0) :: cs)) (G ((base 54).at { tmps := #[Pt S.wb 0, .slice (some ⟨sb, so, none⟩) n cap, .func (.func 55) #[] #[Pt xb 0]] ++ Array.replicate 36 undef, defers := [] } [.code B20]) (bc.at ac (.inRegion ops (q0 :: rest) :: k0) :: cs)) w := by
    refine run20_in S.wb xb sb so n cap hn8 pc ln cp (fun k hk => (t.len k hk).2) hs cs hoc hsb (Rel.refl w) (fun c hc => hc.elim) (fun v' w' bd ad od qd rd oe kd hr hn hset ho hback => GoesI.stop fun d => ⟨bd, ad, od, qd, rd, oe, kd, ?_, ho, hback, rfl⟩)
    have e : (w'.at d).heap = v'.heap := hr.eq
    exact ⟨by rw [e]; exact hset.size, by rw [e]; exact hset.p2, hset.rrow.of_block (by rw [e]), by rw [e]; exact hset.p3, hset.brow.of_block (by rw [e]), fun j hj => by rw [e]; exact hset.blk j hj, fun b hb => by rw [e]; exact hset.old b hb, hr.os.trans hset.os, hr.output.trans hset.out⟩
  obtain ⟨N1, gs1, a1, w1, sl1, T1, q1, r1, z1, h1, ⟨bd, ad, od, qd, rd, oe, kd, hset, hoe, hback, rfl⟩, A1⟩ := alone_goes A hg sl hG
  have hbkl : S.bk < w.heap.size := by obtain ⟨c, m, h⟩ := hbk; exact (Array.getElem?_eq_some_iff.1 h).1
  have hm1 : Mem zn S K w1 := (hm.grows ⟨by rw [hset.size]; omega, hset.old, hset.os, hset.out⟩).mem
  have hbk1 : Open w1 S.bk := by
    obtain ⟨c, m, h⟩ := hbk
    exact ⟨c, m, by rw [hset.old _ hbkl]; exact h⟩
  obtain ⟨B1, hB1, hP1⟩ := A1.past
  have sc := scripts_of hm hbk t hset n 0 (by omega) (allM S K w1) (futOf w.heap.size n ln 0) (fun b _ => rfl) (fun b => Iff.rfl)
  obtain ⟨N2, gs2, w2, sl2, T2, q2, B2, S2, X2, Mm2, S1, l1, m, p', r2, z2, h2, hL2, hP2, hB2, hm2, hnv, hH, hT, hHas, hMo, hio, hXs, hPM, hMa, hMb⟩ := run35_all calld hoe (K := K) (S := S) (w := w1) sl1 (Mm := ⟨allM S K w1, w1.os, w1.output⟩) (Fut := futOf w.heap.size n ln 0) (ss := scrs w.heap.size n xb rk ck K pc ln cp rb cl) NT A1.left hP1 hB1 h1 hm1 hthr hran hbk1 allM_has (fun b hb => (allM_own hb).1) (by
      show allM S K w1 S.bk = none
      unfold allM
      rw [if_pos (.inr rfl)]) ⟨rfl, rfl⟩ (fun b ⟨i, _, hi, h0, e⟩ => by
      subst e
      show allM S K w1 _ ≠ none
      rw [allM_at (fun h => by have := hm.lt h; omega) (by omega), (hset.blk i hi).2.2]
      simp) sc (by simp) hn8 hlen hsl hsc l0 hturn
  have hXj : ∀ j, j < n → ∃ h tb gc b0, X2 j = (scrOf w.heap.size n xb rk ck (K.map (·.1)) pc ln cp rb cl j).X h tb gc b0 := fun j hj => by
    have := hXs j (scrOf w.heap.size n xb rk ck (K.map (·.1)) pc ln cp rb cl j) (by simp [scrs, hj])
    rw [Nat.zero_add] at this
    exact this
  have hab : ∀ j, j < n → 0 < ln j → (X2 j).ab = w.heap.size + 4 + 3 * j + 2 := fun j hj h0 => by
    obtain ⟨h, tb, gc, b0, e⟩ := hXj j hj
    rw [e]
    show (if ln j = 0 then b0 else _) = _
    rw [if_neg (by omega)]
  have hkeep : ∀ b o, allM S K w1 b = some o → (∀ j, j < n → b ≠ w.heap.size + 4 + 3 * j + 2) → w2.heap[b]? = some o ∧ ¬ Own S2 p'.K b := fun b o hb hne => by
    have h9 : Mm2.M b = some o := by
      rcases hMb b o hb with h | ⟨j, hj, h3, h4⟩
      · exact h
      · exfalso
        by_cases h0 : 0 < ln j
        · exact hne j hj (h3.trans (hab j hj h0))
        · obtain ⟨h, tb, gc, b0, e⟩ := hXj j hj
          rw [e] at h3 h4
          apply h4
          rw [h3]
          show (if ln j = 0 then b0 else _) = b0
          rw [if_pos (by omega)]
    exact ⟨hHas b o h9, hMo b (by rw [h9]; simp)⟩
  have hnew : ∀ b o, w.heap.size ≤ b → w1.heap[b]? = some o → (∀ j, j < n → b ≠ w.heap.size + 4 + 3 * j + 2) → w2.heap[b]? = some o := fun b o hb h hne => (hkeep b o (by rw [allM_at (fun h => by have := hm.lt h; omega) (by omega)]; exact h) hne).1
  have c2 : w2.cell? ⟨w.heap.size + 2, 0, none⟩ = some (.slice (some ⟨w.heap.size + 1, 0, none⟩) n n) := by
    unfold World.cell?
    rw [hnew _ _ (by show _ ≤ w.heap.size + 2; omega) hset.p3 (fun j hj => by show w.heap.size + 2 ≠ _; omega)]
    rfl
  have A2 : Alone gs2 w2 T2 q2 := ⟨hL2, B2, hB2, hP2⟩
  obtain ⟨N3, gs3, a3, w3, sl3, T3, q3, r3, z3, h3, ⟨rfl, d3, rfl⟩, A3⟩ := alone_goes A2 h2 sl2 (hback (fun _ => False) (fun g w' => g = G (bc.at (ac.put oc.dst (.slice (some ⟨w.heap.size + 1, 0, none⟩) n n)) (.inRegion ops rest :: k0)) cs ∧ ∃ d, w' = w2.at d) w2 _ c2 (fun d => GoesI.stop fun d' => ⟨rfl, d', rfl⟩))
  refine ⟨N1 + N2 + N3, gs3, w2.at d3, sl3, T3, q3, S2, S1, l1, m, p', runNT_then (runNT_then r1 r2) r3, by omega, h3, A3, hnv, hH, hT, ⟨?_, ?_, fun b hb ho hk => ?_, fun j hj => ?_, fun j hj => ?_, ?_, ?_⟩⟩
  · exact (hm2.grows (v' := w2.at d3) ⟨Nat.le_refl _, fun _ _ => rfl, rfl, rfl⟩).mem
  · show w.heap.size ≤ w2.heap.size
    have := (Array.getElem?_eq_some_iff.1 (hnew _ _ (by omega : w.heap.size ≤ w.heap.size + 2) hset.p3 (fun j hj => by omega))).1
    omega
  · have e : w.heap[b]? = some w.heap[b] := Array.getElem?_eq_getElem hb
    have := hkeep b _ (by rw [allM_at ho hk, hset.old b hb]; exact e) (fun j hj => by omega)
    exact ⟨this.1.trans e.symm, this.2⟩
  · have hl := hset.rrow.lt
    have e : w1.heap[w.heap.size + 1]? = some w1.heap[w.heap.size + 1] := Array.getElem?_eq_getElem hl
    have h9 := hnew _ _ (by omega) e (fun j hj => by omega)
    show w2.cell? _ = _
    rw [World.cell?_of_block (w := w1) (w' := w2) (by show w2.heap[w.heap.size + 1]? = w1.heap[w.heap.size + 1]?; rw [h9, e])]
    exact hset.rrow.cell hj
  · obtain ⟨hpm, hd⟩ := hPM j hj
    obtain ⟨h, tb, gc, b0, e⟩ := hXj j hj
    have hc : (X2 j).calls.length = ln j := by rw [e]; exact (t.len j hj).1
    refine ⟨hpm.len.trans hc, fun h0 => ?_, hd⟩
    have := hpm.row (by rw [hc]; exact h0)
    rw [hab j hj h0] at this
    rw [e] at this
    exact this
  · exact hio.1.trans hset.os
  · exact hio.2.trans hset.out
end
end Go.Proofs.Ytfjjoohflcchnaa

namespace Go.Proofs.Ytfjjoohflcchnaa
open Go Go.Lift Go.Conc Go.RowKit

def plainO : List FuncId := [56, 59, 61, 62, 63, 64, 89, 106, 114, 18, 20, 21, 22, 29, 53, 58, 83, 82]
def LO (f : FuncId) : Prop := f ∈ plainO
theorem callO : ∀ f ∈ plainO, Callable Try.prog LO f := by
  intro f hf
  have hf' := hf
  simp only [plainO, List.mem_cons, List.not_mem_nil, or_false] at hf
  rcases hf with rfl | rfl | rfl | rfl | rfl | rfl | rfl | rfl | rfl | rfl | rfl | rfl | rfl | rfl | rfl | rfl | rfl | rfl
  · exact ⟨hf', Try.f56, Try.func56, by kernel_rfl, by kernel_rfl⟩
  · exact ⟨hf', Try.f59, Try.func59, by kernel_rfl, by kernel_rfl⟩
  · exact ⟨hf', Try.f61, Try.func61, by kernel_rfl, by kernel_rfl⟩
  · exact ⟨hf', Try.f62, Try.func62, by kernel_rfl, by kernel_rfl⟩
  · exact ⟨hf', Try.f63, Try.func63, by kernel_rfl, by kernel_rfl⟩
  · exact ⟨hf', Try.f64, Try.func64, by kernel_rfl, by kernel_rfl⟩
  · exact ⟨hf', Try.f89, Try.func89, by kernel_rfl, by kernel_rfl⟩
  · exact ⟨hf', Try.f106, Try.func106, by kernel_rfl, by kernel_rfl⟩
  · exact ⟨hf', Try.f114, Try.func114, by kernel_rfl, by kernel_rfl⟩
  · exact ⟨hf', Try.f18, Try.func18, by kernel_rfl, by kernel_rfl⟩
  · exact ⟨hf', Try.f20, Try.func20, by kernel_rfl, by kernel_rfl⟩
  · exact ⟨hf', Try.f21, Try.func21, by kernel_rfl, by kernel_rfl⟩
  · exact ⟨hf', Try.f22, Try.func22, by kernel_rfl, by kernel_rfl⟩
  · exact ⟨hf', Try.f29, Try.func29, by kernel_rfl, by kernel_rfl⟩
  · exact ⟨hf', Try.f53, Try.func53, by kernel_rfl, by kernel_rfl⟩
  · exact ⟨hf', Try.f58, Try.func58, by kernel_rfl, by kernel_rfl⟩
  · exact ⟨hf', Try.f83, Try.func83, by kernel_rfl, by kernel_rfl⟩
  · exact ⟨hf', Try.f82, Try.func82, by kernel_rfl, by kernel_rfl⟩
theorem fineO : ∀ f, LO f → fineFn Try.prog true LO f := by
  intro f hf
  simp only [LO, plainO, List.mem_cons, List.not_mem_nil, or_false] at hf
  rcases hf with rfl | rfl | rfl | rfl | rfl | rfl | rfl | rfl | rfl | rfl | rfl | rfl | rfl | rfl | rfl | rfl | rfl | rfl
  · exact fineFn_ask callO extT Try.func56 (c := Try.f56.body.getD .skip) (by rfl) (by kernel_rfl)
  · exact fineFn_ask callO extT Try.func59 (c := Try.f59.body.getD .skip) (by rfl) (by kernel_rfl)
  · exact fineFn_ask callO extT Try.func61 (c := Try.f61.body.getD .skip) (by rfl) (by kernel_rfl)
  · exact fineFn_ask callO extT Try.func62 (c := Try.f62.body.getD .skip) (by rfl) (by kernel_rfl)
  · exact fineFn_ask callO extT Try.func63 (c := Try.f63.body.getD .skip) (by rfl) (by kernel_rfl)
  · exact fineFn_ask callO extT Try.func64 (c := Try.f64.body.getD .skip) (by rfl) (by kernel_rfl)
  · exact fineFn_ask callO extT Try.func89 (c := Try.f89.body.getD .skip) (by rfl) (by kernel_rfl)
  · exact fineFn_ask callO extT Try.func106 (c := Try.f106.body.getD .skip) (by rfl) (by kernel_rfl)
  · exact fineFn_ask callO extT Try.func114 (c := Try.f114.body.getD .skip) (by rfl) (by kernel_rfl)
  · exact fineFn_ask callO extT Try.func18 (c := Try.f18.body.getD .skip) (by rfl) (by kernel_rfl)
  · exact fineFn_ask callO extT Try.func20 (c := Try.f20.body.getD .skip) (by rfl) (by kernel_rfl)
  · exact fineFn_ask callO extT Try.func21 (c := Try.f21.body.getD .skip) (by rfl) (by kernel_rfl)
  · exact fineFn_ask callO extT Try.func22 (c := Try.f22.body.getD .skip) (by rfl) (by kernel_rfl)
  · exact fineFn_ask callO extT Try.func29 (c := Try.f29.body.getD .skip) (by rfl) (by kernel_rfl)
  · exact fineFn_ask callO extT Try.func53 (c := Try.f53.body.getD .skip) (by rfl) (by kernel_rfl)
  · exact fineFn_ask callO extT Try.func58 (c := Try.f58.body.getD .skip) (by rfl) (by kernel_rfl)
  · exact fineFn_ask callO extT Try.func83 (c := Try.f83.body.getD .skip) (by rfl) (by kernel_rfl)
  · exact fineFn_ask callO extT Try.func82 (c := Try.f82.body.getD .skip) (by rfl) (by kernel_rfl)
end Go.Proofs.Ytfjjoohflcchnaa
