/-
  Lists of numbers: what with makes.
-/
import Derived.Test.YteniopbmkooomaaRowL
namespace Go.Proofs.Yteniopbmkooomaa
open Go.RowKit Hi Go.Deep Go.Maps

/-- A slice holds numbers. -/
abbrev SI (w : World) (v : Value) (s : List Int) : Prop := SL 1 encI w v s

theorem info3 : (Try.prog.info? 3).map (fun i => (i.zero, i.size, i.bytes)) = some (some (I 0), 1, 8) := by kernel_rfl

theorem own_si {w : World} {base : Nat} {v : Value} {s : List Int} (h : w.ownsRow base 3 1 v s.length (s.map I)) : SI w v s := by
  rcases h.2 with ⟨rfl, h0⟩ | ⟨g, cap, cur, rfl, hb, hh, h1, h2, h3, h4⟩
  · have : s = [] := List.length_eq_zero_iff.1 h0
    subst this
    exact ⟨none, 0, rfl, Nat.le_refl _, Nat.zero_le _, fun i a hi => by simp at hi⟩
  · refine ⟨_, cap, rfl, h1, h2, fun i a hi => ⟨g, 0, rfl, (Array.getElem?_eq_some_iff.1 hh).1, fun j u hj => ?_⟩⟩
    have hi' := (List.getElem?_eq_some_iff.1 hi).1
    have hj0 : j = 0 := by have := (List.getElem?_eq_some_iff.1 hj).1; simp [encI] at this; omega
    subst hj0
    simp [encI] at hj
    subst hj
    have hf : (s.map I)[i]? = some (I a) := by rw [List.getElem?_map, hi]; rfl
    rw [← h4, List.getElem?_take_of_lt (by omega)] at hf
    simp only [World.cell?, hh, Nat.zero_add, Nat.add_zero, Nat.mul_one]
    simpa using hf

theorem si_cells {w : World} {ad : Addr} {cap : Nat} {s : List Int} (h : SI w (.slice (some ad) s.length cap) s) : ∀ j u, (s.map I)[j]? = some u → w.cell? (ad.add j) = some u := by
  obtain ⟨p, cap', e, _, _, h3⟩ := h
  cases e
  intro j u hj
  rw [List.getElem?_map] at hj
  cases hi : s[j]? with
  | none => rw [hi] at hj; cases hj
  | some a =>
    rw [hi] at hj
    cases hj
    obtain ⟨blk, off, e2, _, hr⟩ := h3 j a hi
    cases e2
    have := hr 0 (I a) rfl
    rw [Addr.add_mid]
    simpa using this

theorem append_none (w : World) (ty : TypeId) (sp : Option Addr) (c : Nat) : (Builtin.append_ #[47, 47] ty #[.slice none 0 0, .slice sp 0 c]).run Try.prog w = .ok (.slice none 0 0) w := by
  obtain ⟨j0, hj', hj0, hj1, hj2⟩ := info_parts info3
  have hl : ∀ (x : Addr), (loadCells x 0).run Try.prog w = .ok #[] w := fun x => by simpa using run_loadCells_list (P := Try.prog) w x [] (by simp)
  cases sp <;> simp [Builtin.append_, run_underlying Try.underlying47, sizeOf, typeInfo, hj', Builtin.lenOf, Builtin.firstCells, hl]

theorem wp_append_none {ops : Array Oper} {rest : List Oper} {op : Oper} {a : Act} {w : World} {Q : Exit → Act → World → Prop} (hw : Region.wanted op (yielded ops a.tmps) = true) (s x : Operand) (ho : op.op = .call { callee := .builtin .append, args := #[s, x], argTypes := #[47, 47] })
    (sp : Option Addr) (c : Nat) (hs : a.eval s = .slice none 0 0) (hx : a.eval x = .slice sp 0 c) (h : wpList Try.prog ops Q rest (a.put op.dst (.slice none 0 0)) w) : wpList Try.prog ops Q (op :: rest) a w := by
  refine wpG_val hw ?_ h
  have e : op = { dst := op.dst, op := .call { callee := .builtin .append, args := #[s, x], argTypes := #[47, 47] }, type := op.type, pos := op.pos, after := op.after, guard := op.guard } := by rw [← ho]
  rw [e, Go.BigFrame.execOp_builtin, Go.BigFrame.builtin_append, Sem.run_bind]
  have h1 : (#[s, x] : Array Operand).map a.eval = #[.slice none 0 0, .slice sp 0 c] := by simp [hs, hx]
  rw [h1, append_none]
  rfl

theorem one_ints (s : List Int) : ∀ u ∈ s.map I, u.oneCell' = true := by
  intro u hu
  obtain ⟨a, _, rfl⟩ := List.mem_map.1 hu
  rfl
theorem news1 (w : World) (v : Int) (t : TypeId) {n : Nat} (hn : n = w.heap.size) : ∀ j u, [I v][j]? = some u → (w.alloc (.cells #[I v] t)).cell? ((⟨n, 0, none⟩ : Addr).add j) = some u := by
  subst hn
  intro j u hj
  rw [Addr.add_mid]
  exact range_new w #[I v] t 0 [I v] rfl rfl j u hj

set_option maxHeartbeats 1000000 in
set_option maxRecDepth 100000 in
theorem with_any (sv : Value) (s : List Int) (v : Int) (w : World) (h : SI w sv s) (hn : s.length ≤ 1000000) :
    Calls Try.prog 62 #[sv, I v] w fun e w' => ∃ p' c', e = .returned (.slice p' (s.length + 1) c') ∧ SI w' (.slice p' (s.length + 1) c') (s ++ [v]) ∧ Below w.heap.size w w' := by
  have HS : Hid (SI w sv s) := h
  obtain ⟨p, cap, rfl, hc, hm, h3⟩ := h
  unfold maxLen at hm
  obtain ⟨j0, hj', hj0, hj1, hj2⟩ := info_parts info3
  have hnil : w.ownsRow w.heap.size 3 1 (.slice none 0 0) 0 [] := ⟨rfl, .inl ⟨rfl, rfl⟩⟩
  have HNIL : Hid (w.ownsRow w.heap.size 3 1 (.slice none 0 0) 0 []) := hnil
  by_cases h0 : s.length = 0
  · have hs : s = [] := List.length_eq_zero_iff.1 h0
    subst hs
    have ha := append_none w 47 p cap
    clear h3 hnil h0
    go_enter Try.func62, Try.ntmps62
    go_wp2_with (first
      | ((with_reducible refine wp_append_none ?_ (.tmp 6) (.tmp 7) ?_ p cap ?_ ?_ ?_); rfl; rfl; rfl; rfl)
      | (at_builtin; refine wpList_append_lies _ rfl (.tmp 9) (.tmp 11) 47 rfl w.heap.size 3 j0 _ 1 8 Try.underlying47 hj' hj0 hj1 hj2 rfl (by decide) (.slice none 0 0) 0 [] ?_
              (own_later (below_alloc (Below.refl _ _) _) HNIL.out) ⟨w.heap.size, 0, none⟩ 1 1 [I v] rfl rfl (news1 _ _ _ rfl) (one_ints [v]) (by decide) (by unfold maxLen; omega) (by omega) (by simp) _ rfl ?_; rfl; intro g cpg w8 hown8 hgrow8 hat8 hlt8))
    go_wp2_with fail
    go_ret
    refine ⟨_, _, rfl, own_si (s := [v]) hown8, (below_alloc (Below.refl _ _) _).grown hgrow8 (by simp) (fun g hg => by cases hg)⟩
  · obtain ⟨ad, rfl⟩ : ∃ ad, p = some ad := by
      obtain ⟨blk, off, e, _⟩ := h3 0 _ (List.getElem?_eq_getElem (by omega))
      exact ⟨_, e⟩
    have hne : 0 < s.length := by omega
    clear h3 hnil h0
    go_enter Try.func62, Try.ntmps62
    go_wp2_with (first
      | (at_builtin; refine wpList_append_lies _ rfl (.tmp 6) (.tmp 7) 47 rfl w.heap.size 3 j0 _ 1 8 Try.underlying47 hj' hj0 hj1 hj2 rfl (by decide) (.slice none 0 0) 0 [] ?_
              HNIL.out ad s.length cap (s.map I) rfl (by simp) (si_cells HS.out) (one_ints s) hne (by unfold maxLen; omega) (by omega) (Nat.le_refl _) _ rfl ?_; rfl; intro g1 cp1 w7 hown7 hgrow7 hat7 hlt7)
      | (at_builtin; refine wpList_append_lies _ rfl (.tmp 9) (.tmp 11) 47 rfl w.heap.size 3 j0 _ 1 8 Try.underlying47 hj' hj0 hj1 hj2 rfl (by decide) (.slice (some ⟨g1, 0, none⟩) s.length cp1) s.length (s.map I) ?_
              (own_later (below_alloc (Below.refl _ _) _) (by simpa using hown7)) ⟨w7.heap.size, 0, none⟩ 1 1 [I v] rfl rfl (news1 _ _ _ rfl) (one_ints [v]) (by decide) (by unfold maxLen; omega) (by omega) (by have := hgrow7.size; simp; omega) _ rfl ?_; rfl; intro g cpg w8 hown8 hgrow8 hat8 hlt8))
    go_wp2_with fail
    go_ret
    have hb7 : Below w.heap.size w w7 := (Below.refl _ _).grown hgrow7 (Nat.le_refl _) (fun g hg => by cases hg)
    have hz7 := hb7.size
    have hg1 := own_block hown7 g1 rfl
    refine ⟨_, _, rfl, own_si (base := w.heap.size) (s := s ++ [v]) ?_, (below_alloc hb7 _).grown hgrow8 (by simp; omega) (fun k hk => by have : g1 = k := Option.some.inj hk; omega)⟩
    simpa using hown8

end Go.Proofs.Yteniopbmkooomaa
