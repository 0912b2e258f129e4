/- LatchLinear: whatever the schedule, the number and the scripts, what a latch's calls are told could have been one call behind the other, as chapter 3's own functions say; no conditions. Part 5 of 39. (Joined, by program, of: R3GoesW.) -/
import Derived.Test.YtehingmdmijedaaLatchLinear01
import Derived.Test.YtehingmdmijedaaLatchLinear03
import Derived.Test.YtehingmdmijedaaLatchLinear04
set_option linter.unusedSimpArgs false
set_option linter.unusedVariables false
namespace Go.Proofs.Ytehingmdmijedaa.His
open Go.RowKit
def Sup (T m : Nat) : Prop := ∀ i, T.testBit i = true → m.testBit i = true
theorem sup_refl (T : Nat) : Sup T T := fun _ h => h
theorem sup_or {T i m : Nat} (h : Sup (T ||| 2 ^ i) m) : Sup T m ∧ m.testBit i = true :=
  ⟨fun j hj => h j (by rw [bit_or, hj]; rfl), h i (by rw [bit_or]; simp)⟩
theorem not_sup {T i : Nat} (h : T.testBit i = false) : ¬ Sup (T ||| 2 ^ i) T := fun hs => by
  have := (sup_or hs).2
  rw [h] at this; cases this
def Vain {σ : Type} (ways : Ways σ) (l : List Ev) (f : Nat → List σ) (m : Nat) : Prop := ∀ t ∈ f m, ¬ Goes ways l m t
def VainUp {σ : Type} (ways : Ways σ) (l : List Ev) (T : Nat) (f : Nat → List σ) : Prop := ∀ m, Sup T m → Vain ways l f m
structure Mid {σ : Type} (ways : Ways σ) (l : List Ev) (T : Nat) (s : σ) (f f2 : Nat → List σ) : Prop where
  above : ∀ m, Sup T m → m ≠ T → Vain ways l f2 m
  here : f2 T = f T ++ [s]
  other : ∀ m, ¬ Sup T m → f2 m = f m
def updF {σ : Type} (f : Nat → List σ) (T : Nat) (x : List σ) : Nat → List σ := fun m => if m = T then x else f m
theorem updF_at {σ : Type} (f : Nat → List σ) (T : Nat) (x : List σ) : updF f T x T = x := by unfold updF; rw [if_pos rfl]
theorem updF_ne {σ : Type} (f : Nat → List σ) {T m : Nat} (x : List σ) (h : m ≠ T) : updF f T x m = f m := by unfold updF; rw [if_neg h]
section
variable {σ : Type} {ways : Ways σ} {l : List Ev} {T : Nat} {s : σ} {f f2 f3 : Nat → List σ}
theorem mid_start (h : VainUp ways l T f) : Mid ways l T s f (updF f T (f T ++ [s])) where
  above m hs hn := by unfold Vain; rw [updF_ne f _ hn]; exact h m hs
  here := updF_at f T _
  other m hs := updF_ne f _ (fun e => hs (e ▸ sup_refl T))
theorem mid_down (hm : Mid ways l T s f f2) {i : Nat} (hi : T.testBit i = false) : VainUp ways l (T ||| 2 ^ i) f2 := fun m hs =>
  hm.above m (sup_or hs).1 (fun e => by have := (sup_or hs).2; rw [e, hi] at this; cases this)
theorem mid_up (hm : Mid ways l T s f f2) {i : Nat} (hi : T.testBit i = false) (h3 : VainUp ways l (T ||| 2 ^ i) f3) (ho : ∀ m, ¬ Sup (T ||| 2 ^ i) m → f3 m = f2 m) : Mid ways l T s f f3 where
  above m hs hn := by
    by_cases h : Sup (T ||| 2 ^ i) m
    · exact h3 m h
    · unfold Vain; rw [ho m h]; exact hm.above m hs hn
  here := by rw [ho T (not_sup hi)]; exact hm.here
  other m hs := by rw [ho m (fun h => hs (sup_or h).1)]; exact hm.other m hs
theorem mid_end (hm : Mid ways l T s f f2) (h0 : VainUp ways l T f) (hn : ¬ Goes ways l T s) : VainUp ways l T f2 := fun m hs => by
  by_cases h : m = T
  · subst h
    intro t ht
    rw [hm.here, List.mem_append] at ht
    rcases ht with ht | ht
    · exact h0 m hs t ht
    · rw [List.mem_singleton] at ht
      rw [ht]; exact hn
  · exact hm.above m hs h
def NoWay (ways : Ways σ) (l : List Ev) (T : Nat) (s : σ) (i : Nat) : Prop :=
  T.testBit i = false → (∀ k, k < l.length → evAhead (l.getD k ev0) (l.getD i ev0) = true → T.testBit k = true) → ∀ o, o ∈ ways s (l.getD i ev0) → ((l.getD i ev0).over = true → o.1 = (l.getD i ev0).ans) → ¬ Goes ways l (T ||| 2 ^ i) o.2
theorem goes_no (hd : ¬ ∀ i, i < l.length → (l.getD i ev0).over = true → T.testBit i = true) (h : ∀ i, i < l.length → NoWay ways l T s i) : ¬ Goes ways l T s := fun hg => by
  rcases goes_step.1 hg with h' | ⟨i, h1, h2, h3, o, h4, h5, h6⟩
  · exact hd h'
  · exact h i h1 h2 h3 o h4 h5 h6
theorem goes_yes {i : Nat} (h1 : i < l.length) (h2 : T.testBit i = false) (h3 : ∀ k, k < l.length → evAhead (l.getD k ev0) (l.getD i ev0) = true → T.testBit k = true) {o : (Int × Int) × σ} (h4 : o ∈ ways s (l.getD i ev0)) (h5 : (l.getD i ev0).over = true → o.1 = (l.getD i ev0).ans) (h6 : Goes ways l (T ||| 2 ^ i) o.2) : Goes ways l T s :=
  goes_step.2 (.inr ⟨i, h1, h2, h3, o, h4, h5, h6⟩)
end
def cnt : Nat → Nat
  | 0 => 0
  | c + 1 => 1 + 2 * ((c + 1) * cnt c)
theorem cnt_le (c : Nat) : cnt c ≤ cnt (c + 1) := by
  show cnt c ≤ 1 + 2 * ((c + 1) * cnt c)
  have : 1 * cnt c ≤ (c + 1) * cnt c := Nat.mul_le_mul_right _ (by omega)
  omega
theorem cnt_mono {a : Nat} : ∀ {b : Nat}, a ≤ b → cnt a ≤ cnt b
  | 0, h => by have : a = 0 := by omega
               subst this; exact Nat.le_refl _
  | b + 1, h => by
    by_cases e : a = b + 1
    · subst e; exact Nat.le_refl _
    · exact Nat.le_trans (cnt_mono (by omega)) (cnt_le b)
theorem cnt_twelve {c : Nat} (h : c ≤ 12) : cnt c ≤ 1272785005033 := Nat.le_trans (cnt_mono h) (by decide)
theorem left_mono (T : Nat) {a : Nat} : ∀ {b : Nat}, a ≤ b → left T a ≤ left T b
  | 0, h => by have : a = 0 := by omega
               subst this; exact Nat.le_refl _
  | b + 1, h => by
    by_cases e : a = b + 1
    · subst e; exact Nat.le_refl _
    · refine Nat.le_trans (left_mono T (b := b) (by omega)) ?_
      show left T b ≤ left T b + _
      omega
theorem left_no {T k : Nat} (h : T.testBit k = false) : left T (k + 1) = left T k + 1 := by
  show left T k + (if T.testBit k = true then 0 else 1) = _
  rw [if_neg (by rw [h]; decide)]
theorem cnt_room {T n k c j : Nat} (hc : left T n = c + 1) (hk : k < n) (hb : T.testBit k = false) (hj : j < 2) : 1 + 2 * (left T k * cnt c) + j * cnt c + cnt c ≤ cnt (c + 1) := by
  have h1 : left T (k + 1) ≤ left T n := left_mono T (by omega)
  rw [left_no hb, hc] at h1
  show _ ≤ 1 + 2 * ((c + 1) * cnt c)
  have h2 : (left T k + 1) * cnt c ≤ (c + 1) * cnt c := Nat.mul_le_mul_right _ (by omega)
  rw [Nat.add_mul, Nat.one_mul] at h2
  have h3 : j * cnt c ≤ 1 * cnt c := Nat.mul_le_mul_right _ (by omega)
  omega
theorem cnt_next {T k c : Nat} (hb : T.testBit k = false) : 1 + 2 * (left T k * cnt c) + 2 * cnt c = 1 + 2 * (left T (k + 1) * cnt c) := by
  rw [left_no hb, Nat.add_mul, Nat.one_mul]; omega
end Go.Proofs.Ytehingmdmijedaa.His
namespace Go.Proofs.Ytehingmdmijedaa.R3
open Go.RowKit Go.Proofs.Ytehingmdmijedaa.His Go.Deep Go.Maps
def IsSl (x : Value) : Prop := ∃ p l c, x = Value.slice p l c
def KB (w w' : World) : Prop := w.heap.size ≤ w'.heap.size ∧ ∀ b o x, w.cell? ⟨b, o, none⟩ = some (I x) → w'.heap[b]? = w.heap[b]?
theorem kb_below {w w' : World} (h : Below w.heap.size w w') : KB w w' := ⟨h.size, fun _ _ _ hc => h.block _ (World.block_lt_of_cell? _ _ hc)⟩
theorem kb_refl (w : World) : KB w w := ⟨Nat.le_refl _, fun _ _ _ _ => rfl⟩
theorem KB.cells {w w' : World} (h : KB w w') {b o : Nat} {x : Int} (hc : w.cell? ⟨b, o, none⟩ = some (I x)) (o' : Nat) : w'.cell? ⟨b, o', none⟩ = w.cell? ⟨b, o', none⟩ :=
  World.cell?_of_block (h.2 b o x hc)
theorem KB.trans {a b c : World} (h : KB a b) (k : KB b c) : KB a c := ⟨Nat.le_trans h.1 k.1, fun b' o x hc => by
  rw [k.2 b' o x (by rw [h.cells hc]; exact hc), h.2 b' o x hc]⟩
theorem KB.si {w w' : World} (h : KB w w') {v : Value} {s : List Int} (hs : SI w v s) : SI w' v s := by
  obtain ⟨p, cap, rfl, h1, h2, h3⟩ := hs
  refine ⟨p, cap, rfl, h1, h2, fun i a hi => ?_⟩
  obtain ⟨blk, off, e, hlt, hr⟩ := h3 i a hi
  have hc : w.cell? ⟨blk, off + i * 1, none⟩ = some (I a) := by simpa using hr 0 (I a) rfl
  refine ⟨blk, off, e, Nat.lt_of_lt_of_le hlt h.1, fun j u hj => ?_⟩
  rw [h.cells hc]
  exact hr j u hj
def RowS (w : World) (base : Nat) (v : Value) (ss : List Value) : Prop :=
  (v = .slice none 0 0 ∧ ss = []) ∨ ∃ g cap cur, v = .slice (some ⟨g, 0, none⟩) ss.length cap ∧ base ≤ g ∧ w.heap[g]? = some (.cells cur 22 (0, 0)) ∧ ss.length ≤ cap ∧ cap ≤ maxLen ∧ cur.size = cap ∧ cur.toList.take ss.length = ss ∧ ∀ x ∈ cur.toList, IsSl x
theorem RowS.form {w : World} {base : Nat} {v : Value} {ss : List Value} (h : RowS w base v ss) : ∃ p cap, v = .slice p ss.length cap ∧ ss.length ≤ cap ∧ cap ≤ maxLen := by
  rcases h with ⟨rfl, rfl⟩ | ⟨g, cap, cur, rfl, _, _, h1, h2, _⟩
  · exact ⟨none, 0, rfl, Nat.le_refl _, Nat.zero_le _⟩
  · exact ⟨_, cap, rfl, h1, h2⟩
theorem RowS.own {w : World} {base : Nat} {v : Value} {ss : List Value} (h : RowS w base v ss) : w.ownsRow base 22 1 v ss.length ss := by
  refine ⟨by simp, ?_⟩
  rcases h with ⟨rfl, rfl⟩ | ⟨g, cap, cur, rfl, h0, hg, h1, h2, h3, h4, _⟩
  · exact .inl ⟨rfl, rfl⟩
  · exact .inr ⟨g, cap, cur, rfl, h0, hg, h1, h2, by simpa using h3, by simpa using h4⟩
theorem RowS.lt {w : World} {base : Nat} {v : Value} {ss : List Value} (h : RowS w base v ss) : ∀ g, v.ownBlock = some g → base ≤ g ∧ g < w.heap.size := h.own.lt
theorem RowS.block {w w' : World} {base : Nat} {v : Value} {ss : List Value} (h : RowS w base v ss) (hb : ∀ g, v.ownBlock = some g → w'.heap[g]? = w.heap[g]?) : RowS w' base v ss := by
  rcases h with h | ⟨g, cap, cur, rfl, h0, hg, h1⟩
  · exact .inl h
  · exact .inr ⟨g, cap, cur, rfl, h0, (hb g rfl).trans hg, h1⟩
theorem RowS.noInt {w : World} {base : Nat} {v : Value} {ss : List Value} (h : RowS w base v ss) {g : Nat} (hg : v.ownBlock = some g) (o : Nat) (x : Int) : w.cell? ⟨g, o, none⟩ ≠ some (I x) := by
  rcases h with ⟨rfl, _⟩ | ⟨g', cap, cur, rfl, _, hb, _, _, _, _, hs⟩
  · cases hg
  · have : g' = g := Option.some.inj hg
    subst this
    intro hc
    simp only [World.cell?, hb] at hc
    have hm : I x ∈ cur.toList := by
      rw [Array.mem_toList_iff]
      exact Array.mem_of_getElem? (by simpa using hc)
    obtain ⟨_, _, _, e⟩ := hs _ hm
    cases e
theorem RowS.tag {w : World} {base : Nat} {v : Value} {ss : List Value} (h : RowS w base v ss) {g : Nat} (hg : v.ownBlock = some g) : ∃ cur, w.heap[g]? = some (.cells cur 22 (0, 0)) := by
  rcases h with ⟨rfl, _⟩ | ⟨g', cap, cur, rfl, _, hb, _⟩
  · cases hg
  · have : g' = g := Option.some.inj hg
    subst this
    exact ⟨cur, hb⟩
theorem RowS.cell {w : World} {base : Nat} {p : Option Addr} {n cap : Nat} {ss : List Value} (h : RowS w base (.slice p n cap) ss) {i : Nat} {sv : Value} (hi : ss[i]? = some sv) : ∃ g, p = some ⟨g, 0, none⟩ ∧ w.cell? ⟨g, i, none⟩ = some sv := by
  rcases h with ⟨_, rfl⟩ | ⟨g, cap', cur, e, _, hb, _, _, _, h4, _⟩
  · simp at hi
  · cases e
    refine ⟨g, rfl, ?_⟩
    have hl : i < ss.length := (List.getElem?_eq_some_iff.1 hi).1
    rw [← h4, List.getElem?_take_of_lt hl] at hi
    simp only [World.cell?, hb]
    simpa using hi
theorem info47 : (Try.prog.info? 22).map (fun i => (i.zero, i.size, i.bytes)) = some (some (.slice none 0 0), 1, 24) := by kernel_rfl
theorem zero_sl (n : Nat) : ∀ x ∈ (Builtin.zeroCells (Value.slice none 0 0).cells n).toList, IsSl x := by
  intro x hx
  simp only [Builtin.zeroCells, Array.toList_map, List.mem_map] at hx
  obtain ⟨i, _, rfl⟩ := hx
  simp only [Value.cells]
  exact ⟨none, 0, 0, by simp [Nat.mod_one]⟩
theorem rowS_append (w : World) {base : Nat} {v : Value} {ss : List Value} (h : RowS w base v ss) (ty : TypeId) (ad : Addr) (c : Nat) (sv : Value) (hsv : IsSl sv) (hc : w.cell? ad = some sv) (hb : (ss.length + 1) * 24 ≤ 140737488355328) (hbase : base ≤ w.heap.size) :
    ∃ g cap w', (Builtin.append_ #[36, 36] ty #[v, .slice (some ad) 1 c]).run Try.prog w = .ok (.slice (some ⟨g, 0, none⟩) (ss.length + 1) cap) w' ∧ RowS w' base (.slice (some ⟨g, 0, none⟩) (ss.length + 1) cap) (ss ++ [sv]) ∧
      w.grownBy w' v.ownBlock ∧ (v.ownBlock = some g ∨ g = w.heap.size) := by
  obtain ⟨i, hi, hz, h1, h2⟩ := info_parts info47
  have hnews : ∀ j u, [sv][j]? = some u → w.cell? (ad.add j) = some u := fun j u hj => by
    have : j = 0 := by have := (List.getElem?_eq_some_iff.1 hj).1; simp at this; omega
    subst this
    simp at hj
    subst hj
    have e : ad.add 0 = ad := by
      obtain ⟨b, o, sp⟩ := ad
      have := World.cell?_spot hc
      simp only at this
      subst this
      rw [Addr.add_mid]; rfl
    rw [e]; exact hc
  have h1c : ∀ u ∈ [sv], u.oneCell' = true := by
    intro u hu
    simp at hu
    subst hu
    obtain ⟨p, l, c', rfl⟩ := hsv
    rfl
  have hz1 : (Value.slice none 0 0).cells.size = 1 := rfl
  have hgrown : ∀ (old : Nat) (xs : List Value), xs.length = ss.length → (∀ x ∈ xs, IsSl x) → xs = ss → old < ss.length + 1 →
      RowS (w.drew.alloc (.cells (xs.toArray ++ [sv].toArray ++ Builtin.zeroCells (Value.slice none 0 0).cells (grownCap w (ss.length + 1) old 22 - (ss.length + 1))) 22)) base (.slice (some ⟨w.heap.size, 0, none⟩) (ss.length + 1) (grownCap w (ss.length + 1) old 22)) (ss ++ [sv]) := by
    intro old xs hxl hxs hxe ho
    subst hxe
    have hge := grownCap_ge w (xs.length + 1) old 22
    have hcm : grownCap w (xs.length + 1) old 22 ≤ maxLen := grownCap_le_maxLen w (xs.length + 1) old 22 (by unfold maxLen; omega)
    refine .inr ⟨w.heap.size, _, _, by simp, hbase, heap_alloc_new w.drew _, by simpa using hge, hcm, ?_, ?_, ?_⟩
    · simp only [Array.size_append, List.size_toArray, size_zeroCells, hz1, List.length_cons, List.length_nil]
      omega
    · simp only [Array.toList_append, List.append_assoc, List.length_append, List.length_cons, List.length_nil]
      rw [← List.append_assoc]
      have : (xs ++ [sv]).length = xs.length + (0 + 1) := by simp
      rw [← this]
      exact List.take_left
    · intro x hx
      simp only [Array.toList_append, List.mem_append] at hx
      rcases hx with (hx | hx) | hx
      · exact hxs x hx
      · simp at hx; subst hx; exact hsv
      · exact zero_sl _ x hx
  have hgb : ∀ (o : Obj) (row : Option Nat), w.grownBy (w.drew.alloc o) row := fun o row => ⟨rfl, rfl, rfl, by simp, fun k hk _ => Below.heap_alloc w.drew o k hk⟩
  rcases h with ⟨rfl, rfl⟩ | ⟨g, cap, cur, rfl, hbg, hg, hnc, hcm, hcs, htake, hall⟩
  · have hr := run_append_nil (P := Try.prog) w 36 ty 22 i (.slice none 0 0) Try.underlying36 hi hz ad 1 c [sv] (by rw [h1]; rfl) hnews (by omega) (by omega) (by rw [h2]; omega)
    have := hgrown 0 [] rfl (by simp) rfl (by omega)
    simp only [List.length_nil, Nat.zero_add, Array.empty_append] at this hr ⊢
    exact ⟨_, _, _, hr, this, hgb _ _, .inr rfl⟩
  · by_cases hroom : ss.length + 1 ≤ cap
    · have hr := run_append_room (P := Try.prog) w 36 ty 22 i Try.underlying36 hi g ss.length cap cur hg ad 1 c [sv] (by rw [h1]; rfl) hnews h1c hroom (by rw [h1]; simp; omega)
      refine ⟨g, cap, _, hr, .inr ⟨g, cap, _, by simp, hbg, setRow_heap w g cur _ 22 _ hg, by simpa using hroom, hcm, ?_, ?_, ?_⟩, ⟨rfl, rfl, rfl, by simp, fun k _ hk => setRow_other w g k _ (fun e => hk (by simp [Value.ownBlock, e]))⟩, .inl rfl⟩
      · simp only [h1, List.size_toArray, List.length_append, List.length_take, List.length_drop, Array.length_toList, List.length_cons, List.length_nil]
        omega
      · rw [h1, Nat.mul_one, htake, List.append_assoc]
        show List.take _ (ss ++ ([sv] ++ _)) = _
        rw [← List.append_assoc]
        exact List.take_left
      · intro x hx
        rw [h1, Nat.mul_one] at hx
        simp only [List.mem_append] at hx
        rcases hx with (hx | hx) | hx
        · exact hall x (List.mem_of_mem_take hx)
        · simp at hx; subst hx; exact hsv
        · exact hall x (List.mem_of_mem_drop hx)
    · have holds : ∀ j u, ss[j]? = some u → w.cell? ((⟨g, 0, none⟩ : Addr).add j) = some u := fun j u hj => by
        rw [Addr.add_mid]
        have hl : j < ss.length := (List.getElem?_eq_some_iff.1 hj).1
        rw [← htake, List.getElem?_take_of_lt hl] at hj
        simp only [World.cell?, hg]
        simpa using hj
      have hr := run_append_grow (P := Try.prog) w 36 ty 22 i (.slice none 0 0) Try.underlying36 hi hz ⟨g, 0, none⟩ ss.length cap ss (by rw [h1]; omega) holds ad 1 c [sv] (by rw [h1]; rfl) hnews (by omega) (by omega) (growslice_fits (by omega) (by rw [h2]; exact hb))
      exact ⟨_, _, _, hr, hgrown cap ss rfl (fun x hx => hall x (List.mem_of_mem_take (by rw [htake]; exact hx))) rfl (by omega), hgb _ _, .inr rfl⟩
theorem step_append_rowS {w : World} {ops : Array Oper} {o : Oper} {a : Act} {K : Act → World → Prop} {Q : Exit → Act → World → Prop} {E : Prop} (hgd : o.guard = none) (s x : Operand)
    (ho : o.op = .call { callee := .builtin .append, args := #[s, x], argTypes := #[36, 36] }) (base : Nat) (v : Value) (ss : List Value) (hs : a.eval s = v) (hown : RowS w base v ss) (ad : Addr) (c : Nat) (sv : Value) (hx : a.eval x = .slice (some ad) 1 c)
    (hc : w.cell? ad = some sv) (hsv : IsSl sv) (hb : (ss.length + 1) * 24 ≤ 140737488355328) (hbase : base ≤ w.heap.size) (n : Nat) (hn : ss.length = n)
    (h : ∀ g cap w', RowS w' base (.slice (some ⟨g, 0, none⟩) (n + 1) cap) (ss ++ [sv]) → w.grownBy w' v.ownBlock → (v.ownBlock = some g ∨ g = w.heap.size) → K (a.put o.dst (.slice (some ⟨g, 0, none⟩) (n + 1) cap)) w') :
    if Region.wanted o (yielded ops a.tmps) = true then Oper.wp Try.prog o a w K Q else E := by
  have hw : Region.wanted o (yielded ops a.tmps) = true := by simp [Region.wanted, hgd]
  rw [if_pos hw]
  subst hn
  obtain ⟨g, cap, w', hr, h2, h3, h4⟩ := rowS_append w hown o.type ad c sv hsv hc hb hbase
  unfold Oper.wp execOp
  simp only [ho, resolve, invoke, builtin, Sem.run_bind, Sem.run_pure, Result.andThen_ok, List.map_toArray, List.map_cons, List.map_nil, hs, hx, hr]
  exact h g cap w' h2 h3 h4
end Go.Proofs.Ytehingmdmijedaa.R3
namespace Go.Proofs.Ytehingmdmijedaa.R3
open Go.RowKit Go.Proofs.Ytehingmdmijedaa.His Go.Deep Go.Maps
def RowOf (w : World) (base : Nat) (v : Value) (fs : List (List Int)) : Prop :=
  ∃ ss, RowS w base v ss ∧ ss.length = fs.length ∧ ∀ (i : Nat) t, fs[i]? = some t → ∃ sv, ss[i]? = some sv ∧ SI w sv t
theorem RowOf.kb {w w' : World} {base : Nat} {v : Value} {fs : List (List Int)} (h : RowOf w base v fs) (hk : KB w w') (hb : ∀ g, v.ownBlock = some g → w'.heap[g]? = w.heap[g]?) : RowOf w' base v fs := by
  obtain ⟨ss, h1, h2, h3⟩ := h
  refine ⟨ss, h1.block hb, h2, fun i t hi => ?_⟩
  obtain ⟨sv, e, hs⟩ := h3 i t hi
  exact ⟨sv, e, hk.si hs⟩
structure Met (w : World) (base B M : Nat) (lv : Value) (ob st : Int) (N : Nat) (f : Nat → List (List Int)) : Prop where
  b0 : w.cell? ⟨B, 0, none⟩ = some (I ob)
  b1 : w.cell? ⟨B, 1, none⟩ = some (I st)
  b2 : w.cell? ⟨B, 2, none⟩ = some lv
  b3 : w.cell? ⟨B, 3, none⟩ = some (.slice (some ⟨M, 0, none⟩) N N)
  hM : base ≤ M
  rows : ∃ vs : Nat → Value, w.rowIs M 36 N vs ∧ ∀ m, m < N → RowOf w base (vs m) (f m) ∧ ∀ m', m' < N → m' ≠ m → ∀ g, (vs m).ownBlock = some g → (vs m').ownBlock ≠ some g
section
variable {w w' : World} {base B M N T : Nat} {lv : Value} {ob st : Int} {f : Nat → List (List Int)}
theorem Met.later (h : Met w base B M lv ob st N f) (hb : Below w.heap.size w w') : Met w' base B M lv ob st N f := by
  obtain ⟨vs, h1, h2⟩ := h.rows
  refine ⟨kcell hb h.b0, kcell hb h.b1, kcell hb h.b2, kcell hb h.b3, h.hM, vs, h1.of_block (hb.block M h1.lt), fun m hm => ⟨(h2 m hm).1.kb (kb_below hb) (fun g hg => ?_), (h2 m hm).2⟩⟩
  obtain ⟨ss, hr, _⟩ := (h2 m hm).1
  exact hb.block g (hr.lt g hg).2
theorem Met.at (h : Met w base B M lv ob st N f) (hT : T < N) : ∃ p cap ss, w.cell? ⟨M, T, none⟩ = some (.slice p (f T).length cap) ∧ w.frozen? ⟨M, T, none⟩ = false ∧ RowS w base (.slice p (f T).length cap) ss ∧ ss.length = (f T).length ∧
    (f T).length ≤ cap ∧ cap ≤ maxLen ∧ ∀ (i : Nat) t, (f T)[i]? = some t → ∃ sv, ss[i]? = some sv ∧ SI w sv t := by
  obtain ⟨vs, h1, h2⟩ := h.rows
  obtain ⟨⟨ss, hr, hl, hs⟩, _⟩ := h2 T hT
  obtain ⟨p, cap, e, g1, g2⟩ := hr.form
  have hc := h1.cell hT
  rw [e, hl] at hc
  rw [e, hl] at hr
  exact ⟨p, cap, ss, hc, h1.frozen T, hr, hl, by omega, g2, hs⟩
theorem Met.apart (h : Met w base B M lv ob st N f) {b o : Nat} {x : Int} (hc : w.cell? ⟨b, o, none⟩ = some (I x)) : b ≠ M := by
  rintro rfl
  obtain ⟨vs, h1, h2⟩ := h.rows
  obtain ⟨c, hb, hn, hcs⟩ := h1
  simp only [World.cell?, hb] at hc
  have hc' : c[o]? = some (I x) := by simpa using hc
  have ho : o < N := by have := (Array.getElem?_eq_some_iff.1 hc').1; omega
  rw [hcs o ho] at hc'
  obtain ⟨⟨ss, hr, _⟩, _⟩ := h2 o ho
  obtain ⟨p, cap, e, _⟩ := hr.form
  rw [e] at hc'
  cases hc'
theorem Met.push (h : Met w base B M lv ob st N f) (hT : T < N) {v nv : Value} {ss : List Value} {sv : Value} {s : List Int} {g cap : Nat} {w6 : World} (hc : w.cell? ⟨M, T, none⟩ = some v) (hr : RowS w base v ss) (hl : ss.length = (f T).length)
    (hss : ∀ (i : Nat) t, (f T)[i]? = some t → ∃ sv, ss[i]? = some sv ∧ SI w sv t) (hsv : SI w sv s) (hnv : nv = .slice (some ⟨g, 0, none⟩) (ss.length + 1) cap) (h6 : RowS w6 base nv (ss ++ [sv])) (hg : w.grownBy w6 v.ownBlock) (hat : v.ownBlock = some g ∨ w.heap.size ≤ g) :
    Met (w6.setCell ⟨M, T, none⟩ nv) base B M lv ob st N (updF f T (f T ++ [s])) ∧ KB w (w6.setCell ⟨M, T, none⟩ nv) := by
  obtain ⟨vs, h1, h2⟩ := h.rows
  have hvT : vs T = v := by have := h1.cell hT; rw [hc] at this; exact (Option.some.inj this).symm
  have hMlt : M < w.heap.size := h1.lt
  obtain ⟨mc, hmb, hmn, hmc⟩ := h1
  have htagM : ∀ {x : Value} {xs : List Value}, RowS w base x xs → ∀ k, x.ownBlock = some k → k ≠ M := fun hx k hk e => by
    obtain ⟨cur, ht⟩ := hx.tag hk
    rw [e, hmb] at ht
    cases ht
  have hMv : some M ≠ v.ownBlock := fun e => htagM hr M e.symm rfl
  have hnb : nv.ownBlock = some g := by rw [hnv]; rfl
  have hgM : g ≠ M := by
    rcases hat with e | e
    · exact htagM hr g e
    · omega
  have hkb : KB w (w6.setCell ⟨M, T, none⟩ nv) := by
    refine ⟨by simp [World.setCell]; exact hg.size, fun b o x hx => ?_⟩
    rw [Below.heap_setCell _ _ _ _ (h.apart hx)]
    exact hg.block b (World.block_lt_of_cell? _ _ hx) (fun e => hr.noInt e.symm o x hx)
  have hrow : (w6.setCell ⟨M, T, none⟩ nv).rowIs M 36 N (fun m => if m = T then nv else vs m) :=
    (World.rowIs.of_block ⟨mc, hmb, hmn, hmc⟩ (hg.block M hMlt hMv)).set T nv
  refine ⟨⟨?_, ?_, ?_, ?_, h.hM, _, hrow, fun m hm => ?_⟩, hkb⟩
  · rw [hkb.cells h.b0]; exact h.b0
  · rw [hkb.cells h.b0]; exact h.b1
  · rw [hkb.cells h.b0]; exact h.b2
  · rw [hkb.cells h.b0]; exact h.b3
  · by_cases e : m = T
    · subst e
      simp only [if_true]
      refine ⟨⟨ss ++ [sv], h6.block (fun k hk => ?_), by rw [updF_at]; simp [hl], fun i t hi => ?_⟩, fun m' hm' hne k hk => ?_⟩
      · rw [hnb] at hk
        cases hk
        exact Below.heap_setCell _ _ _ _ hgM
      · rw [updF_at] at hi
        by_cases hil : i < (f m).length
        · rw [List.getElem?_append_left hil] at hi
          obtain ⟨sv', e1, e2⟩ := hss i t hi
          exact ⟨sv', by rw [List.getElem?_append_left (by omega)]; exact e1, hkb.si e2⟩
        · have hil2 : i = (f m).length := by have := (List.getElem?_eq_some_iff.1 hi).1; simp at this; omega
          subst hil2
          have ht : t = s := by simpa using hi.symm
          subst ht
          exact ⟨sv, by rw [← hl]; simp, hkb.si hsv⟩
      · rw [if_neg hne]
        rw [hnb] at hk
        cases hk
        rcases hat with e1 | e1
        · exact (h2 m hm).2 m' hm' hne g (by rw [hvT]; exact e1)
        · intro e2
          obtain ⟨ss', hr', _⟩ := (h2 m' hm').1
          have := (hr'.lt g e2).2
          omega
    · simp only [if_neg e]
      rw [updF_ne f _ e]
      refine ⟨(h2 m hm).1.kb hkb (fun k hk => ?_), fun m' hm' hne k hk => ?_⟩
      · obtain ⟨ss', hr', _⟩ := (h2 m hm).1
        rw [Below.heap_setCell _ _ _ _ (htagM hr' k hk)]
        exact hg.block k (hr'.lt k hk).2 (fun e2 => (h2 m hm).2 T hT (Ne.symm e) k hk (by rw [hvT]; exact e2.symm))
      · by_cases e' : m' = T
        · rw [if_pos e', hnb]
          intro e2
          cases e2
          rcases hat with e1 | e1
          · exact (h2 m hm).2 T hT (Ne.symm e) g hk (by rw [hvT]; exact e1)
          · obtain ⟨ss', hr', _⟩ := (h2 m hm).1
            have := (hr'.lt g hk).2
            omega
        · rw [if_neg e']
          exact (h2 m hm).2 m' hm' hne k hk
end
end Go.Proofs.Ytehingmdmijedaa.R3
