/- ChainRing: of a ring the last who writes down is told, under every schedule. Part 17 of 28. (Joined, by program, of: GNew, GPlay, GLit, ChW, ChM.) -/
import Derived.Test.YtmmfjanbjheekaaChainRing07
import Derived.Test.YtmmfjanbjheekaaChainRing14
import Derived.Test.YtmmfjanbjheekaaChainRing16
import Derived.Deep.RegionLaw
import Derived.BigQuiet

/- A new world (turn.New), whatever its schedule; a world's trace, copied (World.Trace); walked alone. -/
set_option linter.unusedSimpArgs false
set_option linter.unusedVariables false
namespace Go.Proofs.Ytmmfjanbjheekaa.Gen
open Go Go.Lift Go.Conc Go.RowKit


/-- A new world. -/
def newS (wb bk base : Nat) (sc : Value) (xs : List Int) : TS :=
  { wb := wb, bk := bk, base := base, us := 0, n := 0, la := -1, sc := sc, cv := .slice none 0 0, ths := .slice none 0 0, tv := .slice none 0 0, sched := xs, chg := [], tr := [], stk := false, ran := false, thr := [] }
/-- It lies there. -/
structure IsNew (v : World) (xs : List Int) (wb bk : Nat) (sc : Value) (v' : World) : Prop where
  mem : Mem zn (newS wb bk v.heap.size sc xs) [] v'
  opn : Open v' bk
  new : ∀ b, Own (newS wb bk v.heap.size sc xs) [] b ∨ b = bk → v.heap.size ≤ b
  old : Grows v v'

abbrev rowNew (sc : Value) (bk : Nat) : Array Value := #[sc, I 0, I (-1), .slice none 0 0, .slice none 0 0, .slice none 0 0, .bool false, .bool false, .chan (some bk)]
theorem new_rep {v u v' : World} {xs : List Int} {g cap bk m : Nat} (hg : Grows v u) (hown : u.ownsRow v.heap.size 3 1 (.slice (some ⟨g, 0, none⟩) m cap) m (xs.map I)) (hl : xs.length = m) (hbk : u.heap[bk]? = some (.chan 0 #[] false 0 0 false)) (hb : v.heap.size ≤ bk)
    (hh : v'.heap = u.heap.push (.cells (rowNew (.slice (some ⟨g, 0, none⟩) m cap) bk) 54)) (ho : v'.os = u.os) (hu : v'.output = u.output) : IsNew v xs u.heap.size bk (.slice (some ⟨g, 0, none⟩) m cap) v' := by
  have hold : ∀ b, b < u.heap.size → v'.heap[b]? = u.heap[b]? := fun b hb => by rw [hh, Array.getElem?_push, if_neg (by omega)]
  have hs' : v'.heap.size = u.heap.size + 1 := by rw [hh]; simp
  have hgl := own_lt hown g rfl
  have hsz := hg.size
  have hblk : ∀ k b, blk (newS u.heap.size bk v.heap.size (.slice (some ⟨g, 0, none⟩) m cap) xs) k = some b → (k = 0 ∧ b = u.heap.size) ∨ (k = 4 ∧ b = g) := fun k b hk => by
    match k, hk with
    | 0, hk => cases hk; exact .inl ⟨rfl, rfl⟩
    | 1, hk => cases hk
    | 2, hk => cases hk
    | 3, hk => cases hk
    | 4, hk => cases hk; exact .inr ⟨rfl, rfl⟩
    | k + 5, hk => simp [blk, newS] at hk
  have hnil : v'.ownsRow v.heap.size 3 1 (.slice none 0 0) 0 [] := World.ownsRow_nil _ _ _ _
  refine ⟨⟨⟨?_, fun i t ht => by simp [newS] at ht, World.ownsRow_nil _ _ _ _, World.ownsRow_nil _ _ _ _, World.ownsRow_nil _ _ _ _, ?_, by show v.heap.size ≤ _; omega, fun j k b hj hk => ?_, fun b n h => by cases h⟩, fun j c hc => by simp at hc, fun j c hc => by simp at hc, fun i j c d hc => by simp at hc, rfl⟩, ⟨0, 0, ?_⟩, fun b hb' => ?_, ⟨by omega, fun b hb' => by rw [hold b (by omega), hg.old b hb'], ho.trans hg.os, hu.trans hg.output⟩⟩
  · show v'.heap[u.heap.size]? = _
    rw [hh]
    exact Array.getElem?_push_size
  · show v'.ownsRow v.heap.size 3 1 _ xs.length (xs.map I)
    rw [hl]
    exact own_stay (fun b hb => hold b (own_lt hown b hb).2) hown
  · rcases hblk j b hj with ⟨rfl, e1⟩ | ⟨rfl, e1⟩ <;> rcases hblk k b hk with ⟨rfl, e2⟩ | ⟨rfl, e2⟩ <;> first | rfl | omega
  · rw [hold bk (Array.getElem?_eq_some_iff.1 hbk).1]; exact hbk
  · rcases hb' with (⟨k, hk⟩ | ⟨j, c, hc, _⟩) | rfl
    · rcases hblk k b hk with ⟨_, rfl⟩ | ⟨_, rfl⟩
      · exact hsz
      · exact hgl.1
    · simp at hc
    · exact hb

set_option maxHeartbeats 2000000 in
set_option maxRecDepth 100000 in
theorem body7 {v : World} (vb vo cap : Nat) (xs : List Int) (hx0 : 0 < xs.length) (hx1 : xs.length ≤ 17592186043904) (hv : ∀ k x, xs[k]? = some x → v.cell? ⟨vb, vo + k, none⟩ = some (I x)) :
    Body Try.f7 #[.slice (some ⟨vb, vo, none⟩) xs.length cap] v (fun r v' => ∃ wb bk sc, r = Pt wb 0 ∧ IsNew v xs wb bk sc v') := by
  intro code hb
  obtain rfl := Option.some.inj hb
  clear hb
  obtain ⟨x0, hx00⟩ : ∃ x, xs[0]? = some x := ⟨_, List.getElem?_eq_getElem hx0⟩
  have hvl : vb < v.heap.size := World.block_lt_of_cell? _ _ (hv 0 x0 hx00)
  have hnews : ∀ u : World, u.heap[vb]? = v.heap[vb]? → ∀ j y, (xs.map I)[j]? = some y → u.cell? ((⟨vb, vo, none⟩ : Addr).add j) = some y := fun u hu j y hj => by
    have hadd : (⟨vb, vo, none⟩ : Addr).add j = ⟨vb, vo + j, none⟩ := by unfold Addr.add; split <;> simp_all
    rw [hadd, World.cell?_of_block (w := v) (w' := u) hu]
    rw [List.getElem?_map] at hj
    cases hk : xs[j]? with
    | none => rw [hk] at hj; cases hj
    | some x =>
      rw [hk] at hj
      cases hj
      exact hv j x hk
  have h1 : ∀ u ∈ xs.map I, u.oneCell' = true := fun u hu => by
    simp only [List.mem_map] at hu
    obtain ⟨x, _, rfl⟩ := hu
    rfl
  have HW : Hid (∀ u : World, u.heap[vb]? = v.heap[vb]? → ∀ j y, (xs.map I)[j]? = some y → u.cell? ((⟨vb, vo, none⟩ : Addr).add j) = some y) := ⟨hnews⟩
  have H1 : Hid (∀ u ∈ xs.map I, u.oneCell' = true) := ⟨h1⟩
  have HX : Hid (0 < xs.length ∧ xs.length ≤ 17592186043904 ∧ vb < v.heap.size) := ⟨⟨hx0, hx1, hvl⟩⟩
  clear hv hnews h1 hx00 hx0 hx1 hvl
  have hmk := run_mk
  obtain ⟨j0, hj, hj0, hj1, hj2⟩ := info_parts info3
  simp only [Try.ntmps7, List.size_toArray, List.length_cons, List.length_nil, Nat.reduceAdd, Nat.reduceSub, Array.replicate_succ, Array.replicate_zero, List.push_toArray, List.append_toArray, List.nil_append, List.cons_append]
  go_wp2_with fail
  go_region_law
    (refine step_append_lies _ rfl (.const (.slice none 0 0)) (.tmp 3) 22 rfl v.heap.size 3 j0 _ 1 8 Try.underlying22 hj hj0 hj1 hj2 rfl (by decide) (.slice none 0 0) 0 [] rfl (World.ownsRow_nil _ _ _ _) ⟨vb, vo, none⟩ xs.length cap (xs.map I) rfl (by simp) (HW.out _ (by first | rfl | (show (v.heap.push _)[vb]? = _; rw [Array.getElem?_push, if_neg (by have := HX.out; omega)]))) H1.out HX.out.1 (by have := HX.out; unfold maxLen; omega) (by have := HX.out; omega) (by simp) _ rfl ?_
     intro g cpg w6 hown6 hgrow6 hat6 hlt6)
  · have g6 : Grows v (w6.alloc (.chan 0 #[] false 0 0 false)) := by
      have hs : v.heap.size ≤ w6.heap.size := hgrow6.size
      refine ⟨by show _ ≤ (w6.heap.push _).size; simp; omega, fun b hb => ?_, hgrow6.os, hgrow6.output⟩
      show (w6.heap.push _)[b]? = _
      rw [Array.getElem?_push, if_neg (by omega)]
      exact hgrow6.block b hb (fun e => by cases e)
    have hN : IsNew v xs (w6.heap.size + 1) w6.heap.size (.slice (some ⟨g, 0, none⟩) xs.length cpg) ((w6.alloc (.chan 0 #[] false 0 0 false)).alloc (.cells (rowNew (.slice (some ⟨g, 0, none⟩) xs.length cpg) w6.heap.size) 54)) := by
      have := new_rep (v := v) (u := w6.alloc (.chan 0 #[] false 0 0 false)) (v' := (w6.alloc (.chan 0 #[] false 0 0 false)).alloc (.cells (rowNew (.slice (some ⟨g, 0, none⟩) xs.length cpg) w6.heap.size) 54)) (xs := xs) (g := g) (cap := cpg) (bk := w6.heap.size) (m := xs.length) g6 (own_stay (fun b hb => ?_) (by rw [Nat.zero_add, List.nil_append] at hown6; exact hown6)) rfl Array.getElem?_push_size hgrow6.size rfl rfl rfl
      · rw [show (w6.alloc (.chan 0 #[] false 0 0 false)).heap.size = w6.heap.size + 1 by show (w6.heap.push _).size = _; simp] at this
        exact this
      · cases hb
        show (w6.heap.push _)[g]? = _
        rw [Array.getElem?_push, if_neg (by omega)]
    have HN : Hid _ := ⟨hN⟩
    clear hN g6 hgrow6 hown6 hat6 hlt6
    go_wp2
    go_ret
    exact ⟨_, rfl, w6.heap.size + 1, w6.heap.size, _, rfl, HN.out⟩
  · have hb0 : ∀ b, b < v.heap.size + 1 → w6.heap[b]? = (v.alloc (.chan 0 #[] false 0 0 false)).heap[b]? := fun b hb => hgrow6.block b (by show b < (v.heap.push _).size; simp; omega) (fun e => by cases e)
    have hs : v.heap.size + 1 ≤ w6.heap.size := by
      have := hgrow6.size
      have e : (v.alloc (.chan 0 #[] false 0 0 false)).drew.heap.size = v.heap.size + 1 := by show (v.heap.push _).size = _; simp
      omega
    have g6 : Grows v w6 := by
      refine ⟨by omega, fun b hb => ?_, hgrow6.os, hgrow6.output⟩
      rw [hb0 b (by omega)]
      show (v.heap.push _)[b]? = _
      rw [Array.getElem?_push, if_neg (by omega)]
    have hN : IsNew v xs w6.heap.size v.heap.size (.slice (some ⟨g, 0, none⟩) xs.length cpg) (w6.alloc (.cells (rowNew (.slice (some ⟨g, 0, none⟩) xs.length cpg) v.heap.size) 54)) :=
      new_rep (v := v) (u := w6) (xs := xs) (g := g) (cap := cpg) (bk := v.heap.size) (m := xs.length) g6 (by rw [Nat.zero_add, List.nil_append] at hown6; exact hown6) rfl (by rw [hb0 _ (by omega)]; exact Array.getElem?_push_size) (Nat.le_refl _) rfl rfl rfl
    have HN : Hid _ := ⟨hN⟩
    clear hN g6 hgrow6 hown6 hat6 hlt6 hb0 hs
    go_wp2
    go_ret
    exact ⟨_, rfl, w6.heap.size, v.heap.size, _, rfl, HN.out⟩



set_option maxHeartbeats 2000000 in
set_option maxRecDepth 100000 in
theorem body9 {z : Nat → Option Nat} {S : TS} {v : World} (h : Rep z S v) (h0 : 0 < S.n) (hn : S.n * 40 ≤ 140737488355328) (h1 : ∀ u ∈ S.tr, u.oneCell' = true) :
    Body Try.f9 #[Pt S.wb 0] v (fun r v' => ∃ g cap, r = .slice (some ⟨g, 0, none⟩) S.n cap ∧ v'.ownsRow v.heap.size 40 5 (.slice (some ⟨g, 0, none⟩) S.n cap) S.n S.tr ∧ Grows v v' ∧ v.heap.size ≤ g) := by
  intro code hb
  obtain rfl := Option.some.inj hb
  clear hb
  have c5 := h.wcell.2.2.2.2.2.1
  obtain ⟨g0, cap0, e0, _, hg0⟩ := h.own.form h0
  rw [e0] at c5
  have hcs := h.own.cells (g := g0) (by rw [e0]; rfl)
  have hln : S.tr.length = S.n * 5 := h.own.1
  have HH : Hid ((∀ j u, S.tr[j]? = some u → v.cell? ((⟨g0, 0, none⟩ : Addr).add j) = some u) ∧ (∀ u ∈ S.tr, u.oneCell' = true) ∧ 0 < S.n ∧ S.n * 40 ≤ 140737488355328 ∧ S.tr.length = S.n * 5) := ⟨⟨hcs, h1, h0, hn, hln⟩⟩
  clear hcs h1 h0 hn hln h e0
  obtain ⟨j0, hj, hj0, hj1, hj2⟩ := info_parts info34
  simp only [Try.ntmps9, List.size_toArray, List.length_cons, List.length_nil, Nat.reduceAdd, Nat.reduceSub, Array.replicate_succ, Array.replicate_zero, List.push_toArray, List.append_toArray, List.nil_append, List.cons_append]
  go_wp2_with (first
    | (refine wpList_append_lies _ rfl (.const (.slice none 0 0)) (.tmp 8) 37 rfl v.heap.size 40 j0 _ 5 40 Try.underlying37 hj hj0 hj1 hj2 rfl (by decide) (.slice none 0 0) 0 [] rfl (World.ownsRow_nil _ _ _ _) ⟨g0, 0, none⟩ S.n cap0 S.tr rfl HH.out.2.2.2.2 HH.out.1 HH.out.2.1 HH.out.2.2.1 (by have := HH.out.2.2.2.1; unfold maxLen; omega) (by have := HH.out.2.2.2.1; omega) (Nat.le_refl _) _ rfl ?_
       intro g cpg w6 hown6 hgrow6 hat6 hlt6))
  go_ret
  refine ⟨_, rfl, g, cpg, rfl, ?_, ⟨hgrow6.size, fun b hb => hgrow6.block b hb (fun e => by cases e), hgrow6.os, hgrow6.output⟩, ?_⟩
  · rw [Nat.zero_add, List.nil_append] at hown6
    exact hown6
  · rcases hat6 with h | h
    · cases h
    · omega

theorem new_rep0 {v u v' : World} {bk : Nat} (hg : Grows v u) (hbk : u.heap[bk]? = some (.chan 0 #[] false 0 0 false)) (hb : v.heap.size ≤ bk)
    (hh : v'.heap = u.heap.push (.cells (rowNew (.slice none 0 0) bk) 54)) (ho : v'.os = u.os) (hu : v'.output = u.output) : IsNew v [] u.heap.size bk (.slice none 0 0) v' := by
  have hold : ∀ b, b < u.heap.size → v'.heap[b]? = u.heap[b]? := fun b hb => by rw [hh, Array.getElem?_push, if_neg (by omega)]
  have hs' : v'.heap.size = u.heap.size + 1 := by rw [hh]; simp
  have hsz := hg.size
  have hblk : ∀ k b, blk (newS u.heap.size bk v.heap.size (.slice none 0 0) []) k = some b → k = 0 ∧ b = u.heap.size := fun k b hk => by
    match k, hk with
    | 0, hk => cases hk; exact ⟨rfl, rfl⟩
    | 1, hk => cases hk
    | 2, hk => cases hk
    | 3, hk => cases hk
    | 4, hk => cases hk
    | k + 5, hk => simp [blk, newS] at hk
  refine ⟨⟨⟨?_, fun i t ht => by simp [newS] at ht, World.ownsRow_nil _ _ _ _, World.ownsRow_nil _ _ _ _, World.ownsRow_nil _ _ _ _, World.ownsRow_nil _ _ _ _, by show v.heap.size ≤ _; omega, fun j k b hj hk => ?_, fun b n h => by cases h⟩, fun j c hc => by simp at hc, fun j c hc => by simp at hc, fun i j c d hc => by simp at hc, rfl⟩, ⟨0, 0, ?_⟩, fun b hb' => ?_, ⟨by omega, fun b hb' => by rw [hold b (by omega), hg.old b hb'], ho.trans hg.os, hu.trans hg.output⟩⟩
  · show v'.heap[u.heap.size]? = _
    rw [hh]
    exact Array.getElem?_push_size
  · rw [(hblk j b hj).1, (hblk k b hk).1]
  · rw [hold bk (Array.getElem?_eq_some_iff.1 hbk).1]; exact hbk
  · rcases hb' with (⟨k, hk⟩ | ⟨j, c, hc, _⟩) | rfl
    · rw [(hblk k b hk).2]; exact hsz
    · simp at hc
    · exact hb

set_option maxHeartbeats 2000000 in
set_option maxRecDepth 100000 in
theorem body70 {v : World} (p : Option Addr) (cap : Nat) : Body Try.f7 #[.slice p 0 cap] v (fun r v' => ∃ wb bk sc, r = Pt wb 0 ∧ IsNew v [] wb bk sc v') := by
  intro code hb
  obtain rfl := Option.some.inj hb
  clear hb
  have hmk := run_mk
  obtain ⟨j0, hj, hj0, hj1, hj2⟩ := info_parts info3
  have HN : ∀ v' : World, v'.heap = (v.heap.push (.chan 0 #[] false 0 0 false)).push (.cells (rowNew (.slice none 0 0) v.heap.size) 54) → v'.os = v.os → v'.output = v.output → IsNew v [] (v.heap.size + 1) v.heap.size (.slice none 0 0) v' := fun v' h4 h5 h6 => by
    have := new_rep0 (v := v) (u := v.alloc (.chan 0 #[] false 0 0 false)) (v' := v') (bk := v.heap.size) ⟨by show _ ≤ (v.heap.push _).size; simp, fun b hb => by show (v.heap.push _)[b]? = _; rw [Array.getElem?_push, if_neg (by omega)], rfl, rfl⟩ Array.getElem?_push_size (Nat.le_refl _) h4 h5 h6
    rw [show (v.alloc (.chan 0 #[] false 0 0 false)).heap.size = v.heap.size + 1 by show (v.heap.push _).size = _; simp] at this
    exact this
  have HN : Hid _ := ⟨HN⟩
  cases p
  all_goals
    simp only [Try.ntmps7, List.size_toArray, List.length_cons, List.length_nil, Nat.reduceAdd, Nat.reduceSub, Array.replicate_succ, Array.replicate_zero, List.push_toArray, List.append_toArray, List.nil_append, List.cons_append]
    go_wp2_with fail
    go_region_law fail
    all_goals
      go_wp2
      go_ret
      exact ⟨_, rfl, v.heap.size + 1, v.heap.size, _, rfl, HN.out _ rfl rfl rfl⟩

/-- A new world, whatever its schedule. -/
theorem body7A {v : World} (p : Option Addr) (vb vo cap : Nat) (xs : List Int) (hp : 0 < xs.length → p = some ⟨vb, vo, none⟩) (hx1 : xs.length ≤ 17592186043904) (hv : ∀ k x, xs[k]? = some x → v.cell? ⟨vb, vo + k, none⟩ = some (I x)) :
    Body Try.f7 #[.slice p xs.length cap] v (fun r v' => ∃ wb bk sc, r = Pt wb 0 ∧ IsNew v xs wb bk sc v') := by
  rcases Nat.eq_zero_or_pos xs.length with h0 | h0
  · obtain rfl := List.length_eq_zero_iff.1 h0
    exact body70 p cap
  · rw [hp h0]
    exact body7 vb vo cap xs h0 hx1 hv

set_option maxHeartbeats 2000000 in
set_option maxRecDepth 100000 in
theorem body90 {z : Nat → Option Nat} {S : TS} {v : World} (h : Rep z S v) (h0 : S.n = 0) : Body Try.f9 #[Pt S.wb 0] v (fun r v' => r = .slice none 0 0 ∧ v' = v) := by
  intro code hb
  obtain rfl := Option.some.inj hb
  clear hb
  have c5 := h.wcell.2.2.2.2.2.1
  obtain ⟨p0, cap0, e0⟩ : ∃ p cap, S.tv = .slice p 0 cap := by
    obtain ⟨p, cap, e⟩ := own_form h.own
    rw [h0] at e
    exact ⟨p, cap, e⟩
  rw [e0] at c5
  clear h e0
  obtain ⟨j0, hj, hj0, hj1, hj2⟩ := info_parts info34
  cases p0
  all_goals
    simp only [Try.ntmps9, List.size_toArray, List.length_cons, List.length_nil, Nat.reduceAdd, Nat.reduceSub, Array.replicate_succ, Array.replicate_zero, List.push_toArray, List.append_toArray, List.nil_append, List.cons_append]
    go_wp2
    go_ret
    exact ⟨_, rfl, rfl, rfl⟩

/-- A copy of the trace, new. -/
theorem body9A {z : Nat → Option Nat} {S : TS} {v : World} (h : Rep z S v) (hn : S.n * 40 ≤ 140737488355328) (h1 : ∀ u ∈ S.tr, u.oneCell' = true) :
    Body Try.f9 #[Pt S.wb 0] v (fun r v' => ∃ p g cap, r = .slice p S.n cap ∧ (0 < S.n → p = some ⟨g, 0, none⟩ ∧ v.heap.size ≤ g) ∧ (∀ j u, S.tr[j]? = some u → v'.cell? ⟨g, j, none⟩ = some u) ∧ Grows v v') := by
  rcases Nat.eq_zero_or_pos S.n with h0 | h0
  · intro code hb
    refine wp_mono (body90 h h0 code hb) (bp_mono fun r u hq => ?_)
    obtain ⟨rfl, rfl⟩ := hq
    have hl : S.tr = [] := by
      have := h.own.1
      rw [h0] at this
      exact List.length_eq_zero_iff.1 (by omega)
    refine ⟨none, 0, 0, by rw [h0], (fun h => by omega), (fun j x hj => ?_), ⟨Nat.le_refl _, fun _ _ => rfl, rfl, rfl⟩⟩
    rw [hl] at hj
    simp at hj
  · intro code hb
    refine wp_mono (body9 h h0 hn h1 code hb) (bp_mono fun r u hq => ?_)
    obtain ⟨g, cap, rfl, hown, hgr, hle⟩ := hq
    refine ⟨_, g, cap, rfl, fun _ => ⟨rfl, hle⟩, fun j x hj => ?_, hgr⟩
    have := hown.cells (g := g) rfl j x hj
    rw [show (⟨g, 0, none⟩ : Addr).add j = ⟨g, j, none⟩ by unfold Addr.add; split <;> simp_all] at this
    exact this
end Go.Proofs.Ytmmfjanbjheekaa.Gen

/- A Play of any package: what it has made ahead of play.Run, and the run. -/
set_option linter.unusedSimpArgs false
set_option linter.unusedVariables false
namespace Go.Proofs.Ytmmfjanbjheekaa.Gen
open Go Go.Lift Go.Conc Go.RowKit

/-- The world with k cells. -/
def cellsS (S : TS) (cv : Value) (k : Nat) : TS := { S with cv := cv, chg := List.replicate k 0 }
/-- Cells, and what else is new, are made. -/
structure Cel (z : Nat → Option Nat) (S : TS) (K : List (Nat × Int)) (v : World) (S' : TS) (K' : List (Nat × Int)) (v' : World) : Prop where
  mem : Mem z S' K' v'
  fr : Fr (Own S K) v v'
  own : ∀ b, Own S' K' b → Own S K b ∨ v.heap.size ≤ b
section
variable {z : Nat → Option Nat} {S S1 S2 : TS} {K K1 K2 : List (Nat × Int)} {v v1 v2 : World}
theorem Cel.refl (h : Mem z S K v) : Cel z S K v S K v := ⟨h, Fr.refl _ _, fun b h => .inl h⟩
theorem Cel.trans (h : Cel z S K v S1 K1 v1) (k : Cel z S1 K1 v1 S2 K2 v2) : Cel z S K v S2 K2 v2 := by
  refine ⟨k.mem, ⟨k.fr.os.trans h.fr.os, k.fr.output.trans h.fr.output, Nat.le_trans h.fr.size k.fr.size, fun b hb hs => ?_⟩, fun b hb => ?_⟩
  · rw [k.fr.block b (Nat.lt_of_lt_of_le hb h.fr.size) (fun e => (h.own b e).elim hs (fun e => by omega)), h.fr.block b hb hs]
  · rcases k.own b hb with e | e
    · exact h.own b e
    · exact .inr (Nat.le_trans h.fr.size e)
theorem Cel.push (h : Cel z S K v S1 K1 v1) {o : Obj} (e : v2.heap = v1.heap.push o) (e1 : v2.os = v1.os) (e2 : v2.output = v1.output) : Cel z S K v S1 K1 v2 := by
  have g : Grows v1 v2 := ⟨by rw [e]; simp, fun b hb => by rw [e, Array.getElem?_push, if_neg (by omega)], e1, e2⟩
  exact h.trans ⟨(h.mem.grows g).mem, ⟨e1, e2, g.size, fun b hb _ => g.old b hb⟩, fun b hb => .inl hb⟩
theorem Cel.same (h : Cel z S K v S1 K1 v1) (e : v2.heap = v1.heap) (e1 : v2.os = v1.os) (e2 : v2.output = v1.output) : Cel z S K v S1 K1 v2 := by
  have g : Grows v1 v2 := ⟨by rw [e]; exact Nat.le_refl _, fun b hb => by rw [e], e1, e2⟩
  exact h.trans ⟨(h.mem.grows g).mem, ⟨e1, e2, g.size, fun b hb _ => g.old b hb⟩, fun b hb => .inl hb⟩
theorem Cel.from (h : Cel z S K v1 S1 K1 v2) (e : v1.heap = v.heap) (e1 : v1.os = v.os) (e2 : v1.output = v.output) : Cel z S K v S1 K1 v2 :=
  ⟨h.mem, ⟨h.fr.os.trans e1, h.fr.output.trans e2, by rw [← e]; exact h.fr.size, fun b hb hs => by rw [h.fr.block b (by rw [e]; exact hb) hs, e]⟩, fun b hb => by rw [← e]; exact h.own b hb⟩
end

/-- The scripts lie there. -/
structure Asked (v : World) (S : TS) (n sb so : Nat) (pc : Nat → Option Addr) (ln cp rb : Nat → Nat) (cl : Nat → List Cl) : Prop where
  len : ∀ j, j < n → (cl j).length = ln j ∧ ln j ≤ 64
  row : ∀ k, k < n → v.cell? ⟨sb, so + k, none⟩ = some (.slice (pc k) (ln k) (cp k))
  far : ¬ Own S [] sb
  pq : ∀ j, j < n → 0 < ln j → pc j = some ⟨rb j, roOf (pc j), none⟩ ∧ ¬ Own S [] (rb j)
  call : ∀ j, j < n → ∀ (k : Nat) (c : Cl), (cl j)[k]? = some c → v.cell? ⟨rb j, roOf (pc j) + k * 4, none⟩ = some (I c.po) ∧ v.cell? ⟨rb j, roOf (pc j) + k * 4 + 1, none⟩ = some (I c.ca) ∧ v.cell? ⟨rb j, roOf (pc j) + k * 4 + 2, none⟩ = some (I c.cb) ∧ v.cell? ⟨rb j, roOf (pc j) + k * 4 + 3, none⟩ = some (I c.cc)
  ca : ∀ j, j < n → ∀ c ∈ cl j, -9223372036854775808 ≤ c.ca ∧ c.ca < 9223372036854775808

/-- The Play's objects are made: its cells, and what of its memory the threads read. -/
structure Objs (v : World) (S : TS) (xs : List Int) (pk : Nat → Option Obj) (S1 : TS) (K : List (Nat × Int)) (u : World) : Prop where
  cel : Cel zn S [] v S1 K u
  vals : K.map (·.2) = xs
  st : ∃ cv, S1 = cellsS S cv xs.length
  has : Has pk u
  new : ∀ b, pk b ≠ none → (v.heap.size ≤ b ∨ b ≠ S.bk) ∧ ¬ Own S1 K b
  row : ∀ b o, pk b = some o → ∃ c e f, o = .cells c e f
theorem Objs.same {v : World} {S : TS} {xs : List Int} {pk : Nat → Option Obj} {S1 : TS} {K : List (Nat × Int)} {u u' : World} (h : Objs v S xs pk S1 K u) (e : u'.heap = u.heap) (e1 : u'.os = u.os) (e2 : u'.output = u.output) : Objs v S xs pk S1 K u' :=
  ⟨h.cel.same e e1 e2, h.vals, h.st, fun b o hb => by rw [e]; exact h.has b o hb, h.new, h.row⟩

section
variable {v u : World} {S S1 : TS} {K : List (Nat × Int)} {n sb so : Nat} {pc : Nat → Option Addr} {ln cp rb : Nat → Nat} {cl : Nat → List Cl} {xs : List Int} {pk : Nat → Option Obj}
/-- What is known at play.Run's entry. -/
theorem told_of (hm : Mem zn S [] v) (hb : Open v S.bk) (t : Asked v S n sb so pc ln cp rb cl) (o : Objs v S xs pk S1 K u) :
    Told u S1 K pk n pc ln cp rb cl ∧ (∀ k, k < n → u.cell? ⟨sb, so + k, none⟩ = some (.slice (pc k) (ln k) (cp k))) ∧ Open u S.bk ∧ v.heap.size ≤ u.heap.size ∧
      ∀ b, b < v.heap.size → ¬ Own S [] b → u.heap[b]? = v.heap[b]? ∧ ¬ Own S1 K b := by
  have no : ∀ b, b < v.heap.size → ¬ Own S [] b → ¬ Own S1 K b := fun b hb ho h => (o.cel.own b h).elim ho (fun h => by omega)
  have same : ∀ b, b < v.heap.size → ¬ Own S [] b → u.heap[b]? = v.heap[b]? := fun b hb ho => o.cel.fr.block b hb ho
  have hcell : ∀ (a : Addr) (x : Value), ¬ Own S [] a.block → v.cell? a = some x → u.cell? a = some x := fun a x ho ha => by
    rw [World.cell?_of_block (w := v) (w' := u) (same a.block (World.block_lt_of_cell? _ _ ha) ho)]
    exact ha
  have hbkl : S.bk < v.heap.size := by obtain ⟨c, m, h⟩ := hb; exact (Array.getElem?_eq_some_iff.1 h).1
  have hbk : ¬ Own S [] S.bk := fun h => by
    obtain ⟨c, m, hh⟩ := hb
    obtain ⟨x, e, f, h1⟩ := hm.row h
    rw [h1] at hh; cases hh
  have hO : Open u S.bk := by
    obtain ⟨c, m, hh⟩ := hb
    exact ⟨c, m, by rw [same _ hbkl hbk]; exact hh⟩
  have e1 : S1.bk = S.bk := by obtain ⟨cv, rfl⟩ := o.st; rfl
  refine ⟨⟨o.has, fun b hb => ⟨(o.new b hb).2, by have := (o.new b hb).1; rw [e1]; rcases this with h | h; omega; exact h⟩, o.row, t.len, fun j hj h0 => ?_, fun j hj k c hc => ?_, t.ca⟩, fun k hk => hcell _ _ t.far (t.row k hk), hO, o.cel.fr.size, fun b hb ho => ⟨same b hb ho, no b hb ho⟩⟩
  · have h1 := t.pq j hj h0
    obtain ⟨c, hc⟩ : ∃ c, (cl j)[0]? = some c := ⟨_, List.getElem?_eq_getElem (by have := t.len j hj; omega)⟩
    have hl := World.block_lt_of_cell? _ _ (t.call j hj 0 c hc).1
    exact ⟨h1.1, no _ hl h1.2⟩
  · have h0 : 0 < ln j := by have := (List.getElem?_eq_some_iff.1 hc).1; have := t.len j hj; omega
    have ho := (t.pq j hj h0).2
    have h4 := t.call j hj k c hc
    exact ⟨hcell _ _ ho h4.1, hcell _ _ ho h4.2.1, hcell _ _ ho h4.2.2.1, hcell _ _ ho h4.2.2.2⟩
end

/-- What lies there behind it: the answers' row at N. -/
structure GOut (w : World) (S : TS) (n : Nat) (ln : Nat → Nat) (N : Nat) (S' : TS) (K' : List (Nat × Int)) (l : Nat → Ph) (w' : World) : Prop where
  mem : Mem zn S' K' w'
  size : w.heap.size ≤ w'.heap.size
  low : w.heap.size ≤ N
  old : ∀ b, b < w.heap.size → ¬ Own S [] b → b ≠ S.bk → w'.heap[b]? = w.heap[b]? ∧ ¬ Own S' K' b
  rows : ∀ j, j < n → w'.cell? ⟨N + 1, j, none⟩ = some (.slice (some ⟨N + 4 + 3 * j + 2, 0, none⟩) (ln j) (ln j))
  ans : ∀ j, j < n → (l j).ans.length = ln j ∧ (0 < ln j → w'.heap[N + 4 + 3 * j + 2]? = some (.cells (arow (l j).ans).toArray 36 (0, 0))) ∧ ∃ a, l j = .done a
  os : w'.os = w.os
  out : w'.output = w.output

section
variable {mc : Mc} {fid : FuncId} {S : TS} {n sb so : Nat} {pc : Nat → Option Addr} {ln cp rb : Nat → Nat} {cl : Nat → List Cl} {xs : List Int}
set_option maxHeartbeats 1000000 in
/-- A Play, from wherever it stands ahead of making its objects: hG says that it comes to play.Run. -/
theorem gplay_all (P : Pkg mc fid) {Q : Array Value → (Nat → Option Obj) → List (Nat × Int) → Prop} (hQ : ∀ caps pk K, Q caps pk K → ∀ X : Fix mc, X.fid = fid → X.caps = caps → X.pk = pk → X.kb = K.map (·.1) → P.Mine X) (hQk : ∀ caps pk K, Q caps pk K → KOk mc K)
    {cap : Nat} {cs : List Frame} {bc : Frame} {ac : Act} {ops : Array Oper} {q0 : Nat} {rest : List Nat} {oc : Oper} {k0 : List Item} {w : World} {T : Trace} {gs : Array Goroutine} {q : Nat → Nat} (sl : Option (Nat × Nat)) (NT : Nat) (A : Alone gs w T q) {g0 : Goroutine} (hg : gs[0]? = some g0)
    (hG : GoesI Try.prog true (DT (ScZ zn) (fun _ => False)) (fun g w' => ∃ (bd : Frame) (ad : Act) (od : Array Oper) (qd : Nat) (rd : List Nat) (oe : Oper) (kd : List Item) (caps : Array Value) (pk : Nat → Option Obj) (S1 : TS) (K : List (Nat × Int)), Objs w S xs pk S1 K w' ∧ Q caps pk K ∧ od[qd]? = some oe ∧
      (∀ (Ch : Nat → Prop) (Stop : Goroutine → World → Prop) (w1 : World) (x : Value), (∀ d, GoesI Try.prog true (DT (ScZ zn) Ch) Stop (G (bc.at (ac.put oc.dst (.tuple #[x, I 0])) (.inRegion ops rest :: k0)) cs) (w1.at d)) → GoesI Try.prog true (DT (ScZ zn) Ch) Stop (G (bd.at (ad.put oe.dst x) (.inRegion od rd :: kd)) (bc.at ac (.inRegion ops (q0 :: rest) :: k0) :: cs)) w1) ∧
      g = G ((base 15).at { tmps := #[Pt S.wb 0, .slice (some ⟨sb, so, none⟩) n cap, .func (.func fid) (mc.bn caps) (mc.fr caps)] ++ Array.replicate 36 undef, defers := [] } [.code B20]) (bd.at ad (.inRegion od (qd :: rd) :: kd) :: bc.at ac (.inRegion ops (q0 :: rest) :: k0) :: cs)) g0 w)
    (hm : Mem zn S [] w) (hthr : S.thr = []) (hran : S.ran = false) (hbk : Open w S.bk) (t : Asked w S n sb so pc ln cp rb cl) (hn8 : 0 < n ∧ n ≤ 8)
    (hlen : ∀ caps pk N K, S.n + 2 * lens (scrs mc fid caps pk N n K pc ln cp rb cl) ≤ 1000000) (hsl : S.sched.length ≤ 4611686018427387904) (hsc : ∀ x ∈ S.sched, -9223372036854775808 ≤ x ∧ x < 9223372036854775808) (l0 : Nat → Ph)
    (hturn : ∀ (caps : Array Value) (pk : Nat → Option Obj) (N : Nat) (cv : Value) (K : List (Nat × Int)), K.map (·.2) = xs → ∀ S1 l1, Hires mc 0 (scrs mc fid caps pk N n K pc ln cp rb cl) (nv { cellsS S cv xs.length with ran := true }) l0 S1 l1 → ∃ m p', m ≤ NT ∧ Turns mc m ⟨S1, K, l1⟩ p' ∧ p'.S.n * 40 ≤ 140737488355328) :
    ∃ (N' : Nat) (gs' : Array Goroutine) (w' : World) (sl' : Option (Nat × Nat)) (T' : Trace) (q' : Nat → Nat) (caps : Array Value) (pk : Nat → Option Obj) (N : Nat) (cv : Value) (K : List (Nat × Int)) (S' : TS) (S1 : TS) (l1 : Nat → Ph) (m : Nat) (p' : PSt),
      runNT Try.prog N' (crowd gs w sl) T = (.next (crowd gs' w' sl'), T') ∧ gs'.size = gs.size + n ∧ gs'[0]? = some (G (bc.at (ac.put oc.dst (.tuple #[.slice (some ⟨N + 1, 0, none⟩) n n, I 0])) (.inRegion ops rest :: k0)) cs) ∧
      Alone gs' w' T' q' ∧ K.map (·.2) = xs ∧ nv S' = p'.S ∧ Hires mc 0 (scrs mc fid caps pk N n K pc ln cp rb cl) (nv { cellsS S cv xs.length with ran := true }) l0 S1 l1 ∧ Turns mc m ⟨S1, K, l1⟩ p' ∧ GOut w S n ln N S' p'.K p'.l w' := by
  obtain ⟨N1, gs1, a1, w1, sl1, T1, q1, r1, z1, h1, ⟨bd, ad, od, qd, rd, oe, kd, caps, pk, S1, K, ho, hq, hoe, hback, rfl⟩, A1⟩ := alone_goes A hg sl hG
  obtain ⟨t1, hs1, hbk1, hsz1, hold1⟩ := told_of hm hbk t ho
  obtain ⟨cv, rfl⟩ := ho.st
  have hsb : sb < w1.heap.size := World.block_lt_of_cell? _ _ (hs1 0 hn8.1)
  obtain ⟨N2, gs2, w2, sl2, T2, q2, S2, S3, l1, m, p', r2, z2, h2, A2, hnv, hH, hT, O⟩ := run20_all P (hQ caps pk K hq) (hQk caps pk K hq) (S := cellsS S cv xs.length) (K := K) hoe sl1 NT A1 h1 ho.cel.mem hthr hran hbk1 t1 hs1 hsb hn8.2 (hlen _ _ _ _) hsl hsc l0 (hturn _ _ _ cv K ho.vals)
  obtain ⟨N3, gs3, a3, w3, sl3, T3, q3, r3, z3, h3, ⟨rfl, d3, rfl⟩, A3⟩ := alone_goes A2 h2 sl2 (hback (fun _ => False) (fun g w' => g = G (bc.at (ac.put oc.dst (.tuple #[.slice (some ⟨w1.heap.size + 1, 0, none⟩) n n, I 0])) (.inRegion ops rest :: k0)) cs ∧ ∃ d, w' = w2.at d) w2 _ (fun d => GoesI.stop fun d' => ⟨rfl, d', rfl⟩))
  refine ⟨N1 + N2 + N3, gs3, w2.at d3, sl3, T3, q3, caps, pk, w1.heap.size, cv, K, S2, S3, l1, m, p', runNT_then (runNT_then r1 r2) r3, by omega, h3, A3, ho.vals, hnv, hH, hT, ⟨(O.mem.grows (v' := w2.at d3) ⟨Nat.le_refl _, fun _ _ => rfl, rfl, rfl⟩).mem, Nat.le_trans hsz1 O.size, hsz1, fun b hb hob hk => ?_, O.rows, O.ans, O.os.trans ho.cel.fr.os, O.out.trans ho.cel.fr.output⟩⟩
  have h5 := hold1 b hb hob
  have h6 := O.old b (by omega) h5.2 hk
  exact ⟨h6.1.trans h5.1, h6.2⟩
end
end Go.Proofs.Ytmmfjanbjheekaa.Gen

/- A frame of so many slots as a list of letters. -/
set_option linter.unusedSimpArgs false
set_option linter.unusedVariables false
namespace Go.Proofs.Ytmmfjanbjheekaa.Gen
open Go Go.Lift Go.Conc Go.RowKit
def lits (u : Nat → Value) : Nat → Nat → List Value
  | _, 0 => []
  | s, n + 1 => u s :: lits u (s + 1) n
theorem lits_get (u : Nat → Value) : ∀ (n s i : Nat), (lits u s n)[i]? = if i < n then some (u (s + i)) else none
  | 0, s, i => by simp [lits]
  | n + 1, s, 0 => by simp [lits]
  | n + 1, s, i + 1 => by
    have := lits_get u n (s + 1) i
    simp only [lits, List.getElem?_cons_succ, this, Nat.add_lt_add_iff_right]
    rw [show s + 1 + i = s + (i + 1) by omega]
theorem litN {n : Nat} {a : Act} (h : a.tmps.size = n) (hd : a.defers = []) : ∃ u : Nat → Value, a = { tmps := (lits u 0 n).toArray, defers := [] } ∧ ∀ i, a.tmps.getD i undef = u i := by
  obtain ⟨⟨l⟩, ds⟩ := a
  simp only at hd h
  subst hd
  refine ⟨fun i => (Array.mk l).getD i undef, ?_, fun i => rfl⟩
  have e : l = lits (fun i => (Array.mk l).getD i undef) 0 n := by
    apply List.ext_getElem?
    intro i
    rw [lits_get]
    have hl : l.length = n := h
    by_cases hi : i < n
    · rw [if_pos hi, List.getElem?_eq_getElem (by omega)]
      simp [Array.getD, hl, hi]
    · rw [if_neg hi, List.getElem?_eq_none (by omega)]
  exact congrArg (fun x => ({ tmps := x.toArray, defers := [] } : Act)) e
/-- Slots of a frame of n slots. -/
def Fl (n : Nat) (l : List (Nat × Value)) (a : Act) : Prop := a.tmps.size = n ∧ a.defers = [] ∧ ∀ p ∈ l, a.tmps.getD p.1 undef = p.2
theorem Fl.sub {n : Nat} {l l' : List (Nat × Value)} {a : Act} (h : Fl n l a) (hs : ∀ p ∈ l', p ∈ l) : Fl n l' a := ⟨h.1, h.2.1, fun p hp => h.2.2 p (hs p hp)⟩
theorem Fl.at {n : Nat} {l : List (Nat × Value)} {a : Act} (h : Fl n l a) (k : Nat) (v : Value) (hs : (k, v) ∈ l) : a.eval (.tmp k) = v := h.2.2 (k, v) hs
end Go.Proofs.Ytmmfjanbjheekaa.Gen

/- Which (25), Modulo (6) and has (18), walked alone; where a chain lies. (Made by wip/tools/mkch.py.) -/
set_option linter.unusedSimpArgs false
set_option linter.unusedVariables false
namespace Go.Proofs.Ytmmfjanbjheekaa.Gen
open Go Go.Lift Go.Conc Go.RowKit

set_option maxHeartbeats 2000000 in
set_option maxRecDepth 100000 in
theorem body25w (a : Int) (n : Nat) (h0 : 0 < n) (hb : (n : Int) < 9223372036854775808) (w : World) : Body Try.f25 #[I a, I n] w (fun v w' => v = I (which a n) ∧ w' = w) := by
  intro code hb'
  obtain rfl := Option.some.inj hb'
  clear hb'
  simp only [Try.ntmps25, List.size_toArray, List.length_cons, List.length_nil, Nat.reduceAdd, Nat.reduceSub, Array.replicate_succ, Array.replicate_zero, List.push_toArray, List.append_toArray, List.nil_append, List.cons_append]
  have hne : ¬ ((n : Int) = 0) := by omega
  have HB : Hid ((n : Int) < 9223372036854775808 ∧ 0 < n) := ⟨⟨hb, h0⟩⟩
  clear hb h0
  go_wp2_with fail
  all_goals
    go_ret
    rename_i h
    first
      | exact ⟨_, rfl, congrArg I (which_pos h), rfl⟩
      | exact ⟨_, rfl, congrArg I (which_neg h HB.out.2 HB.out.1), rfl⟩

set_option maxHeartbeats 2000000 in
set_option maxRecDepth 100000 in
theorem body6w (a : Int) (n : Nat) (h0 : 0 < n) (hb : (n : Int) < 9223372036854775808) (w : World) : Body Try.f6 #[I a, I n] w (fun v w' => v = I (which a n) ∧ w' = w) := by
  intro code hb'
  obtain rfl := Option.some.inj hb'
  clear hb'
  simp only [Try.ntmps6, List.size_toArray, List.length_cons, List.length_nil, Nat.reduceAdd, Nat.reduceSub, Array.replicate_succ, Array.replicate_zero, List.push_toArray, List.append_toArray, List.nil_append, List.cons_append]
  have hne : ¬ ((n : Int) = 0) := by omega
  have HB : Hid ((n : Int) < 9223372036854775808 ∧ 0 < n) := ⟨⟨hb, h0⟩⟩
  clear hb h0
  go_wp2_with fail
  all_goals
    go_ret
    rename_i h
    first
      | exact ⟨_, rfl, congrArg I (which_pos h), rfl⟩
      | exact ⟨_, rfl, congrArg I (which_neg h HB.out.2 HB.out.1), rfl⟩

theorem which_emod (a : Int) {n : Nat} (h : 0 < n) : (which a n : Int) = a % (n : Int) := by
  have h1 := which_lt a h
  have h2 := Int.emod_nonneg a (show (n : Int) ≠ 0 by omega)
  have h3 := Int.emod_lt_of_pos a (show (0 : Int) < n by omega)
  have h4 := Int.tmod_lt_of_pos a (show (0 : Int) < n by omega)
  have h5 : -(n : Int) < a.tmod n := Int.lt_tmod_of_pos a (by omega)
  have h6 := Int.emod_add_mul_ediv a n
  have h7 := Int.tmod_add_mul_tdiv a n
  have hw : (which a n : Int) = if a.tmod n < 0 then a.tmod n + n else a.tmod n := by
    unfold which
    split <;> omega
  have hk : ∃ k : Int, (which a n : Int) = a + n * k := by
    rw [hw]
    split
    · exact ⟨1 - a.tdiv n, by rw [Int.mul_sub]; omega⟩
    · exact ⟨- a.tdiv n, by rw [Int.mul_neg]; omega⟩
  obtain ⟨k, hk⟩ := hk
  have e : (which a n : Int) % n = a % n := by rw [hk, Int.add_mul_emod_self_left]
  rw [← e, Int.emod_eq_of_lt (by omega) (by omega)]
set_option maxHeartbeats 2000000 in
set_option maxRecDepth 100000 in
theorem has_any (c sb n x : Nat) (hx : x < n) (w : World) (h0 : w.cell? ⟨c, 0, none⟩ = some (.slice (some ⟨sb, 0, none⟩) n n)) : Calls Try.prog 18 #[Pt c 0, I x] w fun e w' => e = .returned (.bool true) ∧ w' = w := by
  have h1 : 0 ≤ (x : Int) := by omega
  have h2 : (x : Int) < (n : Int) := by omega
  have h3 : decide ((x : Int) ≥ 0) = true := decide_eq_true (by omega)
  have h4 : decide ((x : Int) < (n : Int)) = true := decide_eq_true h2
  go_enter Try.func18, Try.ntmps18
  go_wp2_with fail
  go_ret
  exact ⟨by simp [hx], rfl⟩
/-- Where a chain's cells lie. -/
structure Chn (v : World) (c sb n : Nat) (kb : List Nat) : Prop where
  row : v.cell? ⟨c, 0, none⟩ = some (.slice (some ⟨sb, 0, none⟩) n n)
  cel : ∀ j, j < n → ∃ cb, kb[j]? = some cb ∧ v.cell? ⟨sb, j, none⟩ = some (Pt cb 0)
  n0 : 0 < n
  n1 : n ≤ 100
end Go.Proofs.Ytmmfjanbjheekaa.Gen

/- The chain's calls as a machine; what the two laws count along a trace, plainly; where its threads sit. -/
set_option linter.unusedSimpArgs false
set_option linter.unusedVariables false
namespace Go.Proofs.Ytmmfjanbjheekaa.Gen
open Go Go.Lift Go.Conc Go.RowKit
open Go.ConcN (upd upd_same upd_ne)

/-- The key that a number means. -/
def keyH (n : Nat) (x : Int) : Nat := which x n
theorem keyH_lt {n : Nat} (h : 0 < n) (x : Int) : keyH n x < n := which_lt x h
theorem keyH_int {n : Nat} (h : 0 < n) (x : Int) : (keyH n x : Int) = x % (n : Int) := which_emod x h
/-- At the loop's head. -/
def nxH (n fr x k : Nat) : Nx := if k < n then (if x = fr then .ans 0 1 else .turn 1 x (1, [(fr : Int), (k : Int), (x : Int)])) else .ans 0 0
/-- 0: it writes down; 1: it looks. -/
def mcH (n : Nat) : Mc where
  start _ c := if c.po = 1 then .turn 2 (keyH n c.ca) (0, [(keyH n c.ca : Int), (keyH n c.cb : Int)]) else .ans 1 0
  turn q x :=
    if q.1 = 0 then ((x, ((((q.2.getD 1 0).toNat % n : Nat) + 1 : Nat) : Int)), ((((q.2.getD 1 0).toNat % n : Nat) + 1 : Nat) : Int), nxH n (q.2.getD 0 0).toNat (q.2.getD 1 0).toNat 0)
    else ((x, x), x, if x = 0 then .ans 0 0 else nxH n (q.2.getD 0 0).toNat (x - 1).toNat ((q.2.getD 1 0).toNat + 1))
  woke _ := .ans 1 0
  stuck _ := (4, 0)
  bnd := true
  ok _ x := 0 < n → 0 ≤ x ∧ x ≤ n
  okt q j x h := by
    intro hn
    have hm := Nat.mod_lt (q.2.getD 1 0).toNat hn
    by_cases e : q.1 = 0
    · simp only [e, if_true]
      omega
    · simp only [e, if_false]
      exact h hn

/-- What the laws count along a trace. -/
structure Rh where
  cnt : Nat → Nat
  call : Nat → Nat
  last : Option (Nat × Nat)
def rh0 : Rh := ⟨fun _ => 0, fun _ => 0, none⟩
def caOf (cl : Nat → List Cl) (i k : Nat) : Int := match (cl i)[k]? with | some c => c.ca | none => 0
theorem caOf_eq {cl : Nat → List Cl} {i k : Nat} {c : Cl} (h : (cl i)[k]? = some c) : caOf cl i k = c.ca := by unfold caOf; rw [h]
def rsH (cl : Nat → List Cl) (r : Rh) (s : Stp) : Rh :=
  if s.op = 9 then { r with cnt := upd r.cnt s.th.toNat 0, call := upd r.call s.th.toNat s.ol.toNat }
  else { r with cnt := upd r.cnt s.th.toNat (r.cnt s.th.toNat + 1), last := if s.op = 2 ∧ caOf cl s.th.toNat (r.call s.th.toNat) < 12 then some (s.th.toNat, r.call s.th.toNat) else r.last }
def repH (cl : Nat → List Cl) (L : List Stp) : Rh := L.foldl (rsH cl) rh0
theorem repH_app (cl : Nat → List Cl) (A B : List Stp) : repH cl (A ++ B) = B.foldl (rsH cl) (repH cl A) := List.foldl_append
theorem repH_one (cl : Nat → List Cl) (A : List Stp) (s : Stp) : repH cl (A ++ [s]) = rsH cl (repH cl A) s := by rw [repH_app]; rfl
section
variable {cl : Nat → List Cl} {r : Rh} {i : Nat}
theorem rsH_begin (k : Nat) : rsH cl r ⟨i, -1, 9, k, 0⟩ = { r with cnt := upd r.cnt i 0, call := upd r.call i k } := by
  simp [rsH]
theorem rsH_end (k : Nat) (e : Int) : rsH cl r ⟨i, -1, 10, k, e⟩ = { r with cnt := upd r.cnt i (r.cnt i + 1) } := by
  simp [rsH]
theorem rsH_look (j : Nat) (x y : Int) : rsH cl r ⟨i, j, 1, x, y⟩ = { r with cnt := upd r.cnt i (r.cnt i + 1) } := by
  simp [rsH]
theorem rsH_put (j : Nat) (x y : Int) : rsH cl r ⟨i, j, 2, x, y⟩ = { r with cnt := upd r.cnt i (r.cnt i + 1), last := if caOf cl i (r.call i) < 12 then some (i, r.call i) else r.last } := by
  simp [rsH]
end

/-- A way. -/
inductive Rc (E : Nat → Nat → Prop) : Nat → Nat → Prop
  | one {a b : Nat} : E a b → Rc E a b
  | step {a b c : Nat} : Rc E a b → E b c → Rc E a c
/-- It was written down. -/
def Kn (K : List Int) (a : Nat) : Prop := ∃ x, K[a]? = some x ∧ x ≠ 0
/-- How many calls of a thread are answered. -/
def upC (calls : List Cl) : Ph → Nat
  | .turn _ _ _ _ ii _ => ii
  | .wait _ _ _ ii _ => ii
  | .done _ => calls.length
/-- Where a thread sits. -/
def HSeat (n : Nat) (E : Nat → Nat → Prop) (calls : List Cl) (r : Rh) (K : List Int) (i : Nat) : Ph → Prop
  | .turn op j q rest ii ans => rest = calls.drop (ii + 1) ∧ r.call i = ii ∧ ∃ c, calls[ii]? = some c ∧ c.po = 1 ∧
      ((op = 2 ∧ j = keyH n c.ca ∧ q = (0, [(keyH n c.ca : Int), (keyH n c.cb : Int)]) ∧ r.cnt i = 0) ∨
       (op = 1 ∧ ∃ k : Nat, q = (1, [(keyH n c.ca : Int), (k : Int), (j : Int)]) ∧ j < n ∧ k < n ∧ r.cnt i = 1 + k ∧ Rc E (keyH n c.ca) j ∧ Kn K (keyH n c.ca)))
  | .wait _ _ _ _ _ => False
  | .done _ => True
theorem HSeat.oth {n : Nat} {E : Nat → Nat → Prop} {calls : List Cl} {r r' : Rh} {K K' : List Int} {i : Nat} {l : Ph} (h : HSeat n E calls r K i l) (h1 : r'.cnt i = r.cnt i) (h2 : r'.call i = r.call i) (h3 : ∀ a, Kn K a → Kn K' a) : HSeat n E calls r' K' i l := by
  cases l with
  | done a => trivial
  | wait j q rest ii ans => exact h
  | turn op j q rest ii ans =>
    obtain ⟨a1, a2, c, a3, a4, a5⟩ := h
    refine ⟨a1, h2.trans a2, c, a3, a4, ?_⟩
    rcases a5 with ⟨b1, b2, b3, b4⟩ | ⟨b1, k, b2, b3, b4, b5, b6, b7⟩
    · exact .inl ⟨b1, b2, b3, h1.trans b4⟩
    · exact .inr ⟨b1, k, b2, b3, b4, h1.trans b5, b6, h3 _ b7⟩
/-- What a step says, behind which the count is r. -/
def StR (N n : Nat) (cl : Nat → List Cl) (r : Rh) (st : Stp) : Prop :=
  ∃ i : Nat, st.th = i ∧ i < N ∧ r.call i < (cl i).length ∧ (st.op ≠ 10 → r.cnt i ≤ n + 1) ∧ (st.op = 9 → 0 ≤ st.ol)
/-- .. of each step, from r on. -/
def StsR (N n : Nat) (cl : Nat → List Cl) : Rh → List Stp → Prop
  | _, [] => True
  | r, st :: X => StR N n cl (rsH cl r st) st ∧ StsR N n cl (rsH cl r st) X
theorem StsR.app {N n : Nat} {cl : Nat → List Cl} : ∀ {A B : List Stp} {r : Rh}, StsR N n cl r A → StsR N n cl (A.foldl (rsH cl) r) B → StsR N n cl r (A ++ B)
  | [], _, _, _, h => h
  | st :: A, B, r, h, k => ⟨h.1, StsR.app h.2 k⟩
theorem StsR.more {N N' n : Nat} (hN : N ≤ N') {cl : Nat → List Cl} : ∀ {A : List Stp} {r : Rh}, StsR N n cl r A → StsR N' n cl r A
  | [], _, _ => trivial
  | st :: A, r, h => ⟨by obtain ⟨i, a, b, c⟩ := h.1; exact ⟨i, a, by omega, c⟩, h.2.more hN⟩
theorem StsR.at {N n : Nat} {cl : Nat → List Cl} : ∀ {L : List Stp} {r : Rh}, StsR N n cl r L → ∀ (k : Nat) (st : Stp), L[k]? = some st → StR N n cl ((L.take (k + 1)).foldl (rsH cl) r) st
  | [], _, _, k, st, h => by simp at h
  | s :: L, r, h, 0, st, e => by
    simp at e
    subst e
    exact h.1
  | s :: L, r, h, k + 1, st, e => by
    have := StsR.at h.2 k st (by simpa using e)
    simpa using this

/-- From a call's beginning to the next seat. -/
structure FwH (n : Nat) (E : Nat → Nat → Prop) (cl : Nat → List Cl) (i ii : Nat) (ans : List (Int × Int)) (r r' : Rh) (K : List Int) (X : List Stp) (l : Ph) : Prop where
  seat : HSeat n E (cl i) r' K i l
  oth : ∀ k, k ≠ i → r'.cnt k = r.cnt k ∧ r'.call k = r.call k
  last : r'.last = r.last
  len : l.ans.length = (cl i).length
  xs : ∀ N, i < N → StsR N n cl r X
  up : ii ≤ upC (cl i) l
  old : ∀ k, k < ii → l.ans[k]? = ans[k]?
  zer : ∀ (k : Nat) (a : Int × Int), l.ans[k]? = some a → a.2 ≠ 0 → ans[k]? = some a
  sto : ∀ (k : Nat) (c : Cl), ii ≤ k → k < upC (cl i) l → (cl i)[k]? = some c → c.po ≠ 1
  loo : ∀ op j q rest kk a, l = .turn op j q rest kk a → op = 2
theorem mcH_ans {n i : Nat} {c : Cl} {e x : Int} (h : (mcH n).start i c = .ans e x) : e = 1 ∧ x = 0 ∧ c.po ≠ 1 := by
  unfold mcH at h
  simp only at h
  split at h
  · cases h
  · rename_i hp
    cases h
    exact ⟨rfl, rfl, hp⟩
theorem mcH_turn {n i : Nat} {c : Cl} {op : Int} {j : Nat} {q : Q} (h : (mcH n).start i c = .turn op j q) : c.po = 1 ∧ op = 2 ∧ j = keyH n c.ca ∧ q = (0, [(keyH n c.ca : Int), (keyH n c.cb : Int)]) := by
  unfold mcH at h
  simp only at h
  split at h
  · rename_i hp
    cases h
    exact ⟨hp, rfl, rfl, rfl⟩
  · cases h
theorem mcH_wait {n i : Nat} {c : Cl} {j : Nat} {q : Q} : ¬ (mcH n).start i c = .wait j q := fun h => by
  unfold mcH at h
  simp only at h
  split at h <;> cases h

theorem fw_H {n : Nat} {E : Nat → Nat → Prop} {cl : Nat → List Cl} {i : Nat} {stk : Bool} {rest : List Cl} {ii : Nat} {sk : Bool} {ans : List (Int × Int)} {X : List Stp} {l : Ph} (h : Fw (mcH n) i stk rest ii sk ans X l) : ∀ (r : Rh) (K : List Int), rest = (cl i).drop ii → ii ≤ (cl i).length → ans.length = (cl i).length → sk = false → FwH n E cl i ii ans r (X.foldl (rsH cl) r) K X l := by
  induction h with
  | @nil ii sk ans =>
    intro r K hr hl ha hs
    have e : ii = (cl i).length := by
      have := congrArg List.length hr
      simp at this
      omega
    exact ⟨trivial, fun _ _ => ⟨rfl, rfl⟩, rfl, ha, fun _ _ => trivial, by show ii ≤ (cl i).length; exact hl, fun _ _ => rfl, fun _ _ h _ => h, fun k c h1 h2 _ => by have h2 : k < (cl i).length := h2; omega, fun _ _ _ _ _ _ h => by cases h⟩
  | skip _ _ =>
    intro r K hr hl ha hs
    cases hs
  | @ans c rest ii ans X l e x hst h ih =>
    intro r K hr hl ha hs
    have hlt : ii < (cl i).length := by
      have := congrArg List.length hr
      simp at this
      omega
    have hc : (cl i)[ii]? = some c := by
      have : ((cl i).drop ii)[0]? = some c := by rw [← hr]; rfl
      simpa using this
    have hr' : rest = (cl i).drop (ii + 1) := by
      have := congrArg List.tail hr
      simpa [List.tail_drop] using this
    obtain ⟨rfl, rfl, hp⟩ := mcH_ans hst
    have f := ih (rsH cl (rsH cl r ⟨i, -1, 9, ii, 0⟩) ⟨i, -1, 10, ii, 1⟩) K hr' (by omega) (by simpa using ha) rfl
    have e1 := rsH_begin (cl := cl) (r := r) (i := i) ii
    have e2 := rsH_end (cl := cl) (r := rsH cl r ⟨i, -1, 9, ii, 0⟩) (i := i) ii 1
    refine ⟨f.seat, fun k hk => ?_, ?_, f.len, fun N hN => ⟨⟨i, rfl, hN, ?_, fun _ => ?_, fun _ => ?_⟩, ⟨i, rfl, hN, ?_, fun h => absurd rfl h, fun h => absurd (show (10 : Int) = 9 from h) (by decide)⟩, f.xs N hN⟩, by have := f.up; omega, fun k hk => ?_, fun k a h1 h2 => ?_, fun k c' h1 h2 h3 => ?_, f.loo⟩
    · obtain ⟨q1, q2⟩ := f.oth k hk
      refine ⟨q1.trans ?_, q2.trans ?_⟩
      · rw [e2, e1]; show upd (upd r.cnt i 0) i _ k = _; rw [upd_ne _ _ hk, upd_ne _ _ hk]
      · rw [e2, e1]; exact upd_ne _ _ hk
    · refine f.last.trans ?_
      rw [e2, e1]
    · rw [e1]; show upd r.call i ii i < _; rw [upd_same]; exact hlt
    · rw [e1]; show upd r.cnt i 0 i ≤ _; rw [upd_same]; omega
    · show (0 : Int) ≤ ii; omega
    · rw [e2, e1]; show upd r.call i ii i < _; rw [upd_same]; exact hlt
    · rw [f.old k (by omega), List.getElem?_set, if_neg (by omega)]
    · have := f.zer k a h1 h2
      rw [List.getElem?_set] at this
      split at this
      · rename_i e
        split at this
        · cases this; exact absurd rfl h2
        · cases this
      · exact this
    · by_cases e : k = ii
      · subst e
        rw [hc] at h3
        cases h3
        exact hp
      · exact f.sto k c' (by omega) h2 h3
  | @turn c rest ii ans op j q hst =>
    intro r K hr hl ha hs
    have hlt : ii < (cl i).length := by
      have := congrArg List.length hr
      simp at this
      omega
    have hc : (cl i)[ii]? = some c := by
      have : ((cl i).drop ii)[0]? = some c := by rw [← hr]; rfl
      simpa using this
    have hr' : rest = (cl i).drop (ii + 1) := by
      have := congrArg List.tail hr
      simpa [List.tail_drop] using this
    obtain ⟨hp, rfl, rfl, rfl⟩ := mcH_turn hst
    have e1 := rsH_begin (cl := cl) (r := r) (i := i) ii
    refine ⟨?_, fun k hk => ?_, ?_, ha, fun N hN => ⟨⟨i, rfl, hN, ?_, fun _ => ?_, fun _ => ?_⟩, trivial⟩, Nat.le_refl _, fun _ _ => rfl, fun _ _ h _ => h, fun k c' h1 h2 _ => by have h2 : k < ii := h2; omega, fun _ _ _ _ _ _ h => by cases h; rfl⟩
    · show HSeat n E (cl i) (rsH cl r ⟨i, -1, 9, ii, 0⟩) K i _
      rw [e1]
      exact ⟨hr', by show upd r.call i ii i = ii; rw [upd_same], c, hc, hp, .inl ⟨rfl, rfl, rfl, by show upd r.cnt i 0 i = 0; rw [upd_same]⟩⟩
    · show (rsH cl r ⟨i, -1, 9, ii, 0⟩).cnt k = _ ∧ (rsH cl r ⟨i, -1, 9, ii, 0⟩).call k = _
      rw [e1]
      exact ⟨upd_ne _ _ hk, upd_ne _ _ hk⟩
    · show (rsH cl r ⟨i, -1, 9, ii, 0⟩).last = _
      rw [e1]
    · rw [e1]; show upd r.call i ii i < _; rw [upd_same]; exact hlt
    · rw [e1]; show upd r.cnt i 0 i ≤ _; rw [upd_same]; omega
    · show (0 : Int) ≤ ii; omega
  | wait hst _ =>
    intro r K hr hl ha hs
    exact absurd hst mcH_wait
  | waits hst hs' _ _ =>
    intro r K hr hl ha hs
    exact absurd hst mcH_wait
end Go.Proofs.Ytmmfjanbjheekaa.Gen
