/- CellAdds returns true, whatever the schedule, the start and the numbers, and leaves what it was given as it was: of the law's statement as given, with no condition of our own. Part 29 of 34. (Joined, by program, of: New7, Trace9, PlayNo, Meas.) -/
import Derived.Test.YtfjjoohflcchnaaCellAdds25
import Derived.Test.YtfjjoohflcchnaaCellAdds28
import Derived.Deep.RegionLaw
set_option linter.unusedSimpArgs false
set_option linter.unusedVariables false
namespace Go.Proofs.Ytfjjoohflcchnaa
open Go Go.Lift Go.Conc Go.RowKit

/-- A new world. -/
def newS (wb bk base : Nat) (sc : Value) (xs : List Int) : TS :=
  { wb := wb, bk := bk, base := base, us := 0, n := 0, la := -1, sc := sc, cv := .slice none 0 0, ths := .slice none 0 0, tv := .slice none 0 0, sched := xs, chg := [], tr := [], stk := false, ran := false, thr := [] }
/-- It lies there. -/
structure IsNew (v : World) (xs : List Int) (wb bk : Nat) (sc : Value) (v' : World) : Prop where
  mem : Mem zn (newS wb bk v.heap.size sc xs) [] v'
  opn : Open v' bk
  new : ∀ b, Own (newS wb bk v.heap.size sc xs) [] b ∨ b = bk → v.heap.size ≤ b
  old : Grows v v'

abbrev rowNew (sc : Value) (bk : Nat) : Array Value := #[sc, I 0, I (-1), .slice none 0 0, .slice none 0 0, .slice none 0 0, .bool false, .bool false, .chan (some bk)]
theorem new_rep {v u v' : World} {xs : List Int} {g cap bk m : Nat} (hg : Grows v u) (hown : u.ownsRow v.heap.size 3 1 (.slice (some ⟨g, 0, none⟩) m cap) m (xs.map I)) (hl : xs.length = m) (hbk : u.heap[bk]? = some (.chan 0 #[] false 0 0 false)) (hb : v.heap.size ≤ bk)
    (hh : v'.heap = u.heap.push (.cells (rowNew (.slice (some ⟨g, 0, none⟩) m cap) bk) 83)) (ho : v'.os = u.os) (hu : v'.output = u.output) : IsNew v xs u.heap.size bk (.slice (some ⟨g, 0, none⟩) m cap) v' := by
  have hold : ∀ b, b < u.heap.size → v'.heap[b]? = u.heap[b]? := fun b hb => by rw [hh, Array.getElem?_push, if_neg (by omega)]
  have hs' : v'.heap.size = u.heap.size + 1 := by rw [hh]; simp
  have hgl := own_lt hown g rfl
  have hsz := hg.size
  have hblk : ∀ k b, blk (newS u.heap.size bk v.heap.size (.slice (some ⟨g, 0, none⟩) m cap) xs) k = some b → (k = 0 ∧ b = u.heap.size) ∨ (k = 4 ∧ b = g) := fun k b hk => by
    match k, hk with
    | 0, hk => cases hk; exact .inl ⟨rfl, rfl⟩
    | 1, hk => cases hk
    | 2, hk => cases hk
    | 3, hk => cases hk
    | 4, hk => cases hk; exact .inr ⟨rfl, rfl⟩
    | k + 5, hk => simp [blk, newS] at hk
  have hnil : v'.ownsRow v.heap.size 3 1 (.slice none 0 0) 0 [] := World.ownsRow_nil _ _ _ _
  refine ⟨⟨⟨?_, fun i t ht => by simp [newS] at ht, World.ownsRow_nil _ _ _ _, World.ownsRow_nil _ _ _ _, World.ownsRow_nil _ _ _ _, ?_, by show v.heap.size ≤ _; omega, fun j k b hj hk => ?_, fun b n h => by cases h⟩, fun j c hc => by simp at hc, fun j c hc => by simp at hc, fun i j c d hc => by simp at hc, rfl⟩, ⟨0, 0, ?_⟩, fun b hb' => ?_, ⟨by omega, fun b hb' => by rw [hold b (by omega), hg.old b hb'], ho.trans hg.os, hu.trans hg.output⟩⟩
  · show v'.heap[u.heap.size]? = _
    rw [hh]
    exact Array.getElem?_push_size
  · show v'.ownsRow v.heap.size 3 1 _ xs.length (xs.map I)
    rw [hl]
    exact own_stay (fun b hb => hold b (own_lt hown b hb).2) hown
  · rcases hblk j b hj with ⟨rfl, e1⟩ | ⟨rfl, e1⟩ <;> rcases hblk k b hk with ⟨rfl, e2⟩ | ⟨rfl, e2⟩ <;> first | rfl | omega
  · rw [hold bk (Array.getElem?_eq_some_iff.1 hbk).1]; exact hbk
  · rcases hb' with (⟨k, hk⟩ | ⟨j, c, hc, _⟩) | rfl
    · rcases hblk k b hk with ⟨_, rfl⟩ | ⟨_, rfl⟩
      · exact hsz
      · exact hgl.1
    · simp at hc
    · exact hb

set_option maxHeartbeats 2000000 in
set_option maxRecDepth 100000 in
theorem body7 {v : World} (vb vo cap : Nat) (xs : List Int) (hx0 : 0 < xs.length) (hx1 : xs.length ≤ 17592186043904) (hv : ∀ k x, xs[k]? = some x → v.cell? ⟨vb, vo + k, none⟩ = some (I x)) :
    Body Try.f18 #[.slice (some ⟨vb, vo, none⟩) xs.length cap] v (fun r v' => ∃ wb bk sc, r = Pt wb 0 ∧ IsNew v xs wb bk sc v') := by
  intro code hb
  obtain rfl := Option.some.inj hb
  clear hb
  obtain ⟨x0, hx00⟩ : ∃ x, xs[0]? = some x := ⟨_, List.getElem?_eq_getElem hx0⟩
  have hvl : vb < v.heap.size := World.block_lt_of_cell? _ _ (hv 0 x0 hx00)
  have hnews : ∀ u : World, u.heap[vb]? = v.heap[vb]? → ∀ j y, (xs.map I)[j]? = some y → u.cell? ((⟨vb, vo, none⟩ : Addr).add j) = some y := fun u hu j y hj => by
    have hadd : (⟨vb, vo, none⟩ : Addr).add j = ⟨vb, vo + j, none⟩ := by unfold Addr.add; split <;> simp_all
    rw [hadd, World.cell?_of_block (w := v) (w' := u) hu]
    rw [List.getElem?_map] at hj
    cases hk : xs[j]? with
    | none => rw [hk] at hj; cases hj
    | some x =>
      rw [hk] at hj
      cases hj
      exact hv j x hk
  have h1 : ∀ u ∈ xs.map I, u.oneCell' = true := fun u hu => by
    simp only [List.mem_map] at hu
    obtain ⟨x, _, rfl⟩ := hu
    rfl
  have HW : Hid (∀ u : World, u.heap[vb]? = v.heap[vb]? → ∀ j y, (xs.map I)[j]? = some y → u.cell? ((⟨vb, vo, none⟩ : Addr).add j) = some y) := ⟨hnews⟩
  have H1 : Hid (∀ u ∈ xs.map I, u.oneCell' = true) := ⟨h1⟩
  have HX : Hid (0 < xs.length ∧ xs.length ≤ 17592186043904 ∧ vb < v.heap.size) := ⟨⟨hx0, hx1, hvl⟩⟩
  clear hv hnews h1 hx00 hx0 hx1 hvl
  have hmk := run_mk
  obtain ⟨j0, hj, hj0, hj1, hj2⟩ := info_parts info3
  simp only [Try.ntmps18, List.size_toArray, List.length_cons, List.length_nil, Nat.reduceAdd, Nat.reduceSub, Array.replicate_succ, Array.replicate_zero, List.push_toArray, List.append_toArray, List.nil_append, List.cons_append]
  go_wp2_with fail
  go_region_law
    (refine step_append_lies _ rfl (.const (.slice none 0 0)) (.tmp 3) 22 rfl v.heap.size 3 j0 _ 1 8 Try.underlying22 hj hj0 hj1 hj2 rfl (by decide) (.slice none 0 0) 0 [] rfl (World.ownsRow_nil _ _ _ _) ⟨vb, vo, none⟩ xs.length cap (xs.map I) rfl (by simp) (HW.out _ (by first | rfl | (show (v.heap.push _)[vb]? = _; rw [Array.getElem?_push, if_neg (by have := HX.out; omega)]))) H1.out HX.out.1 (by have := HX.out; unfold maxLen; omega) (by have := HX.out; omega) (by simp) _ rfl ?_
     intro g cpg w6 hown6 hgrow6 hat6 hlt6)
  · have g6 : Grows v (w6.alloc (.chan 0 #[] false 0 0 false)) := by
      have hs : v.heap.size ≤ w6.heap.size := hgrow6.size
      refine ⟨by show _ ≤ (w6.heap.push _).size; simp; omega, fun b hb => ?_, hgrow6.os, hgrow6.output⟩
      show (w6.heap.push _)[b]? = _
      rw [Array.getElem?_push, if_neg (by omega)]
      exact hgrow6.block b hb (fun e => by cases e)
    have hN : IsNew v xs (w6.heap.size + 1) w6.heap.size (.slice (some ⟨g, 0, none⟩) xs.length cpg) ((w6.alloc (.chan 0 #[] false 0 0 false)).alloc (.cells (rowNew (.slice (some ⟨g, 0, none⟩) xs.length cpg) w6.heap.size) 83)) := by
      have := new_rep (v := v) (u := w6.alloc (.chan 0 #[] false 0 0 false)) (v' := (w6.alloc (.chan 0 #[] false 0 0 false)).alloc (.cells (rowNew (.slice (some ⟨g, 0, none⟩) xs.length cpg) w6.heap.size) 83)) (xs := xs) (g := g) (cap := cpg) (bk := w6.heap.size) (m := xs.length) g6 (own_stay (fun b hb => ?_) (by rw [Nat.zero_add, List.nil_append] at hown6; exact hown6)) rfl Array.getElem?_push_size hgrow6.size rfl rfl rfl
      · rw [show (w6.alloc (.chan 0 #[] false 0 0 false)).heap.size = w6.heap.size + 1 by show (w6.heap.push _).size = _; simp] at this
        exact this
      · cases hb
        show (w6.heap.push _)[g]? = _
        rw [Array.getElem?_push, if_neg (by omega)]
    have HN : Hid _ := ⟨hN⟩
    clear hN g6 hgrow6 hown6 hat6 hlt6
    go_wp2
    go_ret
    exact ⟨_, rfl, w6.heap.size + 1, w6.heap.size, _, rfl, HN.out⟩
  · have hb0 : ∀ b, b < v.heap.size + 1 → w6.heap[b]? = (v.alloc (.chan 0 #[] false 0 0 false)).heap[b]? := fun b hb => hgrow6.block b (by show b < (v.heap.push _).size; simp; omega) (fun e => by cases e)
    have hs : v.heap.size + 1 ≤ w6.heap.size := by
      have := hgrow6.size
      have e : (v.alloc (.chan 0 #[] false 0 0 false)).drew.heap.size = v.heap.size + 1 := by show (v.heap.push _).size = _; simp
      omega
    have g6 : Grows v w6 := by
      refine ⟨by omega, fun b hb => ?_, hgrow6.os, hgrow6.output⟩
      rw [hb0 b (by omega)]
      show (v.heap.push _)[b]? = _
      rw [Array.getElem?_push, if_neg (by omega)]
    have hN : IsNew v xs w6.heap.size v.heap.size (.slice (some ⟨g, 0, none⟩) xs.length cpg) (w6.alloc (.cells (rowNew (.slice (some ⟨g, 0, none⟩) xs.length cpg) v.heap.size) 83)) :=
      new_rep (v := v) (u := w6) (xs := xs) (g := g) (cap := cpg) (bk := v.heap.size) (m := xs.length) g6 (by rw [Nat.zero_add, List.nil_append] at hown6; exact hown6) rfl (by rw [hb0 _ (by omega)]; exact Array.getElem?_push_size) (Nat.le_refl _) rfl rfl rfl
    have HN : Hid _ := ⟨hN⟩
    clear hN g6 hgrow6 hown6 hat6 hlt6 hb0 hs
    go_wp2
    go_ret
    exact ⟨_, rfl, w6.heap.size, v.heap.size, _, rfl, HN.out⟩
end Go.Proofs.Ytfjjoohflcchnaa

namespace Go.Proofs.Ytfjjoohflcchnaa
open Go Go.Lift Go.Conc Go.RowKit


set_option maxHeartbeats 2000000 in
set_option maxRecDepth 100000 in
theorem body9 {z : Nat → Option Nat} {S : TS} {v : World} (h : Rep z S v) (h0 : 0 < S.n) (hn : S.n * 40 ≤ 140737488355328) (h1 : ∀ u ∈ S.tr, u.oneCell' = true) :
    Body Try.f20 #[Pt S.wb 0] v (fun r v' => ∃ g cap, r = .slice (some ⟨g, 0, none⟩) S.n cap ∧ v'.ownsRow v.heap.size 34 5 (.slice (some ⟨g, 0, none⟩) S.n cap) S.n S.tr ∧ Grows v v' ∧ v.heap.size ≤ g) := by
  intro code hb
  obtain rfl := Option.some.inj hb
  clear hb
  have c5 := h.wcell.2.2.2.2.2.1
  obtain ⟨g0, cap0, e0, _, hg0⟩ := h.own.form h0
  rw [e0] at c5
  have hcs := h.own.cells (g := g0) (by rw [e0]; rfl)
  have hln : S.tr.length = S.n * 5 := h.own.1
  have HH : Hid ((∀ j u, S.tr[j]? = some u → v.cell? ((⟨g0, 0, none⟩ : Addr).add j) = some u) ∧ (∀ u ∈ S.tr, u.oneCell' = true) ∧ 0 < S.n ∧ S.n * 40 ≤ 140737488355328 ∧ S.tr.length = S.n * 5) := ⟨⟨hcs, h1, h0, hn, hln⟩⟩
  clear hcs h1 h0 hn hln h e0
  obtain ⟨j0, hj, hj0, hj1, hj2⟩ := info_parts info34
  simp only [Try.ntmps20, List.size_toArray, List.length_cons, List.length_nil, Nat.reduceAdd, Nat.reduceSub, Array.replicate_succ, Array.replicate_zero, List.push_toArray, List.append_toArray, List.nil_append, List.cons_append]
  go_wp2_with (first
    | (refine wpList_append_lies _ rfl (.const (.slice none 0 0)) (.tmp 8) 31 rfl v.heap.size 34 j0 _ 5 40 Try.underlying31 hj hj0 hj1 hj2 rfl (by decide) (.slice none 0 0) 0 [] rfl (World.ownsRow_nil _ _ _ _) ⟨g0, 0, none⟩ S.n cap0 S.tr rfl HH.out.2.2.2.2 HH.out.1 HH.out.2.1 HH.out.2.2.1 (by have := HH.out.2.2.2.1; unfold maxLen; omega) (by have := HH.out.2.2.2.1; omega) (Nat.le_refl _) _ rfl ?_
       intro g cpg w6 hown6 hgrow6 hat6 hlt6))
  go_ret
  refine ⟨_, rfl, g, cpg, rfl, ?_, ⟨hgrow6.size, fun b hb => hgrow6.block b hb (fun e => by cases e), hgrow6.os, hgrow6.output⟩, ?_⟩
  · rw [Nat.zero_add, List.nil_append] at hown6
    exact hown6
  · rcases hat6 with h | h
    · cases h
    · omega
end Go.Proofs.Ytfjjoohflcchnaa

namespace Go.Proofs.Ytfjjoohflcchnaa
open Go Go.Lift Go.Conc Go.RowKit

section
variable {S : TS} {v : World} {wb m vcap n cap : Nat} {vp : Option Addr} {p : Option Addr}

end

theorem new_rep0 {v u v' : World} {bk : Nat} (hg : Grows v u) (hbk : u.heap[bk]? = some (.chan 0 #[] false 0 0 false)) (hb : v.heap.size ≤ bk)
    (hh : v'.heap = u.heap.push (.cells (rowNew (.slice none 0 0) bk) 83)) (ho : v'.os = u.os) (hu : v'.output = u.output) : IsNew v [] u.heap.size bk (.slice none 0 0) v' := by
  have hold : ∀ b, b < u.heap.size → v'.heap[b]? = u.heap[b]? := fun b hb => by rw [hh, Array.getElem?_push, if_neg (by omega)]
  have hs' : v'.heap.size = u.heap.size + 1 := by rw [hh]; simp
  have hsz := hg.size
  have hblk : ∀ k b, blk (newS u.heap.size bk v.heap.size (.slice none 0 0) []) k = some b → k = 0 ∧ b = u.heap.size := fun k b hk => by
    match k, hk with
    | 0, hk => cases hk; exact ⟨rfl, rfl⟩
    | 1, hk => cases hk
    | 2, hk => cases hk
    | 3, hk => cases hk
    | 4, hk => cases hk
    | k + 5, hk => simp [blk, newS] at hk
  refine ⟨⟨⟨?_, fun i t ht => by simp [newS] at ht, World.ownsRow_nil _ _ _ _, World.ownsRow_nil _ _ _ _, World.ownsRow_nil _ _ _ _, World.ownsRow_nil _ _ _ _, by show v.heap.size ≤ _; omega, fun j k b hj hk => ?_, fun b n h => by cases h⟩, fun j c hc => by simp at hc, fun j c hc => by simp at hc, fun i j c d hc => by simp at hc, rfl⟩, ⟨0, 0, ?_⟩, fun b hb' => ?_, ⟨by omega, fun b hb' => by rw [hold b (by omega), hg.old b hb'], ho.trans hg.os, hu.trans hg.output⟩⟩
  · show v'.heap[u.heap.size]? = _
    rw [hh]
    exact Array.getElem?_push_size
  · rw [(hblk j b hj).1, (hblk k b hk).1]
  · rw [hold bk (Array.getElem?_eq_some_iff.1 hbk).1]; exact hbk
  · rcases hb' with (⟨k, hk⟩ | ⟨j, c, hc, _⟩) | rfl
    · rw [(hblk k b hk).2]; exact hsz
    · simp at hc
    · exact hb

set_option maxHeartbeats 2000000 in
set_option maxRecDepth 100000 in
theorem body70 {v : World} (p : Option Addr) (cap : Nat) : Body Try.f18 #[.slice p 0 cap] v (fun r v' => ∃ wb bk sc, r = Pt wb 0 ∧ IsNew v [] wb bk sc v') := by
  intro code hb
  obtain rfl := Option.some.inj hb
  clear hb
  have hmk := run_mk
  obtain ⟨j0, hj, hj0, hj1, hj2⟩ := info_parts info3
  have HN : ∀ v' : World, v'.heap = (v.heap.push (.chan 0 #[] false 0 0 false)).push (.cells (rowNew (.slice none 0 0) v.heap.size) 83) → v'.os = v.os → v'.output = v.output → IsNew v [] (v.heap.size + 1) v.heap.size (.slice none 0 0) v' := fun v' h4 h5 h6 => by
    have := new_rep0 (v := v) (u := v.alloc (.chan 0 #[] false 0 0 false)) (v' := v') (bk := v.heap.size) ⟨by show _ ≤ (v.heap.push _).size; simp, fun b hb => by show (v.heap.push _)[b]? = _; rw [Array.getElem?_push, if_neg (by omega)], rfl, rfl⟩ Array.getElem?_push_size (Nat.le_refl _) h4 h5 h6
    rw [show (v.alloc (.chan 0 #[] false 0 0 false)).heap.size = v.heap.size + 1 by show (v.heap.push _).size = _; simp] at this
    exact this
  have HN : Hid _ := ⟨HN⟩
  cases p
  all_goals
    simp only [Try.ntmps18, List.size_toArray, List.length_cons, List.length_nil, Nat.reduceAdd, Nat.reduceSub, Array.replicate_succ, Array.replicate_zero, List.push_toArray, List.append_toArray, List.nil_append, List.cons_append]
    go_wp2_with fail
    go_region_law fail
    all_goals
      go_wp2
      go_ret
      exact ⟨_, rfl, v.heap.size + 1, v.heap.size, _, rfl, HN.out _ rfl rfl rfl⟩

/-- A new world, whatever its schedule. -/
theorem body7A {v : World} (p : Option Addr) (vb vo cap : Nat) (xs : List Int) (hp : 0 < xs.length → p = some ⟨vb, vo, none⟩) (hx1 : xs.length ≤ 17592186043904) (hv : ∀ k x, xs[k]? = some x → v.cell? ⟨vb, vo + k, none⟩ = some (I x)) :
    Body Try.f18 #[.slice p xs.length cap] v (fun r v' => ∃ wb bk sc, r = Pt wb 0 ∧ IsNew v xs wb bk sc v') := by
  rcases Nat.eq_zero_or_pos xs.length with h0 | h0
  · obtain rfl := List.length_eq_zero_iff.1 h0
    exact body70 p cap
  · rw [hp h0]
    exact body7 vb vo cap xs h0 hx1 hv

set_option maxHeartbeats 2000000 in
set_option maxRecDepth 100000 in
theorem body90 {z : Nat → Option Nat} {S : TS} {v : World} (h : Rep z S v) (h0 : S.n = 0) : Body Try.f20 #[Pt S.wb 0] v (fun r v' => r = .slice none 0 0 ∧ v' = v) := by
  intro code hb
  obtain rfl := Option.some.inj hb
  clear hb
  have c5 := h.wcell.2.2.2.2.2.1
  obtain ⟨p0, cap0, e0⟩ : ∃ p cap, S.tv = .slice p 0 cap := by
    obtain ⟨p, cap, e⟩ := own_form h.own
    rw [h0] at e
    exact ⟨p, cap, e⟩
  rw [e0] at c5
  clear h e0
  obtain ⟨j0, hj, hj0, hj1, hj2⟩ := info_parts info34
  cases p0
  all_goals
    simp only [Try.ntmps20, List.size_toArray, List.length_cons, List.length_nil, Nat.reduceAdd, Nat.reduceSub, Array.replicate_succ, Array.replicate_zero, List.push_toArray, List.append_toArray, List.nil_append, List.cons_append]
    go_wp2
    go_ret
    exact ⟨_, rfl, rfl, rfl⟩

/-- A copy of the trace, new. -/
theorem body9A {z : Nat → Option Nat} {S : TS} {v : World} (h : Rep z S v) (hn : S.n * 40 ≤ 140737488355328) (h1 : ∀ u ∈ S.tr, u.oneCell' = true) :
    Body Try.f20 #[Pt S.wb 0] v (fun r v' => ∃ p g cap, r = .slice p S.n cap ∧ (0 < S.n → p = some ⟨g, 0, none⟩ ∧ v.heap.size ≤ g) ∧ (∀ j u, S.tr[j]? = some u → v'.cell? ⟨g, j, none⟩ = some u) ∧ Grows v v') := by
  rcases Nat.eq_zero_or_pos S.n with h0 | h0
  · intro code hb
    refine wp_mono (body90 h h0 code hb) (bp_mono fun r u hq => ?_)
    obtain ⟨rfl, rfl⟩ := hq
    have hl : S.tr = [] := by
      have := h.own.1
      rw [h0] at this
      exact List.length_eq_zero_iff.1 (by omega)
    refine ⟨none, 0, 0, by rw [h0], (fun h => by omega), (fun j x hj => ?_), ⟨Nat.le_refl _, fun _ _ => rfl, rfl, rfl⟩⟩
    rw [hl] at hj
    simp at hj
  · intro code hb
    refine wp_mono (body9 h h0 hn h1 code hb) (bp_mono fun r u hq => ?_)
    obtain ⟨g, cap, rfl, hown, hgr, hle⟩ := hq
    refine ⟨_, g, cap, rfl, fun _ => ⟨rfl, hle⟩, fun j x hj => ?_, hgr⟩
    have := hown.cells (g := g) rfl j x hj
    rw [show (⟨g, 0, none⟩ : Addr).add j = ⟨g, j, none⟩ by unfold Addr.add; split <;> simp_all] at this
    exact this
end Go.Proofs.Ytfjjoohflcchnaa

namespace Go.Proofs.Ytfjjoohflcchnaa
open Go Go.Lift Go.Conc Go.RowKit
open Go.ConcN (upd upd_same upd_ne)

/-- How many calls are left to a thread. -/
def Ph.left : Ph → Nat
  | .turn r _ _ => r.length
  | .wait r _ _ => r.length
  | .done _ => 0
/-- What a seat weighs besides. -/
def wt (S : TS) (t : Thr) : Ph → Nat
  | .turn _ _ _ => 1
  | .wait _ _ _ => if chgOf S.chg t.ce = t.se then 0 else 2
  | .done _ => 0
theorem wt_le (S : TS) (t : Thr) (l : Ph) : wt S t l ≤ 2 := by
  cases l with
  | turn _ _ _ => exact (by decide : 1 ≤ 2)
  | wait _ _ _ => show (if _ then 0 else 2) ≤ 2; split <;> omega
  | done _ => exact Nat.zero_le _
def wtI (p : PSt) (i : Nat) : Nat := 24 * (p.l i).left + wt p.S (thrI p.S i) (p.l i)
def mu (p : PSt) : Nat := (if p.S.stk then 0 else 1) + ((List.range p.S.thr.length).map (wtI p)).sum

theorem sum_le (f g : Nat → Nat) (e : Nat) : ∀ k, (∀ j, j < k → g j ≤ f j + e) → ((List.range k).map g).sum ≤ ((List.range k).map f).sum + e * k
  | 0, _ => by simp
  | k + 1, h => by
    have := sum_le f g e k (fun j hj => h j (by omega))
    have h1 := h k (by omega)
    rw [List.range_succ, List.map_append, List.map_append, List.sum_append, List.sum_append, Nat.mul_succ]
    simp only [List.map_cons, List.map_nil, List.sum_cons, List.sum_nil]
    omega
theorem sum_drop (f g : Nat → Nat) (e d i : Nat) : ∀ k, i < k → (∀ j, j < k → j ≠ i → g j ≤ f j + e) → g i + d ≤ f i → ((List.range k).map g).sum + d ≤ ((List.range k).map f).sum + e * k
  | k + 1, hi, h, hd => by
    rw [List.range_succ, List.map_append, List.map_append, List.sum_append, List.sum_append, Nat.mul_succ]
    simp only [List.map_cons, List.map_nil, List.sum_cons, List.sum_nil]
    by_cases hk : i = k
    · subst hk
      have := sum_le f g e i (fun j hj => h j (by omega) (by omega))
      omega
    · have := sum_drop f g e d i k (by omega) (fun j hj hn => h j (by omega) hn) hd
      have h1 := h k (by omega) (fun e => hk e.symm)
      omega

theorem flow_left (i nk : Nat) : ∀ (rest : List Cl) (ii : Nat) (sk : Bool) (ans : List (Int × Int)) (S : TS), (flow i nk rest ii sk ans S).2.left ≤ rest.length ∧ (flow i nk rest ii sk ans S).1.n + 2 * (flow i nk rest ii sk ans S).2.left ≤ S.n + 2 * rest.length + 1 ∧ (flow i nk rest ii sk ans S).1.chg = S.chg ∧ wt (flow i nk rest ii sk ans S).1 (thrI (flow i nk rest ii sk ans S).1 i) (flow i nk rest ii sk ans S).2 ≤ 1
  | [], ii, sk, ans, S => by cases sk <;> exact ⟨Nat.le_refl _, Nat.le_succ _, rfl, Nat.zero_le _⟩
  | c :: rest, ii, true, ans, S => by
    have := flow_left i nk rest (ii + 1) true (ans.set ii (4, 0)) S
    have e : flow i nk (c :: rest) ii true ans S = flow i nk rest (ii + 1) true (ans.set ii (4, 0)) S := rfl
    rw [e]
    simp only [List.length_cons]
    exact ⟨by omega, by omega, this.2.2⟩
  | c :: rest, ii, false, ans, S => by
    rw [flow_cons]
    split
    · refine ⟨Nat.le_refl _, ?_, rfl, Nat.le_refl _⟩
      show S.n + 1 + 2 * (c :: rest).length ≤ _
      omega
    · have := flow_left i nk rest (ii + 1) false (ans.set ii (1, 0)) (noted (noted S undef i 9 (-1) ii 0) undef i 10 (-1) ii 1)
      have e : (noted (noted S undef i 9 (-1) ii 0) undef i 10 (-1) ii 1).n = S.n + 2 := rfl
      rw [e] at this
      simp only [List.length_cons]
      exact ⟨by omega, by omega, this.2.2⟩
theorem did_n (S : TS) (tv : Value) (i : Nat) (t : Thr) (b a : Int) : (didS S tv i t b a).n = S.n + 1 := by
  unfold didS; split <;> rfl
theorem did_same (S : TS) (tv : Value) (i : Nat) (t : Thr) (b : Int) : didS S tv i t b b = noted S tv i t.op t.ce b b := by
  unfold didS; rw [if_neg (fun h => h.1 rfl)]

/-- A run's state in which all threads sit. -/
structure Good (nk : Nat) (p : PSt) : Prop where
  len : p.S.thr.length ≤ 8
  sit : ∀ i t, p.S.thr[i]? = some t → FitsN nk (p.l i) t ∧ StN (p.l i) t

theorem nextI_in {S : TS} (h : rdyIds S S.thr.length ≠ []) : ∃ t, S.thr[nextI S]? = some t ∧ rdy S t = true := by
  have h0 : 0 < (rdyIds S S.thr.length).length := List.length_pos_iff.2 h
  have h1 := pickAt_lt S h0
  have h2 : nextI S ∈ rdyIds S S.thr.length := by
    unfold nextI
    rw [List.getElem?_eq_getElem h1]
    exact List.getElem_mem h1
  unfold rdyIds at h2
  rw [List.mem_filter] at h2
  cases h3 : S.thr[nextI S]? with
  | none => rw [h3] at h2; cases h2.2
  | some t => rw [h3] at h2; exact ⟨t, rfl, h2.2⟩

section
variable {S : TS} {i : Nat} {t : Thr}
theorem going_thr (ht : S.thr[i]? = some t) : (going S i t).thr[i]? = some { t with st := 0 } := by
  have e : (picked S).thr = S.thr := by unfold picked; split <;> rfl
  show ((picked S).thr.set i _)[i]? = _
  rw [e]
  exact set_get ht
theorem going_oth {j : Nat} (hj : j ≠ i) : (going S i t).thr[j]? = S.thr[j]? := by
  have e : (picked S).thr = S.thr := by unfold picked; split <;> rfl
  show ((picked S).thr.set i _)[j]? = _
  rw [e, List.getElem?_set, if_neg (fun e => hj e.symm)]
theorem going_len : (going S i t).thr.length = S.thr.length := by
  have e : (picked S).thr = S.thr := by unfold picked; split <;> rfl
  show ((picked S).thr.set i _).length = _
  rw [e, List.length_set]
theorem going_keeps : (going S i t).chg = S.chg ∧ (going S i t).stk = S.stk ∧ (going S i t).n = S.n ∧ (going S i t).tr = S.tr := by
  have e : (picked S).chg = S.chg ∧ (picked S).stk = S.stk ∧ (picked S).n = S.n ∧ (picked S).tr = S.tr := by unfold picked; split <;> exact ⟨rfl, rfl, rfl, rfl⟩
  exact e
end

/-- What a thread's going does to what is left: d of its own weight, and what others may gain. -/
theorem resume_mu (nk i : Nat) (l : Ph) (S : TS) (K : List (Nat × Int)) (t : Thr) (ht : S.thr[i]? = some t) (hl : (∃ r k a, l = .turn r k a) ∨ ∃ r k a, l = .wait r k a) (hf : FitsN nk l t) (hr : ∀ r k a, l = .wait r k a → S.stk = true ∨ chgOf S.chg t.ce ≠ t.se) :
    ((resume i nk l S K).1.chg = S.chg ∧ (resume i nk l S K).1.n ≤ S.n + 1 ∧ 24 * (resume i nk l S K).2.2.left + wt (resume i nk l S K).1 (thrI (resume i nk l S K).1 i) (resume i nk l S K).2.2 + 1 ≤ 24 * l.left + wt S t l) ∨
    ∃ s, (resume i nk l S K).2.2.left + s + 1 = l.left ∧ wt (resume i nk l S K).1 (thrI (resume i nk l S K).1 i) (resume i nk l S K).2.2 ≤ 1 ∧ (resume i nk l S K).1.n ≤ S.n + 3 + 2 * s := by
  have hb : ∀ (rest : List Cl) (ii : Nat) (ans : List (Int × Int)) (e x : Int) (S1 : TS) (K1 : List (Nat × Int)), S1.n ≤ S.n + 1 → ∃ s, (back i nk rest ii ans e x S1 K1).2.2.left + s = rest.length ∧ wt (back i nk rest ii ans e x S1 K1).1 (thrI (back i nk rest ii ans e x S1 K1).1 i) (back i nk rest ii ans e x S1 K1).2.2 ≤ 1 ∧ (back i nk rest ii ans e x S1 K1).1.n ≤ S.n + 3 + 2 * s := fun rest ii ans e x S1 K1 h1 => by
    have := flow_left i nk rest (ii + 1) (e == 4) (ans.set ii (e, x)) (noted S1 undef i 10 (-1) ii e)
    have e2 : (noted S1 undef i 10 (-1) ii e).n = S1.n + 1 := rfl
    rw [e2] at this
    unfold back
    refine ⟨rest.length - (flow i nk rest (ii + 1) (e == 4) (ans.set ii (e, x)) (noted S1 undef i 10 (-1) ii e)).2.left, ?_, this.2.2.2, ?_⟩
    · show (flow i nk rest (ii + 1) (e == 4) (ans.set ii (e, x)) (noted S1 undef i 10 (-1) ii e)).2.left + _ = _
      omega
    · show (flow i nk rest (ii + 1) (e == 4) (ans.set ii (e, x)) (noted S1 undef i 10 (-1) ii e)).1.n ≤ _
      omega
  have eth : thrI S i = t := thrI_of ht
  match l, hf, hl, hr with
  | .turn (c :: rest) ii ans, hf, _, hr =>
    rw [resume_turn]
    split
    · split
      · obtain ⟨s, h1, h2, h3⟩ := hb rest ii ans 4 0 (didS S undef i (thrI S i) c.cb c.cb) K (by rw [did_n]; exact Nat.le_refl _)
        exact .inr ⟨s, by show _ + s + 1 = rest.length + 1; omega, h2, h3⟩
      · left
        rw [did_same]
        refine ⟨rfl, Nat.le_refl _, ?_⟩
        have e1 : thrI (waiting (noted S undef i (thrI S i).op (thrI S i).ce c.cb c.cb) i (thrI S i) 2 6 (which c.ca nk)) i = { t with st := 2, ce := which c.ca nk, op := 6, se := chgOf S.chg (which c.ca nk) } := by
          rw [eth]
          exact thrI_of (set_get (S := noted S undef i t.op t.ce c.cb c.cb) ht)
        show 24 * (c :: rest).length + wt _ _ (.wait (c :: rest) ii ans) + 1 ≤ 24 * (c :: rest).length + 1
        have e2 : wt (waiting (noted S undef i (thrI S i).op (thrI S i).ce c.cb c.cb) i (thrI S i) 2 6 (which c.ca nk)) (thrI (waiting (noted S undef i (thrI S i).op (thrI S i).ce c.cb c.cb) i (thrI S i) 2 6 (which c.ca nk)) i) (.wait (c :: rest) ii ans) = 0 := by
          rw [e1]
          exact if_pos rfl
        rw [show wt _ _ (Ph.wait (c :: rest) ii ans) = 0 from e2]
        exact Nat.le_refl _
    · obtain ⟨s, h1, h2, h3⟩ := hb rest ii ans (ansC c (cellAt K (which c.ca nk)).2).1 (ansC c (cellAt K (which c.ca nk)).2).2 (didS S undef i (thrI S i) (effC c (cellAt K (which c.ca nk)).2).1.1 (effC c (cellAt K (which c.ca nk)).2).1.2) (K.set (which c.ca nk) ((cellAt K (which c.ca nk)).1, (effC c (cellAt K (which c.ca nk)).2).2.1)) (by rw [did_n]; exact Nat.le_refl _)
      exact .inr ⟨s, by show _ + s + 1 = rest.length + 1; omega, h2, h3⟩
  | .wait (c :: rest) ii ans, hf, _, hr =>
    rw [resume_wait]
    split
    · obtain ⟨s, h1, h2, h3⟩ := hb rest ii ans 4 0 S K (Nat.le_succ _)
      exact .inr ⟨s, by show _ + s + 1 = rest.length + 1; omega, h2, h3⟩
    · rename_i hs
      left
      refine ⟨rfl, Nat.le_refl _, ?_⟩
      have h2 : wt S t (.wait (c :: rest) ii ans) = 2 := if_neg ((hr _ _ _ rfl).resolve_left (by simpa using hs))
      rw [h2]
      show 24 * (c :: rest).length + 1 + 1 ≤ _
      exact Nat.le_refl _
  | .turn [] _ _, hf, _, _ => exact hf.elim
  | .wait [] _ _, hf, _, _ => exact hf.elim
  | .done _, _, hl, _ => exact absurd hl (by simp)

theorem resume_good (nk i : Nat) (l : Ph) (S : TS) (K : List (Nat × Int)) (t : Thr) (ht : S.thr[i]? = some t) (hl : (∃ r k a, l = .turn r k a) ∨ ∃ r k a, l = .wait r k a) (hf : FitsN nk l t) :
    ∃ t', (resume i nk l S K).1.thr[i]? = some t' ∧ FitsN nk (resume i nk l S K).2.2 t' ∧ StN (resume i nk l S K).2.2 t' := by
  match l, hf, hl with
  | .turn (c :: rest) ii ans, hf, _ =>
    obtain ⟨t1, h1, h2⟩ := resume_fits i nk c rest ii ans S K t ht _ (.inl rfl) hf
    obtain ⟨t2, k1, k2⟩ := resume_st i nk c rest ii ans S K t ht _ (.inl rfl)
    rw [h1] at k1; cases k1
    exact ⟨t1, h1, h2, k2⟩
  | .wait (c :: rest) ii ans, hf, _ =>
    obtain ⟨t1, h1, h2⟩ := resume_fits i nk c rest ii ans S K t ht _ (.inr rfl) hf
    obtain ⟨t2, k1, k2⟩ := resume_st i nk c rest ii ans S K t ht _ (.inr rfl)
    rw [h1] at k1; cases k1
    exact ⟨t1, h1, h2, k2⟩
  | .turn [] _ _, hf, _ => exact hf.elim
  | .wait [] _ _, hf, _ => exact hf.elim
  | .done _, _, hl => exact absurd hl (by simp)

theorem fits_st0 {nk : Nat} {l : Ph} {t : Thr} (hl : (∃ r k a, l = .turn r k a) ∨ ∃ r k a, l = .wait r k a) (h : FitsN nk l t) : FitsN nk l { t with st := 0 } := by
  match l, h, hl with
  | .turn (c :: _) _ _, h, _ => exact h
  | .turn [] _ _, h, _ => exact h.elim
  | .wait (c :: _) _ _, h, _ => exact h
  | .wait [] _ _, h, _ => exact h.elim
  | .done _, _, hl => exact absurd hl (by simp)

theorem pturn_mu {nk : Nat} {p p1 : PSt} (g : Good nk p) (e : pturn nk p = some p1) : Good nk p1 ∧ mu p1 < mu p ∧ p1.S.n + mu p1 ≤ p.S.n + mu p := by
  unfold pturn at e
  split at e
  · rename_i h0
    split at e
    · rename_i hw
      cases e
      unfold waits2 at hw
      rw [List.any_eq_true] at hw
      obtain ⟨i, hi, hst⟩ := hw
      cases ht : p.S.thr[i]? with
      | none => rw [ht] at hst; cases hst
      | some t =>
        rw [ht] at hst
        have hst : t.st = 2 := by simpa using hst
        have hs : p.S.stk = false := by
          cases hs : p.S.stk with
          | false => rfl
          | true =>
            have : i ∈ rdyIds p.S p.S.thr.length := by
              unfold rdyIds
              rw [List.mem_filter]
              exact ⟨hi, by rw [ht]; simp [rdy, hst, hs]⟩
            rw [h0] at this; cases this
        have hmu : mu ⟨stuckS p.S undef, p.K, p.l⟩ + 1 = mu p := by
          unfold mu
          rw [hs]
          show 0 + ((List.range p.S.thr.length).map (wtI ⟨stuckS p.S undef, p.K, p.l⟩)).sum + 1 = 1 + _
          have : wtI ⟨stuckS p.S undef, p.K, p.l⟩ = wtI p := rfl
          rw [this]; omega
        refine ⟨⟨g.len, g.sit⟩, by omega, ?_⟩
        show p.S.n + 1 + _ ≤ _
        omega
    · cases e
  · rename_i h0
    obtain ⟨t, ht, hrd⟩ := nextI_in h0
    generalize hi : nextI p.S = i at ht e
    have eth : thrI p.S i = t := thrI_of ht
    rw [eth] at e
    obtain ⟨hfit, hst⟩ := g.sit i t ht
    have hl : (∃ r k a, p.l i = .turn r k a) ∨ ∃ r k a, p.l i = .wait r k a := by
      match hpl : p.l i, hst with
      | .turn r k a, _ => exact .inl ⟨r, k, a, rfl⟩
      | .wait r k a, _ => exact .inr ⟨r, k, a, rfl⟩
      | .done a, hst =>
        exfalso
        have : t.st = 3 := hst
        simp [rdy, this] at hrd
    have hk := going_keeps (S := p.S) (i := i) (t := t)
    have hgt := going_thr ht
    have hw : ∀ r k a, p.l i = .wait r k a → (going p.S i t).stk = true ∨ chgOf (going p.S i t).chg ({ t with st := 0 } : Thr).ce ≠ ({ t with st := 0 } : Thr).se := fun r k a hpl => by
      rw [hpl] at hst
      have hst : t.st = 2 := hst
      rw [hk.1, hk.2.1]
      have : p.S.stk = true ∨ ¬ chgOf p.S.chg t.ce = t.se := by simpa [rdy, hst] using hrd
      exact this
    have hm := resume_mu nk i (p.l i) (going p.S i t) p.K { t with st := 0 } hgt hl (fits_st0 hl hfit) hw
    have hg := resume_good nk i (p.l i) (going p.S i t) p.K { t with st := 0 } hgt hl (fits_st0 hl hfit)
    have sta := resume_sta i nk (p.l i) (going p.S i t) p.K
    generalize resume i nk (p.l i) (going p.S i t) p.K = R at e hm hg sta
    cases e
    have hilt : i < p.S.thr.length := (List.getElem?_eq_some_iff.1 ht).1
    have hlen : R.1.thr.length = p.S.thr.length := by rw [sta.len, going_len]
    have hoth : ∀ j, j ≠ i → R.1.thr[j]? = p.S.thr[j]? := fun j hj => by rw [sta.oth j hj, going_oth hj]
    have hstk : R.1.stk = p.S.stk := by rw [sta.stk, hk.2.1]
    have hwi : wtI ⟨R.1, R.2.1, upd p.l i R.2.2⟩ i = 24 * R.2.2.left + wt R.1 (thrI R.1 i) R.2.2 := by
      show 24 * (upd p.l i R.2.2 i).left + wt R.1 (thrI R.1 i) (upd p.l i R.2.2 i) = _
      rw [upd_same]
    have hwi0 : wtI p i = 24 * (p.l i).left + wt p.S t (p.l i) := by unfold wtI; rw [eth]
    have hwt : wt (going p.S i t) { t with st := 0 } (p.l i) = wt p.S t (p.l i) := by
      cases p.l i with
      | turn _ _ _ => rfl
      | done _ => rfl
      | wait _ _ _ => show (if chgOf (going p.S i t).chg t.ce = t.se then 0 else 2) = if _ then 0 else 2; rw [hk.1]
    rw [hwt] at hm
    have hj : ∀ j, j ≠ i → thrI R.1 j = thrI p.S j := fun j hne => by unfold thrI; rw [hoth j hne]
    have key : ∃ d, 1 ≤ d ∧ R.1.n ≤ p.S.n + d ∧ ((List.range R.1.thr.length).map (wtI ⟨R.1, R.2.1, upd p.l i R.2.2⟩)).sum + d ≤ ((List.range p.S.thr.length).map (wtI p)).sum := by
      rw [hlen]
      rcases hm with ⟨m1, m2, m3⟩ | ⟨s, m1, m2, m3⟩
      · refine ⟨1, Nat.le_refl _, by rw [hk.2.2.1] at m2; exact m2, ?_⟩
        have := sum_drop (wtI p) (wtI ⟨R.1, R.2.1, upd p.l i R.2.2⟩) 0 1 i p.S.thr.length hilt (fun j _ hne => by
          show 24 * (upd p.l i R.2.2 j).left + wt R.1 (thrI R.1 j) (upd p.l i R.2.2 j) ≤ _
          rw [upd_ne _ _ hne, hj j hne]
          have e3 : wt R.1 (thrI p.S j) (p.l j) = wt p.S (thrI p.S j) (p.l j) := by
            cases p.l j with
            | turn _ _ _ => rfl
            | done _ => rfl
            | wait _ _ _ => show (if chgOf R.1.chg _ = _ then 0 else 2) = if _ then 0 else 2; rw [m1, hk.1]
          rw [e3]
          exact Nat.le_refl _) (by rw [hwi, hwi0]; exact m3)
        omega
      · refine ⟨3 + 2 * s, by omega, by rw [hk.2.2.1] at m3; omega, ?_⟩
        have := sum_drop (wtI p) (wtI ⟨R.1, R.2.1, upd p.l i R.2.2⟩) 2 (23 + 24 * s) i p.S.thr.length hilt (fun j _ hne => by
          show 24 * (upd p.l i R.2.2 j).left + wt R.1 (thrI R.1 j) (upd p.l i R.2.2 j) ≤ _
          rw [upd_ne _ _ hne]
          have := wt_le R.1 (thrI R.1 j) (p.l j)
          unfold wtI
          omega) (by rw [hwi, hwi0]; omega)
        have h8 := g.len
        omega
    obtain ⟨d, d1, d2, d3⟩ := key
    refine ⟨⟨by rw [hlen]; exact g.len, fun j tj htj => ?_⟩, ?_, ?_⟩
    · by_cases hne : j = i
      · subst hne
        obtain ⟨t', g1, g2⟩ := hg
        have htj : R.1.thr[j]? = some tj := htj
        rw [g1] at htj
        obtain rfl := Option.some.inj htj
        show FitsN nk (upd p.l j R.2.2 j) _ ∧ StN (upd p.l j R.2.2 j) _
        rw [upd_same]
        exact g2
      · show FitsN nk (upd p.l i R.2.2 j) tj ∧ StN (upd p.l i R.2.2 j) tj
        rw [upd_ne _ _ hne]
        have htj : R.1.thr[j]? = some tj := htj
        exact g.sit j tj (by rw [← hoth j hne]; exact htj)
    · unfold mu
      show (if R.1.stk then 0 else 1) + ((List.range R.1.thr.length).map (wtI ⟨R.1, R.2.1, upd p.l i R.2.2⟩)).sum < _
      rw [hstk]
      omega
    · unfold mu
      show R.1.n + ((if R.1.stk then 0 else 1) + ((List.range R.1.thr.length).map (wtI ⟨R.1, R.2.1, upd p.l i R.2.2⟩)).sum) ≤ _
      rw [hstk]
      omega

/-- The turns come to an end. -/
theorem turns_end {nk : Nat} : ∀ (m : Nat) (p : PSt), mu p ≤ m → Good nk p → ∃ n p', n ≤ m ∧ Turns nk n p p' ∧ p'.S.n ≤ p.S.n + mu p := by
  intro m
  induction m with
  | zero =>
    intro p hm g
    cases e : pturn nk p with
    | none => exact ⟨0, p, Nat.le_refl _, .stop e, Nat.le_add_right _ _⟩
    | some p1 => have := (pturn_mu g e).2.1; omega
  | succ m ih =>
    intro p hm g
    cases e : pturn nk p with
    | none => exact ⟨0, p, Nat.zero_le _, .stop e, Nat.le_add_right _ _⟩
    | some p1 =>
      obtain ⟨g1, h1, h2⟩ := pturn_mu g e
      obtain ⟨n, p', k1, k2, k3⟩ := ih p1 (by omega) g1
      exact ⟨n + 1, p', by omega, .step e k2, by omega⟩

/-- Behind the hiring all threads sit. -/
theorem hires_good {nk : Nat} {k : Nat} {ss : List Scr} {S S' : TS} {l l' : Nat → Ph} (h : Hires nk k ss S l S' l') (hk : S.thr.length = k) (h8 : k + ss.length ≤ 8) (hs : ∀ i t, S.thr[i]? = some t → FitsN nk (l i) t ∧ StN (l i) t) :
    S'.thr.length = k + ss.length ∧ (∀ i t, S'.thr[i]? = some t → FitsN nk (l' i) t ∧ StN (l' i) t) ∧ S'.n ≤ S.n + 2 * lens ss ∧ ((List.range S'.thr.length).map fun i => (l' i).left).sum ≤ ((List.range S.thr.length).map fun i => (l i).left).sum + lens ss := by
  induction h with
  | nil => exact ⟨by simpa using hk, hs, Nat.le_add_right _ _, Nat.le_add_right _ _⟩
  | @cons k s ss S S' l l' tv tb gc h ih =>
    have hlen : (hiredS S tv tb gc).thr.length = k + 1 := by simp [hiredS, hk]
    obtain ⟨t0, ht0⟩ : ∃ t0, (hiredS S tv tb gc).thr[k]? = some t0 := ⟨_, List.getElem?_eq_getElem (by omega)⟩
    have sta := flow_sta k nk s.calls 0 false s.ans (hiredS S tv tb gc)
    obtain ⟨t1, f1, f2⟩ := flow_fits k nk s.calls 0 false s.ans (hiredS S tv tb gc) t0 ht0
    obtain ⟨t2, g1, g2⟩ := flow_st k nk s.calls 0 false s.ans (hiredS S tv tb gc) t0 ht0
    rw [f1] at g1; cases g1
    have hle := flow_le k nk s.calls 0 false s.ans (hiredS S tv tb gc)
    have hlf := (flow_left k nk s.calls 0 false s.ans (hiredS S tv tb gc)).1
    have hn0 : (hiredS S tv tb gc).n = S.n := rfl
    simp only [List.length_cons] at h8
    obtain ⟨i1, i2, i3, i4⟩ := ih (by rw [sta.len, hlen]) (by omega) (fun i t ht => by
      by_cases hi : i = k
      · subst hi
        rw [f1] at ht; cases ht
        rw [upd_same]
        exact ⟨f2, g2⟩
      · rw [upd_ne _ _ hi]
        rw [sta.oth i hi] at ht
        refine hs i t ?_
        have : i < k := by
          have := (List.getElem?_eq_some_iff.1 ht).1
          omega
        simpa [hiredS, List.getElem?_append, hk, this] using ht)
    refine ⟨by rw [i1]; simp only [List.length_cons]; omega, i2, ?_, ?_⟩
    · simp only [lens, List.map_cons, List.sum_cons] at i3 ⊢
      omega
    · have e1 : (flow k nk s.calls 0 false s.ans (hiredS S tv tb gc)).1.thr.length = k + 1 := by rw [sta.len, hlen]
      rw [e1, List.range_succ, List.map_append, List.sum_append] at i4
      simp only [List.map_cons, List.map_nil, List.sum_cons, List.sum_nil] at i4
      rw [upd_same] at i4
      have e2 : (List.range k).map (fun i => (upd l k (flow k nk s.calls 0 false s.ans (hiredS S tv tb gc)).2 i).left) = (List.range k).map (fun i => (l i).left) := List.map_congr_left (fun i hi => by
        have : i < k := List.mem_range.1 hi
        rw [upd_ne _ _ (by omega)])
      rw [e2] at i4
      rw [hk]
      simp only [lens, List.map_cons, List.sum_cons] at i4 ⊢
      omega

theorem mu_le (p : PSt) (h8 : p.S.thr.length ≤ 8) : mu p ≤ 17 + 24 * ((List.range p.S.thr.length).map fun i => (p.l i).left).sum := by
  have h : ∀ k, ((List.range k).map (wtI p)).sum ≤ 24 * ((List.range k).map fun i => (p.l i).left).sum + 2 * k := fun k => by
    induction k with
    | zero => simp
    | succ k ih =>
      rw [List.range_succ, List.map_append, List.map_append, List.sum_append, List.sum_append]
      simp only [List.map_cons, List.map_nil, List.sum_cons, List.sum_nil]
      have := wt_le p.S (thrI p.S k) (p.l k)
      unfold wtI at ih ⊢
      omega
  have := h p.S.thr.length
  unfold mu
  split <;> omega

/-- So a Play of up to eight scripts comes to its end. -/
theorem play_ends {nk : Nat} {ss : List Scr} {S S1 : TS} {l0 l1 : Nat → Ph} {K : List (Nat × Int)} (h : Hires nk 0 ss S l0 S1 l1) (h0 : S.thr = []) (h8 : ss.length ≤ 8) (hl : lens ss ≤ 512) (hn : S.n = 0) :
    ∃ m p', m ≤ 12305 ∧ Turns nk m ⟨S1, K, l1⟩ p' ∧ p'.S.n * 40 ≤ 140737488355328 := by
  obtain ⟨a1, a2, a3, a4⟩ := hires_good h (by rw [h0]; rfl) (by omega) (fun i t ht => by rw [h0] at ht; cases ht)
  have g : Good nk ⟨S1, K, l1⟩ := ⟨by show S1.thr.length ≤ 8; omega, a2⟩
  have hm := mu_le ⟨S1, K, l1⟩ g.len
  rw [h0] at a4
  simp only [List.length_nil, List.range_zero, List.map_nil, List.sum_nil] at a4
  have hm2 : mu ⟨S1, K, l1⟩ ≤ 12305 := by
    refine Nat.le_trans hm ?_
    show 17 + 24 * ((List.range S1.thr.length).map fun i => (l1 i).left).sum ≤ 12305
    omega
  obtain ⟨m, p', k1, k2, k3⟩ := turns_end 12305 ⟨S1, K, l1⟩ hm2 g
  refine ⟨m, p', k1, k2, ?_⟩
  have k3 : p'.S.n ≤ S1.n + mu ⟨S1, K, l1⟩ := k3
  omega
end Go.Proofs.Ytfjjoohflcchnaa
