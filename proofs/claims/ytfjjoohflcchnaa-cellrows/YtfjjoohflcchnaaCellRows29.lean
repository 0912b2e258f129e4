/- CellRows returns true, whatever the schedule, the values and the scripts, and leaves what it was given as it was: of the law's statement as given, with no condition of our own. Part 29 of 33. (Joined, by program, of: New7, Trace9, PlayNo.) -/
import Derived.Test.YtfjjoohflcchnaaCellRows28
import Derived.Deep.RegionLaw
set_option linter.unusedSimpArgs false
set_option linter.unusedVariables false
namespace Go.Proofs.Ytfjjoohflcchnaa
open Go Go.Lift Go.Conc Go.RowKit

/-- A new world. -/
def newS (wb bk base : Nat) (sc : Value) (xs : List Int) : TS :=
  { wb := wb, bk := bk, base := base, us := 0, n := 0, la := -1, sc := sc, cv := .slice none 0 0, ths := .slice none 0 0, tv := .slice none 0 0, sched := xs, chg := [], tr := [], stk := false, ran := false, thr := [] }
/-- It lies there. -/
structure IsNew (v : World) (xs : List Int) (wb bk : Nat) (sc : Value) (v' : World) : Prop where
  mem : Mem zn (newS wb bk v.heap.size sc xs) [] v'
  opn : Open v' bk
  new : ∀ b, Own (newS wb bk v.heap.size sc xs) [] b ∨ b = bk → v.heap.size ≤ b
  old : Grows v v'

abbrev rowNew (sc : Value) (bk : Nat) : Array Value := #[sc, I 0, I (-1), .slice none 0 0, .slice none 0 0, .slice none 0 0, .bool false, .bool false, .chan (some bk)]
theorem new_rep {v u v' : World} {xs : List Int} {g cap bk m : Nat} (hg : Grows v u) (hown : u.ownsRow v.heap.size 3 1 (.slice (some ⟨g, 0, none⟩) m cap) m (xs.map I)) (hl : xs.length = m) (hbk : u.heap[bk]? = some (.chan 0 #[] false 0 0 false)) (hb : v.heap.size ≤ bk)
    (hh : v'.heap = u.heap.push (.cells (rowNew (.slice (some ⟨g, 0, none⟩) m cap) bk) 83)) (ho : v'.os = u.os) (hu : v'.output = u.output) : IsNew v xs u.heap.size bk (.slice (some ⟨g, 0, none⟩) m cap) v' := by
  have hold : ∀ b, b < u.heap.size → v'.heap[b]? = u.heap[b]? := fun b hb => by rw [hh, Array.getElem?_push, if_neg (by omega)]
  have hs' : v'.heap.size = u.heap.size + 1 := by rw [hh]; simp
  have hgl := own_lt hown g rfl
  have hsz := hg.size
  have hblk : ∀ k b, blk (newS u.heap.size bk v.heap.size (.slice (some ⟨g, 0, none⟩) m cap) xs) k = some b → (k = 0 ∧ b = u.heap.size) ∨ (k = 4 ∧ b = g) := fun k b hk => by
    match k, hk with
    | 0, hk => cases hk; exact .inl ⟨rfl, rfl⟩
    | 1, hk => cases hk
    | 2, hk => cases hk
    | 3, hk => cases hk
    | 4, hk => cases hk; exact .inr ⟨rfl, rfl⟩
    | k + 5, hk => simp [blk, newS] at hk
  have hnil : v'.ownsRow v.heap.size 3 1 (.slice none 0 0) 0 [] := World.ownsRow_nil _ _ _ _
  refine ⟨⟨⟨?_, fun i t ht => by simp [newS] at ht, World.ownsRow_nil _ _ _ _, World.ownsRow_nil _ _ _ _, World.ownsRow_nil _ _ _ _, ?_, by show v.heap.size ≤ _; omega, fun j k b hj hk => ?_, fun b n h => by cases h⟩, fun j c hc => by simp at hc, fun j c hc => by simp at hc, fun i j c d hc => by simp at hc, rfl⟩, ⟨0, 0, ?_⟩, fun b hb' => ?_, ⟨by omega, fun b hb' => by rw [hold b (by omega), hg.old b hb'], ho.trans hg.os, hu.trans hg.output⟩⟩
  · show v'.heap[u.heap.size]? = _
    rw [hh]
    exact Array.getElem?_push_size
  · show v'.ownsRow v.heap.size 3 1 _ xs.length (xs.map I)
    rw [hl]
    exact own_stay (fun b hb => hold b (own_lt hown b hb).2) hown
  · rcases hblk j b hj with ⟨rfl, e1⟩ | ⟨rfl, e1⟩ <;> rcases hblk k b hk with ⟨rfl, e2⟩ | ⟨rfl, e2⟩ <;> first | rfl | omega
  · rw [hold bk (Array.getElem?_eq_some_iff.1 hbk).1]; exact hbk
  · rcases hb' with (⟨k, hk⟩ | ⟨j, c, hc, _⟩) | rfl
    · rcases hblk k b hk with ⟨_, rfl⟩ | ⟨_, rfl⟩
      · exact hsz
      · exact hgl.1
    · simp at hc
    · exact hb

set_option maxHeartbeats 2000000 in
set_option maxRecDepth 100000 in
theorem body7 {v : World} (vb vo cap : Nat) (xs : List Int) (hx0 : 0 < xs.length) (hx1 : xs.length ≤ 17592186043904) (hv : ∀ k x, xs[k]? = some x → v.cell? ⟨vb, vo + k, none⟩ = some (I x)) :
    Body Try.f18 #[.slice (some ⟨vb, vo, none⟩) xs.length cap] v (fun r v' => ∃ wb bk sc, r = Pt wb 0 ∧ IsNew v xs wb bk sc v') := by
  intro code hb
  obtain rfl := Option.some.inj hb
  clear hb
  obtain ⟨x0, hx00⟩ : ∃ x, xs[0]? = some x := ⟨_, List.getElem?_eq_getElem hx0⟩
  have hvl : vb < v.heap.size := World.block_lt_of_cell? _ _ (hv 0 x0 hx00)
  have hnews : ∀ u : World, u.heap[vb]? = v.heap[vb]? → ∀ j y, (xs.map I)[j]? = some y → u.cell? ((⟨vb, vo, none⟩ : Addr).add j) = some y := fun u hu j y hj => by
    have hadd : (⟨vb, vo, none⟩ : Addr).add j = ⟨vb, vo + j, none⟩ := by unfold Addr.add; split <;> simp_all
    rw [hadd, World.cell?_of_block (w := v) (w' := u) hu]
    rw [List.getElem?_map] at hj
    cases hk : xs[j]? with
    | none => rw [hk] at hj; cases hj
    | some x =>
      rw [hk] at hj
      cases hj
      exact hv j x hk
  have h1 : ∀ u ∈ xs.map I, u.oneCell' = true := fun u hu => by
    simp only [List.mem_map] at hu
    obtain ⟨x, _, rfl⟩ := hu
    rfl
  have HW : Hid (∀ u : World, u.heap[vb]? = v.heap[vb]? → ∀ j y, (xs.map I)[j]? = some y → u.cell? ((⟨vb, vo, none⟩ : Addr).add j) = some y) := ⟨hnews⟩
  have H1 : Hid (∀ u ∈ xs.map I, u.oneCell' = true) := ⟨h1⟩
  have HX : Hid (0 < xs.length ∧ xs.length ≤ 17592186043904 ∧ vb < v.heap.size) := ⟨⟨hx0, hx1, hvl⟩⟩
  clear hv hnews h1 hx00 hx0 hx1 hvl
  have hmk := run_mk
  obtain ⟨j0, hj, hj0, hj1, hj2⟩ := info_parts info3
  simp only [Try.ntmps18, List.size_toArray, List.length_cons, List.length_nil, Nat.reduceAdd, Nat.reduceSub, Array.replicate_succ, Array.replicate_zero, List.push_toArray, List.append_toArray, List.nil_append, List.cons_append]
  go_wp2_with fail
  go_region_law
    (refine step_append_lies _ rfl (.const (.slice none 0 0)) (.tmp 3) 22 rfl v.heap.size 3 j0 _ 1 8 Try.underlying22 hj hj0 hj1 hj2 rfl (by decide) (.slice none 0 0) 0 [] rfl (World.ownsRow_nil _ _ _ _) ⟨vb, vo, none⟩ xs.length cap (xs.map I) rfl (by simp) (HW.out _ (by first | rfl | (show (v.heap.push _)[vb]? = _; rw [Array.getElem?_push, if_neg (by have := HX.out; omega)]))) H1.out HX.out.1 (by have := HX.out; unfold maxLen; omega) (by have := HX.out; omega) (by simp) _ rfl ?_
     intro g cpg w6 hown6 hgrow6 hat6 hlt6)
  · have g6 : Grows v (w6.alloc (.chan 0 #[] false 0 0 false)) := by
      have hs : v.heap.size ≤ w6.heap.size := hgrow6.size
      refine ⟨by show _ ≤ (w6.heap.push _).size; simp; omega, fun b hb => ?_, hgrow6.os, hgrow6.output⟩
      show (w6.heap.push _)[b]? = _
      rw [Array.getElem?_push, if_neg (by omega)]
      exact hgrow6.block b hb (fun e => by cases e)
    have hN : IsNew v xs (w6.heap.size + 1) w6.heap.size (.slice (some ⟨g, 0, none⟩) xs.length cpg) ((w6.alloc (.chan 0 #[] false 0 0 false)).alloc (.cells (rowNew (.slice (some ⟨g, 0, none⟩) xs.length cpg) w6.heap.size) 83)) := by
      have := new_rep (v := v) (u := w6.alloc (.chan 0 #[] false 0 0 false)) (v' := (w6.alloc (.chan 0 #[] false 0 0 false)).alloc (.cells (rowNew (.slice (some ⟨g, 0, none⟩) xs.length cpg) w6.heap.size) 83)) (xs := xs) (g := g) (cap := cpg) (bk := w6.heap.size) (m := xs.length) g6 (own_stay (fun b hb => ?_) (by rw [Nat.zero_add, List.nil_append] at hown6; exact hown6)) rfl Array.getElem?_push_size hgrow6.size rfl rfl rfl
      · rw [show (w6.alloc (.chan 0 #[] false 0 0 false)).heap.size = w6.heap.size + 1 by show (w6.heap.push _).size = _; simp] at this
        exact this
      · cases hb
        show (w6.heap.push _)[g]? = _
        rw [Array.getElem?_push, if_neg (by omega)]
    have HN : Hid _ := ⟨hN⟩
    clear hN g6 hgrow6 hown6 hat6 hlt6
    go_wp2
    go_ret
    exact ⟨_, rfl, w6.heap.size + 1, w6.heap.size, _, rfl, HN.out⟩
  · have hb0 : ∀ b, b < v.heap.size + 1 → w6.heap[b]? = (v.alloc (.chan 0 #[] false 0 0 false)).heap[b]? := fun b hb => hgrow6.block b (by show b < (v.heap.push _).size; simp; omega) (fun e => by cases e)
    have hs : v.heap.size + 1 ≤ w6.heap.size := by
      have := hgrow6.size
      have e : (v.alloc (.chan 0 #[] false 0 0 false)).drew.heap.size = v.heap.size + 1 := by show (v.heap.push _).size = _; simp
      omega
    have g6 : Grows v w6 := by
      refine ⟨by omega, fun b hb => ?_, hgrow6.os, hgrow6.output⟩
      rw [hb0 b (by omega)]
      show (v.heap.push _)[b]? = _
      rw [Array.getElem?_push, if_neg (by omega)]
    have hN : IsNew v xs w6.heap.size v.heap.size (.slice (some ⟨g, 0, none⟩) xs.length cpg) (w6.alloc (.cells (rowNew (.slice (some ⟨g, 0, none⟩) xs.length cpg) v.heap.size) 83)) :=
      new_rep (v := v) (u := w6) (xs := xs) (g := g) (cap := cpg) (bk := v.heap.size) (m := xs.length) g6 (by rw [Nat.zero_add, List.nil_append] at hown6; exact hown6) rfl (by rw [hb0 _ (by omega)]; exact Array.getElem?_push_size) (Nat.le_refl _) rfl rfl rfl
    have HN : Hid _ := ⟨hN⟩
    clear hN g6 hgrow6 hown6 hat6 hlt6 hb0 hs
    go_wp2
    go_ret
    exact ⟨_, rfl, w6.heap.size, v.heap.size, _, rfl, HN.out⟩
end Go.Proofs.Ytfjjoohflcchnaa

namespace Go.Proofs.Ytfjjoohflcchnaa
open Go Go.Lift Go.Conc Go.RowKit


set_option maxHeartbeats 2000000 in
set_option maxRecDepth 100000 in
theorem body9 {z : Nat → Option Nat} {S : TS} {v : World} (h : Rep z S v) (h0 : 0 < S.n) (hn : S.n * 40 ≤ 140737488355328) (h1 : ∀ u ∈ S.tr, u.oneCell' = true) :
    Body Try.f20 #[Pt S.wb 0] v (fun r v' => ∃ g cap, r = .slice (some ⟨g, 0, none⟩) S.n cap ∧ v'.ownsRow v.heap.size 34 5 (.slice (some ⟨g, 0, none⟩) S.n cap) S.n S.tr ∧ Grows v v' ∧ v.heap.size ≤ g) := by
  intro code hb
  obtain rfl := Option.some.inj hb
  clear hb
  have c5 := h.wcell.2.2.2.2.2.1
  obtain ⟨g0, cap0, e0, _, hg0⟩ := h.own.form h0
  rw [e0] at c5
  have hcs := h.own.cells (g := g0) (by rw [e0]; rfl)
  have hln : S.tr.length = S.n * 5 := h.own.1
  have HH : Hid ((∀ j u, S.tr[j]? = some u → v.cell? ((⟨g0, 0, none⟩ : Addr).add j) = some u) ∧ (∀ u ∈ S.tr, u.oneCell' = true) ∧ 0 < S.n ∧ S.n * 40 ≤ 140737488355328 ∧ S.tr.length = S.n * 5) := ⟨⟨hcs, h1, h0, hn, hln⟩⟩
  clear hcs h1 h0 hn hln h e0
  obtain ⟨j0, hj, hj0, hj1, hj2⟩ := info_parts info34
  simp only [Try.ntmps20, List.size_toArray, List.length_cons, List.length_nil, Nat.reduceAdd, Nat.reduceSub, Array.replicate_succ, Array.replicate_zero, List.push_toArray, List.append_toArray, List.nil_append, List.cons_append]
  go_wp2_with (first
    | (refine wpList_append_lies _ rfl (.const (.slice none 0 0)) (.tmp 8) 31 rfl v.heap.size 34 j0 _ 5 40 Try.underlying31 hj hj0 hj1 hj2 rfl (by decide) (.slice none 0 0) 0 [] rfl (World.ownsRow_nil _ _ _ _) ⟨g0, 0, none⟩ S.n cap0 S.tr rfl HH.out.2.2.2.2 HH.out.1 HH.out.2.1 HH.out.2.2.1 (by have := HH.out.2.2.2.1; unfold maxLen; omega) (by have := HH.out.2.2.2.1; omega) (Nat.le_refl _) _ rfl ?_
       intro g cpg w6 hown6 hgrow6 hat6 hlt6))
  go_ret
  refine ⟨_, rfl, g, cpg, rfl, ?_, ⟨hgrow6.size, fun b hb => hgrow6.block b hb (fun e => by cases e), hgrow6.os, hgrow6.output⟩, ?_⟩
  · rw [Nat.zero_add, List.nil_append] at hown6
    exact hown6
  · rcases hat6 with h | h
    · cases h
    · omega
end Go.Proofs.Ytfjjoohflcchnaa

namespace Go.Proofs.Ytfjjoohflcchnaa
open Go Go.Lift Go.Conc Go.RowKit

section
variable {S : TS} {v : World} {wb m vcap n cap : Nat} {vp : Option Addr} {p : Option Addr}

set_option maxHeartbeats 2000000 in
set_option maxRecDepth 100000 in
theorem p80_wpA (x1 x2 : Value) :
    p80.wp Try.prog (fun e a w' => e = .normal ∧ a = { tmps := #[Pt wb 0, x1, x2, undef, undef, undef, .slice none 0 0, I 0] ++ Array.replicate 34 undef, defers := [] } ∧ w'.heap = v.heap ∧ w'.os = v.os ∧ w'.output = v.output)
      { tmps := #[Pt wb 0, x1, x2] ++ Array.replicate 39 undef, defers := [] } v := by
  show Code.wp Try.prog (seq1 (Try.f19.body.getD .skip)) _ _ _
  unfold Try.f19 seq1
  simp only [Option.getD_some, Array.replicate_succ, Array.replicate_zero, List.push_toArray, List.append_toArray, List.nil_append, List.cons_append]
  go_wp2_with fail
  try exact ⟨rfl, rfl, rfl⟩

/-- What Play answers where it refuses for its scripts' sake. -/
def Refused (n : Nat) (ln : Nat → Nat) (E : Int) : Prop := ((∃ k, k < n ∧ 64 < ln k) ∧ E = 2) ∨ ((∀ k, k < n → ln k ≤ 64) ∧ (n = 0 ∨ 8 < n) ∧ E = 1)

set_option maxHeartbeats 2000000 in
set_option maxRecDepth 100000 in
theorem p81_no (h : Rep zn S v) (pc : Nat → Option Addr) (ln cp : Nat → Nat) (hs : ∀ k, k < n → ∃ sb so, p = some ⟨sb, so, none⟩ ∧ v.cell? ⟨sb, so + k, none⟩ = some (.slice (pc k) (ln k) (cp k))) (hn : n ≤ 17592186043904) (hr : S.ran = false) (x1 : Value) {E : Int} (hE : Refused n ln E) :
    p81.wp Try.prog (fun e a w' => e = .ret ∧ ∃ x, (results Try.f19 a.tmps).run Try.prog w' = .ok x w' ∧ x = .tuple #[.slice none 0 0, I E] ∧ w'.heap = v.heap ∧ w'.os = v.os ∧ w'.output = v.output)
      { tmps := #[Pt S.wb 0, x1, .slice p n cap, undef, undef, undef, .slice none 0 0, I 0] ++ Array.replicate 34 undef, defers := [] } v := by
  have h19 := (body19 h p n cap hn pc ln cp hs).calls Try.func53 rfl
  have H19 : Hid (Calls Try.prog 53 #[Pt S.wb 0, .slice p n cap] v (fun e w' => e = .returned (I E) ∧ w' = v)) := ⟨h19.mono (by
    rintro e w' ⟨r, rfl, rfl, ⟨hk, rfl⟩ | ⟨hk, rfl⟩⟩
    · rcases hE with ⟨_, rfl⟩ | ⟨h1, _⟩
      · exact ⟨rfl, rfl⟩
      · obtain ⟨k, k1, k2⟩ := hk
        exact absurd (h1 k k1) (by omega)
    · rcases hE with ⟨⟨k, k1, k2⟩, _⟩ | ⟨_, h1, rfl⟩
      · exact absurd (hk k k1) (by omega)
      · refine ⟨?_, rfl⟩
        unfold checkE
        rw [if_pos (h1.imp_right .inl)])⟩
  have hE0 : ¬ E = 0 := by rcases hE with ⟨_, rfl⟩ | ⟨_, _, rfl⟩ <;> decide
  clear h19 h hs hn hr hE
  show Code.wp Try.prog (seq1 (seq2 (Try.f19.body.getD .skip))) _ _ _
  unfold Try.f19 seq1 seq2
  simp only [Option.getD_some, Array.replicate_succ, Array.replicate_zero, List.push_toArray, List.append_toArray, List.nil_append, List.cons_append]
  go_wp2_with (first
    | (go_at_call 53; refine H19.out.mono ?_; rintro e w1 ⟨rfl, rfl⟩))
  exact results_tmp2 (t := 6) (u := 7) rfl _ _ _

set_option maxHeartbeats 2000000 in
set_option maxRecDepth 100000 in
theorem p81_yes (h : Rep zn S v) (pc : Nat → Option Addr) (ln cp : Nat → Nat) (hs : ∀ k, k < n → ∃ sb so, p = some ⟨sb, so, none⟩ ∧ v.cell? ⟨sb, so + k, none⟩ = some (.slice (pc k) (ln k) (cp k))) (hln : ∀ k, k < n → ln k ≤ 64) (hn : 0 < n ∧ n ≤ 8) (hr : S.ran = false) (x1 : Value) :
    p81.wp Try.prog (fun e a w' => e = .normal ∧ a = { tmps := #[Pt S.wb 0, x1, .slice p n cap, undef, undef, undef, .slice none 0 0, I 0, I 0, undef, undef, undef, Pt S.wb 0, .slice p n cap, I 0, I 0, .bool false] ++ Array.replicate 25 undef, defers := [] } ∧ w'.heap = v.heap ∧ w'.os = v.os ∧ w'.output = v.output)
      { tmps := #[Pt S.wb 0, x1, .slice p n cap, undef, undef, undef, .slice none 0 0, I 0] ++ Array.replicate 34 undef, defers := [] } v := by
  have h19 := (body19 h p n cap (by omega) pc ln cp hs).calls Try.func53 rfl
  have he : checkE n S.ran = 0 := by unfold checkE; rw [if_neg (by rw [hr]; rintro (h | h | h) <;> first | omega | cases h)]
  have H19 : Hid (Calls Try.prog 53 #[Pt S.wb 0, .slice p n cap] v (fun e w' => e = .returned (I 0) ∧ w' = v)) := ⟨h19.mono (by
    rintro e w' ⟨r, rfl, rfl, ⟨⟨k, hk, h1⟩, _⟩ | ⟨_, rfl⟩⟩
    · exact absurd (hln k hk) (by omega)
    · rw [he]; exact ⟨rfl, rfl⟩)⟩
  clear h19 h hs hln hn hr he
  show Code.wp Try.prog (seq1 (seq2 (Try.f19.body.getD .skip))) _ _ _
  unfold Try.f19 seq1 seq2
  simp only [Option.getD_some, Array.replicate_succ, Array.replicate_zero, List.push_toArray, List.append_toArray, List.nil_append, List.cons_append]
  go_wp2_with (first
    | (go_at_call 53; refine H19.out.mono ?_; rintro e w1 ⟨rfl, rfl⟩))
  try exact ⟨rfl, rfl, rfl⟩

set_option maxHeartbeats 2000000 in
set_option maxRecDepth 100000 in
theorem p82_no (x2 : Value) :
    p82.wp Try.prog (fun e a w' => e = .ret ∧ ∃ x, (results Try.f19 a.tmps).run Try.prog w' = .ok x w' ∧ x = .tuple #[.slice none 0 0, I 1] ∧ w'.heap = v.heap ∧ w'.os = v.os ∧ w'.output = v.output)
      { tmps := #[Pt wb 0, .slice vp 0 vcap, x2, undef, undef, undef, .slice none 0 0, I 0, I 0, undef, undef, undef, Pt wb 0, x2, I 0, I 0, .bool false] ++ Array.replicate 25 undef, defers := [] } v := by
  show Code.wp Try.prog (seq1 (seq2 (seq2 (Try.f19.body.getD .skip)))) _ _ _
  unfold Try.f19 seq1 seq2
  simp only [Option.getD_some, Array.replicate_succ, Array.replicate_zero, List.push_toArray, List.append_toArray, List.nil_append, List.cons_append]
  go_wp2_with fail
  exact results_tmp2 (t := 6) (u := 7) rfl _ _ _
end

/-- Play refuses: no values, or scripts that it does not take. -/
theorem play8_no {Ch : Nat → Prop} {Stop : Goroutine → World → Prop} {main : Bool} {S : TS} {v w : World} (vp p : Option Addr) (m vcap n cap : Nat) (pc : Nat → Option Addr) (ln cp : Nat → Nat) (hs : ∀ k, k < n → ∃ sb so, p = some ⟨sb, so, none⟩ ∧ v.cell? ⟨sb, so + k, none⟩ = some (.slice (pc k) (ln k) (cp k))) (hn1 : n ≤ 17592186043904) (hran : S.ran = false) (hm : Mem zn S [] v)
    {E : Int} (hRe : Refused n ln E ∨ ((∀ k, k < n → ln k ≤ 64) ∧ (0 < n ∧ n ≤ 8) ∧ m = 0 ∧ E = 1)) (cs : List Frame) {bc : Frame} {ac : Act} {ops : Array Oper} {q : Nat} {rest : List Nat} {oc : Oper} {k : List Item} (hoc : ops[q]? = some oc)
    (hvw : Rel zn v w) (hn : NoRow Ch v)
    (hk : ∀ v' w', Rel zn v' w' → NoRow Ch v' → v'.heap = v.heap → v'.os = v.os → v'.output = v.output → GoesI Try.prog main (DT (ScZ zn) Ch) Stop (G (bc.at (ac.put oc.dst (.tuple #[.slice none 0 0, I E])) (.inRegion ops rest :: k)) cs) w') :
    GoesI Try.prog main (DT (ScZ zn) Ch) Stop (G ((base 19).at { tmps := #[Pt S.wb 0, .slice vp m vcap, .slice p n cap] ++ Array.replicate 39 undef, defers := [] } [.code B8]) (bc.at ac (.inRegion ops (q :: rest) :: k) :: cs)) w := by
  rw [eB8]
  refine goesI_seq (dt_idle _ _) ?_
  refine goesI_plain (z := zn) (wr := true) (L := LO) (I := NoRow Ch) hE fineO noRow_keeps (fun v v' w w' es hi hr ho he => dt_of_z v v' w w' es hi hr ho he) hvw fine80 rfl (by simp [base]) hn
    (Q := fun a w' => a = { tmps := #[Pt S.wb 0, .slice vp m vcap, .slice p n cap, undef, undef, undef, .slice none 0 0, I 0] ++ Array.replicate 34 undef, defers := [] } ∧ w'.heap = v.heap ∧ w'.os = v.os ∧ w'.output = v.output) (fun τ => p80_wpA (v := onTape v τ 0) _ _) ?_
  rintro a0 v0 w0 ⟨rfl, e0, o0, u0⟩ hr0 hn0 -
  have m0 : Mem zn S [] v0 := (hm.grows (v' := v0) ⟨by rw [e0]; exact Nat.le_refl _, fun b _ => by rw [e0], o0, u0⟩).mem
  have hs0 : ∀ τ, ∀ k, k < n → ∃ sb so, p = some ⟨sb, so, none⟩ ∧ (onTape v0 τ 0).cell? ⟨sb, so + k, none⟩ = some (.slice (pc k) (ln k) (cp k)) := fun τ k hk => by
    obtain ⟨sb, so, h1, h2⟩ := hs k hk
    exact ⟨sb, so, h1, by rw [World.cell?_of_block (w := v) (w' := onTape v0 τ 0) (by show v0.heap[_]? = _; rw [e0])]; exact h2⟩
  refine goesI_seq (dt_idle _ _) ?_
  rcases hRe with hRe | ⟨hE1, hE2, rfl, rfl⟩
  · refine goesI_outZ (c := p81) (f := 19) (fn := Try.f19) (L := LO) hE fineO hr0 hn0 Try.func19 fine81 rfl hoc (R := fun r w' => r = .tuple #[.slice none 0 0, I E] ∧ w'.heap = v0.heap ∧ w'.os = v0.os ∧ w'.output = v0.output) (fun τ => p81_no (v := onTape v0 τ 0) (m0.grows (v' := onTape v0 τ 0) ⟨Nat.le_refl _, fun _ _ => rfl, rfl, rfl⟩).mem.rep pc ln cp (hs0 τ) hn1 hran _ hRe) (fun r v' w' hR hr' hn' => ?_)
    obtain ⟨rfl, h1, h2, h3⟩ := hR
    exact hk v' w' hr' hn' (h1.trans e0) (h2.trans o0) (h3.trans u0)
  · refine goesI_plain (z := zn) (wr := true) (L := LO) (I := NoRow Ch) hE fineO noRow_keeps (fun v v' w w' es hi hr ho he => dt_of_z v v' w w' es hi hr ho he) hr0 fine81 rfl (by simp [base]) hn0
      (Q := fun a w' => a = { tmps := #[Pt S.wb 0, .slice vp 0 vcap, .slice p n cap, undef, undef, undef, .slice none 0 0, I 0, I 0, undef, undef, undef, Pt S.wb 0, .slice p n cap, I 0, I 0, .bool false] ++ Array.replicate 25 undef, defers := [] } ∧ w'.heap = v0.heap ∧ w'.os = v0.os ∧ w'.output = v0.output)
      (fun τ => p81_yes (v := onTape v0 τ 0) (m0.grows (v' := onTape v0 τ 0) ⟨Nat.le_refl _, fun _ _ => rfl, rfl, rfl⟩).mem.rep pc ln cp (hs0 τ) hE1 hE2 hran _) ?_
    rintro a1 v1 w1 ⟨rfl, e1, o1, u1⟩ hr1 hn1 -
    refine goesI_seq (dt_idle _ _) ?_
    refine goesI_outZ (c := p82) (f := 19) (fn := Try.f19) (L := LO) hE fineO hr1 hn1 Try.func19 fine82 rfl hoc (R := fun r w' => r = .tuple #[.slice none 0 0, I 1] ∧ w'.heap = v1.heap ∧ w'.os = v1.os ∧ w'.output = v1.output) (fun τ => p82_no (v := onTape v1 τ 0) _) (fun r v' w' hR hr' hn' => ?_)
    obtain ⟨rfl, h1, h2, h3⟩ := hR
    exact hk v' w' hr' hn' (h1.trans (e1.trans e0)) (h2.trans (o1.trans o0)) (h3.trans (u1.trans u0))

theorem new_rep0 {v u v' : World} {bk : Nat} (hg : Grows v u) (hbk : u.heap[bk]? = some (.chan 0 #[] false 0 0 false)) (hb : v.heap.size ≤ bk)
    (hh : v'.heap = u.heap.push (.cells (rowNew (.slice none 0 0) bk) 83)) (ho : v'.os = u.os) (hu : v'.output = u.output) : IsNew v [] u.heap.size bk (.slice none 0 0) v' := by
  have hold : ∀ b, b < u.heap.size → v'.heap[b]? = u.heap[b]? := fun b hb => by rw [hh, Array.getElem?_push, if_neg (by omega)]
  have hs' : v'.heap.size = u.heap.size + 1 := by rw [hh]; simp
  have hsz := hg.size
  have hblk : ∀ k b, blk (newS u.heap.size bk v.heap.size (.slice none 0 0) []) k = some b → k = 0 ∧ b = u.heap.size := fun k b hk => by
    match k, hk with
    | 0, hk => cases hk; exact ⟨rfl, rfl⟩
    | 1, hk => cases hk
    | 2, hk => cases hk
    | 3, hk => cases hk
    | 4, hk => cases hk
    | k + 5, hk => simp [blk, newS] at hk
  refine ⟨⟨⟨?_, fun i t ht => by simp [newS] at ht, World.ownsRow_nil _ _ _ _, World.ownsRow_nil _ _ _ _, World.ownsRow_nil _ _ _ _, World.ownsRow_nil _ _ _ _, by show v.heap.size ≤ _; omega, fun j k b hj hk => ?_, fun b n h => by cases h⟩, fun j c hc => by simp at hc, fun j c hc => by simp at hc, fun i j c d hc => by simp at hc, rfl⟩, ⟨0, 0, ?_⟩, fun b hb' => ?_, ⟨by omega, fun b hb' => by rw [hold b (by omega), hg.old b hb'], ho.trans hg.os, hu.trans hg.output⟩⟩
  · show v'.heap[u.heap.size]? = _
    rw [hh]
    exact Array.getElem?_push_size
  · rw [(hblk j b hj).1, (hblk k b hk).1]
  · rw [hold bk (Array.getElem?_eq_some_iff.1 hbk).1]; exact hbk
  · rcases hb' with (⟨k, hk⟩ | ⟨j, c, hc, _⟩) | rfl
    · rw [(hblk k b hk).2]; exact hsz
    · simp at hc
    · exact hb

set_option maxHeartbeats 2000000 in
set_option maxRecDepth 100000 in
theorem body70 {v : World} (p : Option Addr) (cap : Nat) : Body Try.f18 #[.slice p 0 cap] v (fun r v' => ∃ wb bk sc, r = Pt wb 0 ∧ IsNew v [] wb bk sc v') := by
  intro code hb
  obtain rfl := Option.some.inj hb
  clear hb
  have hmk := run_mk
  obtain ⟨j0, hj, hj0, hj1, hj2⟩ := info_parts info3
  have HN : ∀ v' : World, v'.heap = (v.heap.push (.chan 0 #[] false 0 0 false)).push (.cells (rowNew (.slice none 0 0) v.heap.size) 83) → v'.os = v.os → v'.output = v.output → IsNew v [] (v.heap.size + 1) v.heap.size (.slice none 0 0) v' := fun v' h4 h5 h6 => by
    have := new_rep0 (v := v) (u := v.alloc (.chan 0 #[] false 0 0 false)) (v' := v') (bk := v.heap.size) ⟨by show _ ≤ (v.heap.push _).size; simp, fun b hb => by show (v.heap.push _)[b]? = _; rw [Array.getElem?_push, if_neg (by omega)], rfl, rfl⟩ Array.getElem?_push_size (Nat.le_refl _) h4 h5 h6
    rw [show (v.alloc (.chan 0 #[] false 0 0 false)).heap.size = v.heap.size + 1 by show (v.heap.push _).size = _; simp] at this
    exact this
  have HN : Hid _ := ⟨HN⟩
  cases p
  all_goals
    simp only [Try.ntmps18, List.size_toArray, List.length_cons, List.length_nil, Nat.reduceAdd, Nat.reduceSub, Array.replicate_succ, Array.replicate_zero, List.push_toArray, List.append_toArray, List.nil_append, List.cons_append]
    go_wp2_with fail
    go_region_law fail
    all_goals
      go_wp2
      go_ret
      exact ⟨_, rfl, v.heap.size + 1, v.heap.size, _, rfl, HN.out _ rfl rfl rfl⟩

/-- A new world, whatever its schedule. -/
theorem body7A {v : World} (p : Option Addr) (vb vo cap : Nat) (xs : List Int) (hp : 0 < xs.length → p = some ⟨vb, vo, none⟩) (hx1 : xs.length ≤ 17592186043904) (hv : ∀ k x, xs[k]? = some x → v.cell? ⟨vb, vo + k, none⟩ = some (I x)) :
    Body Try.f18 #[.slice p xs.length cap] v (fun r v' => ∃ wb bk sc, r = Pt wb 0 ∧ IsNew v xs wb bk sc v') := by
  rcases Nat.eq_zero_or_pos xs.length with h0 | h0
  · obtain rfl := List.length_eq_zero_iff.1 h0
    exact body70 p cap
  · rw [hp h0]
    exact body7 vb vo cap xs h0 hx1 hv

set_option maxHeartbeats 2000000 in
set_option maxRecDepth 100000 in
theorem body90 {z : Nat → Option Nat} {S : TS} {v : World} (h : Rep z S v) (h0 : S.n = 0) : Body Try.f20 #[Pt S.wb 0] v (fun r v' => r = .slice none 0 0 ∧ v' = v) := by
  intro code hb
  obtain rfl := Option.some.inj hb
  clear hb
  have c5 := h.wcell.2.2.2.2.2.1
  obtain ⟨p0, cap0, e0⟩ : ∃ p cap, S.tv = .slice p 0 cap := by
    obtain ⟨p, cap, e⟩ := own_form h.own
    rw [h0] at e
    exact ⟨p, cap, e⟩
  rw [e0] at c5
  clear h e0
  obtain ⟨j0, hj, hj0, hj1, hj2⟩ := info_parts info34
  cases p0
  all_goals
    simp only [Try.ntmps20, List.size_toArray, List.length_cons, List.length_nil, Nat.reduceAdd, Nat.reduceSub, Array.replicate_succ, Array.replicate_zero, List.push_toArray, List.append_toArray, List.nil_append, List.cons_append]
    go_wp2
    go_ret
    exact ⟨_, rfl, rfl, rfl⟩

/-- A copy of the trace, new. -/
theorem body9A {z : Nat → Option Nat} {S : TS} {v : World} (h : Rep z S v) (hn : S.n * 40 ≤ 140737488355328) (h1 : ∀ u ∈ S.tr, u.oneCell' = true) :
    Body Try.f20 #[Pt S.wb 0] v (fun r v' => ∃ p g cap, r = .slice p S.n cap ∧ (0 < S.n → p = some ⟨g, 0, none⟩ ∧ v.heap.size ≤ g) ∧ (∀ j u, S.tr[j]? = some u → v'.cell? ⟨g, j, none⟩ = some u) ∧ Grows v v') := by
  rcases Nat.eq_zero_or_pos S.n with h0 | h0
  · intro code hb
    refine wp_mono (body90 h h0 code hb) (bp_mono fun r u hq => ?_)
    obtain ⟨rfl, rfl⟩ := hq
    have hl : S.tr = [] := by
      have := h.own.1
      rw [h0] at this
      exact List.length_eq_zero_iff.1 (by omega)
    refine ⟨none, 0, 0, by rw [h0], (fun h => by omega), (fun j x hj => ?_), ⟨Nat.le_refl _, fun _ _ => rfl, rfl, rfl⟩⟩
    rw [hl] at hj
    simp at hj
  · intro code hb
    refine wp_mono (body9 h h0 hn h1 code hb) (bp_mono fun r u hq => ?_)
    obtain ⟨g, cap, rfl, hown, hgr, hle⟩ := hq
    refine ⟨_, g, cap, rfl, fun _ => ⟨rfl, hle⟩, fun j x hj => ?_, hgr⟩
    have := hown.cells (g := g) rfl j x hj
    rw [show (⟨g, 0, none⟩ : Addr).add j = ⟨g, j, none⟩ by unfold Addr.add; split <;> simp_all] at this
    exact this
end Go.Proofs.Ytfjjoohflcchnaa
