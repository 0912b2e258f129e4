/- LatchAlone is true of the program at this commit: by one free thread alone, of a latch of no world, Down and Wait answer as a number says that is counted down, whatever the number and the calls; no conditions. Part 22 of 28. (Joined, by program, of: GNew, GPlay, GFree, Until2.) -/
import Derived.Test.YtfjjoohflcchnaaLatchAlone08
import Derived.Test.YtfjjoohflcchnaaLatchAlone12
import Derived.Test.YtfjjoohflcchnaaLatchAlone21
import Derived.Deep.RegionLaw
set_option linter.unusedSimpArgs false
set_option linter.unusedVariables false
namespace Go.Proofs.Ytfjjoohflcchnaa.Gen
open Go Go.Lift Go.Conc Go.RowKit


/-- A new world. -/
def newS (wb bk base : Nat) (sc : Value) (xs : List Int) : TS :=
  { wb := wb, bk := bk, base := base, us := 0, n := 0, la := -1, sc := sc, cv := .slice none 0 0, ths := .slice none 0 0, tv := .slice none 0 0, sched := xs, chg := [], tr := [], stk := false, ran := false, thr := [] }
/-- It lies there. -/
structure IsNew (v : World) (xs : List Int) (wb bk : Nat) (sc : Value) (v' : World) : Prop where
  mem : Mem zn (newS wb bk v.heap.size sc xs) [] v'
  opn : Open v' bk
  new : ∀ b, Own (newS wb bk v.heap.size sc xs) [] b ∨ b = bk → v.heap.size ≤ b
  old : Grows v v'

abbrev rowNew (sc : Value) (bk : Nat) : Array Value := #[sc, I 0, I (-1), .slice none 0 0, .slice none 0 0, .slice none 0 0, .bool false, .bool false, .chan (some bk)]
set_option maxHeartbeats 2000000 in
set_option maxRecDepth 100000 in
theorem body9 {z : Nat → Option Nat} {S : TS} {v : World} (h : Rep z S v) (h0 : 0 < S.n) (hn : S.n * 40 ≤ 140737488355328) (h1 : ∀ u ∈ S.tr, u.oneCell' = true) :
    Body Try.f20 #[Pt S.wb 0] v (fun r v' => ∃ g cap, r = .slice (some ⟨g, 0, none⟩) S.n cap ∧ v'.ownsRow v.heap.size 34 5 (.slice (some ⟨g, 0, none⟩) S.n cap) S.n S.tr ∧ Grows v v' ∧ v.heap.size ≤ g) := by
  intro code hb
  obtain rfl := Option.some.inj hb
  clear hb
  have c5 := h.wcell.2.2.2.2.2.1
  obtain ⟨g0, cap0, e0, _, hg0⟩ := h.own.form h0
  rw [e0] at c5
  have hcs := h.own.cells (g := g0) (by rw [e0]; rfl)
  have hln : S.tr.length = S.n * 5 := h.own.1
  have HH : Hid ((∀ j u, S.tr[j]? = some u → v.cell? ((⟨g0, 0, none⟩ : Addr).add j) = some u) ∧ (∀ u ∈ S.tr, u.oneCell' = true) ∧ 0 < S.n ∧ S.n * 40 ≤ 140737488355328 ∧ S.tr.length = S.n * 5) := ⟨⟨hcs, h1, h0, hn, hln⟩⟩
  clear hcs h1 h0 hn hln h e0
  obtain ⟨j0, hj, hj0, hj1, hj2⟩ := info_parts info34
  simp only [Try.ntmps20, List.size_toArray, List.length_cons, List.length_nil, Nat.reduceAdd, Nat.reduceSub, Array.replicate_succ, Array.replicate_zero, List.push_toArray, List.append_toArray, List.nil_append, List.cons_append]
  go_wp2_with (first
    | (refine wpList_append_lies _ rfl (.const (.slice none 0 0)) (.tmp 8) 31 rfl v.heap.size 34 j0 _ 5 40 Try.underlying31 hj hj0 hj1 hj2 rfl (by decide) (.slice none 0 0) 0 [] rfl (World.ownsRow_nil _ _ _ _) ⟨g0, 0, none⟩ S.n cap0 S.tr rfl HH.out.2.2.2.2 HH.out.1 HH.out.2.1 HH.out.2.2.1 (by have := HH.out.2.2.2.1; unfold maxLen; omega) (by have := HH.out.2.2.2.1; omega) (Nat.le_refl _) _ rfl ?_
       intro g cpg w6 hown6 hgrow6 hat6 hlt6))
  go_ret
  refine ⟨_, rfl, g, cpg, rfl, ?_, ⟨hgrow6.size, fun b hb => hgrow6.block b hb (fun e => by cases e), hgrow6.os, hgrow6.output⟩, ?_⟩
  · rw [Nat.zero_add, List.nil_append] at hown6
    exact hown6
  · rcases hat6 with h | h
    · cases h
    · omega

theorem new_rep0 {v u v' : World} {bk : Nat} (hg : Grows v u) (hbk : u.heap[bk]? = some (.chan 0 #[] false 0 0 false)) (hb : v.heap.size ≤ bk)
    (hh : v'.heap = u.heap.push (.cells (rowNew (.slice none 0 0) bk) 83)) (ho : v'.os = u.os) (hu : v'.output = u.output) : IsNew v [] u.heap.size bk (.slice none 0 0) v' := by
  have hold : ∀ b, b < u.heap.size → v'.heap[b]? = u.heap[b]? := fun b hb => by rw [hh, Array.getElem?_push, if_neg (by omega)]
  have hs' : v'.heap.size = u.heap.size + 1 := by rw [hh]; simp
  have hsz := hg.size
  have hblk : ∀ k b, blk (newS u.heap.size bk v.heap.size (.slice none 0 0) []) k = some b → k = 0 ∧ b = u.heap.size := fun k b hk => by
    match k, hk with
    | 0, hk => cases hk; exact ⟨rfl, rfl⟩
    | 1, hk => cases hk
    | 2, hk => cases hk
    | 3, hk => cases hk
    | 4, hk => cases hk
    | k + 5, hk => simp [blk, newS] at hk
  refine ⟨⟨⟨?_, fun i t ht => by simp [newS] at ht, World.ownsRow_nil _ _ _ _, World.ownsRow_nil _ _ _ _, World.ownsRow_nil _ _ _ _, World.ownsRow_nil _ _ _ _, by show v.heap.size ≤ _; omega, fun j k b hj hk => ?_, fun b n h => by cases h⟩, fun j c hc => by simp at hc, fun j c hc => by simp at hc, fun i j c d hc => by simp at hc, rfl⟩, ⟨0, 0, ?_⟩, fun b hb' => ?_, ⟨by omega, fun b hb' => by rw [hold b (by omega), hg.old b hb'], ho.trans hg.os, hu.trans hg.output⟩⟩
  · show v'.heap[u.heap.size]? = _
    rw [hh]
    exact Array.getElem?_push_size
  · rw [(hblk j b hj).1, (hblk k b hk).1]
  · rw [hold bk (Array.getElem?_eq_some_iff.1 hbk).1]; exact hbk
  · rcases hb' with (⟨k, hk⟩ | ⟨j, c, hc, _⟩) | rfl
    · rw [(hblk k b hk).2]; exact hsz
    · simp at hc
    · exact hb

set_option maxHeartbeats 2000000 in
set_option maxRecDepth 100000 in
theorem body70 {v : World} (p : Option Addr) (cap : Nat) : Body Try.f18 #[.slice p 0 cap] v (fun r v' => ∃ wb bk sc, r = Pt wb 0 ∧ IsNew v [] wb bk sc v') := by
  intro code hb
  obtain rfl := Option.some.inj hb
  clear hb
  have hmk := run_mk
  obtain ⟨j0, hj, hj0, hj1, hj2⟩ := info_parts info3
  have HN : ∀ v' : World, v'.heap = (v.heap.push (.chan 0 #[] false 0 0 false)).push (.cells (rowNew (.slice none 0 0) v.heap.size) 83) → v'.os = v.os → v'.output = v.output → IsNew v [] (v.heap.size + 1) v.heap.size (.slice none 0 0) v' := fun v' h4 h5 h6 => by
    have := new_rep0 (v := v) (u := v.alloc (.chan 0 #[] false 0 0 false)) (v' := v') (bk := v.heap.size) ⟨by show _ ≤ (v.heap.push _).size; simp, fun b hb => by show (v.heap.push _)[b]? = _; rw [Array.getElem?_push, if_neg (by omega)], rfl, rfl⟩ Array.getElem?_push_size (Nat.le_refl _) h4 h5 h6
    rw [show (v.alloc (.chan 0 #[] false 0 0 false)).heap.size = v.heap.size + 1 by show (v.heap.push _).size = _; simp] at this
    exact this
  have HN : Hid _ := ⟨HN⟩
  cases p
  all_goals
    simp only [Try.ntmps18, List.size_toArray, List.length_cons, List.length_nil, Nat.reduceAdd, Nat.reduceSub, Array.replicate_succ, Array.replicate_zero, List.push_toArray, List.append_toArray, List.nil_append, List.cons_append]
    go_wp2_with fail
    go_region_law fail
    all_goals
      go_wp2
      go_ret
      exact ⟨_, rfl, v.heap.size + 1, v.heap.size, _, rfl, HN.out _ rfl rfl rfl⟩

set_option maxHeartbeats 2000000 in
set_option maxRecDepth 100000 in
theorem body90 {z : Nat → Option Nat} {S : TS} {v : World} (h : Rep z S v) (h0 : S.n = 0) : Body Try.f20 #[Pt S.wb 0] v (fun r v' => r = .slice none 0 0 ∧ v' = v) := by
  intro code hb
  obtain rfl := Option.some.inj hb
  clear hb
  have c5 := h.wcell.2.2.2.2.2.1
  obtain ⟨p0, cap0, e0⟩ : ∃ p cap, S.tv = .slice p 0 cap := by
    obtain ⟨p, cap, e⟩ := own_form h.own
    rw [h0] at e
    exact ⟨p, cap, e⟩
  rw [e0] at c5
  clear h e0
  obtain ⟨j0, hj, hj0, hj1, hj2⟩ := info_parts info34
  cases p0
  all_goals
    simp only [Try.ntmps20, List.size_toArray, List.length_cons, List.length_nil, Nat.reduceAdd, Nat.reduceSub, Array.replicate_succ, Array.replicate_zero, List.push_toArray, List.append_toArray, List.nil_append, List.cons_append]
    go_wp2
    go_ret
    exact ⟨_, rfl, rfl, rfl⟩

/-- A copy of the trace, new. -/
theorem body9A {z : Nat → Option Nat} {S : TS} {v : World} (h : Rep z S v) (hn : S.n * 40 ≤ 140737488355328) (h1 : ∀ u ∈ S.tr, u.oneCell' = true) :
    Body Try.f20 #[Pt S.wb 0] v (fun r v' => ∃ p g cap, r = .slice p S.n cap ∧ (0 < S.n → p = some ⟨g, 0, none⟩ ∧ v.heap.size ≤ g) ∧ (∀ j u, S.tr[j]? = some u → v'.cell? ⟨g, j, none⟩ = some u) ∧ Grows v v') := by
  rcases Nat.eq_zero_or_pos S.n with h0 | h0
  · intro code hb
    refine wp_mono (body90 h h0 code hb) (bp_mono fun r u hq => ?_)
    obtain ⟨rfl, rfl⟩ := hq
    have hl : S.tr = [] := by
      have := h.own.1
      rw [h0] at this
      exact List.length_eq_zero_iff.1 (by omega)
    refine ⟨none, 0, 0, by rw [h0], (fun h => by omega), (fun j x hj => ?_), ⟨Nat.le_refl _, fun _ _ => rfl, rfl, rfl⟩⟩
    rw [hl] at hj
    simp at hj
  · intro code hb
    refine wp_mono (body9 h h0 hn h1 code hb) (bp_mono fun r u hq => ?_)
    obtain ⟨g, cap, rfl, hown, hgr, hle⟩ := hq
    refine ⟨_, g, cap, rfl, fun _ => ⟨rfl, hle⟩, fun j x hj => ?_, hgr⟩
    have := hown.cells (g := g) rfl j x hj
    rw [show (⟨g, 0, none⟩ : Addr).add j = ⟨g, j, none⟩ by unfold Addr.add; split <;> simp_all] at this
    exact this
end Go.Proofs.Ytfjjoohflcchnaa.Gen

namespace Go.Proofs.Ytfjjoohflcchnaa.Gen
open Go Go.Lift Go.Conc Go.RowKit

/-- The world with k cells. -/
def cellsS (S : TS) (cv : Value) (k : Nat) : TS := { S with cv := cv, chg := List.replicate k 0 }
/-- Cells, and what else is new, are made. -/
structure Cel (z : Nat → Option Nat) (S : TS) (K : List (Nat × Int)) (v : World) (S' : TS) (K' : List (Nat × Int)) (v' : World) : Prop where
  mem : Mem z S' K' v'
  fr : Fr (Own S K) v v'
  own : ∀ b, Own S' K' b → Own S K b ∨ v.heap.size ≤ b
section
variable {z : Nat → Option Nat} {S S1 S2 : TS} {K K1 K2 : List (Nat × Int)} {v v1 v2 : World}
theorem Cel.refl (h : Mem z S K v) : Cel z S K v S K v := ⟨h, Fr.refl _ _, fun b h => .inl h⟩
theorem Cel.trans (h : Cel z S K v S1 K1 v1) (k : Cel z S1 K1 v1 S2 K2 v2) : Cel z S K v S2 K2 v2 := by
  refine ⟨k.mem, ⟨k.fr.os.trans h.fr.os, k.fr.output.trans h.fr.output, Nat.le_trans h.fr.size k.fr.size, fun b hb hs => ?_⟩, fun b hb => ?_⟩
  · rw [k.fr.block b (Nat.lt_of_lt_of_le hb h.fr.size) (fun e => (h.own b e).elim hs (fun e => by omega)), h.fr.block b hb hs]
  · rcases k.own b hb with e | e
    · exact h.own b e
    · exact .inr (Nat.le_trans h.fr.size e)
theorem Cel.push (h : Cel z S K v S1 K1 v1) {o : Obj} (e : v2.heap = v1.heap.push o) (e1 : v2.os = v1.os) (e2 : v2.output = v1.output) : Cel z S K v S1 K1 v2 := by
  have g : Grows v1 v2 := ⟨by rw [e]; simp, fun b hb => by rw [e, Array.getElem?_push, if_neg (by omega)], e1, e2⟩
  exact h.trans ⟨(h.mem.grows g).mem, ⟨e1, e2, g.size, fun b hb _ => g.old b hb⟩, fun b hb => .inl hb⟩
theorem Cel.same (h : Cel z S K v S1 K1 v1) (e : v2.heap = v1.heap) (e1 : v2.os = v1.os) (e2 : v2.output = v1.output) : Cel z S K v S1 K1 v2 := by
  have g : Grows v1 v2 := ⟨by rw [e]; exact Nat.le_refl _, fun b hb => by rw [e], e1, e2⟩
  exact h.trans ⟨(h.mem.grows g).mem, ⟨e1, e2, g.size, fun b hb _ => g.old b hb⟩, fun b hb => .inl hb⟩
theorem Cel.from (h : Cel z S K v1 S1 K1 v2) (e : v1.heap = v.heap) (e1 : v1.os = v.os) (e2 : v1.output = v.output) : Cel z S K v S1 K1 v2 :=
  ⟨h.mem, ⟨h.fr.os.trans e1, h.fr.output.trans e2, by rw [← e]; exact h.fr.size, fun b hb hs => by rw [h.fr.block b (by rw [e]; exact hb) hs, e]⟩, fun b hb => by rw [← e]; exact h.own b hb⟩
end

/-- The scripts lie there. -/
structure Asked (v : World) (S : TS) (n sb so : Nat) (pc : Nat → Option Addr) (ln cp rb : Nat → Nat) (cl : Nat → List Cl) : Prop where
  len : ∀ j, j < n → (cl j).length = ln j ∧ ln j ≤ 64
  row : ∀ k, k < n → v.cell? ⟨sb, so + k, none⟩ = some (.slice (pc k) (ln k) (cp k))
  far : ¬ Own S [] sb
  pq : ∀ j, j < n → 0 < ln j → pc j = some ⟨rb j, roOf (pc j), none⟩ ∧ ¬ Own S [] (rb j)
  call : ∀ j, j < n → ∀ (k : Nat) (c : Cl), (cl j)[k]? = some c → v.cell? ⟨rb j, roOf (pc j) + k * 4, none⟩ = some (I c.po) ∧ v.cell? ⟨rb j, roOf (pc j) + k * 4 + 1, none⟩ = some (I c.ca) ∧ v.cell? ⟨rb j, roOf (pc j) + k * 4 + 2, none⟩ = some (I c.cb) ∧ v.cell? ⟨rb j, roOf (pc j) + k * 4 + 3, none⟩ = some (I c.cc)
  ca : ∀ j, j < n → ∀ c ∈ cl j, -9223372036854775808 ≤ c.ca ∧ c.ca < 9223372036854775808

/-- The Play's objects are made: its cells, and what of its memory the threads read. -/
structure Objs (v : World) (S : TS) (xs : List Int) (pk : Nat → Option Obj) (S1 : TS) (K : List (Nat × Int)) (u : World) : Prop where
  cel : Cel zn S [] v S1 K u
  vals : K.map (·.2) = xs
  st : ∃ cv, S1 = cellsS S cv xs.length
  has : Has pk u
  new : ∀ b, pk b ≠ none → v.heap.size ≤ b ∧ ¬ Own S1 K b
  row : ∀ b o, pk b = some o → ∃ c e f, o = .cells c e f
theorem Objs.same {v : World} {S : TS} {xs : List Int} {pk : Nat → Option Obj} {S1 : TS} {K : List (Nat × Int)} {u u' : World} (h : Objs v S xs pk S1 K u) (e : u'.heap = u.heap) (e1 : u'.os = u.os) (e2 : u'.output = u.output) : Objs v S xs pk S1 K u' :=
  ⟨h.cel.same e e1 e2, h.vals, h.st, fun b o hb => by rw [e]; exact h.has b o hb, h.new, h.row⟩

section
variable {v u : World} {S S1 : TS} {K : List (Nat × Int)} {n sb so : Nat} {pc : Nat → Option Addr} {ln cp rb : Nat → Nat} {cl : Nat → List Cl} {xs : List Int} {pk : Nat → Option Obj}
/-- What is known at play.Run's entry. -/
theorem told_of (hm : Mem zn S [] v) (hb : Open v S.bk) (t : Asked v S n sb so pc ln cp rb cl) (o : Objs v S xs pk S1 K u) :
    Told u S1 K pk n pc ln cp rb cl ∧ (∀ k, k < n → u.cell? ⟨sb, so + k, none⟩ = some (.slice (pc k) (ln k) (cp k))) ∧ Open u S.bk ∧ v.heap.size ≤ u.heap.size ∧
      ∀ b, b < v.heap.size → ¬ Own S [] b → u.heap[b]? = v.heap[b]? ∧ ¬ Own S1 K b := by
  have no : ∀ b, b < v.heap.size → ¬ Own S [] b → ¬ Own S1 K b := fun b hb ho h => (o.cel.own b h).elim ho (fun h => by omega)
  have same : ∀ b, b < v.heap.size → ¬ Own S [] b → u.heap[b]? = v.heap[b]? := fun b hb ho => o.cel.fr.block b hb ho
  have hcell : ∀ (a : Addr) (x : Value), ¬ Own S [] a.block → v.cell? a = some x → u.cell? a = some x := fun a x ho ha => by
    rw [World.cell?_of_block (w := v) (w' := u) (same a.block (World.block_lt_of_cell? _ _ ha) ho)]
    exact ha
  have hbkl : S.bk < v.heap.size := by obtain ⟨c, m, h⟩ := hb; exact (Array.getElem?_eq_some_iff.1 h).1
  have hbk : ¬ Own S [] S.bk := fun h => by
    obtain ⟨c, m, hh⟩ := hb
    obtain ⟨x, e, f, h1⟩ := hm.row h
    rw [h1] at hh; cases hh
  have hO : Open u S.bk := by
    obtain ⟨c, m, hh⟩ := hb
    exact ⟨c, m, by rw [same _ hbkl hbk]; exact hh⟩
  have e1 : S1.bk = S.bk := by obtain ⟨cv, rfl⟩ := o.st; rfl
  refine ⟨⟨o.has, fun b hb => ⟨(o.new b hb).2, by have := (o.new b hb).1; rw [e1]; omega⟩, o.row, t.len, fun j hj h0 => ?_, fun j hj k c hc => ?_, t.ca⟩, fun k hk => hcell _ _ t.far (t.row k hk), hO, o.cel.fr.size, fun b hb ho => ⟨same b hb ho, no b hb ho⟩⟩
  · have h1 := t.pq j hj h0
    obtain ⟨c, hc⟩ : ∃ c, (cl j)[0]? = some c := ⟨_, List.getElem?_eq_getElem (by have := t.len j hj; omega)⟩
    have hl := World.block_lt_of_cell? _ _ (t.call j hj 0 c hc).1
    exact ⟨h1.1, no _ hl h1.2⟩
  · have h0 : 0 < ln j := by have := (List.getElem?_eq_some_iff.1 hc).1; have := t.len j hj; omega
    have ho := (t.pq j hj h0).2
    have h4 := t.call j hj k c hc
    exact ⟨hcell _ _ ho h4.1, hcell _ _ ho h4.2.1, hcell _ _ ho h4.2.2.1, hcell _ _ ho h4.2.2.2⟩
end

/-- What lies there behind it: the answers' row at N. -/
structure GOut (w : World) (S : TS) (n : Nat) (ln : Nat → Nat) (N : Nat) (S' : TS) (K' : List (Nat × Int)) (l : Nat → Ph) (w' : World) : Prop where
  mem : Mem zn S' K' w'
  size : w.heap.size ≤ w'.heap.size
  low : w.heap.size ≤ N
  old : ∀ b, b < w.heap.size → ¬ Own S [] b → b ≠ S.bk → w'.heap[b]? = w.heap[b]? ∧ ¬ Own S' K' b
  rows : ∀ j, j < n → w'.cell? ⟨N + 1, j, none⟩ = some (.slice (some ⟨N + 4 + 3 * j + 2, 0, none⟩) (ln j) (ln j))
  ans : ∀ j, j < n → (l j).ans.length = ln j ∧ (0 < ln j → w'.heap[N + 4 + 3 * j + 2]? = some (.cells (arow (l j).ans).toArray 42 (0, 0))) ∧ ∃ a, l j = .done a
  os : w'.os = w.os
  out : w'.output = w.output

section
variable {mc : Mc} {fid : FuncId} {S : TS} {n sb so : Nat} {pc : Nat → Option Addr} {ln cp rb : Nat → Nat} {cl : Nat → List Cl} {xs : List Int}
set_option maxHeartbeats 1000000 in
/-- A Play, from wherever it stands ahead of making its objects: hG says that it comes to play.Run. -/
theorem gplay_all (P : Pkg mc fid) {Q : Array Value → (Nat → Option Obj) → List (Nat × Int) → Prop} (hQ : ∀ caps pk K, Q caps pk K → ∀ X : Fix mc, X.fid = fid → X.caps = caps → X.pk = pk → X.kb = K.map (·.1) → P.Mine X)
    {cap : Nat} {cs : List Frame} {bc : Frame} {ac : Act} {ops : Array Oper} {q0 : Nat} {rest : List Nat} {oc : Oper} {k0 : List Item} {w : World} {T : Trace} {gs : Array Goroutine} {q : Nat → Nat} (sl : Option (Nat × Nat)) (NT : Nat) (A : Alone gs w T q) {g0 : Goroutine} (hg : gs[0]? = some g0)
    (hG : GoesI Try.prog true (DT (ScZ zn) (fun _ => False)) (fun g w' => ∃ (bd : Frame) (ad : Act) (od : Array Oper) (qd : Nat) (rd : List Nat) (oe : Oper) (kd : List Item) (caps : Array Value) (pk : Nat → Option Obj) (S1 : TS) (K : List (Nat × Int)), Objs w S xs pk S1 K w' ∧ Q caps pk K ∧ od[qd]? = some oe ∧
      (∀ (Ch : Nat → Prop) (Stop : Goroutine → World → Prop) (w1 : World) (x : Value), (∀ d, GoesI Try.prog true (DT (ScZ zn) Ch) Stop (G (bc.at (ac.put oc.dst (.tuple #[x, I 0])) (.inRegion ops rest :: k0)) cs) (w1.at d)) → GoesI Try.prog true (DT (ScZ zn) Ch) Stop (G (bd.at (ad.put oe.dst x) (.inRegion od rd :: kd)) (bc.at ac (.inRegion ops (q0 :: rest) :: k0) :: cs)) w1) ∧
      g = G ((base 54).at { tmps := #[Pt S.wb 0, .slice (some ⟨sb, so, none⟩) n cap, .func (.func fid) #[] caps] ++ Array.replicate 36 undef, defers := [] } [.code B20]) (bd.at ad (.inRegion od (qd :: rd) :: kd) :: bc.at ac (.inRegion ops (q0 :: rest) :: k0) :: cs)) g0 w)
    (hm : Mem zn S [] w) (hthr : S.thr = []) (hran : S.ran = false) (hbk : Open w S.bk) (t : Asked w S n sb so pc ln cp rb cl) (hn8 : 0 < n ∧ n ≤ 8)
    (hlen : ∀ caps pk N K, S.n + 2 * lens (scrs mc fid caps pk N n K pc ln cp rb cl) ≤ 1000000) (hsl : S.sched.length ≤ 4611686018427387904) (hsc : ∀ x ∈ S.sched, -9223372036854775808 ≤ x ∧ x < 9223372036854775808) (l0 : Nat → Ph)
    (hturn : ∀ (caps : Array Value) (pk : Nat → Option Obj) (N : Nat) (cv : Value) (K : List (Nat × Int)), K.map (·.2) = xs → ∀ S1 l1, Hires mc 0 (scrs mc fid caps pk N n K pc ln cp rb cl) (nv { cellsS S cv xs.length with ran := true }) l0 S1 l1 → ∃ m p', m ≤ NT ∧ Turns mc m ⟨S1, K, l1⟩ p' ∧ p'.S.n * 40 ≤ 140737488355328) :
    ∃ (N' : Nat) (gs' : Array Goroutine) (w' : World) (sl' : Option (Nat × Nat)) (T' : Trace) (q' : Nat → Nat) (caps : Array Value) (pk : Nat → Option Obj) (N : Nat) (cv : Value) (K : List (Nat × Int)) (S' : TS) (S1 : TS) (l1 : Nat → Ph) (m : Nat) (p' : PSt),
      runNT Try.prog N' (crowd gs w sl) T = (.next (crowd gs' w' sl'), T') ∧ gs'.size = gs.size + n ∧ gs'[0]? = some (G (bc.at (ac.put oc.dst (.tuple #[.slice (some ⟨N + 1, 0, none⟩) n n, I 0])) (.inRegion ops rest :: k0)) cs) ∧
      Alone gs' w' T' q' ∧ K.map (·.2) = xs ∧ nv S' = p'.S ∧ Hires mc 0 (scrs mc fid caps pk N n K pc ln cp rb cl) (nv { cellsS S cv xs.length with ran := true }) l0 S1 l1 ∧ Turns mc m ⟨S1, K, l1⟩ p' ∧ GOut w S n ln N S' p'.K p'.l w' := by
  obtain ⟨N1, gs1, a1, w1, sl1, T1, q1, r1, z1, h1, ⟨bd, ad, od, qd, rd, oe, kd, caps, pk, S1, K, ho, hq, hoe, hback, rfl⟩, A1⟩ := alone_goes A hg sl hG
  obtain ⟨t1, hs1, hbk1, hsz1, hold1⟩ := told_of hm hbk t ho
  obtain ⟨cv, rfl⟩ := ho.st
  have hsb : sb < w1.heap.size := World.block_lt_of_cell? _ _ (hs1 0 hn8.1)
  obtain ⟨N2, gs2, w2, sl2, T2, q2, S2, S3, l1, m, p', r2, z2, h2, A2, hnv, hH, hT, O⟩ := run20_all P (hQ caps pk K hq) (S := cellsS S cv xs.length) (K := K) hoe sl1 NT A1 h1 ho.cel.mem hthr hran hbk1 t1 hs1 hsb hn8.2 (hlen _ _ _ _) hsl hsc l0 (hturn _ _ _ cv K ho.vals)
  obtain ⟨N3, gs3, a3, w3, sl3, T3, q3, r3, z3, h3, ⟨rfl, d3, rfl⟩, A3⟩ := alone_goes A2 h2 sl2 (hback (fun _ => False) (fun g w' => g = G (bc.at (ac.put oc.dst (.tuple #[.slice (some ⟨w1.heap.size + 1, 0, none⟩) n n, I 0])) (.inRegion ops rest :: k0)) cs ∧ ∃ d, w' = w2.at d) w2 _ (fun d => GoesI.stop fun d' => ⟨rfl, d', rfl⟩))
  refine ⟨N1 + N2 + N3, gs3, w2.at d3, sl3, T3, q3, caps, pk, w1.heap.size, cv, K, S2, S3, l1, m, p', runNT_then (runNT_then r1 r2) r3, by omega, h3, A3, ho.vals, hnv, hH, hT, ⟨(O.mem.grows (v' := w2.at d3) ⟨Nat.le_refl _, fun _ _ => rfl, rfl, rfl⟩).mem, Nat.le_trans hsz1 O.size, hsz1, fun b hb hob hk => ?_, O.rows, O.ans, O.os.trans ho.cel.fr.os, O.out.trans ho.cel.fr.output⟩⟩
  have h5 := hold1 b hb hob
  have h6 := O.old b (by omega) h5.2 hk
  exact ⟨h6.1.trans h5.1, h6.2⟩
end
end Go.Proofs.Ytfjjoohflcchnaa.Gen

namespace Go.Proofs.Ytfjjoohflcchnaa.Gen
open Go Go.Lift Go.Conc Go.RowKit


/-- A free thread, and a cell of no world. -/
structure Fm (tb cb : Nat) (x : Int) (v : World) : Prop where
  thr : v.heap[tb]? = some (.cells #[.pointer none, I 0, .chan none, I 0, I 0, I 0, I 0] 97 (0, 0))
  cel : v.heap[cb]? = some (.cells #[I 0, I x] 94 (0, 0))
structure Fto (tb cb : Nat) (x : Int) (v v' : World) : Prop where
  fm : Fm tb cb x v'
  old : ∀ b, b ≠ cb → v'.heap[b]? = v.heap[b]?
  size : v'.heap.size = v.heap.size
  os : v'.os = v.os
  out : v'.output = v.output
section
variable {tb cb : Nat} {x y : Int} {v v' v'' : World}
theorem Fm.cells (h : Fm tb cb x v) : v.cell? ⟨tb, 0, none⟩ = some (.pointer none) ∧ v.cell? ⟨cb, 0, none⟩ = some (I 0) ∧ v.cell? ⟨cb, 1, none⟩ = some (I x) ∧ v.frozen? ⟨cb, 1, none⟩ = false := by
  refine ⟨?_, ?_, ?_, ?_⟩
  · unfold World.cell?; rw [show v.heap[tb]? = _ from h.thr]; rfl
  · unfold World.cell?; rw [show v.heap[cb]? = _ from h.cel]; rfl
  · unfold World.cell?; rw [show v.heap[cb]? = _ from h.cel]; rfl
  · unfold World.frozen?; rw [show v.heap[cb]? = _ from h.cel]; rfl
theorem Fm.ne (h : Fm tb cb x v) : tb ≠ cb := fun e => by
  have h1 := h.thr
  rw [e, h.cel] at h1
  simp at h1
theorem Fto.refl (h : Fm tb cb x v) : Fto tb cb x v v := ⟨h, fun _ _ => rfl, rfl, rfl, rfl⟩
theorem Fto.same (h : Fto tb cb x v v') (e1 : v''.heap = v'.heap) (e2 : v''.os = v'.os) (e3 : v''.output = v'.output) : Fto tb cb x v v'' :=
  ⟨⟨by rw [e1]; exact h.fm.thr, by rw [e1]; exact h.fm.cel⟩, fun b hb => by rw [e1]; exact h.old b hb, by rw [e1]; exact h.size, e2.trans h.os, e3.trans h.out⟩
theorem Fto.set (h : Fm tb cb x v) (y : Int) : Fto tb cb y v (v.setCell ⟨cb, 1, none⟩ (I y)) :=
  ⟨⟨by rw [Below.heap_setCell _ _ _ _ h.ne]; exact h.thr, heap_setCell_same h.cel _⟩, fun b hb => Below.heap_setCell _ _ _ _ hb, by simp [World.setCell], rfl, rfl⟩
theorem Fto.base (h : Fto tb cb x v v') (e1 : v.heap = v''.heap) (e2 : v.os = v''.os) (e3 : v.output = v''.output) : Fto tb cb x v'' v' :=
  ⟨h.fm, fun b hb => by rw [← e1]; exact h.old b hb, by rw [← e1]; exact h.size, h.os.trans e2, h.out.trans e3⟩
theorem Fm.same (h : Fm tb cb x v) (e : v'.heap = v.heap) : Fm tb cb x v' := ⟨by rw [e]; exact h.thr, by rw [e]; exact h.cel⟩

theorem body27f (tb : Nat) (b a : Int) (v : World) (h : v.cell? ⟨tb, 0, none⟩ = some (.pointer none)) : Body Try.f61 #[Pt tb 0, I b, I a] v (fun r v' => r = .tuple #[] ∧ v' = v) := by
  intro code hb
  obtain rfl := Option.some.inj hb
  clear hb
  simp only [Try.ntmps61, List.size_toArray, List.length_cons, List.length_nil, Nat.reduceAdd, Nat.reduceSub, Array.replicate_succ, Array.replicate_zero, List.push_toArray, List.append_toArray, List.nil_append, List.cons_append]
  go_wp2_with fail
  exact ⟨rfl, _, results_none rfl _ _ _, _, rfl, rfl, rfl⟩
end

set_option maxHeartbeats 1000000 in
set_option maxRecDepth 100000 in
theorem free26 {Ch : Nat → Prop} {Stop : Goroutine → World → Prop} {main : Bool} {v w : World} (tb : Nat) (c o : Int) (ht : v.cell? ⟨tb, 0, none⟩ = some (.pointer none)) (cs : List Frame) {bc : Frame} {ac : Act} {ops : Array Oper} {q : Nat} {rest : List Nat} {oc : Oper} {k : List Item} (hoc : ops[q]? = some oc) (hvw : Rel zn v w) (hn : NoRow Ch v)
    (hk : ∀ w', Rel zn v w' → GoesI Try.prog main (DT (ScZ zn) Ch) Stop (G (bc.at (ac.put oc.dst (.tuple #[])) (.inRegion ops rest :: k)) cs) w') (code : Code) (hc : Try.f60.body = some code) :
    GoesI Try.prog main (DT (ScZ zn) Ch) Stop (G ((base 60).at { tmps := #[Pt tb 0, I c, I o] ++ Array.replicate 12 undef, defers := [] } [.code code]) (bc.at ac (.inRegion ops (q :: rest) :: k) :: cs)) w := by
  obtain rfl := Option.some.inj hc
  clear hc
  have e0 : w.cell? ⟨tb, 0, none⟩ = some (.pointer none) := by rw [hvw.cell?]; exact ht
  simp only [Array.replicate_succ, Array.replicate_zero, List.push_toArray, List.append_toArray, List.nil_append, List.cons_append]
  refine goesI_seq (dt_idle _ _) ?_
  refine goesI_region (dt_idle _ _) ?_
  simp only [List.size_toArray, List.length_cons, List.length_nil, Nat.reduceAdd, Nat.zero_add, List.range, List.range.loop]
  iterate 4
    (refine goesI_oper rfl rfl (by decide) (fun d K hK => ?_)
     go_simp
     refine hK _ _ ⟨dt_reads (fun e he => ?_), GoesI.at ?_ d⟩
     · have hm := mem_listed he
       simp [go_sem, *] at hm
       try exact ⟨_, _, hm⟩
     clear hK K)
  refine goesI_opZ (L := LT) rfl rfl (by decide) (fineOp_ask callT extT (by kernel_rfl)) hvw hn (v' := v) (x := .bool false) (by go_simp) rfl (fun w2 hr2 hn2 => ?_)
  refine goesI_regionEnd (dt_idle _ _) ?_
  refine goesI_cond (dt_idle _ _) (t := false) rfl ?_
  refine goesI_skip (dt_idle _ _) ?_
  refine goesI_end (dt_idle _ _) ?_
  exact goesI_leave (b := base 60) (fn := Try.f60) rfl rfl Try.func60 (res26 _) (ev26 _) hoc (dt_idle _ _) (hk w2 hr2)
set_option maxHeartbeats 1000000 in
set_option maxRecDepth 100000 in
theorem tailF17 {v : World} {tb cb : Nat} {x : Int} (hm : Fm tb cb x v) (a6 a7 a8 a9 a10 a11 : Value) :
    rest17.wp Try.prog (bodyPost Try.prog Try.f28 (fun e w' => ∃ r, e = .returned r ∧ (r = (effLoad x).2.2 ∧ Fto tb cb (effLoad x).2.1 v w')))
      { tmps := #[Pt cb 0, Pt tb 0, undef, undef, I 0, undef, a6, a7, a8, a9, a10, a11, undef, undef, undef, undef, undef, undef, undef, undef, undef], defers := [] } v := by
  obtain ⟨c0, _, c1, f1⟩ := hm.cells
  have HM : Hid (Fm tb cb x v) := ⟨hm⟩
  have HT : Hid (v.cell? ⟨tb, 0, none⟩ = some (.pointer none)) := ⟨by exact c0⟩
  clear hm
  show Code.wp Try.prog (seq2 (seq2 (Try.f28.body.getD .skip))) _ _ _
  unfold Try.f28 seq2
  simp only [Option.getD_some]
  go_wp2_with (first
    | (go_at_call 63; refine ((body29 cb x _ c1).calls Try.func63 rfl).mono ?_; rintro e w1 ⟨_, rfl, rfl, rfl⟩)
    | (go_at_call 61; refine ((body27f tb x x _ HT.out).calls Try.func61 rfl).mono ?_; rintro e w2 ⟨_, rfl, rfl, rfl⟩))
  go_ret
  exact ⟨_, rfl, rfl, Fto.refl HM.out⟩

set_option maxHeartbeats 1000000 in
set_option maxRecDepth 100000 in
theorem free17 {Ch : Nat → Prop} {Stop : Goroutine → World → Prop} {main : Bool} {v w : World} {tb cb : Nat} (x : Int) (cs : List Frame) {bc : Frame} {ac : Act} {ops : Array Oper} {q : Nat} {rest : List Nat} {oc : Oper} {k : List Item} (hoc : ops[q]? = some oc)
    (hvw : Rel zn v w) (hn : NoRow Ch v) (hm : Fm tb cb x v)
    (hk : ∀ v' w', Rel zn v' w' → NoRow Ch v' → Fto tb cb (effLoad x).2.1 v v' → GoesI Try.prog main (DT (ScZ zn) Ch) Stop (G (bc.at (ac.put oc.dst (effLoad x).2.2) (.inRegion ops rest :: k)) cs) w') (code : Code) (hc : Try.f28.body = some code) :
    GoesI Try.prog main (DT (ScZ zn) Ch) Stop (G ((base 28).at { tmps := #[Pt cb 0, Pt tb 0] ++ Array.replicate 19 undef, defers := [] } [.code code]) (bc.at ac (.inRegion ops (q :: rest) :: k) :: cs)) w := by
  obtain rfl := Option.some.inj hc
  clear hc
  have e0 : w.cell? ⟨cb, 0, none⟩ = some (I 0) := by rw [hvw.cell?]; exact hm.cells.2.1
  simp only [Array.replicate_succ, Array.replicate_zero, List.push_toArray, List.append_toArray, List.nil_append, List.cons_append]
  have HM : Hid (Fm tb cb x v) := ⟨hm⟩
  clear hm
  refine goesI_seq (dt_idle _ _) ?_
  refine goesI_region (dt_idle _ _) ?_
  simp only [List.size_toArray, List.length_cons, List.length_nil, Nat.reduceAdd, Nat.zero_add, List.range, List.range.loop]
  (refine goesI_oper rfl rfl (by decide) (fun d K hK => ?_)
   go_simp
   refine hK _ _ ⟨dt_reads (fun e he => ?_), GoesI.at ?_ d⟩
   · have hm := mem_listed he
     simp [go_sem, *] at hm
   clear hK K)
  refine goesI_regionEnd (dt_idle _ _) ?_
  refine goesI_seq (dt_idle _ _) ?_
  refine goesI_region (dt_idle _ _) ?_
  simp only [List.size_toArray, List.length_cons, List.length_nil, Nat.reduceAdd, Nat.zero_add, List.range, List.range.loop]
  iterate 5
    (refine goesI_oper rfl rfl (by decide) (fun d K hK => ?_)
     go_simp
     refine hK _ _ ⟨dt_reads (fun e he => ?_), GoesI.at ?_ d⟩
     · have hm := mem_listed he
       simp [go_sem, *] at hm
       try exact ⟨_, _, hm⟩
     clear hK K)
  refine goesI_into (f := 60) (fn := Try.f60) (args := #[Pt tb 0, I 0, I 1]) (dt_idle _ _) rfl rfl (by decide) rfl (by simp [Act.eval]) Try.func60 (by decide) rfl ?_
  refine free26 tb 0 1 HM.out.cells.1 _ rfl hvw hn (fun w1 hr1 => ?_) _ rfl
  clear e0 hvw
  refine goesI_regionEnd (dt_idle _ _) ?_
  refine goesI_rest (f := 28) (fn := Try.f28) (c := rest17) hE fineT hr1 hn Try.func28 fine17 rfl hoc res17 (fun τ => ?_) (fun r v' w' hR hr' hn' => ?_) (R := fun r w' => r = (effLoad x).2.2 ∧ Fto tb cb (effLoad x).2.1 v w')
  · exact wp_mono (tailF17 (HM.out.same (v' := onTape v τ 0) rfl) _ _ _ _ _ _) (bp_mono fun r u hq => ⟨hq.1, hq.2.base rfl rfl rfl⟩)
  · obtain ⟨rfl, he⟩ := hR
    exact hk v' w' hr' hn' he

set_option maxHeartbeats 1000000 in
set_option maxRecDepth 100000 in
theorem tailF14 {v : World} {tb cb : Nat} {x : Int} {a y : Int} (hm : Fm tb cb x v) (a10 a11 a12 a13 a14 a15 : Value) :
    rest14.wp Try.prog (bodyPost Try.prog Try.f25 (fun e w' => ∃ r, e = .returned r ∧ (r = (effCas a y x).2.2 ∧ Fto tb cb (effCas a y x).2.1 v w')))
      { tmps := #[Pt cb 0, Pt tb 0, I a, I y, undef, undef, undef, undef, .bool false, undef, a10, a11, a12, a13, a14, a15, undef, undef, undef, undef, undef, undef, undef, undef, undef, undef, undef, undef, undef, undef, undef, undef, undef, undef], defers := [] } v := by
  obtain ⟨c0, _, c1, f1⟩ := hm.cells
  have HM : Hid (Fm tb cb x v) := ⟨hm⟩
  by_cases hx : x = a
  · subst hx
    have HT : Hid ((v.setCell ⟨cb, 1, none⟩ (I y)).cell? ⟨tb, 0, none⟩ = some (.pointer none)) := ⟨by rw [World.cell?_of_block (Below.heap_setCell _ _ _ _ hm.ne)]; exact c0⟩
    have HQ : Hid (effCas x y x = ((x, y), y, .bool true)) := ⟨by simp [effCas]⟩
    rw [HQ.out]
    clear hm
    show Code.wp Try.prog (seq2 (seq2 (Try.f25.body.getD .skip))) _ _ _
    unfold Try.f25 seq2
    simp only [Option.getD_some]
    go_wp2_with (first
      | (go_at_call 62; refine ((body28 cb x y _ c1 f1).calls Try.func62 rfl).mono ?_; rintro e w1 ⟨_, rfl, rfl, rfl⟩)
      | (go_at_call 61; refine ((body27f tb x y _ HT.out).calls Try.func61 rfl).mono ?_; rintro e w2 ⟨_, rfl, rfl, rfl⟩))
    go_ret
    exact ⟨_, rfl, rfl, Fto.set HM.out _⟩
  have HT : Hid (v.cell? ⟨tb, 0, none⟩ = some (.pointer none)) := ⟨by exact c0⟩
  have HQ : Hid (effCas a y x = ((x, x), x, .bool false)) := ⟨by simp [effCas, hx]⟩
  rw [HQ.out]
  clear hm
  show Code.wp Try.prog (seq2 (seq2 (Try.f25.body.getD .skip))) _ _ _
  unfold Try.f25 seq2
  simp only [Option.getD_some]
  go_wp2_with (first
    | (go_at_call 62; refine ((body28n cb x a y _ c1 f1 hx).calls Try.func62 rfl).mono ?_; rintro e w1 ⟨_, rfl, rfl, rfl⟩)
    | (go_at_call 63; refine ((body29 cb x _ c1).calls Try.func63 rfl).mono ?_; rintro e w1 ⟨_, rfl, rfl, rfl⟩)
    | (go_at_call 61; refine ((body27f tb x x _ HT.out).calls Try.func61 rfl).mono ?_; rintro e w2 ⟨_, rfl, rfl, rfl⟩))
  go_ret
  exact ⟨_, rfl, rfl, Fto.refl HM.out⟩

set_option maxHeartbeats 1000000 in
set_option maxRecDepth 100000 in
theorem free14 {Ch : Nat → Prop} {Stop : Goroutine → World → Prop} {main : Bool} {v w : World} {tb cb : Nat} (a y : Int) (x : Int) (cs : List Frame) {bc : Frame} {ac : Act} {ops : Array Oper} {q : Nat} {rest : List Nat} {oc : Oper} {k : List Item} (hoc : ops[q]? = some oc)
    (hvw : Rel zn v w) (hn : NoRow Ch v) (hm : Fm tb cb x v)
    (hk : ∀ v' w', Rel zn v' w' → NoRow Ch v' → Fto tb cb (effCas a y x).2.1 v v' → GoesI Try.prog main (DT (ScZ zn) Ch) Stop (G (bc.at (ac.put oc.dst (effCas a y x).2.2) (.inRegion ops rest :: k)) cs) w') (code : Code) (hc : Try.f25.body = some code) :
    GoesI Try.prog main (DT (ScZ zn) Ch) Stop (G ((base 25).at { tmps := #[Pt cb 0, Pt tb 0, I a, I y] ++ Array.replicate 30 undef, defers := [] } [.code code]) (bc.at ac (.inRegion ops (q :: rest) :: k) :: cs)) w := by
  obtain rfl := Option.some.inj hc
  clear hc
  have e0 : w.cell? ⟨cb, 0, none⟩ = some (I 0) := by rw [hvw.cell?]; exact hm.cells.2.1
  simp only [Array.replicate_succ, Array.replicate_zero, List.push_toArray, List.append_toArray, List.nil_append, List.cons_append]
  have HM : Hid (Fm tb cb x v) := ⟨hm⟩
  clear hm
  refine goesI_seq (dt_idle _ _) ?_
  refine goesI_region (dt_idle _ _) ?_
  simp only [List.size_toArray, List.length_cons, List.length_nil, Nat.reduceAdd, Nat.zero_add, List.range, List.range.loop]
  (refine goesI_oper rfl rfl (by decide) (fun d K hK => ?_)
   go_simp
   refine hK _ _ ⟨dt_reads (fun e he => ?_), GoesI.at ?_ d⟩
   · have hm := mem_listed he
     simp [go_sem, *] at hm
   clear hK K)
  refine goesI_regionEnd (dt_idle _ _) ?_
  refine goesI_seq (dt_idle _ _) ?_
  refine goesI_region (dt_idle _ _) ?_
  simp only [List.size_toArray, List.length_cons, List.length_nil, Nat.reduceAdd, Nat.zero_add, List.range, List.range.loop]
  iterate 5
    (refine goesI_oper rfl rfl (by decide) (fun d K hK => ?_)
     go_simp
     refine hK _ _ ⟨dt_reads (fun e he => ?_), GoesI.at ?_ d⟩
     · have hm := mem_listed he
       simp [go_sem, *] at hm
       try exact ⟨_, _, hm⟩
     clear hK K)
  refine goesI_into (f := 60) (fn := Try.f60) (args := #[Pt tb 0, I 0, I 4]) (dt_idle _ _) rfl rfl (by decide) rfl (by simp [Act.eval]) Try.func60 (by decide) rfl ?_
  refine free26 tb 0 4 HM.out.cells.1 _ rfl hvw hn (fun w1 hr1 => ?_) _ rfl
  clear e0 hvw
  refine goesI_regionEnd (dt_idle _ _) ?_
  refine goesI_rest (f := 25) (fn := Try.f25) (c := rest14) hE fineT hr1 hn Try.func25 fine14 rfl hoc res14 (fun τ => ?_) (fun r v' w' hR hr' hn' => ?_) (R := fun r w' => r = (effCas a y x).2.2 ∧ Fto tb cb (effCas a y x).2.1 v w')
  · exact wp_mono (tailF14 (HM.out.same (v' := onTape v τ 0) rfl) _ _ _ _ _ _) (bp_mono fun r u hq => ⟨hq.1, hq.2.base rfl rfl rfl⟩)
  · obtain ⟨rfl, he⟩ := hR
    exact hk v' w' hr' hn' he


theorem body24n (v : World) : Body Try.f58 #[.pointer none] v (fun r v' => r = I 0 ∧ v' = v) := by
  intro code hb
  obtain rfl := Option.some.inj hb
  clear hb
  simp only [Try.ntmps58, List.size_toArray, List.length_cons, List.length_nil, Nat.reduceAdd, Nat.reduceSub, Array.replicate_succ, Array.replicate_zero, List.push_toArray, List.append_toArray, List.nil_append, List.cons_append]
  go_wp2_with fail
  go_ret
  exact ⟨_, rfl, rfl, rfl⟩
set_option maxHeartbeats 2000000 in
set_option maxRecDepth 100000 in
theorem body10n (v : World) (x : Int) : Body Try.f21 #[.pointer none, I x] v (fun r v' => r = Pt v.heap.size 0 ∧ v'.heap = v.heap.push (.cells #[I 0, I x] 94) ∧ v'.os = v.os ∧ v'.output = v.output) := by
  intro code hb
  obtain rfl := Option.some.inj hb
  clear hb
  simp only [Try.ntmps21, List.size_toArray, List.length_cons, List.length_nil, Nat.reduceAdd, Nat.reduceSub, Array.replicate_succ, Array.replicate_zero, List.push_toArray, List.append_toArray, List.nil_append, List.cons_append]
  go_wp2_with (first
    | (go_at_call 58; refine ((body24n v).calls Try.func58 rfl).mono ?_; rintro e w1 ⟨r1, rfl, rfl, rfl⟩)
    | (go_at_call 59
       have hb : (w1.alloc (.cells #[I 0, I 0] 94)).heap[w1.heap.size]? = some (.cells #[I 0, I 0] 94) := Array.getElem?_push_size
       refine ((body25 w1.heap.size 0 x _ (by unfold World.cell?; rw [hb]; rfl) (by unfold World.frozen?; rw [hb]; rfl)).calls Try.func59 rfl).mono ?_; rintro e w2 ⟨r2, rfl, rfl, rfl⟩))
  go_ret
  exact ⟨_, rfl, rfl, rfl, rfl, rfl⟩
set_option maxHeartbeats 2000000 in
set_option maxRecDepth 100000 in
theorem body11 (v : World) : Body Try.f22 #[I 0] v (fun r v' => r = Pt v.heap.size 0 ∧ v'.heap = v.heap.push (.cells #[.pointer none, I 0, .chan none, I 0, I 0, I 0, I 0] 97) ∧ v'.os = v.os ∧ v'.output = v.output) := by
  intro code hb
  obtain rfl := Option.some.inj hb
  clear hb
  simp only [Try.ntmps22, List.size_toArray, List.length_cons, List.length_nil, Nat.reduceAdd, Nat.reduceSub, Array.replicate_succ, Array.replicate_zero, List.push_toArray, List.append_toArray, List.nil_append, List.cons_append]
  go_wp2_with fail
  go_ret
  exact ⟨_, rfl, rfl, rfl, rfl, rfl⟩
end Go.Proofs.Ytfjjoohflcchnaa.Gen

namespace Go.Proofs.Ytfjjoohflcchnaa
open Go Go.Lift Go.Conc Go.RowKit

end Go.Proofs.Ytfjjoohflcchnaa
