/- CellAlone returns true, whatever the number and the calls, and leaves what it was given as it was: of the law's statement as given, with no condition of our own. Part 29 of 33. (Joined, by program, of: New7, Trace9, Aw1, Lift29, Aw2, Aw3.) -/
import Derived.Test.YtfjjoohflcchnaaCellAlone06
import Derived.Test.YtfjjoohflcchnaaCellAlone28
import Derived.Deep.RegionLaw
import Derived.KernelRfl
set_option linter.unusedSimpArgs false
set_option linter.unusedVariables false
namespace Go.Proofs.Ytfjjoohflcchnaa
open Go Go.Lift Go.Conc Go.RowKit

/-- A new world. -/
def newS (wb bk base : Nat) (sc : Value) (xs : List Int) : TS :=
  { wb := wb, bk := bk, base := base, us := 0, n := 0, la := -1, sc := sc, cv := .slice none 0 0, ths := .slice none 0 0, tv := .slice none 0 0, sched := xs, chg := [], tr := [], stk := false, ran := false, thr := [] }
/-- It lies there. -/
structure IsNew (v : World) (xs : List Int) (wb bk : Nat) (sc : Value) (v' : World) : Prop where
  mem : Mem zn (newS wb bk v.heap.size sc xs) [] v'
  opn : Open v' bk
  new : ∀ b, Own (newS wb bk v.heap.size sc xs) [] b ∨ b = bk → v.heap.size ≤ b
  old : Grows v v'

abbrev rowNew (sc : Value) (bk : Nat) : Array Value := #[sc, I 0, I (-1), .slice none 0 0, .slice none 0 0, .slice none 0 0, .bool false, .bool false, .chan (some bk)]
theorem new_rep {v u v' : World} {xs : List Int} {g cap bk m : Nat} (hg : Grows v u) (hown : u.ownsRow v.heap.size 3 1 (.slice (some ⟨g, 0, none⟩) m cap) m (xs.map I)) (hl : xs.length = m) (hbk : u.heap[bk]? = some (.chan 0 #[] false 0 0 false)) (hb : v.heap.size ≤ bk)
    (hh : v'.heap = u.heap.push (.cells (rowNew (.slice (some ⟨g, 0, none⟩) m cap) bk) 83)) (ho : v'.os = u.os) (hu : v'.output = u.output) : IsNew v xs u.heap.size bk (.slice (some ⟨g, 0, none⟩) m cap) v' := by
  have hold : ∀ b, b < u.heap.size → v'.heap[b]? = u.heap[b]? := fun b hb => by rw [hh, Array.getElem?_push, if_neg (by omega)]
  have hs' : v'.heap.size = u.heap.size + 1 := by rw [hh]; simp
  have hgl := own_lt hown g rfl
  have hsz := hg.size
  have hblk : ∀ k b, blk (newS u.heap.size bk v.heap.size (.slice (some ⟨g, 0, none⟩) m cap) xs) k = some b → (k = 0 ∧ b = u.heap.size) ∨ (k = 4 ∧ b = g) := fun k b hk => by
    match k, hk with
    | 0, hk => cases hk; exact .inl ⟨rfl, rfl⟩
    | 1, hk => cases hk
    | 2, hk => cases hk
    | 3, hk => cases hk
    | 4, hk => cases hk; exact .inr ⟨rfl, rfl⟩
    | k + 5, hk => simp [blk, newS] at hk
  have hnil : v'.ownsRow v.heap.size 3 1 (.slice none 0 0) 0 [] := World.ownsRow_nil _ _ _ _
  refine ⟨⟨⟨?_, fun i t ht => by simp [newS] at ht, World.ownsRow_nil _ _ _ _, World.ownsRow_nil _ _ _ _, World.ownsRow_nil _ _ _ _, ?_, by show v.heap.size ≤ _; omega, fun j k b hj hk => ?_, fun b n h => by cases h⟩, fun j c hc => by simp at hc, fun j c hc => by simp at hc, fun i j c d hc => by simp at hc, rfl⟩, ⟨0, 0, ?_⟩, fun b hb' => ?_, ⟨by omega, fun b hb' => by rw [hold b (by omega), hg.old b hb'], ho.trans hg.os, hu.trans hg.output⟩⟩
  · show v'.heap[u.heap.size]? = _
    rw [hh]
    exact Array.getElem?_push_size
  · show v'.ownsRow v.heap.size 3 1 _ xs.length (xs.map I)
    rw [hl]
    exact own_stay (fun b hb => hold b (own_lt hown b hb).2) hown
  · rcases hblk j b hj with ⟨rfl, e1⟩ | ⟨rfl, e1⟩ <;> rcases hblk k b hk with ⟨rfl, e2⟩ | ⟨rfl, e2⟩ <;> first | rfl | omega
  · rw [hold bk (Array.getElem?_eq_some_iff.1 hbk).1]; exact hbk
  · rcases hb' with (⟨k, hk⟩ | ⟨j, c, hc, _⟩) | rfl
    · rcases hblk k b hk with ⟨_, rfl⟩ | ⟨_, rfl⟩
      · exact hsz
      · exact hgl.1
    · simp at hc
    · exact hb

set_option maxHeartbeats 2000000 in
set_option maxRecDepth 100000 in
theorem body7 {v : World} (vb vo cap : Nat) (xs : List Int) (hx0 : 0 < xs.length) (hx1 : xs.length ≤ 17592186043904) (hv : ∀ k x, xs[k]? = some x → v.cell? ⟨vb, vo + k, none⟩ = some (I x)) :
    Body Try.f18 #[.slice (some ⟨vb, vo, none⟩) xs.length cap] v (fun r v' => ∃ wb bk sc, r = Pt wb 0 ∧ IsNew v xs wb bk sc v') := by
  intro code hb
  obtain rfl := Option.some.inj hb
  clear hb
  obtain ⟨x0, hx00⟩ : ∃ x, xs[0]? = some x := ⟨_, List.getElem?_eq_getElem hx0⟩
  have hvl : vb < v.heap.size := World.block_lt_of_cell? _ _ (hv 0 x0 hx00)
  have hnews : ∀ u : World, u.heap[vb]? = v.heap[vb]? → ∀ j y, (xs.map I)[j]? = some y → u.cell? ((⟨vb, vo, none⟩ : Addr).add j) = some y := fun u hu j y hj => by
    have hadd : (⟨vb, vo, none⟩ : Addr).add j = ⟨vb, vo + j, none⟩ := by unfold Addr.add; split <;> simp_all
    rw [hadd, World.cell?_of_block (w := v) (w' := u) hu]
    rw [List.getElem?_map] at hj
    cases hk : xs[j]? with
    | none => rw [hk] at hj; cases hj
    | some x =>
      rw [hk] at hj
      cases hj
      exact hv j x hk
  have h1 : ∀ u ∈ xs.map I, u.oneCell' = true := fun u hu => by
    simp only [List.mem_map] at hu
    obtain ⟨x, _, rfl⟩ := hu
    rfl
  have HW : Hid (∀ u : World, u.heap[vb]? = v.heap[vb]? → ∀ j y, (xs.map I)[j]? = some y → u.cell? ((⟨vb, vo, none⟩ : Addr).add j) = some y) := ⟨hnews⟩
  have H1 : Hid (∀ u ∈ xs.map I, u.oneCell' = true) := ⟨h1⟩
  have HX : Hid (0 < xs.length ∧ xs.length ≤ 17592186043904 ∧ vb < v.heap.size) := ⟨⟨hx0, hx1, hvl⟩⟩
  clear hv hnews h1 hx00 hx0 hx1 hvl
  have hmk := run_mk
  obtain ⟨j0, hj, hj0, hj1, hj2⟩ := info_parts info3
  simp only [Try.ntmps18, List.size_toArray, List.length_cons, List.length_nil, Nat.reduceAdd, Nat.reduceSub, Array.replicate_succ, Array.replicate_zero, List.push_toArray, List.append_toArray, List.nil_append, List.cons_append]
  go_wp2_with fail
  go_region_law
    (refine step_append_lies _ rfl (.const (.slice none 0 0)) (.tmp 3) 22 rfl v.heap.size 3 j0 _ 1 8 Try.underlying22 hj hj0 hj1 hj2 rfl (by decide) (.slice none 0 0) 0 [] rfl (World.ownsRow_nil _ _ _ _) ⟨vb, vo, none⟩ xs.length cap (xs.map I) rfl (by simp) (HW.out _ (by first | rfl | (show (v.heap.push _)[vb]? = _; rw [Array.getElem?_push, if_neg (by have := HX.out; omega)]))) H1.out HX.out.1 (by have := HX.out; unfold maxLen; omega) (by have := HX.out; omega) (by simp) _ rfl ?_
     intro g cpg w6 hown6 hgrow6 hat6 hlt6)
  · have g6 : Grows v (w6.alloc (.chan 0 #[] false 0 0 false)) := by
      have hs : v.heap.size ≤ w6.heap.size := hgrow6.size
      refine ⟨by show _ ≤ (w6.heap.push _).size; simp; omega, fun b hb => ?_, hgrow6.os, hgrow6.output⟩
      show (w6.heap.push _)[b]? = _
      rw [Array.getElem?_push, if_neg (by omega)]
      exact hgrow6.block b hb (fun e => by cases e)
    have hN : IsNew v xs (w6.heap.size + 1) w6.heap.size (.slice (some ⟨g, 0, none⟩) xs.length cpg) ((w6.alloc (.chan 0 #[] false 0 0 false)).alloc (.cells (rowNew (.slice (some ⟨g, 0, none⟩) xs.length cpg) w6.heap.size) 83)) := by
      have := new_rep (v := v) (u := w6.alloc (.chan 0 #[] false 0 0 false)) (v' := (w6.alloc (.chan 0 #[] false 0 0 false)).alloc (.cells (rowNew (.slice (some ⟨g, 0, none⟩) xs.length cpg) w6.heap.size) 83)) (xs := xs) (g := g) (cap := cpg) (bk := w6.heap.size) (m := xs.length) g6 (own_stay (fun b hb => ?_) (by rw [Nat.zero_add, List.nil_append] at hown6; exact hown6)) rfl Array.getElem?_push_size hgrow6.size rfl rfl rfl
      · rw [show (w6.alloc (.chan 0 #[] false 0 0 false)).heap.size = w6.heap.size + 1 by show (w6.heap.push _).size = _; simp] at this
        exact this
      · cases hb
        show (w6.heap.push _)[g]? = _
        rw [Array.getElem?_push, if_neg (by omega)]
    have HN : Hid _ := ⟨hN⟩
    clear hN g6 hgrow6 hown6 hat6 hlt6
    go_wp2
    go_ret
    exact ⟨_, rfl, w6.heap.size + 1, w6.heap.size, _, rfl, HN.out⟩
  · have hb0 : ∀ b, b < v.heap.size + 1 → w6.heap[b]? = (v.alloc (.chan 0 #[] false 0 0 false)).heap[b]? := fun b hb => hgrow6.block b (by show b < (v.heap.push _).size; simp; omega) (fun e => by cases e)
    have hs : v.heap.size + 1 ≤ w6.heap.size := by
      have := hgrow6.size
      have e : (v.alloc (.chan 0 #[] false 0 0 false)).drew.heap.size = v.heap.size + 1 := by show (v.heap.push _).size = _; simp
      omega
    have g6 : Grows v w6 := by
      refine ⟨by omega, fun b hb => ?_, hgrow6.os, hgrow6.output⟩
      rw [hb0 b (by omega)]
      show (v.heap.push _)[b]? = _
      rw [Array.getElem?_push, if_neg (by omega)]
    have hN : IsNew v xs w6.heap.size v.heap.size (.slice (some ⟨g, 0, none⟩) xs.length cpg) (w6.alloc (.cells (rowNew (.slice (some ⟨g, 0, none⟩) xs.length cpg) v.heap.size) 83)) :=
      new_rep (v := v) (u := w6) (xs := xs) (g := g) (cap := cpg) (bk := v.heap.size) (m := xs.length) g6 (by rw [Nat.zero_add, List.nil_append] at hown6; exact hown6) rfl (by rw [hb0 _ (by omega)]; exact Array.getElem?_push_size) (Nat.le_refl _) rfl rfl rfl
    have HN : Hid _ := ⟨hN⟩
    clear hN g6 hgrow6 hown6 hat6 hlt6 hb0 hs
    go_wp2
    go_ret
    exact ⟨_, rfl, w6.heap.size, v.heap.size, _, rfl, HN.out⟩
end Go.Proofs.Ytfjjoohflcchnaa

namespace Go.Proofs.Ytfjjoohflcchnaa
open Go Go.Lift Go.Conc Go.RowKit


set_option maxHeartbeats 2000000 in
set_option maxRecDepth 100000 in
theorem body9 {z : Nat → Option Nat} {S : TS} {v : World} (h : Rep z S v) (h0 : 0 < S.n) (hn : S.n * 40 ≤ 140737488355328) (h1 : ∀ u ∈ S.tr, u.oneCell' = true) :
    Body Try.f20 #[Pt S.wb 0] v (fun r v' => ∃ g cap, r = .slice (some ⟨g, 0, none⟩) S.n cap ∧ v'.ownsRow v.heap.size 34 5 (.slice (some ⟨g, 0, none⟩) S.n cap) S.n S.tr ∧ Grows v v' ∧ v.heap.size ≤ g) := by
  intro code hb
  obtain rfl := Option.some.inj hb
  clear hb
  have c5 := h.wcell.2.2.2.2.2.1
  obtain ⟨g0, cap0, e0, _, hg0⟩ := h.own.form h0
  rw [e0] at c5
  have hcs := h.own.cells (g := g0) (by rw [e0]; rfl)
  have hln : S.tr.length = S.n * 5 := h.own.1
  have HH : Hid ((∀ j u, S.tr[j]? = some u → v.cell? ((⟨g0, 0, none⟩ : Addr).add j) = some u) ∧ (∀ u ∈ S.tr, u.oneCell' = true) ∧ 0 < S.n ∧ S.n * 40 ≤ 140737488355328 ∧ S.tr.length = S.n * 5) := ⟨⟨hcs, h1, h0, hn, hln⟩⟩
  clear hcs h1 h0 hn hln h e0
  obtain ⟨j0, hj, hj0, hj1, hj2⟩ := info_parts info34
  simp only [Try.ntmps20, List.size_toArray, List.length_cons, List.length_nil, Nat.reduceAdd, Nat.reduceSub, Array.replicate_succ, Array.replicate_zero, List.push_toArray, List.append_toArray, List.nil_append, List.cons_append]
  go_wp2_with (first
    | (refine wpList_append_lies _ rfl (.const (.slice none 0 0)) (.tmp 8) 31 rfl v.heap.size 34 j0 _ 5 40 Try.underlying31 hj hj0 hj1 hj2 rfl (by decide) (.slice none 0 0) 0 [] rfl (World.ownsRow_nil _ _ _ _) ⟨g0, 0, none⟩ S.n cap0 S.tr rfl HH.out.2.2.2.2 HH.out.1 HH.out.2.1 HH.out.2.2.1 (by have := HH.out.2.2.2.1; unfold maxLen; omega) (by have := HH.out.2.2.2.1; omega) (Nat.le_refl _) _ rfl ?_
       intro g cpg w6 hown6 hgrow6 hat6 hlt6))
  go_ret
  refine ⟨_, rfl, g, cpg, rfl, ?_, ⟨hgrow6.size, fun b hb => hgrow6.block b hb (fun e => by cases e), hgrow6.os, hgrow6.output⟩, ?_⟩
  · rw [Nat.zero_add, List.nil_append] at hown6
    exact hown6
  · rcases hat6 with h | h
    · cases h
    · omega
end Go.Proofs.Ytfjjoohflcchnaa

namespace Go.Proofs.Ytfjjoohflcchnaa
open Go Go.Lift Go.Conc Go.RowKit
open Go.ConcN (upd upd_same upd_ne)

theorem turns_det {nk : Nat} : ∀ {m m' : Nat} {p p1 p2 : PSt}, Turns nk m p p1 → Turns nk m' p p2 → p1 = p2
  | _, _, _, _, _, .stop h, .stop h' => rfl
  | _, _, _, _, _, .stop h, .step h' _ => by rw [h] at h'; cases h'
  | _, _, _, _, _, .step h _, .stop h' => by rw [h] at h'; cases h'
  | _, _, _, _, _, .step h t, .step h' t' => by
    rw [h] at h'
    cases h'
    exact turns_det t t'

def cl5 : Cl := ⟨5, 0, 1, 0⟩
/-- The world ahead of the hiring. -/
def awS (wb bk base : Nat) (sc cv : Value) : TS := nv { cellsS (newS wb bk base sc [1]) cv 1 with ran := true }
def awP (wb bk base : Nat) (sc cv : Value) (tv0 : Value) (tb0 gc0 : Nat) (tv1 : Value) (tb1 gc1 : Nat) (cb : Nat) (l0 : Nat → Ph) : PSt :=
  ⟨(flow 1 1 [cl5] 0 false [(0, 0)] (hiredS (flow 0 1 [cl5] 0 false [(0, 0)] (hiredS (awS wb bk base sc cv) tv0 tb0 gc0)).1 tv1 tb1 gc1)).1, [(cb, 0)], upd (upd l0 0 (flow 0 1 [cl5] 0 false [(0, 0)] (hiredS (awS wb bk base sc cv) tv0 tb0 gc0)).2) 1 (flow 1 1 [cl5] 0 false [(0, 0)] (hiredS (flow 0 1 [cl5] 0 false [(0, 0)] (hiredS (awS wb bk base sc cv) tv0 tb0 gc0)).1 tv1 tb1 gc1)).2⟩
def pt (p : PSt) : PSt := (pturn 1 p).getD p
section
variable (wb bk base : Nat) (sc cv : Value) (tv0 : Value) (tb0 gc0 : Nat) (tv1 : Value) (tb1 gc1 : Nat) (cb : Nat) (l0 : Nat → Ph)
theorem aw1 : (pturn 1 (awP wb bk base sc cv tv0 tb0 gc0 tv1 tb1 gc1 cb l0)).isSome = true := by kernel_rfl
theorem aw2 : (pturn 1 (pt (awP wb bk base sc cv tv0 tb0 gc0 tv1 tb1 gc1 cb l0))).isSome = true := by kernel_rfl
theorem aw3 : (pturn 1 (pt (pt (awP wb bk base sc cv tv0 tb0 gc0 tv1 tb1 gc1 cb l0)))).isNone = true := by kernel_rfl
theorem aw4 : (pt (pt (awP wb bk base sc cv tv0 tb0 gc0 tv1 tb1 gc1 cb l0))).S.tr = [I 0, I (-1), I 9, I 0, I 0, I 1, I (-1), I 9, I 0, I 0, I 1, I 0, I 5, I 0, I 1, I 1, I (-1), I 10, I 0, I 0, I 0, I 0, I 5, I 1, I 2, I 0, I (-1), I 10, I 0, I 0] := by kernel_rfl
theorem aw5 : (pt (pt (awP wb bk base sc cv tv0 tb0 gc0 tv1 tb1 gc1 cb l0))).S.n = 6 := by kernel_rfl
theorem aw6 : ((pt (pt (awP wb bk base sc cv tv0 tb0 gc0 tv1 tb1 gc1 cb l0))).l 0).ans = [(0, 2)] ∧ ((pt (pt (awP wb bk base sc cv tv0 tb0 gc0 tv1 tb1 gc1 cb l0))).l 1).ans = [(0, 1)] := ⟨by kernel_rfl, by kernel_rfl⟩
theorem aw_turns : Turns 1 2 (awP wb bk base sc cv tv0 tb0 gc0 tv1 tb1 gc1 cb l0) (pt (pt (awP wb bk base sc cv tv0 tb0 gc0 tv1 tb1 gc1 cb l0))) := by
  have h1 := aw1 wb bk base sc cv tv0 tb0 gc0 tv1 tb1 gc1 cb l0
  have h2 := aw2 wb bk base sc cv tv0 tb0 gc0 tv1 tb1 gc1 cb l0
  have h3 := aw3 wb bk base sc cv tv0 tb0 gc0 tv1 tb1 gc1 cb l0
  have e : ∀ p : PSt, (pturn 1 p).isSome = true → pturn 1 p = some (pt p) := fun p h => by
    unfold pt
    cases hp : pturn 1 p with
    | none => rw [hp] at h; cases h
    | some x => rfl
  refine .step (e _ h1) (.step (e _ h2) (.stop ?_))
  cases hp : pturn 1 (pt (pt (awP wb bk base sc cv tv0 tb0 gc0 tv1 tb1 gc1 cb l0))) with
  | none => rfl
  | some x => rw [hp] at h3; cases h3
end
end Go.Proofs.Ytfjjoohflcchnaa

namespace Go.Lift
open Go.Conc
section
variable {P : Program} {wr : Bool}
theorem calm_listForIn_mem {α σ : Type} {f : α → σ → Sem (ForInStep σ)} : ∀ (l : List α) (s : σ), (∀ a ∈ l, ∀ s, calm P wr (f a s)) → calm P wr (forIn l s f)
  | [], s, _ => by rw [List.forIn_nil]; exact calm_pure _
  | a :: l, s, h => by
    rw [List.forIn_cons]
    refine calm_bind (h a (List.mem_cons_self ..) s) fun x => ?_
    cases x with
    | done b => exact calm_pure _
    | yield b => exact calm_listForIn_mem l b (fun a' ha => h a' (List.mem_cons_of_mem _ ha))
theorem calm_arrayForIn_mem {α σ : Type} {f : α → σ → Sem (ForInStep σ)} (l : Array α) (s : σ) (h : ∀ a ∈ l, ∀ s, calm P wr (f a s)) : calm P wr (forIn l s f) := by
  rw [← Array.forIn_toList]
  exact calm_listForIn_mem _ _ (fun a ha => h a (by simpa using ha))
theorem calm_equalIn_flat {t : TypeId} (ht : flatT P t = true) (d : Nat) (x y : Value) : calm P wr (Op.equalIn (d + 1) t x y) := by
  unfold Op.equalIn
  refine calm_und fun d hd => ?_
  unfold flatT at ht
  rw [hd] at ht
  split
  all_goals first | (exfalso; revert ht; simp; done) | repeat' (first | with_reducible (first | exact calm_viewAt _ | exact calm_numberAt _ | exact calm_asNumber _ _ | exact calm_behindNumber _ | exact calm_noView _ | exact calm_byteOf _ | exact calm_partAt _ _ _ | exact calm_fieldPlace _ _ | exact calm_typeStr _ | exact calm_alloc _ | exact calm_box _ _ | exact calm_build _ _ | exact calm_buildSlice _ _ _ | exact calm_loadAt _ _ | exact calm_fieldAt _ _ _ | exact calm_indexAt _ _ _ | exact calm_sliceBound _ _ _ | exact calm_sliceBounds _ _ _ _ _ _ | exact calm_slice _ _ _ _ _ | exact calm_sliceAt _ _ _ _ _ | exact calm_makeChan _ _ | exact calm_makeSlice _ _ _ | exact calm_field _ _ _ | exact calm_index _ _ _ | exact calm_extract _ _ | exact calm_len _ _ _ | exact calm_cap _ _ _ | exact calm_lenOf _ | exact calm_firstCells _ _ _ | exact calm_holdsCells _ _ | exact calm_intArith _ _ _ _ | exact calm_intDiv _ _ _ _ | exact calm_intBits _ _ _ _ | exact calm_intCmp _ _ _ | exact calm_shift _ _ _ _ _ | exact calm_stringOp _ _ _ | exact calm_floatArith _ _ _ _ | exact calm_floatCmp _ _ _ _ | exact calm_twoPlaces _ _ | exact calm_addrSub _ _ _ | exact calm_addrCmp _ _ _ | exact calm_addrMod _ _ _ | exact calm_unsafeAdd _ _ _ | exact calm_movedNumber _ _ _ | exact calm_movedPointer _ _ _ | exact calm_unary _ _ | exact calm_floatToFloat _ _ _ | exact calm_pure _ | exact calm_stuck _ | exact calm_unsupported _ | exact calm_goPanic _ | exact calm_runtimePanic _ | exact calm_boundsPanic _ _ _ _ | exact calm_program | exact calm_shape _ | exact calm_getObj _ | exact calm_newObj _ | exact calm_choose _ | exact calm_load _ _ | exact calm_askRoom _ | exact calm_typeInfo _ | exact calm_underlying _ | exact calm_zeroValue _ | exact calm_sizeOf _ | exact calm_isAgg _ | exact calm_elemOf _ | exact calm_newRow _ _ | exact calm_newVar _ _ | exact calm_asIntOf _ | exact calm_asInt _ | exact calm_asBool _ | exact calm_asAgg _ | exact calm_asAddr _ | exact calm_sureAddr _ | exact calm_loadCells _ _ | exact calm_loadVar _ _ | exact calm_part _ _ _ | exact calm_markRoom | exact calm_markExtern _ | (refine calm_arrayForIn (fun _ _ => ?_) _ _) | (refine calm_rangeForIn (fun _ _ => ?_) _ _) | apply calm_map | refine calm_bind ?_ (fun _ => ?_)) | split | dsimp only)
theorem calm_equal_struct {t : TypeId} {fields : Array Field} (ht : P.underlying t = some (.struct fields)) (hf : ∀ f ∈ fields, flatT P f.type = true) (x y : Value) : calm P wr (Op.equal t x y) := by
  show calm P wr (Op.equalIn (9998 + 1 + 1) t x y)
  unfold Op.equalIn
  refine calm_und fun d hd => ?_
  rw [ht] at hd
  cases hd
  cases x <;> try exact calm_stuck _
  cases y <;> try exact calm_stuck _
  rename_i xs ys
  simp only
  refine calm_bind calm_program fun p => ?_
  split
  · refine calm_bind (calm_unsupported _) fun _ => ?_
    refine calm_bind (calm_arrayForIn_mem _ _ fun f hff s => ?_) fun s => ?_
    · split
      · refine calm_bind (calm_part _ _ _) fun a => calm_bind (calm_part _ _ _) fun b => calm_bind (calm_equalIn_flat (hf f hff) 9998 a b) fun c => ?_
        split <;> exact calm_pure _
      · exact calm_pure _
    · split <;> exact calm_pure _
  · skip
    refine calm_bind (calm_arrayForIn_mem _ _ fun f hff s => ?_) fun s => ?_
    · split
      · refine calm_bind (calm_part _ _ _) fun a => calm_bind (calm_part _ _ _) fun b => calm_bind (calm_equalIn_flat (hf f hff) 9998 a b) fun c => ?_
        split <;> exact calm_pure _
      · exact calm_pure _
    · split <;> exact calm_pure _
end
end Go.Lift

namespace Go.Proofs.Ytfjjoohflcchnaa
open Go Go.Lift Go.Conc Go.RowKit

noncomputable def B6 : Code := Try.f17.body.getD .skip
noncomputable def b60 : Code := seq1 B6
noncomputable def b61 : Code := seq1 (seq2 B6)
noncomputable def b62 : Code := seq1 (seq2 (seq2 B6))
noncomputable def b63 : Code := seq1 (seq2 (seq2 (seq2 B6)))
noncomputable def b64 : Code := seq1 (seq2 (seq2 (seq2 (seq2 B6))))
noncomputable def b65 : Code := seq1 (seq2 (seq2 (seq2 (seq2 (seq2 B6)))))
theorem eB6 : B6 = .seq b60 (.seq b61 (.seq b62 (.seq b63 (.seq b64 (.seq b65 .ret))))) := by kernel_rfl
theorem fine60 : fineCode Try.prog true LO b60 := fineCode_ask callO extT (by kernel_rfl)
theorem fine61 : fineCode Try.prog true LO b61 := fineCode_ask callO extT (by kernel_rfl)
theorem fine62 : fineCode Try.prog true LO b62 := fineCode_ask callO extT (by kernel_rfl)
theorem fine64 : fineCode Try.prog true LO b64 := fineCode_ask callO extT (by kernel_rfl)
noncomputable def ops65 : Array Oper := opsOf b65
theorem size65 : ops65.size = 52 := by kernel_rfl
theorem all65 : ((List.range 52).all fun i => i == 49 || ((ops65[i]?).map fun o => plainOp Try.prog true o.op || askCall plainO plainXs o.op).getD false) = true := by kernel_rfl
theorem op65 : (ops65[49]?).map (fun o => o.op) = some (.binOp .eql 34 (.tmp 68) (.tmp 69) 34) := by kernel_rfl
theorem und34 : ∃ fields, Try.prog.underlying 34 = some (.struct fields) ∧ ∀ f ∈ fields, flatT Try.prog f.type = true := by
  have h : (match Try.prog.underlying 34 with | some (.struct fs) => fs.all (fun f => flatT Try.prog f.type) | _ => false) = true := by kernel_rfl
  split at h
  · rename_i fs e
    exact ⟨fs, e, fun f hf => (Array.all_eq_true_iff_forall_mem.1 h) f hf⟩
  · cases h
set_option maxRecDepth 100000 in
theorem fineEq {o : Oper} (h : o.op = .binOp .eql 34 (.tmp 68) (.tmp 69) 34) : fineOp Try.prog true LO o := by
  obtain ⟨fields, hu, hf⟩ := und34
  obtain ⟨dst, op, type, pos, after, guard⟩ := o
  simp only at h
  subst h
  refine fun a => ?_
  have hq : calm Try.prog true (Op.equal 34 (a.eval (.tmp 68)) (a.eval (.tmp 69))) := calm_equal_struct hu hf _ _
  have he : execOp a.eval { dst := dst, op := .binOp .eql 34 (.tmp 68) (.tmp 69) 34, type := type, pos := pos, after := after, guard := guard } = (do eqGuard .eql 34 (.tmp 68) (.tmp 69) (a.eval (.tmp 68)) (a.eval (.tmp 69)); binOp .eql 34 (a.eval (.tmp 68)) (a.eval (.tmp 69)) : Sem Value).bind fun v => Sem.pure (Next.value v) := rfl
  rw [he]
  exact ⟨calm_sbind (calm_bind (calm_eqGuard _ _ _ _ _ _) fun _ => calm_binOp _ _ _ _ (fun _ => hq)) fun _ => trivial, fun w x w' h => .inl (val_out h)⟩
theorem fine65 : fineCode Try.prog true LO b65 := by
  have e : b65 = .region 5 ops65 false := by kernel_rfl
  rw [e]
  intro o ho
  obtain ⟨i, hi⟩ := Array.mem_iff_getElem?.1 ho
  have hlt : i < 52 := by have := (Array.getElem?_eq_some_iff.1 hi).1; rw [size65] at this; exact this
  by_cases h9 : i = 49
  · subst h9
    have := op65
    rw [hi] at this
    exact fineEq (Option.some.inj this)
  · have := List.all_eq_true.1 all65 i (List.mem_range.2 hlt)
    rw [hi] at this
    simp only [Option.map_some, Option.getD_some, Bool.or_eq_true_iff, beq_iff_eq, h9, false_or] at this
    exact fineOp_ask callO extT (Bool.or_eq_true_iff.2 this)

set_option maxHeartbeats 2000000 in
set_option maxRecDepth 100000 in
theorem b60_wp {v : World} :
    b60.wp Try.prog (fun e a w' => e = .normal ∧ a = { tmps := #[.bool false] ++ Array.replicate 71 undef, defers := [] } ∧ w'.heap = v.heap ∧ w'.os = v.os ∧ w'.output = v.output)
      { tmps := Array.replicate 72 undef, defers := [] } v := by
  show Code.wp Try.prog (seq1 (Try.f17.body.getD .skip)) _ _ _
  unfold Try.f17 seq1
  simp only [Option.getD_some, Array.replicate_succ, Array.replicate_zero, List.push_toArray, List.append_toArray, List.nil_append, List.cons_append]
  go_wp2_with fail
  try exact ⟨rfl, rfl, rfl⟩

set_option maxHeartbeats 2000000 in
set_option maxRecDepth 100000 in
theorem b61_wp {v : World} :
    b61.wp Try.prog (fun e a w' => e = .normal ∧ ∃ wb bk sc, a = { tmps := #[.bool false, Pt wb 0, undef, undef, undef, undef, .slice (some ⟨v.heap.size, 0, none⟩) 1 1, Pt wb 0] ++ Array.replicate 64 undef, defers := [] } ∧ IsNew (v.alloc (.cells #[I 1] 3)) [1] wb bk sc w')
      { tmps := #[.bool false] ++ Array.replicate 71 undef, defers := [] } v := by
  have h7 := (body7 (v := v.alloc (.cells #[I 1] 3)) v.heap.size 0 1 [1] (by decide) (by decide) (fun k x hk => by
    match k, hk with
    | 0, hk =>
      cases hk
      unfold World.cell?
      rw [show (v.alloc (.cells #[I 1] 3)).heap[v.heap.size]? = some (.cells #[I 1] 3) from Array.getElem?_push_size]
      rfl
    | k + 1, hk => simp at hk)).calls Try.func18 rfl
  have H7 : Hid (Calls Try.prog 18 #[.slice (some ⟨v.heap.size, 0, none⟩) 1 1] (v.alloc (.cells #[I 1] 3)) _) := ⟨h7⟩
  clear h7
  show Code.wp Try.prog (seq1 (seq2 (Try.f17.body.getD .skip))) _ _ _
  unfold Try.f17 seq1 seq2
  simp only [Option.getD_some, Array.replicate_succ, Array.replicate_zero, List.push_toArray, List.append_toArray, List.nil_append, List.cons_append]
  go_wp2_with (first
    | (go_at_call 18; refine H7.out.mono ?_; rintro e w1 ⟨_, rfl, wb, bk, sc, rfl, hnew⟩))
  exact ⟨bk, sc, hnew⟩

set_option maxHeartbeats 2000000 in
set_option maxRecDepth 100000 in
theorem b62_wp {v : World} (wb sb0 : Nat) :
    b62.wp Try.prog (fun e a w' => e = .normal ∧ a = { tmps := #[.bool false, Pt wb 0, .slice (some ⟨v.heap.size, 0, none⟩) 1 1, undef, undef, undef, .slice (some ⟨sb0, 0, none⟩) 1 1, Pt wb 0, .agg #[I 5, I 0, I 1, I 0], .slice (some ⟨v.heap.size, 0, none⟩) 1 1] ++ Array.replicate 62 undef, defers := [] } ∧ w'.heap = v.heap.push (.cells #[I 5, I 0, I 1, I 0] 39) ∧ w'.os = v.os ∧ w'.output = v.output)
      { tmps := #[.bool false, Pt wb 0, undef, undef, undef, undef, .slice (some ⟨sb0, 0, none⟩) 1 1, Pt wb 0] ++ Array.replicate 64 undef, defers := [] } v := by
  show Code.wp Try.prog (seq1 (seq2 (seq2 (Try.f17.body.getD .skip)))) _ _ _
  unfold Try.f17 seq1 seq2
  simp only [Option.getD_some, Array.replicate_succ, Array.replicate_zero, List.push_toArray, List.append_toArray, List.nil_append, List.cons_append]
  go_wp2_with fail
  try exact ⟨rfl, rfl, rfl⟩

set_option maxHeartbeats 2000000 in
set_option maxRecDepth 100000 in
theorem b64_wp {v : World} {S : TS} (h : Rep zn S v) (h0 : 0 < S.n) (hn : S.n * 40 ≤ 140737488355328) (h1 : ∀ u ∈ S.tr, u.oneCell' = true) (u2 u3 u4 u6 u7 u8 u9 u10 u11 u12 u13 u14 u15 u16 u17 u18 : Value) :
    b64.wp Try.prog (fun e a w' => e = .normal ∧ ∃ g cap, a = { tmps := #[.bool false, Pt S.wb 0, u2, u3, u4, .slice (some ⟨g, 0, none⟩) S.n cap, u6, u7, u8, u9, u10, u11, u12, u13, u14, u15, u16, u17, u18, Pt S.wb 0, .slice (some ⟨g, 0, none⟩) S.n cap] ++ Array.replicate 51 undef, defers := [] } ∧ w'.ownsRow v.heap.size 34 5 (.slice (some ⟨g, 0, none⟩) S.n cap) S.n S.tr ∧ Grows v w')
      { tmps := #[.bool false, Pt S.wb 0, u2, u3, u4, undef, u6, u7, u8, u9, u10, u11, u12, u13, u14, u15, u16, u17, u18] ++ Array.replicate 53 undef, defers := [] } v := by
  have H9 : Hid _ := ⟨(body9 h h0 hn h1).calls Try.func20 rfl⟩
  clear h h0 hn h1
  show Code.wp Try.prog (seq1 (seq2 (seq2 (seq2 (seq2 (Try.f17.body.getD .skip)))))) _ _ _
  unfold Try.f17 seq1 seq2
  simp only [Option.getD_some, Array.replicate_succ, Array.replicate_zero, List.push_toArray, List.append_toArray, List.nil_append, List.cons_append]
  go_wp2_with (first
    | (go_at_call 20; refine H9.out.mono ?_; rintro e w1 ⟨_, rfl, g, cap, rfl, hown, hgr, -⟩))
  exact ⟨g, cap, ⟨rfl, rfl⟩, hown⟩

set_option maxHeartbeats 4000000 in
set_option maxRecDepth 100000 in
theorem b65_wp {v : World} (M A0 A1 g cap : Nat) (m0 : v.cell? ⟨M, 0, none⟩ = some (.slice (some ⟨A0, 0, none⟩) 1 1)) (m1 : v.cell? ⟨M, 1, none⟩ = some (.slice (some ⟨A1, 0, none⟩) 1 1)) (x0 : v.cell? ⟨A0, 1, none⟩ = some (I 2)) (x1 : v.cell? ⟨A1, 1, none⟩ = some (I 1))
    (g0 : v.cell? ⟨g, 10, none⟩ = some (I 1)) (g1 : v.cell? ⟨g, 11, none⟩ = some (I 0)) (g2 : v.cell? ⟨g, 12, none⟩ = some (I 5)) (g3 : v.cell? ⟨g, 13, none⟩ = some (I 0)) (g4 : v.cell? ⟨g, 14, none⟩ = some (I 1)) (u1 u2 u6 u7 u8 u9 u10 u11 u12 u13 u14 u15 u16 u17 u18 u19 u20 : Value) :
    b65.wp Try.prog (fun e a w' => e = .normal ∧ a.tmps.getD 0 undef = .bool true ∧ w'.heap = v.heap ∧ w'.os = v.os ∧ w'.output = v.output)
      { tmps := #[.bool false, u1, u2, .slice (some ⟨M, 0, none⟩) 2 2, I 0, .slice (some ⟨g, 0, none⟩) 6 cap, u6, u7, u8, u9, u10, u11, u12, u13, u14, u15, u16, u17, u18, u19, u20] ++ Array.replicate 51 undef, defers := [] } v := by
  show Code.wp Try.prog (seq1 (seq2 (seq2 (seq2 (seq2 (seq2 (Try.f17.body.getD .skip))))))) _ _ _
  unfold Try.f17 seq1 seq2
  simp only [Option.getD_some, Array.replicate_succ, Array.replicate_zero, List.push_toArray, List.append_toArray, List.nil_append, List.cons_append]
  go_wp2_with fail
end Go.Proofs.Ytfjjoohflcchnaa

namespace Go.Proofs.Ytfjjoohflcchnaa
open Go Go.Lift Go.Conc Go.RowKit

/-- What lies there at cell.Play's entry. -/
structure Set6 (v : World) (wb bk : Nat) (sc : Value) (c : Nat) (u : World) : Prop where
  mem : Mem zn (newS wb bk (v.heap.size + 1) sc [1]) [] u
  opn : Open u bk
  calls : u.heap[c]? = some (.cells #[I 5, I 0, I 1, I 0] 39)
  vals : u.heap[c + 1]? = some (.cells #[I 0] 3)
  scr : u.heap[c + 2]? = some (.cells #[.slice (some ⟨c, 0, none⟩) 1 1, .slice (some ⟨c, 0, none⟩) 1 1] 37)
  own : ∀ b, Own (newS wb bk (v.heap.size + 1) sc [1]) [] b ∨ b = bk → v.heap.size < b ∧ b < c
  old : Grows v u
/-- What lies there behind it. -/
structure Done6 (wb M A0 A1 : Nat) (S : TS) (u : World) : Prop where
  rep : Rep zn S u
  wb : S.wb = wb
  n : S.n = 6
  tr : S.tr = [I 0, I (-1), I 9, I 0, I 0, I 1, I (-1), I 9, I 0, I 0, I 1, I 0, I 5, I 0, I 1, I 1, I (-1), I 10, I 0, I 0, I 0, I 0, I 5, I 1, I 2, I 0, I (-1), I 10, I 0, I 0]
  m0 : u.cell? ⟨M, 0, none⟩ = some (.slice (some ⟨A0, 0, none⟩) 1 1)
  m1 : u.cell? ⟨M, 1, none⟩ = some (.slice (some ⟨A1, 0, none⟩) 1 1)
  x0 : u.cell? ⟨A0, 1, none⟩ = some (I 2)
  x1 : u.cell? ⟨A1, 1, none⟩ = some (I 1)

set_option maxHeartbeats 4000000 in
set_option maxRecDepth 100000 in
theorem awake_in {Ch : Nat → Prop} {Stop : Goroutine → World → Prop} {main : Bool} {v w : World} (cs : List Frame) {bc : Frame} {ac : Act} {ops : Array Oper} {q : Nat} {rest : List Nat} {oc : Oper} {k : List Item} (hoc : ops[q]? = some oc)
    (hvw : Rel zn v w) (hn : NoRow Ch v)
    (hk : ∀ v' w' (wb bk : Nat) (sc : Value) (c : Nat) (bd : Frame) (ad : Act) (od : Array Oper) (qd : Nat) (rd : List Nat) (oe : Oper) (kd : List Item), Rel zn v' w' → NoRow Ch v' → Set6 v wb bk sc c v' → od[qd]? = some oe →
      (∀ (Ch : Nat → Prop) (Stop : Goroutine → World → Prop) (S : TS) (M A0 A1 : Nat) (v w : World), Rel zn v w → NoRow Ch v → Done6 wb M A0 A1 S v → (∀ v' w', Rel zn v' w' → NoRow Ch v' → Grows v v' → GoesI Try.prog main (DT (ScZ zn) Ch) Stop (G (bc.at (ac.put oc.dst (.bool true)) (.inRegion ops rest :: k)) cs) w') → GoesI Try.prog main (DT (ScZ zn) Ch) Stop (G (bd.at (ad.put oe.dst (.tuple #[.slice (some ⟨M, 0, none⟩) 2 2, I 0])) (.inRegion od rd :: kd)) (bc.at ac (.inRegion ops (q :: rest) :: k) :: cs)) w) →
      GoesI Try.prog main (DT (ScZ zn) Ch) Stop (G ((base 19).at { tmps := #[Pt wb 0, .slice (some ⟨c + 1, 0, none⟩) 1 1, .slice (some ⟨c + 2, 0, none⟩) 2 2] ++ Array.replicate 39 undef, defers := [] } [.code B8]) (bd.at ad (.inRegion od (qd :: rd) :: kd) :: bc.at ac (.inRegion ops (q :: rest) :: k) :: cs)) w') :
    GoesI Try.prog main (DT (ScZ zn) Ch) Stop (G ((base 17).at { tmps := Array.replicate 72 undef, defers := [] } [.code B6]) (bc.at ac (.inRegion ops (q :: rest) :: k) :: cs)) w := by
  rw [eB6]
  refine goesI_seq (dt_idle _ _) ?_
  refine goesI_plain (z := zn) (wr := true) (L := LO) (I := NoRow Ch) hE fineO noRow_keeps (fun v v' w w' es hi hr ho he => dt_of_z v v' w w' es hi hr ho he) hvw fine60 rfl (by simp [base]) hn
    (Q := fun a w' => a = { tmps := #[.bool false] ++ Array.replicate 71 undef, defers := [] } ∧ w'.heap = v.heap ∧ w'.os = v.os ∧ w'.output = v.output) (fun τ => b60_wp (v := onTape v τ 0)) ?_
  rintro a0 v0 w0 ⟨rfl, e0, o0, u0⟩ hr0 hn0 -
  refine goesI_seq (dt_idle _ _) ?_
  refine goesI_plain (z := zn) (wr := true) (L := LO) (I := NoRow Ch) hE fineO noRow_keeps (fun v v' w w' es hi hr ho he => dt_of_z v v' w w' es hi hr ho he) hr0 fine61 rfl (by simp [base]) hn0
    (Q := fun a w' => ∃ wb bk sc, a = { tmps := #[.bool false, Pt wb 0, undef, undef, undef, undef, .slice (some ⟨v0.heap.size, 0, none⟩) 1 1, Pt wb 0] ++ Array.replicate 64 undef, defers := [] } ∧ IsNew (v0.alloc (.cells #[I 1] 3)) [1] wb bk sc w') (fun τ => wp_mono (b61_wp (v := onTape v0 τ 0)) (fun e a w' hq => ⟨hq.1, by
      obtain ⟨_, wb, bk, sc, h1, h2⟩ := hq
      exact ⟨wb, bk, sc, h1, h2.mem, h2.opn, h2.new, ⟨h2.old.size, h2.old.old, h2.old.os, h2.old.output⟩⟩⟩)) ?_
  rintro a1 v1 w1 ⟨wb, bk, sc, rfl, hnew⟩ hr1 hn1 -
  refine goesI_seq (dt_idle _ _) ?_
  refine goesI_plain (z := zn) (wr := true) (L := LO) (I := NoRow Ch) hE fineO noRow_keeps (fun v v' w w' es hi hr ho he => dt_of_z v v' w w' es hi hr ho he) hr1 fine62 rfl (by simp [base]) hn1
    (Q := fun a w' => a = { tmps := #[.bool false, Pt wb 0, .slice (some ⟨v1.heap.size, 0, none⟩) 1 1, undef, undef, undef, .slice (some ⟨v0.heap.size, 0, none⟩) 1 1, Pt wb 0, .agg #[I 5, I 0, I 1, I 0], .slice (some ⟨v1.heap.size, 0, none⟩) 1 1] ++ Array.replicate 62 undef, defers := [] } ∧ w'.heap = v1.heap.push (.cells #[I 5, I 0, I 1, I 0] 39) ∧ w'.os = v1.os ∧ w'.output = v1.output) (fun τ => b62_wp (v := onTape v1 τ 0) wb v0.heap.size) ?_
  rintro a2 v2 w2 ⟨rfl, e2, o2, u2⟩ hr2 hn2 -
  refine goesI_seq (dt_idle _ _) ?_
  have hset : Set6 v wb bk sc v1.heap.size ((v2.alloc (.cells #[I 0] 3)).alloc (.cells #[.slice (some ⟨v1.heap.size, 0, none⟩) 1 1, .slice (some ⟨v1.heap.size, 0, none⟩) 1 1] 37)) := by
    have ea : (v0.alloc (.cells #[I 1] 3)).heap.size = v.heap.size + 1 := by show (v0.heap.push _).size = _; rw [e0]; simp
    have hh : ((v2.alloc (.cells #[I 0] 3)).alloc (.cells #[.slice (some ⟨v1.heap.size, 0, none⟩) 1 1, .slice (some ⟨v1.heap.size, 0, none⟩) 1 1] 37)).heap = ((v1.heap.push (.cells #[I 5, I 0, I 1, I 0] 39)).push (.cells #[I 0] 3)).push (.cells #[.slice (some ⟨v1.heap.size, 0, none⟩) 1 1, .slice (some ⟨v1.heap.size, 0, none⟩) 1 1] 37) := by
      show (v2.heap.push _).push _ = _
      rw [e2]
    have hnm := hnew.mem
    have hnn := hnew.new
    rw [ea] at hnm hnn
    have hs1 : v.heap.size + 1 ≤ v1.heap.size := by rw [← ea]; exact hnew.old.size
    have k1 : ∀ b, b < v1.heap.size → ((v2.alloc (.cells #[I 0] 3)).alloc (.cells #[.slice (some ⟨v1.heap.size, 0, none⟩) 1 1, .slice (some ⟨v1.heap.size, 0, none⟩) 1 1] 37)).heap[b]? = v1.heap[b]? := fun b hb => by
      rw [hh, Array.getElem?_push, if_neg (by simp; omega), Array.getElem?_push, if_neg (by simp; omega), Array.getElem?_push, if_neg (by omega)]
    have gr1 : Grows v1 ((v2.alloc (.cells #[I 0] 3)).alloc (.cells #[.slice (some ⟨v1.heap.size, 0, none⟩) 1 1, .slice (some ⟨v1.heap.size, 0, none⟩) 1 1] 37)) := ⟨by rw [hh]; simp; omega, k1, o2, u2⟩
    have hbl : bk < v1.heap.size := by obtain ⟨c, m, h⟩ := hnew.opn; exact (Array.getElem?_eq_some_iff.1 h).1
    refine ⟨(hnm.grows gr1).mem, ?_, ?_, ?_, ?_, fun b hb => ⟨by have := hnn b hb; omega, ?_⟩, ?_⟩
    · obtain ⟨c, m, h⟩ := hnew.opn
      exact ⟨c, m, by rw [k1 bk hbl]; exact h⟩
    · rw [hh, Array.getElem?_push, if_neg (by simp; omega), Array.getElem?_push, if_neg (by simp), Array.getElem?_push, if_pos rfl]
    · rw [hh, Array.getElem?_push, if_neg (by simp), Array.getElem?_push, if_pos (by simp)]
    · rw [hh, Array.getElem?_push, if_pos (by simp)]
    · rcases hb with hb | rfl
      · exact hnm.lt hb
      · exact hbl
    · refine ⟨by have := gr1.size; omega, fun b hb => ?_, gr1.os.trans (hnew.old.os.trans o0), gr1.output.trans (hnew.old.output.trans u0)⟩
      rw [k1 b (by omega), hnew.old.old b (by rw [ea]; omega)]
      show (v0.heap.push _)[b]? = _
      rw [Array.getElem?_push, if_neg (by rw [e0]; omega), e0]
  have s2 : v2.heap.size = v1.heap.size + 1 := by rw [e2]; simp
  have s0 : v0.heap.size = v.heap.size := by rw [e0]
  clear e0 o0 u0 e2 o2 u2 hnew hr0 hn0 hr1 hn1 hvw hn
  unfold b63 B6 Try.f17 seq1 seq2
  simp only [Option.getD_some, Array.replicate_succ, Array.replicate_zero, List.push_toArray, List.append_toArray, List.nil_append, List.cons_append]
  refine goesI_region (dt_idle _ _) ?_
  simp only [List.size_toArray, List.length_cons, List.length_nil, Nat.reduceAdd, Nat.zero_add, List.range, List.range.loop]
  iterate 1
    (refine goesI_oper rfl rfl (by decide) (fun d K hK => ?_)
     go_simp
     refine hK _ _ ⟨dt_reads (fun e he => ?_), GoesI.at ?_ d⟩
     · have hm := mem_listed he
       simp [go_sem, *] at hm
       try exact ⟨_, _, hm⟩
     clear hK K)
  refine goesI_opZ (L := LO) rfl rfl (by decide) (fineOp_ask callO extT (by kernel_rfl)) hr2 hn2 (v' := v2.alloc (.cells #[I 0] 3)) (x := .slice (some ⟨v1.heap.size + 1, 0, none⟩) 1 1) (by rw [← s2]; go_simp) rfl (fun w3 hr3 hn3 => ?_)
  iterate 2
    (refine goesI_oper rfl rfl (by decide) (fun d K hK => ?_)
     go_simp
     refine hK _ _ ⟨dt_reads (fun e he => ?_), GoesI.at ?_ d⟩
     · have hm := mem_listed he
       simp [go_sem, *] at hm
       try exact ⟨_, _, hm⟩
     clear hK K)
  refine goesI_opZ (L := LO) rfl rfl (by decide) (fineOp_ask callO extT (by kernel_rfl)) hr3 hn3 (v' := (v2.alloc (.cells #[I 0] 3)).alloc (.cells #[.slice (some ⟨v1.heap.size, 0, none⟩) 1 1, .slice (some ⟨v1.heap.size, 0, none⟩) 1 1] 37)) (x := .slice (some ⟨v1.heap.size + 2, 0, none⟩) 2 2) (by rw [show v1.heap.size + 2 = v2.heap.size + 1 by omega]; go_simp) rfl (fun w4 hr4 hn4 => ?_)
  refine goesI_into (f := 19) (fn := Try.f19) (args := #[Pt wb 0, .slice (some ⟨v1.heap.size + 1, 0, none⟩) 1 1, .slice (some ⟨v1.heap.size + 2, 0, none⟩) 2 2]) (dt_idle _ _) rfl rfl (by decide) rfl (by simp [Act.eval, Act.put]) Try.func19 (by decide) rfl ?_
  refine hk _ w4 wb bk sc v1.heap.size _ _ _ _ _ _ _ hr4 hn4 hset rfl (fun Ch Stop S M A0 A1 vv ww hvw hn hD hg => ?_)
  clear hk hset hr4 hn4 hr2 hn2 hr3 hn3
  have hwb := hD.wb
  subst hwb
  iterate 5
    (refine goesI_oper rfl rfl (by decide) (fun d K hK => ?_)
     go_simp
     refine hK _ _ ⟨dt_reads (fun e he => ?_), GoesI.at ?_ d⟩
     · have hm := mem_listed he
       simp [go_sem, *] at hm
       try exact ⟨_, _, hm⟩
     clear hK K)
  refine goesI_regionEnd (dt_idle _ _) ?_
  refine goesI_seq (dt_idle _ _) ?_
  refine goesI_plain (z := zn) (wr := true) (L := LO) (I := NoRow Ch) hE fineO noRow_keeps (fun v v' w w' es hi hr ho he => dt_of_z v v' w w' es hi hr ho he) hvw fine64 rfl (by simp [base]) hn
    (Q := fun a w' => ∃ g cap, a = { tmps := #[.bool false, Pt S.wb 0, .slice (some ⟨v1.heap.size, 0, none⟩) 1 1, .slice (some ⟨M, 0, none⟩) 2 2, I 0, .slice (some ⟨g, 0, none⟩) 6 cap, .slice (some ⟨v.heap.size, 0, none⟩) 1 1, Pt S.wb 0, .agg #[I 5, I 0, I 1, I 0], .slice (some ⟨v1.heap.size, 0, none⟩) 1 1, .tuple #[.slice (some ⟨M, 0, none⟩) 2 2, I 0], Pt S.wb 0, .slice (some ⟨v1.heap.size + 1, 0, none⟩) 1 1, .slice (some ⟨v1.heap.size, 0, none⟩) 1 1, .slice (some ⟨v1.heap.size, 0, none⟩) 1 1, .slice (some ⟨v1.heap.size + 2, 0, none⟩) 2 2, .tuple #[.slice (some ⟨M, 0, none⟩) 2 2, I 0], .slice (some ⟨M, 0, none⟩) 2 2, I 0, Pt S.wb 0, .slice (some ⟨g, 0, none⟩) 6 cap] ++ Array.replicate 51 undef, defers := [] } ∧ w'.ownsRow vv.heap.size 34 5 (.slice (some ⟨g, 0, none⟩) S.n cap) S.n S.tr ∧ Grows vv w') (fun τ => ?_) ?_
  · have h := b64_wp (v := onTape vv τ 0) (S := S) (hD.rep.same (v' := onTape vv τ 0) rfl) (by rw [hD.n]; decide) (by rw [hD.n]; decide) (by rw [hD.tr]; decide) (.slice (some ⟨v1.heap.size, 0, none⟩) 1 1) (.slice (some ⟨M, 0, none⟩) 2 2) (I 0) (.slice (some ⟨v.heap.size, 0, none⟩) 1 1) (Pt S.wb 0) (.agg #[I 5, I 0, I 1, I 0]) (.slice (some ⟨v1.heap.size, 0, none⟩) 1 1) (.tuple #[.slice (some ⟨M, 0, none⟩) 2 2, I 0]) (Pt S.wb 0) (.slice (some ⟨v1.heap.size + 1, 0, none⟩) 1 1) (.slice (some ⟨v1.heap.size, 0, none⟩) 1 1) (.slice (some ⟨v1.heap.size, 0, none⟩) 1 1) (.slice (some ⟨v1.heap.size + 2, 0, none⟩) 2 2) (.tuple #[.slice (some ⟨M, 0, none⟩) 2 2, I 0]) (.slice (some ⟨M, 0, none⟩) 2 2) (I 0)
    simp only [Array.replicate_succ, Array.replicate_zero, List.push_toArray, List.append_toArray, List.nil_append, List.cons_append] at h ⊢
    refine wp_mono h (fun e a w' hq => ⟨hq.1, ?_⟩)
    obtain ⟨_, g, cap, rfl, hown, hgr⟩ := hq
    exact ⟨g, cap, by rw [hD.n], hown, ⟨hgr.size, hgr.old, hgr.os, hgr.output⟩⟩
  rintro a5 v5 w5 ⟨g, cap, rfl, hown, hgr⟩ hr5 hn5 -
  have hc : ∀ (j : Nat) (x : Value), S.tr[j]? = some x → v5.cell? ⟨g, j, none⟩ = some x := fun j x hj => by
    have := hown.cells (g := g) rfl j x hj
    rw [show (⟨g, 0, none⟩ : Addr).add j = ⟨g, j, none⟩ by unfold Addr.add; split <;> simp_all] at this
    exact this
  rw [hD.tr] at hc
  refine goesI_seq (dt_idle _ _) ?_
  refine goesI_plain (z := zn) (wr := true) (L := LO) (I := NoRow Ch) hE fineO noRow_keeps (fun v v' w w' es hi hr ho he => dt_of_z v v' w w' es hi hr ho he) hr5 fine65 rfl (by simp [base]) hn5
    (Q := fun a w' => a.tmps.getD 0 undef = .bool true ∧ w'.heap = v5.heap ∧ w'.os = v5.os ∧ w'.output = v5.output) (fun τ => b65_wp (v := onTape v5 τ 0) M A0 A1 g cap (hgr.cell hD.m0) (hgr.cell hD.m1) (hgr.cell hD.x0) (hgr.cell hD.x1) (hc 10 _ rfl) (hc 11 _ rfl) (hc 12 _ rfl) (hc 13 _ rfl) (hc 14 _ rfl) _ _ _ _ _ _ _ _ _ _ _ _ _ _ _ _ _) ?_
  rintro a6 v6 w6 ⟨ht, e6, o6, u6⟩ hr6 hn6 hd6
  refine GoesI.ctl rfl (fun _ => stepG_ret') (dt_idle _ _) ?_
  refine goesI_leave (b := base 17) (fn := Try.f17) (v := .bool true) rfl hd6 Try.func17 (fun w => ?_) (fun w => by simp [results, go_sem, Try.f17]) hoc (dt_idle _ _) ?_
  · rw [results_tmp (t := 0) rfl, ht]
  · exact hg v6 w6 hr6 hn6 ⟨by rw [e6]; exact hgr.size, fun b hb => by rw [e6]; exact hgr.old b hb, o6.trans hgr.os, u6.trans hgr.output⟩
end Go.Proofs.Ytfjjoohflcchnaa
