/- GateHolds: for every schedule and all scripts, nobody enters behind the first Shut's step, one Shut at most is the first, nobody is in when a Shut answers, and the answers say how many are in; no conditions. Part 28 of 41. (Joined, by program, of: LokD, LokR, GBit, GatE, GatL.) -/
import Derived.Test.YtehingmdmijedaaGateHolds10
import Derived.Test.YtehingmdmijedaaGateHolds12
import Derived.Test.YtehingmdmijedaaGateHolds24
import Derived.Test.YtehingmdmijedaaGateHolds26
import Derived.Test.YtehingmdmijedaaGateHolds27

/- What the lock's laws read: drawn (32), walked alone: which threads drew a ticket, in order. -/
set_option linter.unusedSimpArgs false
set_option linter.unusedVariables false
namespace Go.Proofs.Ytehingmdmijedaa.Gen
open Go Go.Lift Go.Conc Go.RowKit

theorem info3d : (Try.prog.info? 3).map (fun i => (i.zero, i.size, i.bytes)) = some (some (I 0), 1, 8) := by kernel_rfl
theorem newsI (w : World) (x : Int) (t : TypeId) : ∀ j u, [I x][j]? = some u → (w.alloc (.cells #[I x] t)).cell? ((⟨w.heap.size, 0, none⟩ : Addr).add j) = some u := by
  intro j u hj
  have hb : (w.alloc (.cells #[I x] t)).heap[w.heap.size]? = some (.cells #[I x] t) := Array.getElem?_push_size
  exact World.news_of_block hb j u hj
theorem oneI (x : Int) : ∀ u ∈ [I x], u.oneCell' = true := by
  intro u hu
  simp at hu
  subst hu
  rfl
theorem drw_take {L : List Stp} {k : Nat} {s : Stp} (h : L[k]? = some s) : drw (L.take (k + 1)) = if isT s then drw (L.take k) ++ [s.th] else drw (L.take k) := by
  rw [List.take_add_one, h]
  unfold drw
  rw [List.filter_append, List.map_append]
  cases hs : isT s <;> simp [hs]
theorem drw_len (L : List Stp) : (drw L).length ≤ L.length := by
  unfold drw
  rw [List.length_map]
  exact List.length_filter_le _ _

set_option maxHeartbeats 8000000 in
set_option maxRecDepth 100000 in
theorem body32 {v : World} {p : Option Addr} {g T ct : Nat} {L : List Stp} (hT : L.length = T) (hTs : T ≤ 400000) (hp : 0 < T → p = some ⟨g, 0, none⟩) (hL : TrL g L v) :
    Body Try.f32 #[.slice p T ct] v (fun r v' => (∃ q c, r = .slice q (drw L).length c) ∧ v'.ownsRow v.heap.size 3 1 r (drw L).length ((drw L).map I) ∧ v.heap.size ≤ v'.heap.size ∧ (∀ b, b < v.heap.size → v'.heap[b]? = v.heap[b]?) ∧ v'.os = v.os ∧ v'.output = v.output) := by
  intro code hb
  obtain rfl := Option.some.inj hb
  clear hb
  have H1 : Hid (∀ u : World, (∀ b, b < v.heap.size → u.heap[b]? = v.heap[b]?) → TrL g L u) := ⟨fun u hu k s hs => by
    have hc : ∀ (a : Addr) (x : Value), v.cell? a = some x → u.cell? a = some x := fun a x ha => by rw [World.cell?_of_block (w := v) (w' := u) (hu _ (World.block_lt_of_cell? _ _ ha))]; exact ha
    obtain ⟨h0, h1, h2, h3, h4⟩ := hL k s hs
    exact ⟨hc _ _ h0, hc _ _ h1, hc _ _ h2, hc _ _ h3, hc _ _ h4⟩⟩
  have HT : Hid (L.length = T) := ⟨hT⟩
  have HP : Hid (0 < T → p = some ⟨g, 0, none⟩) := ⟨hp⟩
  clear hL hT hp
  simp only [Try.ntmps32, List.size_toArray, List.length_cons, List.length_nil, Nat.reduceAdd, Nat.reduceSub, Array.replicate_succ, Array.replicate_zero, List.push_toArray, List.append_toArray, List.nil_append, List.cons_append]
  go_wp2_with fail
  go_loopw [3, 4] (fun l i u => ∃ k : Nat, k ≤ T ∧ i = .int .i64 k ∧ (∃ lp lc, l = .slice lp (drw (L.take k)).length lc) ∧ u.ownsRow v.heap.size 3 1 l (drw (L.take k)).length ((drw (L.take k)).map I) ∧ v.heap.size ≤ u.heap.size ∧ (∀ b, b < v.heap.size → u.heap[b]? = v.heap[b]?) ∧ u.os = v.os ∧ u.output = v.output) (fun _ i _ => T - (intOf i).toNat)
  case atStart => exact ⟨0, Nat.zero_le _, rfl, ⟨none, 0, rfl⟩, ⟨by simp [drw], .inl ⟨rfl, rfl⟩⟩, Nat.le_refl _, fun _ _ => rfl, rfl, rfl⟩
  case round =>
    obtain ⟨k, hk, rfl, ⟨lp, lc, rfl⟩, hown, hsz, hbl, hos, hou⟩ := hrel
    have HI : Hid (wr.ownsRow v.heap.size 3 1 (.slice lp (drw (L.take k)).length lc) (drw (L.take k)).length ((drw (L.take k)).map I) ∧ v.heap.size ≤ wr.heap.size ∧ (∀ b, b < v.heap.size → wr.heap[b]? = v.heap[b]?) ∧ wr.os = v.os ∧ wr.output = v.output) := ⟨⟨hown, hsz, hbl, hos, hou⟩⟩
    clear hown hsz hbl hos hou
    by_cases hlt : k < T
    · obtain rfl := HP.out (by omega)
      obtain ⟨q, hq⟩ : ∃ q, L[k]? = some q := ⟨_, List.getElem?_eq_getElem (by rw [HT.out]; exact hlt)⟩
      obtain ⟨c0, c1, c2, c3, c4⟩ := H1.out wr HI.out.2.2.1 k q hq
      have hm := drw_take hq
      have hlt' : (k : Int) < (T : Int) := by omega
      have hnl : ¬ T ≤ k := by omega
      have HLen : Hid ((drw (L.take k)).length ≤ k) := ⟨by have := drw_len (L.take k); rw [List.length_take] at this; omega⟩
      have HTr : Hid (∀ u : World, (∀ b, b < v.heap.size → u.heap[b]? = v.heap[b]?) → u.cell? ⟨g, k * 5, none⟩ = some (I q.th)) := ⟨fun u hu => (H1.out u hu k q hq).1⟩
      obtain ⟨qt, qc, qo, ql, qn⟩ := q
      simp only at c0 c1 c2 c3 c4 HTr
      clear hq
      cases hs : isT ⟨qt, qc, qo, ql, qn⟩ with
      | false =>
        rw [hs] at hm
        simp only [Bool.false_eq_true, if_false] at hm
        have HM : Hid (drw (L.take (k + 1)) = drw (L.take k)) := ⟨hm⟩
        clear hm
        have h3 : qc ≠ 0 ∨ (qc = 0 ∧ qo = 1) ∨ (qc = 0 ∧ qo ≠ 1 ∧ ql = qn) := by
          unfold isT at hs
          simp only [Bool.and_eq_false_iff, beq_eq_false_iff_ne, bne_eq_false_iff_eq] at hs
          by_cases e1 : qc = 0
          · by_cases e2 : qo = 1
            · exact .inr (.inl ⟨e1, e2⟩)
            · exact .inr (.inr ⟨e1, e2, by rcases hs with (h | h) | h; exact absurd e1 h; exact absurd h e2; exact h⟩)
          · exact .inl e1
        clear hs
        rcases h3 with h | ⟨h, h'⟩ | ⟨h, h', h''⟩
        · have f1 : (qc == 0) = false := by simp [h]
          clear h c0 c2 c3 c4
          go_wp2_with fail
          go_quiet (fail)
          go_wp2_with fail
          go_roundw
          case rel => exact ⟨k + 1, by omega, by go_num, ⟨lp, lc, by rw [HM.out]⟩, by rw [HM.out]; exact own_stay (fun _ _ => rfl) HI.out.1, HI.out.2.1, HI.out.2.2.1, HI.out.2.2.2.1, HI.out.2.2.2.2⟩
          case measure => simp [intOf]; omega
        · subst h h'
          clear c0 c3 c4
          go_wp2_with fail
          go_quiet (fail)
          go_wp2_with fail
          go_roundw
          case rel => exact ⟨k + 1, by omega, by go_num, ⟨lp, lc, by rw [HM.out]⟩, by rw [HM.out]; exact own_stay (fun _ _ => rfl) HI.out.1, HI.out.2.1, HI.out.2.2.1, HI.out.2.2.2.1, HI.out.2.2.2.2⟩
          case measure => simp [intOf]; omega
        · subst h h''
          have f2 : (qo == 1) = false := by simp [h']
          have f2' : (qo != 1) = true := by simp [h']
          clear h' c0
          go_wp2_with fail
          go_quiet (fail)
          go_wp2_with fail
          go_roundw
          case rel => exact ⟨k + 1, by omega, by go_num, ⟨lp, lc, by rw [HM.out]⟩, by rw [HM.out]; exact own_stay (fun _ _ => rfl) HI.out.1, HI.out.2.1, HI.out.2.2.1, HI.out.2.2.2.1, HI.out.2.2.2.2⟩
          case measure => simp [intOf]; omega
      | true =>
        rw [hs] at hm
        simp only [if_true] at hm
        have HM : Hid (drw (L.take (k + 1)) = drw (L.take k) ++ [qt]) := ⟨hm⟩
        clear hm
        obtain ⟨h, h', h''⟩ : qc = 0 ∧ qo ≠ 1 ∧ ql ≠ qn := by
          unfold isT at hs
          simp only [Bool.and_eq_true, beq_iff_eq, bne_iff_ne] at hs
          exact ⟨hs.1.1, hs.1.2, hs.2⟩
        clear hs
        subst h
        have f2 : (qo == 1) = false := by simp [h']
        have f2' : (qo != 1) = true := by simp [h']
        have f3 : (ql == qn) = false := by simp [h'']
        have f3' : (ql != qn) = true := by simp [h'']
        clear h' h''
        obtain ⟨j0, hj, hj0, hj1, hj2⟩ := info_parts info3d
        have HG : Hid (∀ (q : Nat) (w6 : World), ((wr.drewN q).alloc (.cells #[I qt] 3)).grownBy w6 (Value.slice lp (drw (L.take k)).length lc).ownBlock → v.heap.size ≤ w6.heap.size ∧ (∀ b, b < v.heap.size → w6.heap[b]? = v.heap[b]?) ∧ w6.os = v.os ∧ w6.output = v.output) := ⟨fun q w6 hg6 => by
          have hal : Below wr.heap.size wr ((wr.drewN q).alloc (.cells #[I qt] 3)) := below_alloc (a := wr) (b := wr.drewN q) ⟨rfl, rfl, rfl, Nat.le_refl _, fun _ _ => rfl⟩ _
          have hblk : ∀ b, b < v.heap.size → w6.heap[b]? = v.heap[b]? := fun b hb => by
            rw [hg6.block b (by have := HI.out.2.1; have := hal.size; omega) (fun e => by have := (own_lt HI.out.1 b e.symm).1; omega), hal.block b (by have := HI.out.2.1; omega), HI.out.2.2.1 b hb]
          exact ⟨by have := HI.out.2.1; have := hal.size; have := hg6.size; omega, hblk, by rw [hg6.os, hal.os]; exact HI.out.2.2.2.1, by rw [hg6.output, hal.output]; exact HI.out.2.2.2.2⟩⟩
        go_wp2_with fail
        go_quiet (fail)
        go_wp2_with (first
          | (refine wpList_append_lies _ rfl (.tmp 38) (.tmp 44) 22 rfl v.heap.size 3 j0 _ 1 8 Try.underlying22 hj hj0 hj1 hj2 rfl (by decide) (.slice lp (drw (L.take k)).length lc) (drw (L.take k)).length ((drw (L.take k)).map I) rfl (own_later (below_alloc (Below.refl _ _) _) (own_stay (fun _ _ => rfl) HI.out.1)) ⟨_, 0, none⟩ 1 1 [I qt] rfl rfl (newsI _ _ _) (oneI _) (by decide) (by have := HLen.out; unfold maxLen; omega) (by have := HLen.out; omega) (by have := HI.out.2.1; simp; omega) _ rfl ?_
             intro g2 cp2 w6 hown6 hgrow6 hat6 hlt6))
        have HO6 : Hid (w6.ownsRow v.heap.size 3 1 (.slice (some ⟨g2, 0, none⟩) ((drw (L.take k)).length + 1) cp2) ((drw (L.take k)).length + 1) (((drw (L.take k)).map I) ++ [I qt])) := ⟨hown6⟩
        have HG6 := HG.out _ _ hgrow6
        go_roundw
        case rel =>
          have el : (drw (L.take (k + 1))).length = (drw (L.take k)).length + 1 := by rw [HM.out]; simp
          refine ⟨k + 1, by omega, by go_num, ⟨some ⟨g2, 0, none⟩, cp2, by rw [el]⟩, ?_, HG6.1, HG6.2.1, HG6.2.2.1, HG6.2.2.2⟩
          rw [el, HM.out, List.map_append]
          exact HO6.out
        case measure => simp [intOf]; omega
    · have hkk : k = T := by omega
      subst hkk
      have hfin : L.take k = L := List.take_of_length_le (by rw [HT.out]; exact Nat.le_refl _)
      rw [hfin] at HI ⊢
      clear hfin
      go_wp2_with fail
      go_ret
      exact ⟨_, rfl, ⟨_, _, rfl⟩, own_stay (fun _ _ => rfl) HI.out.1, HI.out.2.1, HI.out.2.2.1, HI.out.2.2.2.1, HI.out.2.2.2.2⟩
end Go.Proofs.Ytehingmdmijedaa.Gen

/- What the lock's laws read behind Play: where answers and scripts lie; a row of their own that counts; which call a ticket is. -/
set_option linter.unusedSimpArgs false
set_option linter.unusedVariables false
namespace Go.Proofs.Ytehingmdmijedaa.Gen
open Go Go.Lift Go.Conc Go.RowKit
open Go.ConcN (upd upd_same upd_ne)

theorem grow_same {v v' : World} (e : v'.heap = v.heap) (e1 : v'.os = v.os) (e2 : v'.output = v.output) : Grows v v' := ⟨by rw [e]; exact Nat.le_refl _, fun b _ => by rw [e], e1, e2⟩
theorem grow_push {v v' : World} {x : Obj} (e : v'.heap = v.heap.push x) (e1 : v'.os = v.os) (e2 : v'.output = v.output) : Grows v v' := ⟨by rw [e]; simp, fun b hb => by rw [e, Array.getElem?_push, if_neg (by omega)], e1, e2⟩
theorem grow_trans {v v' v2 : World} (a : Grows v v') (b : Grows v' v2) : Grows v v2 := ⟨Nat.le_trans a.size b.size, fun q hq => by rw [b.old q (Nat.lt_of_lt_of_le hq a.size), a.old q hq], b.os.trans a.os, b.output.trans a.output⟩

/-- Where the answers and the scripts lie. -/
structure RK (n M b o : Nat) (A ln cp rb ro : Nat → Nat) (pc : Nat → Option Addr) (cl : Nat → List Cl) (l : Nat → Ph) (v : World) : Prop where
  ar : ∀ k, k < n → v.cell? ⟨M, k, none⟩ = some (.slice (some ⟨A k, 0, none⟩) (ln k) (ln k))
  an : ∀ k, k < n → ∀ (j : Nat) (q : Int × Int), (l k).ans[j]? = some q → v.cell? ⟨A k, j * 2, none⟩ = some (I q.1) ∧ v.cell? ⟨A k, j * 2 + 1, none⟩ = some (I q.2)
  sr : ∀ k, k < n → v.cell? ⟨b, o + k, none⟩ = some (.slice (pc k) (ln k) (cp k))
  pq : ∀ k, k < n → 0 < ln k → pc k = some ⟨rb k, ro k, none⟩
  sa : ∀ k, k < n → ∀ (j : Nat) (c : Cl), (cl k)[j]? = some c → v.cell? ⟨rb k, ro k + j * 4, none⟩ = some (I c.po) ∧ v.cell? ⟨rb k, ro k + j * 4 + 1, none⟩ = some (I c.ca)
theorem RK.go {n M b o : Nat} {A ln cp rb ro : Nat → Nat} {pc : Nat → Option Addr} {cl : Nat → List Cl} {l : Nat → Ph} {v v' : World} (h : RK n M b o A ln cp rb ro pc cl l v) (g : ∀ q, q < v.heap.size → v'.heap[q]? = v.heap[q]?) : RK n M b o A ln cp rb ro pc cl l v' := by
  have hc : ∀ (a : Addr) (x : Value), v.cell? a = some x → v'.cell? a = some x := fun a x ha => by rw [World.cell?_of_block (w := v) (w' := v') (g _ (World.block_lt_of_cell? _ _ ha))]; exact ha
  exact ⟨fun k hk => hc _ _ (h.ar k hk), fun k hk j q hq => ⟨hc _ _ (h.an k hk j q hq).1, hc _ _ (h.an k hk j q hq).2⟩, fun k hk => hc _ _ (h.sr k hk), h.pq, fun k hk j c hj => ⟨hc _ _ (h.sa k hk j c hj).1, hc _ _ (h.sa k hk j c hj).2⟩⟩
theorem TrL.go {g : Nat} {L : List Stp} {v v' : World} (h : TrL g L v) (q : ∀ b, b < v.heap.size → v'.heap[b]? = v.heap[b]?) : TrL g L v' := fun k s hs => by
  have hc : ∀ (a : Addr) (x : Value), v.cell? a = some x → v'.cell? a = some x := fun a x ha => by rw [World.cell?_of_block (w := v) (w' := v') (q _ (World.block_lt_of_cell? _ _ ha))]; exact ha
  obtain ⟨h1, h2, h3, h4, h5⟩ := h k s hs
  exact ⟨hc _ _ h1, hc _ _ h2, hc _ _ h3, hc _ _ h4, hc _ _ h5⟩
/-- A row of numbers, one a thread. -/
def NR (n : Nat) (f : Nat → Nat) : Obj := .cells ((List.range n).map fun t => I (f t : Int)).toArray 3 (0, 0)
structure NxW (v : World) (nb n : Nat) (f : Nat → Nat) (u : World) : Prop where
  oth : ∀ q, q ≠ nb → u.heap[q]? = v.heap[q]?
  row : u.heap[nb]? = some (NR n f)
  os : u.os = v.os
  out : u.output = v.output
section
variable {v u u' : World} {nb n t : Nat} {f : Nat → Nat}
theorem NxW.cell (h : NxW v nb n f u) (ht : t < n) : u.cell? ⟨nb, t, none⟩ = some (I (f t : Int)) := cell_of h.row (by simp [ht])
theorem NxW.frozen (h : NxW v nb n f u) : u.frozen? ⟨nb, t, none⟩ = false := by
  have := h.row
  unfold NR at this
  simp [World.frozen?, this]
theorem NxW.same (h : NxW v nb n f u) (e : u'.heap = u.heap) (e1 : u'.os = u.os) (e2 : u'.output = u.output) : NxW v nb n f u' := ⟨fun q hq => by rw [e]; exact h.oth q hq, by rw [e]; exact h.row, e1.trans h.os, e2.trans h.out⟩
theorem NxW.set (h : NxW v nb n f u) {x : Nat} (e : u'.heap = (u.setCell ⟨nb, t, none⟩ (I (x : Int))).heap) (e1 : u'.os = u.os) (e2 : u'.output = u.output) : NxW v nb n (upd f t x) u' := by
  refine ⟨fun q hq => by rw [e, Below.heap_setCell _ _ _ _ hq]; exact h.oth q hq, ?_, e1.trans h.os, e2.trans h.out⟩
  have hr := h.row
  unfold NR at hr
  rw [e, heap_setCell_same hr]
  unfold NR
  congr 2
  apply Array.ext_getElem?
  intro i
  rw [Array.getElem?_setIfInBounds]
  simp only [List.size_toArray, List.length_map, List.length_range, List.getElem?_toArray, List.getElem?_map]
  by_cases hi : i < n
  · rw [List.getElem?_range hi]
    by_cases e : t = i
    · subst e
      simp [hi, upd_same]
    · have : upd f t x i = f i := upd_ne _ _ (fun h => e h.symm)
      simp [e, this]
  · have e3 : (List.range n)[i]? = none := List.getElem?_eq_none (by simp; omega)
    rw [e3]
    by_cases e : t = i
    · subst e; simp [hi]
    · simp [e]
theorem NxW.start (e : u.heap = v.heap) (hr : v.heap[nb]? = some (.cells (Array.replicate n (I 0)) 3)) (e1 : u.os = v.os) (e2 : u.output = v.output) : NxW v nb n (fun _ => 0) u := by
  refine ⟨fun q _ => by rw [e], ?_, e1, e2⟩
  rw [e, hr]
  unfold NR
  congr 2
  apply Array.ext_getElem?
  intro i
  simp only [List.getElem?_toArray, List.getElem?_map, Array.getElem?_replicate]
  by_cases hi : i < n
  · rw [if_pos hi, List.getElem?_range hi]; rfl
  · rw [if_neg hi, List.getElem?_eq_none (by simp; omega)]; rfl
end

section
variable {T : List Tk} (ord : ∀ (a b : Nat) (t u : Tk), a < b → T[a]? = some t → T[b]? = some u → t.th = u.th → t.k < u.k)
include ord
end
end Go.Proofs.Ytehingmdmijedaa.Gen

/- The lowest bit of a number. -/
set_option linter.unusedSimpArgs false
set_option linter.unusedVariables false
namespace Go.Proofs.Ytehingmdmijedaa.Gen
open Go Go.Lift Go.Conc Go.RowKit
end Go.Proofs.Ytehingmdmijedaa.Gen

/- gate's Enter (69), in company, in pieces: it looks at the cell; it has seen what stands there; it tries to count down; it did, or another was ahead of it. -/
set_option linter.unusedSimpArgs false
set_option linter.unusedVariables false
namespace Go.Proofs.Ytehingmdmijedaa.Gen
open Go Go.Lift Go.Conc Go.RowKit

noncomputable def L69 : Code := loopC (blockC (seq2 (Try.f69.body.getD .skip)))
noncomputable def B69 : Code := blockC L69
noncomputable def ops691 : Array Oper := opsOf (seq1 B69)
noncomputable def ops694 : Array Oper := opsOf (seq1 (seq2 (seq2 B69)))

/-- The frame where it looks. -/
noncomputable def eFr (lb tb : Nat) (u : Nat → Value) : Frame :=
  (base 69).at ⟨#[Pt lb 0, Pt tb 0, undef, undef, I 0, u 5, u 6, u 7, u 8, u 9, u 10, u 11, u 12, u 13, u 14, u 15, u 16, u 17, u 18, u 19, u 20, u 21, u 22, u 23], []⟩ [.code L69, .inLoop L69, .inBlock 0]
/-- The frame where it has seen what stands there. -/
noncomputable def eSeen (lb cb tb : Nat) (u : Nat → Value) (r : Value) : Frame :=
  (base 69).at ((⟨#[Pt lb 0, Pt tb 0, undef, undef, I 0, u 5, Pt lb 0, Pt lb 0, Pt lb 0, Pt cb 0, Pt tb 0, u 11, u 12, u 13, u 14, u 15, u 16, u 17, u 18, u 19, u 20, u 21, u 22, u 23], []⟩ : Act).put (some 11) r) [.inRegion ops691 [6], .code (seq2 B69), .inBlock 1, .inLoop L69, .inBlock 0]
/-- The frame where it has tried. -/
noncomputable def eTried (lb tb : Nat) (u : Nat → Value) (r : Value) : Frame :=
  (base 69).at ((⟨#[Pt lb 0, Pt tb 0, undef, undef, I 0, u 5, u 6, u 7, u 8, u 9, u 10, u 11, u 12, u 13, u 14, u 15, u 16, u 17, u 18, u 19, u 20, u 21, u 22, u 23], []⟩ : Act).put (some 23) r) [.inRegion ops694 [], .code (seq2 (seq2 (seq2 B69))), .inBlock 1, .inLoop L69, .inBlock 0]

set_option maxHeartbeats 1000000 in
set_option maxRecDepth 100000 in
theorem enter_loop {z : Nat → Option Nat} {Ch : Nat → Prop} {Stop : Goroutine → World → Prop} {h : Nat} {cont : Addr → Value} {S : TS} {K : List (Nat × Int)} {v w : World} {i j cb lb : Nat} {t : Thr} (x : Int) (u : Nat → Value) (cs : List Frame) (Hm : Goroutine → Prop)
    (hH : ∀ g, OpBack (h == 0) i j cb t.tb 1 effLoad (fun r => G (eSeen lb cb t.tb u r) cs) g → Hm g) (hlb : v.cell? ⟨lb, 0, none⟩ = some (Pt cb 0))
    (hvw : Rel z v w) (hn : NoRow Ch v) (hm : Mem z S K v) (ht : S.thr[i]? = some t) (hK : K[j]? = some (cb, x)) (hz : z t.tb = some 2) (hcont : cont ⟨t.tb, 2, none⟩ = .chan (some t.gc))
    (hstop : ∀ g w', GiveT z cont h S.bk t.gc Hm (Then z Ch S K v (waiting S i t 1 1 j) K) g w' → Stop g w') :
    GoesI Try.prog (h == 0) (DT (ScZ z) Ch) Stop (G (eFr lb t.tb u) cs) w := by
  have e0 : w.cell? ⟨lb, 0, none⟩ = some (Pt cb 0) := by rw [hvw.cell?]; exact hlb
  have HM : Hid (Mem z S K v) := ⟨hm⟩
  clear hm
  unfold eFr L69 Try.f69 seq2 blockC loopC
  simp only [Option.getD_some]
  refine goesI_block (dt_idle _ _) ?_
  refine goesI_seq (dt_idle _ _) ?_
  refine goesI_region (dt_idle _ _) ?_
  simp only [List.size_toArray, List.length_cons, List.length_nil, Nat.reduceAdd, Nat.zero_add, List.range, List.range.loop]
  iterate 5
    (refine goesI_oper rfl rfl (by decide) (fun d K hK => ?_)
     go_simp
     refine hK _ _ ⟨dt_reads (fun e he => ?_), GoesI.at ?_ d⟩
     · have hm := mem_listed he
       simp [go_sem, *] at hm
       try exact ⟨_, _, hm⟩
     clear hK K)
  refine goesI_into (f := 26) (fn := Try.f26) (args := #[Pt cb 0, Pt t.tb 0]) (dt_idle _ _) rfl rfl (by decide) rfl (by simp [Act.eval]) Try.func26 (by decide) rfl ?_
  exact load_goes x _ Hm rfl (fun g hg => hH g hg) hvw hn HM.out ht hK hz hcont hstop _ rfl

/-- It has been entered. -/
theorem enter_in {z : Nat → Option Nat} {Ch : Nat → Prop} {Stop : Goroutine → World → Prop} {main : Bool} {w : World} {lb tb : Nat} (cs : List Frame)
    (hk : ∀ u, GoesI Try.prog main (DT (ScZ z) Ch) Stop (G (eFr lb tb u) cs) w) (code : Code) (hc : Try.f69.body = some code) :
    GoesI Try.prog main (DT (ScZ z) Ch) Stop (G ((base 69).at { tmps := #[Pt lb 0, Pt tb 0] ++ Array.replicate 22 undef, defers := [] } [.code code]) cs) w := by
  obtain rfl := Option.some.inj hc
  clear hc
  simp only [Array.replicate_succ, Array.replicate_zero, List.push_toArray, List.append_toArray, List.nil_append, List.cons_append]
  refine goesI_seq (dt_idle _ _) ?_
  refine goesI_region (dt_idle _ _) ?_
  simp only [List.size_toArray, List.length_cons, List.length_nil, Nat.reduceAdd, Nat.zero_add, List.range, List.range.loop]
  (refine goesI_oper rfl rfl (by decide) (fun d K hK => ?_)
   go_simp
   refine hK _ _ ⟨dt_reads (fun e he => ?_), GoesI.at ?_ d⟩
   · have hm := mem_listed he
     simp [go_sem, *] at hm
   clear hK K)
  refine goesI_regionEnd (dt_idle _ _) ?_
  refine goesI_block (dt_idle _ _) ?_
  refine goesI_loop (dt_idle _ _) ?_
  exact hk (fun _ => undef)

noncomputable def low69 : Code := condA (seq2 (seq1 (seq2 B69)))
theorem fineLow69 : fineCode Try.prog true LT low69 := fineCode_ask callT extT (by kernel_rfl)
set_option maxHeartbeats 1000000 in
set_option maxRecDepth 100000 in
/-- It stands at nothing: ErrLatchLow. -/
theorem enter_low {z : Nat → Option Nat} {Ch : Nat → Prop} {Stop : Goroutine → World → Prop} {main : Bool} {v w : World} {lb cb tb : Nat} (x : Int) (hx : bits .and .i64 x 1 ≠ 0) (u : Nat → Value) (cs : List Frame) {bc : Frame} {ac : Act} {ops : Array Oper} {q : Nat} {rest : List Nat} {oc : Oper} {k : List Item} (hoc : ops[q]? = some oc)
    (hvw : Rel z v w) (hn : NoRow Ch v)
    (hk : ∀ v' w', Rel z v' w' → NoRow Ch v' → v'.heap = v.heap → v'.os = v.os → v'.output = v.output → GoesI Try.prog main (DT (ScZ z) Ch) Stop (G (bc.at (ac.put oc.dst (I 60)) (.inRegion ops rest :: k)) cs) w') :
    GoesI Try.prog main (DT (ScZ z) Ch) Stop (G (eSeen lb cb tb u (I x)) (bc.at ac (.inRegion ops (q :: rest) :: k) :: cs)) w := by
  unfold eSeen ops691 B69 L69 Try.f69 seq2 seq1 blockC loopC opsOf
  simp only [Option.getD_some]
  walk_nrm
  (refine goesI_oper rfl rfl (by decide) (fun d K hK => ?_)
   go_simp
   refine hK _ _ ⟨dt_reads (fun e he => ?_), GoesI.at ?_ d⟩
   · have hm := mem_listed he
     simp [go_sem, *] at hm
   clear hK K)
  refine goesI_regionEnd (dt_idle _ _) ?_
  refine goesI_seq (dt_idle _ _) ?_
  refine goesI_seq (dt_idle _ _) ?_
  refine goesI_region (dt_idle _ _) ?_
  simp only [List.size_toArray, List.length_cons, List.length_nil, Nat.reduceAdd, Nat.zero_add, List.range, List.range.loop]
  iterate 3
    (refine goesI_oper rfl rfl (by decide) (fun d K hK => ?_)
     go_simp
     refine hK _ _ ⟨dt_reads (fun e he => ?_), GoesI.at ?_ d⟩
     · have hm := mem_listed he
       simp [go_sem, *] at hm
     clear hK K)
  refine goesI_regionEnd (dt_idle _ _) ?_
  refine goesI_cond (dt_idle _ _) (t := true) (by simp [Act.eval, hx]) ?_
  simp only [if_true, if_false, Bool.false_eq_true]
  refine goesI_outZ (c := low69) (f := 69) (fn := Try.f69) (L := LT) hE fineT hvw hn Try.func69 fineLow69 rfl hoc (R := fun r w' => r = I 60 ∧ w'.heap = v.heap ∧ w'.os = v.os ∧ w'.output = v.output) (fun τ => ?_) (fun r v' w' hR hr' hn' => ?_)
  · show Code.wp Try.prog (condA (seq2 (seq1 (seq2 (blockC (loopC (blockC (seq2 (Try.f69.body.getD .skip))))))))) _ _ _
    unfold Try.f69 condA seq2 seq1 blockC loopC
    simp only [Option.getD_some]
    go_wp2_with fail
    exact ⟨_, results_tmp rfl _ _ _, rfl, rfl, rfl, rfl⟩
  · obtain ⟨rfl, h1, h2, h3⟩ := hR
    exact hk v' w' hr' hn' h1 h2 h3

/-- What it holds where it tries. -/
def eVal (lb cb tb : Nat) (x : Int) (u : Nat → Value) : Nat → Value
  | 5 => I x
  | 6 => Pt lb 0
  | 7 => Pt lb 0
  | 8 => Pt lb 0
  | 9 => Pt cb 0
  | 10 => Pt tb 0
  | 11 => I x
  | 12 => I x
  | 13 => I 0
  | 14 => .bool false
  | 15 => Pt lb 0
  | 16 => Pt lb 0
  | 17 => Pt lb 0
  | 18 => Pt cb 0
  | 19 => Pt tb 0
  | 20 => I x
  | 21 => I x
  | 22 => I (wrap64 (x + 2))
  | k => u k

set_option maxHeartbeats 1000000 in
set_option maxRecDepth 100000 in
/-- Something stands there: it tries to count it down. -/
theorem enter_try {z : Nat → Option Nat} {Ch : Nat → Prop} {Stop : Goroutine → World → Prop} {h : Nat} {cont : Addr → Value} {S : TS} {K : List (Nat × Int)} {v w : World} {i j cb lb : Nat} {t : Thr} (x : Int) (hx : bits .and .i64 x 1 = 0) (y : Int) (u : Nat → Value) (cs : List Frame) (Hm : Goroutine → Prop)
    (hH : ∀ g, OpBack (h == 0) i j cb t.tb 4 (effCas x (wrap64 (x + 2))) (fun r => G (eTried lb t.tb (eVal lb cb t.tb x u) r) cs) g → Hm g) (hlb : v.cell? ⟨lb, 0, none⟩ = some (Pt cb 0))
    (hvw : Rel z v w) (hn : NoRow Ch v) (hm : Mem z S K v) (ht : S.thr[i]? = some t) (hK : K[j]? = some (cb, y)) (hz : z t.tb = some 2) (hcont : cont ⟨t.tb, 2, none⟩ = .chan (some t.gc))
    (hstop : ∀ g w', GiveT z cont h S.bk t.gc Hm (Then z Ch S K v (waiting S i t 1 4 j) K) g w' → Stop g w') :
    GoesI Try.prog (h == 0) (DT (ScZ z) Ch) Stop (G (eSeen lb cb t.tb u (I x)) cs) w := by
  have e0 : w.cell? ⟨lb, 0, none⟩ = some (Pt cb 0) := by rw [hvw.cell?]; exact hlb
  have HM : Hid (Mem z S K v) := ⟨hm⟩
  clear hm
  unfold eSeen ops691 B69 L69 Try.f69 seq2 seq1 blockC loopC opsOf
  simp only [Option.getD_some]
  walk_nrm
  (refine goesI_oper rfl rfl (by decide) (fun d K hK => ?_)
   go_simp
   refine hK _ _ ⟨dt_reads (fun e he => ?_), GoesI.at ?_ d⟩
   · have hm := mem_listed he
     simp [go_sem, *] at hm
   clear hK K)
  refine goesI_regionEnd (dt_idle _ _) ?_
  refine goesI_seq (dt_idle _ _) ?_
  refine goesI_seq (dt_idle _ _) ?_
  refine goesI_region (dt_idle _ _) ?_
  simp only [List.size_toArray, List.length_cons, List.length_nil, Nat.reduceAdd, Nat.zero_add, List.range, List.range.loop]
  iterate 3
    (refine goesI_oper rfl rfl (by decide) (fun d K hK => ?_)
     go_simp
     refine hK _ _ ⟨dt_reads (fun e he => ?_), GoesI.at ?_ d⟩
     · have hm := mem_listed he
       simp [go_sem, *] at hm
     clear hK K)
  refine goesI_regionEnd (dt_idle _ _) ?_
  refine goesI_cond (dt_idle _ _) (t := false) (by simp [Act.eval, hx]) ?_
  simp only [if_true, if_false, Bool.false_eq_true]
  refine goesI_skip (dt_idle _ _) ?_
  refine goesI_seq (dt_idle _ _) ?_
  refine goesI_region (dt_idle _ _) ?_
  simp only [List.size_toArray, List.length_cons, List.length_nil, Nat.reduceAdd, Nat.zero_add, List.range, List.range.loop]
  iterate 8
    (refine goesI_oper rfl rfl (by decide) (fun d K hK => ?_)
     go_simp
     refine hK _ _ ⟨dt_reads (fun e he => ?_), GoesI.at ?_ d⟩
     · have hm := mem_listed he
       simp [go_sem, *] at hm
       try exact ⟨_, _, hm⟩
     clear hK K)
  rw [show IntKind.wrap .i64 (x + 2) = wrap64 (x + 2) from Go.IntWalk.i64_left _]
  refine goesI_into (f := 23) (fn := Try.f23) (args := #[Pt cb 0, Pt t.tb 0, I x, I (wrap64 (x + 2))]) (dt_idle _ _) rfl rfl (by decide) rfl (by simp [Act.eval]) Try.func23 (by decide) rfl ?_
  exact cas_goes x (wrap64 (x + 2)) y _ Hm rfl (fun g hg => hH g hg) hvw hn HM.out ht hK hz hcont hstop _ rfl

noncomputable def won69 : Code := condA (seq2 (seq2 (seq2 B69)))
theorem fineWon69 : fineCode Try.prog true LT won69 := fineCode_ask callT extT (by kernel_rfl)
set_option maxHeartbeats 1000000 in
set_option maxRecDepth 100000 in
/-- It did. -/
theorem enter_won {z : Nat → Option Nat} {Ch : Nat → Prop} {Stop : Goroutine → World → Prop} {main : Bool} {v w : World} {lb tb : Nat} (u : Nat → Value) (cs : List Frame) {bc : Frame} {ac : Act} {ops : Array Oper} {q : Nat} {rest : List Nat} {oc : Oper} {k : List Item} (hoc : ops[q]? = some oc)
    (hvw : Rel z v w) (hn : NoRow Ch v)
    (hk : ∀ v' w', Rel z v' w' → NoRow Ch v' → v'.heap = v.heap → v'.os = v.os → v'.output = v.output → GoesI Try.prog main (DT (ScZ z) Ch) Stop (G (bc.at (ac.put oc.dst (I 0)) (.inRegion ops rest :: k)) cs) w') :
    GoesI Try.prog main (DT (ScZ z) Ch) Stop (G (eTried lb tb u (.bool true)) (bc.at ac (.inRegion ops (q :: rest) :: k) :: cs)) w := by
  unfold eTried ops694 B69 L69 Try.f69 seq2 seq1 blockC loopC opsOf
  simp only [Option.getD_some]
  walk_nrm
  refine goesI_regionEnd (dt_idle _ _) ?_
  refine goesI_cond (dt_idle _ _) (t := true) rfl ?_
  simp only [if_true, if_false, Bool.false_eq_true]
  refine goesI_outZ (c := won69) (f := 69) (fn := Try.f69) (L := LT) hE fineT hvw hn Try.func69 fineWon69 rfl hoc (R := fun r w' => r = I 0 ∧ w'.heap = v.heap ∧ w'.os = v.os ∧ w'.output = v.output) (fun τ => ?_) (fun r v' w' hR hr' hn' => ?_)
  · show Code.wp Try.prog (condA (seq2 (seq2 (seq2 (blockC (loopC (blockC (seq2 (Try.f69.body.getD .skip))))))))) _ _ _
    unfold Try.f69 condA seq2 blockC loopC
    simp only [Option.getD_some]
    go_wp2_with fail
    exact ⟨_, results_tmp rfl _ _ _, rfl, rfl, rfl, rfl⟩
  · obtain ⟨rfl, h1, h2, h3⟩ := hR
    exact hk v' w' hr' hn' h1 h2 h3

set_option maxHeartbeats 1000000 in
set_option maxRecDepth 100000 in
/-- Another was ahead of it: it looks again. -/
theorem enter_again {z : Nat → Option Nat} {Ch : Nat → Prop} {Stop : Goroutine → World → Prop} {main : Bool} {w : World} {lb tb : Nat} (u : Nat → Value) (cs : List Frame)
    (hk : ∀ u, GoesI Try.prog main (DT (ScZ z) Ch) Stop (G (eFr lb tb u) cs) w) :
    GoesI Try.prog main (DT (ScZ z) Ch) Stop (G (eTried lb tb u (.bool false)) cs) w := by
  unfold eFr L69 Try.f69 seq2 blockC loopC at hk
  simp only [Option.getD_some] at hk
  unfold eTried ops694 B69 L69 Try.f69 seq2 seq1 blockC loopC opsOf
  simp only [Option.getD_some]
  walk_nrm
  refine goesI_regionEnd (dt_idle _ _) ?_
  refine goesI_cond (dt_idle _ _) (t := false) rfl ?_
  simp only [if_true, if_false, Bool.false_eq_true]
  refine goesI_skip (dt_idle _ _) ?_
  refine goesI_inBlock (dt_idle _ _) ?_
  refine goesI_inLoop (dt_idle _ _) ?_
  exact hk (fun m => match m with | 23 => .bool false | m => u m)
end Go.Proofs.Ytehingmdmijedaa.Gen

/- gate's Leave (70), in company, in pieces: it looks at the cell; it has seen what stands there; it tries to count down; it did, or another was ahead of it. -/
set_option linter.unusedSimpArgs false
set_option linter.unusedVariables false
namespace Go.Proofs.Ytehingmdmijedaa.Gen
open Go Go.Lift Go.Conc Go.RowKit

noncomputable def L70 : Code := loopC (blockC (seq2 (Try.f70.body.getD .skip)))
noncomputable def B70 : Code := blockC L70
noncomputable def ops701 : Array Oper := opsOf (seq1 B70)
noncomputable def ops704 : Array Oper := opsOf (seq1 (seq2 (seq2 B70)))

/-- The frame where it looks. -/
noncomputable def lFr (lb tb : Nat) (u : Nat → Value) : Frame :=
  (base 70).at ⟨#[Pt lb 0, Pt tb 0, undef, undef, I 0, u 5, u 6, u 7, u 8, u 9, u 10, u 11, u 12, u 13, u 14, u 15, u 16, u 17, u 18, u 19, u 20, u 21, u 22], []⟩ [.code L70, .inLoop L70, .inBlock 0]
/-- The frame where it has seen what stands there. -/
noncomputable def lSeen (lb cb tb : Nat) (u : Nat → Value) (r : Value) : Frame :=
  (base 70).at ((⟨#[Pt lb 0, Pt tb 0, undef, undef, I 0, u 5, Pt lb 0, Pt lb 0, Pt lb 0, Pt cb 0, Pt tb 0, u 11, u 12, u 13, u 14, u 15, u 16, u 17, u 18, u 19, u 20, u 21, u 22], []⟩ : Act).put (some 11) r) [.inRegion ops701 [6], .code (seq2 B70), .inBlock 1, .inLoop L70, .inBlock 0]
/-- The frame where it has tried. -/
noncomputable def lTried (lb tb : Nat) (u : Nat → Value) (r : Value) : Frame :=
  (base 70).at ((⟨#[Pt lb 0, Pt tb 0, undef, undef, I 0, u 5, u 6, u 7, u 8, u 9, u 10, u 11, u 12, u 13, u 14, u 15, u 16, u 17, u 18, u 19, u 20, u 21, u 22], []⟩ : Act).put (some 22) r) [.inRegion ops704 [], .code (seq2 (seq2 (seq2 B70))), .inBlock 1, .inLoop L70, .inBlock 0]

set_option maxHeartbeats 1000000 in
set_option maxRecDepth 100000 in
theorem leave_loop {z : Nat → Option Nat} {Ch : Nat → Prop} {Stop : Goroutine → World → Prop} {h : Nat} {cont : Addr → Value} {S : TS} {K : List (Nat × Int)} {v w : World} {i j cb lb : Nat} {t : Thr} (x : Int) (u : Nat → Value) (cs : List Frame) (Hm : Goroutine → Prop)
    (hH : ∀ g, OpBack (h == 0) i j cb t.tb 1 effLoad (fun r => G (lSeen lb cb t.tb u r) cs) g → Hm g) (hlb : v.cell? ⟨lb, 0, none⟩ = some (Pt cb 0))
    (hvw : Rel z v w) (hn : NoRow Ch v) (hm : Mem z S K v) (ht : S.thr[i]? = some t) (hK : K[j]? = some (cb, x)) (hz : z t.tb = some 2) (hcont : cont ⟨t.tb, 2, none⟩ = .chan (some t.gc))
    (hstop : ∀ g w', GiveT z cont h S.bk t.gc Hm (Then z Ch S K v (waiting S i t 1 1 j) K) g w' → Stop g w') :
    GoesI Try.prog (h == 0) (DT (ScZ z) Ch) Stop (G (lFr lb t.tb u) cs) w := by
  have e0 : w.cell? ⟨lb, 0, none⟩ = some (Pt cb 0) := by rw [hvw.cell?]; exact hlb
  have HM : Hid (Mem z S K v) := ⟨hm⟩
  clear hm
  unfold lFr L70 Try.f70 seq2 blockC loopC
  simp only [Option.getD_some]
  refine goesI_block (dt_idle _ _) ?_
  refine goesI_seq (dt_idle _ _) ?_
  refine goesI_region (dt_idle _ _) ?_
  simp only [List.size_toArray, List.length_cons, List.length_nil, Nat.reduceAdd, Nat.zero_add, List.range, List.range.loop]
  iterate 5
    (refine goesI_oper rfl rfl (by decide) (fun d K hK => ?_)
     go_simp
     refine hK _ _ ⟨dt_reads (fun e he => ?_), GoesI.at ?_ d⟩
     · have hm := mem_listed he
       simp [go_sem, *] at hm
       try exact ⟨_, _, hm⟩
     clear hK K)
  refine goesI_into (f := 26) (fn := Try.f26) (args := #[Pt cb 0, Pt t.tb 0]) (dt_idle _ _) rfl rfl (by decide) rfl (by simp [Act.eval]) Try.func26 (by decide) rfl ?_
  exact load_goes x _ Hm rfl (fun g hg => hH g hg) hvw hn HM.out ht hK hz hcont hstop _ rfl

/-- It has been entered. -/
theorem leave_in {z : Nat → Option Nat} {Ch : Nat → Prop} {Stop : Goroutine → World → Prop} {main : Bool} {w : World} {lb tb : Nat} (cs : List Frame)
    (hk : ∀ u, GoesI Try.prog main (DT (ScZ z) Ch) Stop (G (lFr lb tb u) cs) w) (code : Code) (hc : Try.f70.body = some code) :
    GoesI Try.prog main (DT (ScZ z) Ch) Stop (G ((base 70).at { tmps := #[Pt lb 0, Pt tb 0] ++ Array.replicate 21 undef, defers := [] } [.code code]) cs) w := by
  obtain rfl := Option.some.inj hc
  clear hc
  simp only [Array.replicate_succ, Array.replicate_zero, List.push_toArray, List.append_toArray, List.nil_append, List.cons_append]
  refine goesI_seq (dt_idle _ _) ?_
  refine goesI_region (dt_idle _ _) ?_
  simp only [List.size_toArray, List.length_cons, List.length_nil, Nat.reduceAdd, Nat.zero_add, List.range, List.range.loop]
  (refine goesI_oper rfl rfl (by decide) (fun d K hK => ?_)
   go_simp
   refine hK _ _ ⟨dt_reads (fun e he => ?_), GoesI.at ?_ d⟩
   · have hm := mem_listed he
     simp [go_sem, *] at hm
   clear hK K)
  refine goesI_regionEnd (dt_idle _ _) ?_
  refine goesI_block (dt_idle _ _) ?_
  refine goesI_loop (dt_idle _ _) ?_
  exact hk (fun _ => undef)

noncomputable def low70 : Code := condA (seq2 (seq1 (seq2 B70)))
theorem fineLow70 : fineCode Try.prog true LT low70 := fineCode_ask callT extT (by kernel_rfl)
set_option maxHeartbeats 1000000 in
set_option maxRecDepth 100000 in
/-- It stands at nothing: ErrLatchLow. -/
theorem leave_low {z : Nat → Option Nat} {Ch : Nat → Prop} {Stop : Goroutine → World → Prop} {main : Bool} {v w : World} {lb cb tb : Nat} (x : Int) (hx : x < 2) (u : Nat → Value) (cs : List Frame) {bc : Frame} {ac : Act} {ops : Array Oper} {q : Nat} {rest : List Nat} {oc : Oper} {k : List Item} (hoc : ops[q]? = some oc)
    (hvw : Rel z v w) (hn : NoRow Ch v)
    (hk : ∀ v' w', Rel z v' w' → NoRow Ch v' → v'.heap = v.heap → v'.os = v.os → v'.output = v.output → GoesI Try.prog main (DT (ScZ z) Ch) Stop (G (bc.at (ac.put oc.dst (I 61)) (.inRegion ops rest :: k)) cs) w') :
    GoesI Try.prog main (DT (ScZ z) Ch) Stop (G (lSeen lb cb tb u (I x)) (bc.at ac (.inRegion ops (q :: rest) :: k) :: cs)) w := by
  unfold lSeen ops701 B70 L70 Try.f70 seq2 seq1 blockC loopC opsOf
  simp only [Option.getD_some]
  walk_nrm
  (refine goesI_oper rfl rfl (by decide) (fun d K hK => ?_)
   go_simp
   refine hK _ _ ⟨dt_reads (fun e he => ?_), GoesI.at ?_ d⟩
   · have hm := mem_listed he
     simp [go_sem, *] at hm
   clear hK K)
  refine goesI_regionEnd (dt_idle _ _) ?_
  refine goesI_seq (dt_idle _ _) ?_
  refine goesI_seq (dt_idle _ _) ?_
  refine goesI_region (dt_idle _ _) ?_
  simp only [List.size_toArray, List.length_cons, List.length_nil, Nat.reduceAdd, Nat.zero_add, List.range, List.range.loop]
  iterate 2
    (refine goesI_oper rfl rfl (by decide) (fun d K hK => ?_)
     go_simp
     refine hK _ _ ⟨dt_reads (fun e he => ?_), GoesI.at ?_ d⟩
     · have hm := mem_listed he
       simp [go_sem, *] at hm
     clear hK K)
  refine goesI_regionEnd (dt_idle _ _) ?_
  refine goesI_cond (dt_idle _ _) (t := true) (by simp [Act.eval, hx]) ?_
  simp only [if_true, if_false, Bool.false_eq_true]
  refine goesI_outZ (c := low70) (f := 70) (fn := Try.f70) (L := LT) hE fineT hvw hn Try.func70 fineLow70 rfl hoc (R := fun r w' => r = I 61 ∧ w'.heap = v.heap ∧ w'.os = v.os ∧ w'.output = v.output) (fun τ => ?_) (fun r v' w' hR hr' hn' => ?_)
  · show Code.wp Try.prog (condA (seq2 (seq1 (seq2 (blockC (loopC (blockC (seq2 (Try.f70.body.getD .skip))))))))) _ _ _
    unfold Try.f70 condA seq2 seq1 blockC loopC
    simp only [Option.getD_some]
    go_wp2_with fail
    exact ⟨_, results_tmp rfl _ _ _, rfl, rfl, rfl, rfl⟩
  · obtain ⟨rfl, h1, h2, h3⟩ := hR
    exact hk v' w' hr' hn' h1 h2 h3

/-- What it holds where it tries. -/
def lVal (lb cb tb : Nat) (x : Int) (u : Nat → Value) : Nat → Value
  | 5 => I x
  | 6 => Pt lb 0
  | 7 => Pt lb 0
  | 8 => Pt lb 0
  | 9 => Pt cb 0
  | 10 => Pt tb 0
  | 11 => I x
  | 12 => I x
  | 13 => .bool false
  | 14 => Pt lb 0
  | 15 => Pt lb 0
  | 16 => Pt lb 0
  | 17 => Pt cb 0
  | 18 => Pt tb 0
  | 19 => I x
  | 20 => I x
  | 21 => I (wrap64 (x - 2))
  | k => u k

set_option maxHeartbeats 1000000 in
set_option maxRecDepth 100000 in
/-- Something stands there: it tries to count it down. -/
theorem leave_try {z : Nat → Option Nat} {Ch : Nat → Prop} {Stop : Goroutine → World → Prop} {h : Nat} {cont : Addr → Value} {S : TS} {K : List (Nat × Int)} {v w : World} {i j cb lb : Nat} {t : Thr} (x : Int) (hx : ¬ (x < 2)) (y : Int) (u : Nat → Value) (cs : List Frame) (Hm : Goroutine → Prop)
    (hH : ∀ g, OpBack (h == 0) i j cb t.tb 4 (effCas x (wrap64 (x - 2))) (fun r => G (lTried lb t.tb (lVal lb cb t.tb x u) r) cs) g → Hm g) (hlb : v.cell? ⟨lb, 0, none⟩ = some (Pt cb 0))
    (hvw : Rel z v w) (hn : NoRow Ch v) (hm : Mem z S K v) (ht : S.thr[i]? = some t) (hK : K[j]? = some (cb, y)) (hz : z t.tb = some 2) (hcont : cont ⟨t.tb, 2, none⟩ = .chan (some t.gc))
    (hstop : ∀ g w', GiveT z cont h S.bk t.gc Hm (Then z Ch S K v (waiting S i t 1 4 j) K) g w' → Stop g w') :
    GoesI Try.prog (h == 0) (DT (ScZ z) Ch) Stop (G (lSeen lb cb t.tb u (I x)) cs) w := by
  have e0 : w.cell? ⟨lb, 0, none⟩ = some (Pt cb 0) := by rw [hvw.cell?]; exact hlb
  have HM : Hid (Mem z S K v) := ⟨hm⟩
  clear hm
  unfold lSeen ops701 B70 L70 Try.f70 seq2 seq1 blockC loopC opsOf
  simp only [Option.getD_some]
  walk_nrm
  (refine goesI_oper rfl rfl (by decide) (fun d K hK => ?_)
   go_simp
   refine hK _ _ ⟨dt_reads (fun e he => ?_), GoesI.at ?_ d⟩
   · have hm := mem_listed he
     simp [go_sem, *] at hm
   clear hK K)
  refine goesI_regionEnd (dt_idle _ _) ?_
  refine goesI_seq (dt_idle _ _) ?_
  refine goesI_seq (dt_idle _ _) ?_
  refine goesI_region (dt_idle _ _) ?_
  simp only [List.size_toArray, List.length_cons, List.length_nil, Nat.reduceAdd, Nat.zero_add, List.range, List.range.loop]
  iterate 2
    (refine goesI_oper rfl rfl (by decide) (fun d K hK => ?_)
     go_simp
     refine hK _ _ ⟨dt_reads (fun e he => ?_), GoesI.at ?_ d⟩
     · have hm := mem_listed he
       simp [go_sem, *] at hm
     clear hK K)
  refine goesI_regionEnd (dt_idle _ _) ?_
  refine goesI_cond (dt_idle _ _) (t := false) (by simp [Act.eval, hx]) ?_
  simp only [if_true, if_false, Bool.false_eq_true]
  refine goesI_skip (dt_idle _ _) ?_
  refine goesI_seq (dt_idle _ _) ?_
  refine goesI_region (dt_idle _ _) ?_
  simp only [List.size_toArray, List.length_cons, List.length_nil, Nat.reduceAdd, Nat.zero_add, List.range, List.range.loop]
  iterate 8
    (refine goesI_oper rfl rfl (by decide) (fun d K hK => ?_)
     go_simp
     refine hK _ _ ⟨dt_reads (fun e he => ?_), GoesI.at ?_ d⟩
     · have hm := mem_listed he
       simp [go_sem, *] at hm
       try exact ⟨_, _, hm⟩
     clear hK K)
  rw [show IntKind.wrap .i64 (x - 2) = wrap64 (x - 2) from Go.IntWalk.i64_left _]
  refine goesI_into (f := 23) (fn := Try.f23) (args := #[Pt cb 0, Pt t.tb 0, I x, I (wrap64 (x - 2))]) (dt_idle _ _) rfl rfl (by decide) rfl (by simp [Act.eval]) Try.func23 (by decide) rfl ?_
  exact cas_goes x (wrap64 (x - 2)) y _ Hm rfl (fun g hg => hH g hg) hvw hn HM.out ht hK hz hcont hstop _ rfl

noncomputable def won70 : Code := condA (seq2 (seq2 (seq2 B70)))
theorem fineWon70 : fineCode Try.prog true LT won70 := fineCode_ask callT extT (by kernel_rfl)
set_option maxHeartbeats 1000000 in
set_option maxRecDepth 100000 in
/-- It did. -/
theorem leave_won {z : Nat → Option Nat} {Ch : Nat → Prop} {Stop : Goroutine → World → Prop} {main : Bool} {v w : World} {lb tb : Nat} (u : Nat → Value) (cs : List Frame) {bc : Frame} {ac : Act} {ops : Array Oper} {q : Nat} {rest : List Nat} {oc : Oper} {k : List Item} (hoc : ops[q]? = some oc)
    (hvw : Rel z v w) (hn : NoRow Ch v)
    (hk : ∀ v' w', Rel z v' w' → NoRow Ch v' → v'.heap = v.heap → v'.os = v.os → v'.output = v.output → GoesI Try.prog main (DT (ScZ z) Ch) Stop (G (bc.at (ac.put oc.dst (I 0)) (.inRegion ops rest :: k)) cs) w') :
    GoesI Try.prog main (DT (ScZ z) Ch) Stop (G (lTried lb tb u (.bool true)) (bc.at ac (.inRegion ops (q :: rest) :: k) :: cs)) w := by
  unfold lTried ops704 B70 L70 Try.f70 seq2 seq1 blockC loopC opsOf
  simp only [Option.getD_some]
  walk_nrm
  refine goesI_regionEnd (dt_idle _ _) ?_
  refine goesI_cond (dt_idle _ _) (t := true) rfl ?_
  simp only [if_true, if_false, Bool.false_eq_true]
  refine goesI_outZ (c := won70) (f := 70) (fn := Try.f70) (L := LT) hE fineT hvw hn Try.func70 fineWon70 rfl hoc (R := fun r w' => r = I 0 ∧ w'.heap = v.heap ∧ w'.os = v.os ∧ w'.output = v.output) (fun τ => ?_) (fun r v' w' hR hr' hn' => ?_)
  · show Code.wp Try.prog (condA (seq2 (seq2 (seq2 (blockC (loopC (blockC (seq2 (Try.f70.body.getD .skip))))))))) _ _ _
    unfold Try.f70 condA seq2 blockC loopC
    simp only [Option.getD_some]
    go_wp2_with fail
    exact ⟨_, results_tmp rfl _ _ _, rfl, rfl, rfl, rfl⟩
  · obtain ⟨rfl, h1, h2, h3⟩ := hR
    exact hk v' w' hr' hn' h1 h2 h3

set_option maxHeartbeats 1000000 in
set_option maxRecDepth 100000 in
/-- Another was ahead of it: it looks again. -/
theorem leave_again {z : Nat → Option Nat} {Ch : Nat → Prop} {Stop : Goroutine → World → Prop} {main : Bool} {w : World} {lb tb : Nat} (u : Nat → Value) (cs : List Frame)
    (hk : ∀ u, GoesI Try.prog main (DT (ScZ z) Ch) Stop (G (lFr lb tb u) cs) w) :
    GoesI Try.prog main (DT (ScZ z) Ch) Stop (G (lTried lb tb u (.bool false)) cs) w := by
  unfold lFr L70 Try.f70 seq2 blockC loopC at hk
  simp only [Option.getD_some] at hk
  unfold lTried ops704 B70 L70 Try.f70 seq2 seq1 blockC loopC opsOf
  simp only [Option.getD_some]
  walk_nrm
  refine goesI_regionEnd (dt_idle _ _) ?_
  refine goesI_cond (dt_idle _ _) (t := false) rfl ?_
  simp only [if_true, if_false, Bool.false_eq_true]
  refine goesI_skip (dt_idle _ _) ?_
  refine goesI_inBlock (dt_idle _ _) ?_
  refine goesI_inLoop (dt_idle _ _) ?_
  exact hk (fun m => match m with | 22 => .bool false | m => u m)
end Go.Proofs.Ytehingmdmijedaa.Gen
