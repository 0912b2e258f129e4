/- LockAlone: for every schedule and all scripts, what threads are told together under the lock is what one thread would be told that makes the calls in the order of the tickets; no conditions. Part 29 of 34. (Joined, by program, of: LokD, LokMv, LokMv2.) -/
import Derived.Test.YtfjjoohflcchnaaLockAlone10
import Derived.Test.YtfjjoohflcchnaaLockAlone28
set_option linter.unusedSimpArgs false
set_option linter.unusedVariables false
namespace Go.Proofs.Ytfjjoohflcchnaa.Gen
open Go Go.Lift Go.Conc Go.RowKit

theorem info3d : (Try.prog.info? 3).map (fun i => (i.zero, i.size, i.bytes)) = some (some (I 0), 1, 8) := by kernel_rfl
theorem newsI (w : World) (x : Int) (t : TypeId) : ∀ j u, [I x][j]? = some u → (w.alloc (.cells #[I x] t)).cell? ((⟨w.heap.size, 0, none⟩ : Addr).add j) = some u := by
  intro j u hj
  have hb : (w.alloc (.cells #[I x] t)).heap[w.heap.size]? = some (.cells #[I x] t) := Array.getElem?_push_size
  exact World.news_of_block hb j u hj
theorem oneI (x : Int) : ∀ u ∈ [I x], u.oneCell' = true := by
  intro u hu
  simp at hu
  subst hu
  rfl
theorem drw_take {L : List Stp} {k : Nat} {s : Stp} (h : L[k]? = some s) : drw (L.take (k + 1)) = if isT s then drw (L.take k) ++ [s.th] else drw (L.take k) := by
  rw [List.take_add_one, h]
  unfold drw
  rw [List.filter_append, List.map_append]
  cases hs : isT s <;> simp [hs]
theorem drw_len (L : List Stp) : (drw L).length ≤ L.length := by
  unfold drw
  rw [List.length_map]
  exact List.length_filter_le _ _

set_option maxHeartbeats 8000000 in
set_option maxRecDepth 100000 in
theorem body32 {v : World} {p : Option Addr} {g T ct : Nat} {L : List Stp} (hT : L.length = T) (hTs : T ≤ 400000) (hp : 0 < T → p = some ⟨g, 0, none⟩) (hL : TrL g L v) :
    Body Try.f34 #[.slice p T ct] v (fun r v' => (∃ q c, r = .slice q (drw L).length c) ∧ v'.ownsRow v.heap.size 3 1 r (drw L).length ((drw L).map I) ∧ v.heap.size ≤ v'.heap.size ∧ (∀ b, b < v.heap.size → v'.heap[b]? = v.heap[b]?) ∧ v'.os = v.os ∧ v'.output = v.output) := by
  intro code hb
  obtain rfl := Option.some.inj hb
  clear hb
  have H1 : Hid (∀ u : World, (∀ b, b < v.heap.size → u.heap[b]? = v.heap[b]?) → TrL g L u) := ⟨fun u hu k s hs => by
    have hc : ∀ (a : Addr) (x : Value), v.cell? a = some x → u.cell? a = some x := fun a x ha => by rw [World.cell?_of_block (w := v) (w' := u) (hu _ (World.block_lt_of_cell? _ _ ha))]; exact ha
    obtain ⟨h0, h1, h2, h3, h4⟩ := hL k s hs
    exact ⟨hc _ _ h0, hc _ _ h1, hc _ _ h2, hc _ _ h3, hc _ _ h4⟩⟩
  have HT : Hid (L.length = T) := ⟨hT⟩
  have HP : Hid (0 < T → p = some ⟨g, 0, none⟩) := ⟨hp⟩
  clear hL hT hp
  simp only [Try.ntmps34, List.size_toArray, List.length_cons, List.length_nil, Nat.reduceAdd, Nat.reduceSub, Array.replicate_succ, Array.replicate_zero, List.push_toArray, List.append_toArray, List.nil_append, List.cons_append]
  go_wp2_with fail
  go_loopw [3, 4] (fun l i u => ∃ k : Nat, k ≤ T ∧ i = .int .i64 k ∧ (∃ lp lc, l = .slice lp (drw (L.take k)).length lc) ∧ u.ownsRow v.heap.size 3 1 l (drw (L.take k)).length ((drw (L.take k)).map I) ∧ v.heap.size ≤ u.heap.size ∧ (∀ b, b < v.heap.size → u.heap[b]? = v.heap[b]?) ∧ u.os = v.os ∧ u.output = v.output) (fun _ i _ => T - (intOf i).toNat)
  case atStart => exact ⟨0, Nat.zero_le _, rfl, ⟨none, 0, rfl⟩, ⟨by simp [drw], .inl ⟨rfl, rfl⟩⟩, Nat.le_refl _, fun _ _ => rfl, rfl, rfl⟩
  case round =>
    obtain ⟨k, hk, rfl, ⟨lp, lc, rfl⟩, hown, hsz, hbl, hos, hou⟩ := hrel
    have HI : Hid (wr.ownsRow v.heap.size 3 1 (.slice lp (drw (L.take k)).length lc) (drw (L.take k)).length ((drw (L.take k)).map I) ∧ v.heap.size ≤ wr.heap.size ∧ (∀ b, b < v.heap.size → wr.heap[b]? = v.heap[b]?) ∧ wr.os = v.os ∧ wr.output = v.output) := ⟨⟨hown, hsz, hbl, hos, hou⟩⟩
    clear hown hsz hbl hos hou
    by_cases hlt : k < T
    · obtain rfl := HP.out (by omega)
      obtain ⟨q, hq⟩ : ∃ q, L[k]? = some q := ⟨_, List.getElem?_eq_getElem (by rw [HT.out]; exact hlt)⟩
      obtain ⟨c0, c1, c2, c3, c4⟩ := H1.out wr HI.out.2.2.1 k q hq
      have hm := drw_take hq
      have hlt' : (k : Int) < (T : Int) := by omega
      have hnl : ¬ T ≤ k := by omega
      have HLen : Hid ((drw (L.take k)).length ≤ k) := ⟨by have := drw_len (L.take k); rw [List.length_take] at this; omega⟩
      have HTr : Hid (∀ u : World, (∀ b, b < v.heap.size → u.heap[b]? = v.heap[b]?) → u.cell? ⟨g, k * 5, none⟩ = some (I q.th)) := ⟨fun u hu => (H1.out u hu k q hq).1⟩
      obtain ⟨qt, qc, qo, ql, qn⟩ := q
      simp only at c0 c1 c2 c3 c4 HTr
      clear hq
      cases hs : isT ⟨qt, qc, qo, ql, qn⟩ with
      | false =>
        rw [hs] at hm
        simp only [Bool.false_eq_true, if_false] at hm
        have HM : Hid (drw (L.take (k + 1)) = drw (L.take k)) := ⟨hm⟩
        clear hm
        have h3 : qc ≠ 0 ∨ (qc = 0 ∧ qo = 1) ∨ (qc = 0 ∧ qo ≠ 1 ∧ ql = qn) := by
          unfold isT at hs
          simp only [Bool.and_eq_false_iff, beq_eq_false_iff_ne, bne_eq_false_iff_eq] at hs
          by_cases e1 : qc = 0
          · by_cases e2 : qo = 1
            · exact .inr (.inl ⟨e1, e2⟩)
            · exact .inr (.inr ⟨e1, e2, by rcases hs with (h | h) | h; exact absurd e1 h; exact absurd h e2; exact h⟩)
          · exact .inl e1
        clear hs
        rcases h3 with h | ⟨h, h'⟩ | ⟨h, h', h''⟩
        · have f1 : (qc == 0) = false := by simp [h]
          clear h c0 c2 c3 c4
          go_wp2_with fail
          go_quiet (fail)
          go_wp2_with fail
          go_roundw
          case rel => exact ⟨k + 1, by omega, by go_num, ⟨lp, lc, by rw [HM.out]⟩, by rw [HM.out]; exact own_stay (fun _ _ => rfl) HI.out.1, HI.out.2.1, HI.out.2.2.1, HI.out.2.2.2.1, HI.out.2.2.2.2⟩
          case measure => simp [intOf]; omega
        · subst h h'
          clear c0 c3 c4
          go_wp2_with fail
          go_quiet (fail)
          go_wp2_with fail
          go_roundw
          case rel => exact ⟨k + 1, by omega, by go_num, ⟨lp, lc, by rw [HM.out]⟩, by rw [HM.out]; exact own_stay (fun _ _ => rfl) HI.out.1, HI.out.2.1, HI.out.2.2.1, HI.out.2.2.2.1, HI.out.2.2.2.2⟩
          case measure => simp [intOf]; omega
        · subst h h''
          have f2 : (qo == 1) = false := by simp [h']
          have f2' : (qo != 1) = true := by simp [h']
          clear h' c0
          go_wp2_with fail
          go_quiet (fail)
          go_wp2_with fail
          go_roundw
          case rel => exact ⟨k + 1, by omega, by go_num, ⟨lp, lc, by rw [HM.out]⟩, by rw [HM.out]; exact own_stay (fun _ _ => rfl) HI.out.1, HI.out.2.1, HI.out.2.2.1, HI.out.2.2.2.1, HI.out.2.2.2.2⟩
          case measure => simp [intOf]; omega
      | true =>
        rw [hs] at hm
        simp only [if_true] at hm
        have HM : Hid (drw (L.take (k + 1)) = drw (L.take k) ++ [qt]) := ⟨hm⟩
        clear hm
        obtain ⟨h, h', h''⟩ : qc = 0 ∧ qo ≠ 1 ∧ ql ≠ qn := by
          unfold isT at hs
          simp only [Bool.and_eq_true, beq_iff_eq, bne_iff_ne] at hs
          exact ⟨hs.1.1, hs.1.2, hs.2⟩
        clear hs
        subst h
        have f2 : (qo == 1) = false := by simp [h']
        have f2' : (qo != 1) = true := by simp [h']
        have f3 : (ql == qn) = false := by simp [h'']
        have f3' : (ql != qn) = true := by simp [h'']
        clear h' h''
        obtain ⟨j0, hj, hj0, hj1, hj2⟩ := info_parts info3d
        have HG : Hid (∀ (q : Nat) (w6 : World), ((wr.drewN q).alloc (.cells #[I qt] 3)).grownBy w6 (Value.slice lp (drw (L.take k)).length lc).ownBlock → v.heap.size ≤ w6.heap.size ∧ (∀ b, b < v.heap.size → w6.heap[b]? = v.heap[b]?) ∧ w6.os = v.os ∧ w6.output = v.output) := ⟨fun q w6 hg6 => by
          have hal : Below wr.heap.size wr ((wr.drewN q).alloc (.cells #[I qt] 3)) := below_alloc (a := wr) (b := wr.drewN q) ⟨rfl, rfl, rfl, Nat.le_refl _, fun _ _ => rfl⟩ _
          have hblk : ∀ b, b < v.heap.size → w6.heap[b]? = v.heap[b]? := fun b hb => by
            rw [hg6.block b (by have := HI.out.2.1; have := hal.size; omega) (fun e => by have := (own_lt HI.out.1 b e.symm).1; omega), hal.block b (by have := HI.out.2.1; omega), HI.out.2.2.1 b hb]
          exact ⟨by have := HI.out.2.1; have := hal.size; have := hg6.size; omega, hblk, by rw [hg6.os, hal.os]; exact HI.out.2.2.2.1, by rw [hg6.output, hal.output]; exact HI.out.2.2.2.2⟩⟩
        go_wp2_with fail
        go_quiet (fail)
        go_wp2_with (first
          | (refine wpList_append_lies _ rfl (.tmp 38) (.tmp 44) 22 rfl v.heap.size 3 j0 _ 1 8 Try.underlying22 hj hj0 hj1 hj2 rfl (by decide) (.slice lp (drw (L.take k)).length lc) (drw (L.take k)).length ((drw (L.take k)).map I) rfl (own_later (below_alloc (Below.refl _ _) _) (own_stay (fun _ _ => rfl) HI.out.1)) ⟨_, 0, none⟩ 1 1 [I qt] rfl rfl (newsI _ _ _) (oneI _) (by decide) (by have := HLen.out; unfold maxLen; omega) (by have := HLen.out; omega) (by have := HI.out.2.1; simp; omega) _ rfl ?_
             intro g2 cp2 w6 hown6 hgrow6 hat6 hlt6))
        have HO6 : Hid (w6.ownsRow v.heap.size 3 1 (.slice (some ⟨g2, 0, none⟩) ((drw (L.take k)).length + 1) cp2) ((drw (L.take k)).length + 1) (((drw (L.take k)).map I) ++ [I qt])) := ⟨hown6⟩
        have HG6 := HG.out _ _ hgrow6
        go_roundw
        case rel =>
          have el : (drw (L.take (k + 1))).length = (drw (L.take k)).length + 1 := by rw [HM.out]; simp
          refine ⟨k + 1, by omega, by go_num, ⟨some ⟨g2, 0, none⟩, cp2, by rw [el]⟩, ?_, HG6.1, HG6.2.1, HG6.2.2.1, HG6.2.2.2⟩
          rw [el, HM.out, List.map_append]
          exact HO6.out
        case measure => simp [intOf]; omega
    · have hkk : k = T := by omega
      subst hkk
      have hfin : L.take k = L := List.take_of_length_le (by rw [HT.out]; exact Nat.le_refl _)
      rw [hfin] at HI ⊢
      clear hfin
      go_wp2_with fail
      go_ret
      exact ⟨_, rfl, ⟨_, _, rfl⟩, own_stay (fun _ _ => rfl) HI.out.1, HI.out.2.1, HI.out.2.2.1, HI.out.2.2.2.1, HI.out.2.2.2.2⟩
end Go.Proofs.Ytfjjoohflcchnaa.Gen

namespace Go.Proofs.Ytfjjoohflcchnaa.Gen
open Go Go.Lift Go.Conc Go.RowKit
open Go.ConcN (upd upd_same upd_ne)

theorem gst_app (A B : List Stp) : gst (A ++ B) = gst A ++ gst B := List.filter_append ..
theorem drw_app (A B : List Stp) : drw (A ++ B) = drw A ++ drw B := by unfold drw; rw [List.filter_append, List.map_append]
theorem want_app {T : List Tk} {d : Nat} (t : Tk) (h : d ≤ T.length) (i k : Nat) (calls : List Cl) (l : Ph) : want (T ++ [t]) d i k calls l = want T d i k calls l := by
  cases l <;> simp only [want, wantM, tkd_app t h]
theorem want_eq {T : List Tk} {d d' i k : Nat} {calls : List Cl} {l : Ph} (h : tkd T d' i k = tkd T d i k) : want T d' i k calls l = want T d i k calls l := by
  cases l <;> simp only [want, wantM, h]
theorem cur_app {T : List Tk} {d b : Nat} (t : Tk) (h : b ≠ 0 → d < T.length) : cur (T ++ [t]) d b = cur T d b := by
  by_cases hb : b = 0
  · subst hb
    simp [cur]
  · have hd := h hb
    unfold cur
    rw [List.getElem?_append_left hd, sumK_app T t d (by omega), sumK_app T t (d + 1) (by omega)]
/-- A step that is no beginning, no end, and not on what is guarded. -/
theorem mstep_same {i k : Nat} {x : Nat} {s : Stp} (h1 : s.op ≠ 10) (h2 : s.op ≠ 9) (h3 : s.ce ≠ 2) : mstep i k x s = x := by
  unfold mstep
  simp only [h1, h2, h3, false_and, if_false]
  split
  · split
    · rename_i h; exact h.symm
    · split
      · rename_i h; exact h.symm
      · rfl
  · rfl

section
variable {N : Nat} {cl : Nat → List Cl} {T : List Tk} {d b : Nat} {v v1 : Vw} {i : Nat} {l' : Ph}
/-- A step within a call. -/
theorem KI.stay (h : KI N cl T d b v) (hi : i < N) (e : Els i l' v v1) {b' : Nat} {s : Stp} (hs : s.th = (i : Int)) (eL : v1.L = v.L ++ [s]) (eS : v1.stk = false)
    (num : v1.K = [(T.length : Int), (d : Int), sumK T (if b' = 2 then d + 1 else d)]) (chg : ∃ c0 c2, v1.chg = [c0, (d : Int), c2]) (bb : b' ≠ 0 → d < T.length)
    (seat : KSeat T d b' i (v1.se i) (cl i) l') (oth : b' = b ∨ ∃ o, T[d]? = some o ∧ o.th = i)
    (hH : ∀ n, Hold d n (v.l i) → Hold d n l') (ha : l'.ans = (v.l i).ans) (hu : upK (cl i) l' = upK (cl i) (v.l i)) (nt : isT s = false) (tw : cur T d b ++ gst [s] = cur T d b')
    (hm : ∀ k, mstep i k (want T d i k (cl i) (v.l i)) s = want T d i k (cl i) l') : KI N cl T d b' v1 := by
  have hv : v1.l = upd v.l i l' := e.l
  have own : v1.l i = l' := by rw [hv, upd_same]
  have els : ∀ k, k ≠ i → v1.l k = v.l k := fun k hk => by rw [hv, upd_ne _ _ hk]
  have hans : ∀ k, (v1.l k).ans = (v.l k).ans := fun k => by
    by_cases hk : k = i
    · subst hk; rw [own, ha]
    · rw [els k hk]
  have hup : ∀ k, upK (cl k) (v1.l k) = upK (cl k) (v.l k) := fun k => by
    by_cases hk : k = i
    · subst hk; rw [own, hu]
    · rw [els k hk]
  refine ⟨h.le, num, chg, eS, bb, fun k hk => by rw [hans]; exact h.len k hk, fun k hk => ?_, fun n t hn ht => ?_, fun n t hn ht => ?_, fun k hk j hj hT => ?_, h.ord, ?_, ?_, ?_, fun k hk j => ?_⟩
  · by_cases hne : k = i
    · subst hne; rw [own]; exact seat
    · rw [els k hne, e.oth k hne]
      rcases oth with rfl | ⟨o, ho, hoi⟩
      · exact h.seat k hk
      · exact ((h.seat k hk).oth ho (by rw [hoi]; exact fun x => hne x.symm) b').1
  · obtain ⟨h1, h2⟩ := h.hold n t hn ht
    refine ⟨h1, ?_⟩
    by_cases hne : t.th = i
    · rw [hne] at h2 ⊢; rw [own]; exact hH n h2
    · rw [els _ hne]; exact h2
  · obtain ⟨h1, h2, h3, h4⟩ := h.old n t hn ht
    exact ⟨h1, by rw [hup]; exact h2, h3, by rw [hans]; exact h4⟩
  · rw [hup] at hj; rw [hans]; exact h.un k hk j hj hT
  · rw [eL, List.length_append]; have := h.small; simp; omega
  · rw [eL, drw_app, h.dr]; simp [drw, nt]
  · rw [eL, gst_app, h.two, List.append_assoc, tw]
  · rw [eL, mst_app, h.ms k hk j]
    by_cases hne : k = i
    · subst hne; rw [own]; exact hm j
    · rw [els k hne]
      exact fold_oth [s] _ (fun x hx => by rw [List.mem_singleton] at hx; rw [hx, hs]; intro e; exact hne (by omega))

/-- A ticket is drawn. -/
theorem KI.draw (h : KI N cl T d b v) (hi : i < N) (e : Els i l' v v1) {ii : Nat} {c : Cl} {s : Stp} (hs : s.th = (i : Int)) (eL : v1.L = v.L ++ [s]) (eS : v1.stk = false) (hc : (cl i)[ii]? = some c) (hii : upK (cl i) (v.l i) = ii) (noH : ∀ n, ¬ Hold d n (v.l i))
    (num : v1.K = [((T.length + 1 : Nat) : Int), (d : Int), sumK T (if b = 2 then d + 1 else d)]) (chg : ∃ c0 c2, v1.chg = [c0, (d : Int), c2])
    (seat : KSeat (T ++ [⟨i, ii, c.ca⟩]) d b i (v1.se i) (cl i) l') (hH : Hold d T.length l') (ha : l'.ans = (v.l i).ans) (hu : upK (cl i) l' = upK (cl i) (v.l i)) (it : isT s = true) (tw : gst [s] = [])
    (hm : ∀ k, mstep i k (want T d i k (cl i) (v.l i)) s = want T d i k (cl i) l') : KI N cl (T ++ [⟨i, ii, c.ca⟩]) d b v1 := by
  have hv : v1.l = upd v.l i l' := e.l
  have own : v1.l i = l' := by rw [hv, upd_same]
  have els : ∀ k, k ≠ i → v1.l k = v.l k := fun k hk => by rw [hv, upd_ne _ _ hk]
  have hans : ∀ k, (v1.l k).ans = (v.l k).ans := fun k => by
    by_cases hk : k = i
    · subst hk; rw [own, ha]
    · rw [els k hk]
  have hup : ∀ k, upK (cl k) (v1.l k) = upK (cl k) (v.l k) := fun k => by
    by_cases hk : k = i
    · subst hk; rw [own, hu]
    · rw [els k hk]
  have hle := h.le
  have get : ∀ n t, (T ++ [(⟨i, ii, c.ca⟩ : Tk)])[n]? = some t → (n < T.length ∧ T[n]? = some t) ∨ (n = T.length ∧ t = ⟨i, ii, c.ca⟩) := fun n t ht => by
    rw [List.getElem?_append] at ht
    split at ht
    · exact .inl ⟨by assumption, ht⟩
    · obtain ⟨h1, h2⟩ := List.getElem?_eq_some_iff.1 ht
      simp only [List.length_singleton] at h1
      have h3 : n = T.length := by omega
      subst h3
      simp at ht
      exact .inr ⟨rfl, ht.symm⟩
  have hsum : sumK (T ++ [(⟨i, ii, c.ca⟩ : Tk)]) (if b = 2 then d + 1 else d) = sumK T (if b = 2 then d + 1 else d) := sumK_app _ _ _ (by
    split
    · have := h.bb (by omega); omega
    · exact hle)
  refine ⟨by simp; omega, by rw [num, hsum]; simp, chg, eS, fun hb => by have := h.bb hb; simp; omega, fun k hk => by rw [hans]; exact h.len k hk, fun k hk => ?_, fun n t hn ht => ?_, fun n t hn ht => ?_, fun k hk j hj hT => ?_, fun n m t u hnm hn hm he => ?_, ?_, ?_, ?_, fun k hk j => ?_⟩
  · by_cases hne : k = i
    · subst hne; rw [own]; exact seat
    · rw [els k hne, e.oth k hne]
      exact (h.seat k hk).app _ hle
  · rcases get n t ht with ⟨h1, h2⟩ | ⟨h1, h2⟩
    · obtain ⟨g1, g2⟩ := h.hold n t hn h2
      refine ⟨g1, ?_⟩
      by_cases hne : t.th = i
      · rw [hne] at g2; exact absurd g2 (noH n)
      · rw [els _ hne]; exact g2
    · subst h1 h2
      exact ⟨hi, by show Hold d T.length (v1.l i); rw [own]; exact hH⟩
  · rcases get n t ht with ⟨h1, h2⟩ | ⟨h1, h2⟩
    · obtain ⟨g1, g2, g3, g4⟩ := h.old n t hn h2
      exact ⟨g1, by rw [hup]; exact g2, g3, by rw [hans, sumK_app T _ n (by omega)]; exact g4⟩
    · omega
  · rw [tkd_app _ hle] at hT
    rw [hup] at hj; rw [hans]; exact h.un k hk j hj hT
  · rcases get n t hn with ⟨h1, h2⟩ | ⟨h1, h2⟩
    · rcases get m u hm with ⟨h3, h4⟩ | ⟨h3, h4⟩
      · exact h.ord n m t u hnm h2 h4 he
      · subst h4
        have he : t.th = i := he
        show t.k < ii
        by_cases hd : n < d
        · have := (h.old n t hd h2).2.1
          rw [he, hii] at this
          exact this
        · have := (h.hold n t (by omega) h2).2
          rw [he] at this
          exact absurd this (noH n)
    · rcases get m u hm with ⟨h3, h4⟩ | ⟨h3, h4⟩ <;> omega
  · rw [eL, List.length_append, List.length_append]; have := h.small; simp; omega
  · rw [eL, drw_app, h.dr, List.map_append]; simp [drw, it, hs]
  · rw [eL, gst_app, h.two, tw, List.append_nil, pairs_app T _ d hle, cur_app _ h.bb]
  · rw [eL, mst_app, h.ms k hk j, want_app _ hle]
    by_cases hne : k = i
    · subst hne; rw [own]; exact hm j
    · rw [els k hne]
      exact fold_oth [s] _ (fun x hx => by rw [List.mem_singleton] at hx; rw [hx, hs]; intro e; exact hne (by omega))

/-- A call has its answer. -/
theorem KI.answer (h : KI N cl T d b v) (hi : i < N) (e : Els i l' v v1) {rest : List Cl} {ii : Nat} {ans : List (Int × Int)} {c : Cl} {y : Int} {X' : List Stp} {s : Stp} {d' b' : Nat} (hl' : (v.l i).ans = ans) (hii : upK (cl i) (v.l i) = ii) (hr : rest = (cl i).drop (ii + 1)) (hc : (cl i)[ii]? = some c)
    (hF : Fw mcLock i false rest (ii + 1) false (ans.set ii (0, y)) X' l') (hs : s.th = (i : Int)) (eL : v1.L = v.L ++ s :: ⟨i, -1, 10, ii, 0⟩ :: X') (eS : v1.stk = false)
    (le' : d' ≤ T.length) (num : v1.K = [(T.length : Int), (d' : Int), sumK T (if b' = 2 then d' + 1 else d')]) (chg : ∃ c0 c2, v1.chg = [c0, (d' : Int), c2]) (bb : b' ≠ 0 → d' < T.length)
    (oth : ∀ k se, k ≠ i → KSeat T d b k se (cl k) (v.l k) → KSeat T d' b' k se (cl k) (v.l k))
    (hold : ∀ n t, d' ≤ n → T[n]? = some t → d ≤ n ∧ t.th ≠ i ∧ (Hold d n (v.l t.th) → Hold d' n (v.l t.th)))
    (old : ∀ n t, n < d' → ¬ n < d → T[n]? = some t → t = ⟨i, ii, c.ca⟩ ∧ y = sumK T n)
    (tke : ∀ k j, k ≠ i ∨ j ≠ ii → tkd T d' k j = tkd T d k j) (un : tkd T d' i ii = false → y = -1 ∧ c.po = 2)
    (nt : isT s = false) (tw : pairs T d ++ cur T d b ++ gst [s] = pairs T d' ++ cur T d' b')
    (hm : ∀ k, mstep i k (mstep i k (want T d i k (cl i) (v.l i)) s) ⟨i, -1, 10, ii, 0⟩ = if k < ii + 1 then wantM T d' i k else 0) : KI N cl T d' b' v1 := by
  have hv : v1.l = upd v.l i l' := e.l
  have own : v1.l i = l' := by rw [hv, upd_same]
  have els : ∀ k, k ≠ i → v1.l k = v.l k := fun k hk => by rw [hv, upd_ne _ _ hk]
  have hlt : ii < (cl i).length := (List.getElem?_eq_some_iff.1 hc).1
  have hlen : ans.length = (cl i).length := by rw [← hl']; exact h.len i hi
  have hset : ∀ k, k < ii → (ans.set ii (0, y))[k]? = ans[k]? := fun k hk => by rw [List.getElem?_set, if_neg (by omega)]
  have hself : (ans.set ii (0, y))[ii]? = some (0, y) := by rw [List.getElem?_set, if_pos rfl, if_pos (by omega)]
  obtain ⟨f1, f2, f3, f4, f5, f6, f7, f8⟩ := fw_lock (T := T) (d := d') (b := b') (calls := cl i) hF (fun k => if k < ii + 1 then wantM T d' i k else 0) rfl hr (by omega) (by simpa using hlen) (fun k hk => by
      rw [tke i k (.inr (by omega))]
      cases hT : tkd T d i k with
      | false => rfl
      | true =>
        obtain ⟨n, t, h1, h2, h3, h4⟩ := tkd_iff.1 hT
        have := (h.old n t h1 h2).2.1
        rw [h3, hii] at this
        omega) (fun k => rfl) (fun k hk hT => by
      by_cases e : k = ii
      · subst e
        obtain ⟨rfl, hp⟩ := un hT
        exact ⟨c, _, hc, hself, .inl ⟨rfl, hp⟩⟩
      · rw [tke i k (.inr e)] at hT
        obtain ⟨c', a', h1, h2, h3⟩ := h.un i hi k (by omega) hT
        exact ⟨c', a', h1, by rw [hset k (by omega), ← hl']; exact h2, h3⟩)
  have hX : ∀ x ∈ (⟨i, -1, 10, ii, 0⟩ : Stp) :: X', x.ce = -1 ∧ x.th = (i : Int) := fun x hx => by
    simp only [List.mem_cons] at hx
    rcases hx with rfl | hx
    · exact ⟨rfl, rfl⟩
    · exact f4 x hx
  have hd0 : drw ((⟨i, -1, 10, ii, 0⟩ : Stp) :: X') = [] := by
    unfold drw
    rw [List.filter_eq_nil_iff.2 (fun x hx => by unfold isT; rw [(hX x hx).1]; simp)]
    rfl
  have ht0 : gst ((⟨i, -1, 10, ii, 0⟩ : Stp) :: X') = [] := List.filter_eq_nil_iff.2 (fun x hx => by rw [(hX x hx).1]; simp)
  refine ⟨le', num, chg, eS, bb, fun k hk => ?_, fun k hk => ?_, fun n t hn ht => ?_, fun n t hn ht => ?_, fun k hk j hj hT => ?_, h.ord, ?_, ?_, ?_, fun k hk j => ?_⟩
  · by_cases hne : k = i
    · subst hne; rw [own]; exact f1
    · rw [els k hne]; exact h.len k hk
  · by_cases hne : k = i
    · subst hne; rw [own]; exact f2 _
    · rw [els k hne, e.oth k hne]
      exact oth k _ hne (h.seat k hk)
  · obtain ⟨g1, g2, g3⟩ := hold n t hn ht
    obtain ⟨h1, h2⟩ := h.hold n t g1 ht
    exact ⟨h1, by rw [els _ g2]; exact g3 h2⟩
  · by_cases hnd : n < d
    · obtain ⟨h1, h2, h3, h4⟩ := h.old n t hnd ht
      refine ⟨h1, ?_, h3, ?_⟩
      · by_cases hne : t.th = i
        · rw [hne] at h2 ⊢; rw [own]; omega
        · rw [els _ hne]; exact h2
      · by_cases hne : t.th = i
        · rw [hne] at h2 h4 ⊢
          rw [own, f5 _ (by omega), hset _ (by omega), ← hl']
          exact h4
        · rw [els _ hne]; exact h4
    · obtain ⟨rfl, hy⟩ := old n t hn hnd ht
      refine ⟨hi, ?_, ⟨c, hc, rfl⟩, ?_⟩
      · show ii < upK (cl i) (v1.l i)
        rw [own]; omega
      · show (v1.l i).ans[ii]? = _
        rw [own, f5 _ (by omega), hself, hy]
  · by_cases hne : k = i
    · subst hne; rw [own] at hj ⊢; exact f8 j hj hT
    · rw [els k hne] at hj ⊢
      rw [tke k j (.inl hne)] at hT
      exact h.un k hk j hj hT
  · rw [eL, List.length_append]; have := h.small; simp; omega
  · rw [eL, show s :: (⟨i, -1, 10, ii, 0⟩ : Stp) :: X' = [s] ++ ((⟨i, -1, 10, ii, 0⟩ : Stp) :: X') from rfl, drw_app, drw_app, hd0, h.dr]; simp [drw, nt]
  · rw [eL, show s :: (⟨i, -1, 10, ii, 0⟩ : Stp) :: X' = [s] ++ ((⟨i, -1, 10, ii, 0⟩ : Stp) :: X') from rfl, gst_app, gst_app, ht0, List.append_nil, h.two, tw]
  · rw [eL, mst_app, h.ms k hk j]
    by_cases hne : k = i
    · subst hne
      rw [own, List.foldl_cons, List.foldl_cons, hm j]
      exact f3 j
    · rw [els k hne, want_eq (tke k j (.inl hne))]
      refine fold_oth _ _ (fun x hx => ?_)
      rw [List.mem_cons] at hx
      rcases hx with rfl | hx
      · rw [hs]; intro e; exact hne (by omega)
      · rw [(hX x hx).2]; intro e; exact hne (by omega)
end
end Go.Proofs.Ytfjjoohflcchnaa.Gen

namespace Go.Proofs.Ytfjjoohflcchnaa.Gen
open Go Go.Lift Go.Conc Go.RowKit
open Go.ConcN (upd upd_same upd_ne)

theorem want_turn {T : List Tk} {d i k : Nat} {calls : List Cl} {op : Int} {j : Nat} {q : Q} {r : List Cl} {ii : Nat} {a : List (Int × Int)} : want T d i k calls (.turn op j q r ii a) = if k < ii then wantM T d i k else if k = ii then (if q.1 = 3 ∨ q.1 = 4 then 2 else 1) else 0 := rfl
theorem want_wait {T : List Tk} {d i k : Nat} {calls : List Cl} {j : Nat} {q : Q} {r : List Cl} {ii : Nat} {a : List (Int × Int)} : want T d i k calls (.wait j q r ii a) = if k < ii then wantM T d i k else if k = ii then 1 else 0 := rfl
theorem wantM_or (T : List Tk) (d i k : Nat) : wantM T d i k = 2 ∨ wantM T d i k = 3 := by unfold wantM; split <;> simp
theorem mstep_two {i k : Nat} {s : Stp} {x : Nat} (h : x = 2 ∨ x = 3) : mstep i k x s = x := by
  rcases h with rfl | rfl <;> simp [mstep]

set_option maxHeartbeats 1000000 in
theorem lock_mv {N : Nat} {cl : Nat → List Cl} {T : List Tk} {d b : Nat} {v v1 : Vw} (h : KI N cl T d b v) (hB : v.L.length ≤ 400000) (m : Mv mcLock N v v1) : ∃ T' d' b', KI N cl T' d' b' v1 := by
  have hTs : T.length ≤ 400000 := Nat.le_trans h.small hB
  have hle := h.le
  obtain ⟨c0, c2, hC⟩ := h.chg
  have hc1 : chgOf v.chg ((1 : Nat) : Int) = (d : Int) := by rw [hC]; rfl
  cases m with
  | stuck hs hall hex e =>
    exfalso
    have key : ∀ n t, d ≤ n → T[n]? = some t → n ≠ d := fun n t hn ht hnd => by
      subst hnd
      obtain ⟨h1, h2⟩ := h.hold n t hn ht
      have hS := h.seat t.th h1
      rcases hall t.th h1 with ⟨a', h'⟩ | ⟨j', q', r', k', a', h', hce⟩
      · rw [h'] at h2; exact h2
      · rw [h'] at h2 hS
        obtain ⟨rfl, _, c, _, n', rfl, _, _, _, hse⟩ := hS
        obtain ⟨a, ha⟩ := h2
        have hn' : (n' : Int) = (n : Int) := by cases ha; rfl
        rw [hc1] at hce
        omega
    obtain ⟨i, hi, j, q, r, k, a, hl⟩ := hex
    have hS := h.seat i hi
    rw [hl] at hS
    obtain ⟨_, _, c, _, n, _, hT, hdn, _⟩ := hS
    have hdl : d < T.length := Nat.lt_of_le_of_lt hdn (List.getElem?_eq_some_iff.1 hT).1
    exact key d _ (Nat.le_refl _) (List.getElem?_eq_getElem hdl) rfl
  | free i j q rest ii ans X l' hi hl hs ho e eK eS eC eL => rw [h.stk] at hs; cases hs
  | wake i j q rest ii ans X l' hi hl hs hce ho e eK eS eC eL =>
    have hS := h.seat i hi
    rw [hl] at hS
    obtain ⟨rfl, hr, c, hc, n, rfl, hT, hdn, hb, hse⟩ := hS
    have hw : mcLock.woke (6, [c.ca, (n : Int)]) = .turn 1 1 (1, [c.ca, (n : Int)]) := rfl
    rw [hw] at ho
    cases ho
    refine ⟨T, d, b, h.stay hi e (s := ⟨i, ((1 : Nat) : Int), 6, 0, 0⟩) rfl eL eS (by rw [eK]; exact h.num) ⟨c0, c2, by rw [eC]; exact hC⟩ h.bb ⟨hr, c, hc, .inr (.inl ⟨n, rfl, rfl, rfl, hT, hdn, hb⟩)⟩ (.inl rfl) (fun n' hH => ?_) (by rw [hl]; rfl) (by rw [hl]; rfl) rfl (by simp [gst]) (fun k => ?_)⟩
    · rw [hl] at hH
      obtain ⟨a, ha⟩ := hH
      exact .inl ⟨a, by cases ha; rfl⟩
    · rw [mstep_same (by show ¬ (6 : Int) = 10; decide) (by show ¬ (6 : Int) = 9; decide) (by show ¬ ((1 : Nat) : Int) = 2; decide), hl, want_wait, want_turn]
      simp
  | turn i op j q rest ii ans X l' hi hl ho e eK eS eC eL =>
    rw [h.stk] at ho eS
    have hS := h.seat i hi
    rw [hl] at hS
    have hup : upK (cl i) (v.l i) = ii := by rw [hl]; rfl
    have han : (v.l i).ans = ans := by rw [hl]; rfl
    obtain ⟨hr, c, hc, hq⟩ := hS
    have k0 : v.K.getD 0 0 = (T.length : Int) := by rw [h.num]; rfl
    have k1 : v.K.getD 1 0 = (d : Int) := by rw [h.num]; rfl
    have w1 : ∀ x : Nat, x ≤ 400000 → wrap64 ((x : Int) + 1) = (x : Int) + 1 := fun x hx => by unfold wrap64; omega
    have w2 : ∀ x : Nat, x ≤ 400000 → wrap64 ((x : Int) + 1 - 1) = (x : Int) := fun x hx => by unfold wrap64; omega
    have nb : ∀ (j : Nat) (x : Int), bump v.chg j x x = v.chg := fun j x => by unfold bump; rw [if_neg (fun h => h.1 rfl)]
    rcases hq with ⟨rfl, rfl, rfl, hp⟩ | ⟨n, rfl, rfl, rfl, hT, hdn, hb⟩ | ⟨rfl, rfl, rfl, hT, rfl⟩ | ⟨rfl, rfl, rfl, hT, rfl⟩ | ⟨rfl, rfl, rfl, hT, rfl⟩ | ⟨rfl, rfl, rfl, hp⟩ | ⟨m, rfl, rfl, rfl, hp, hmd⟩
    · -- Lock draws
      have et : mcLock.turn (0, [c.ca]) (T.length : Int) = (((T.length : Int), (T.length : Int) + 1), (T.length : Int) + 1, .turn 1 1 (1, [c.ca, (T.length : Int)])) := by
        show ((wrap64 (wrap64 ((T.length : Int) + 1) - 1), wrap64 ((T.length : Int) + 1)), wrap64 ((T.length : Int) + 1), Nx.turn 1 1 (1, [c.ca, wrap64 (wrap64 ((T.length : Int) + 1) - 1)])) = _
        rw [w1 _ hTs, w2 _ hTs]
      rw [k0, et] at ho eK eC eL
      cases ho
      have eK' : v1.K = [((T.length + 1 : Nat) : Int), (d : Int), sumK T (if b = 2 then d + 1 else d)] := by rw [eK, h.num]; rfl
      refine ⟨_, d, b, h.draw hi e (s := ⟨i, ((0 : Nat) : Int), 5, (T.length : Int), (T.length : Int) + 1⟩) rfl eL eS hc hup (fun n hH => ?_) eK' ⟨wrap64 (c0 + 1), c2, ?_⟩ ⟨hr, c, hc, .inr (.inl ⟨T.length, rfl, rfl, rfl, by simp, hle, fun hd => ?_⟩)⟩ (.inl ⟨_, rfl⟩) han.symm hup.symm ?_ rfl (fun k => ?_)⟩
      · rw [hl] at hH
        rcases hH with ⟨a, ha⟩ | ⟨_, ha⟩
        · cases ha
        · exact absurd ha (by simp)
      · rw [eC, hC]
        unfold bump
        rw [if_pos ⟨by show (T.length : Int) ≠ (T.length : Int) + 1; omega, by simp⟩]
        rfl
      · cases hb0 : b with
        | zero => rfl
        | succ b' => have := h.bb (by omega); omega
      · have : ¬ ((T.length : Int) = (T.length : Int) + 1) := by omega
        simp [isT, this]
      · rw [mstep_same (by show ¬ (5 : Int) = 10; decide) (by show ¬ (5 : Int) = 9; decide) (by show ¬ ((0 : Nat) : Int) = 2; decide), hl, want_turn, want_turn]
        simp
    · -- Lock looks who is called
      have et : mcLock.turn (1, [c.ca, (n : Int)]) (d : Int) = (((d : Int), (d : Int)), (d : Int), if (d : Int) = (n : Int) then .turn 1 2 (2, [c.ca]) else .wait 1 (6, [c.ca, (n : Int)])) := rfl
      rw [k1, et] at ho eK eC eL
      simp only at ho eK eC eL
      have eK' : v1.K = v.K := by rw [eK, h.num]; rfl
      have eC' : v1.chg = v.chg := by rw [eC, nb]
      by_cases hz : n = d
      · subst hz
        rw [if_pos rfl] at ho
        cases ho
        refine ⟨T, n, b, h.stay hi e (s := ⟨i, ((1 : Nat) : Int), 1, (n : Int), (n : Int)⟩) rfl eL eS (by rw [eK']; exact h.num) ⟨c0, c2, by rw [eC']; exact hC⟩ h.bb ⟨hr, c, hc, .inr (.inr (.inl ⟨rfl, rfl, rfl, hT, hb rfl⟩))⟩ (.inl rfl) (fun n' hH => ?_) han.symm hup.symm (by simp [isT]) (by simp [gst]) (fun k => ?_)⟩
        · rw [hl] at hH
          rcases hH with ⟨a, ha⟩ | ⟨hn, _⟩
          · have : (n : Int) = (n' : Int) := by cases ha; rfl
            exact .inr ⟨by omega, .inl rfl⟩
          · exact .inr ⟨hn, .inl rfl⟩
        · rw [mstep_same (by show ¬ (1 : Int) = 10; decide) (by show ¬ (1 : Int) = 9; decide) (by show ¬ ((1 : Nat) : Int) = 2; decide), hl, want_turn, want_turn]
          simp
      · rw [if_neg (by omega)] at ho
        cases ho with
        | waits hw _ => cases hw
        | wait _ =>
        have hse := e.own 1 _ _ _ _ rfl
        rw [eC'] at hse
        rw [show ((1 : Nat) : Int) = ((1 : Nat) : Int) from rfl, hc1] at hse
        refine ⟨T, d, b, h.stay hi e (s := ⟨i, ((1 : Nat) : Int), 1, (d : Int), (d : Int)⟩) rfl eL eS (by rw [eK']; exact h.num) ⟨c0, c2, by rw [eC']; exact hC⟩ h.bb ⟨rfl, hr, c, hc, n, rfl, hT, hdn, hb, by rw [hse]; omega⟩ (.inl rfl) (fun n' hH => ?_) han.symm hup.symm (by simp [isT]) (by simp [gst]) (fun k => ?_)⟩
        · rw [hl] at hH
          rcases hH with ⟨a, ha⟩ | ⟨_, ha⟩
          · exact ⟨a, by cases ha; rfl⟩
          · exact absurd ha (by simp)
        · rw [mstep_same (by show ¬ (1 : Int) = 10; decide) (by show ¬ (1 : Int) = 9; decide) (by show ¬ ((1 : Nat) : Int) = 2; decide), hl, want_turn, want_wait]
          simp
    · -- he looks at what is guarded
      have k2 : v.K.getD 2 0 = sumK T d := by rw [h.num]; rfl
      have et : mcLock.turn (2, [c.ca]) (sumK T d) = ((sumK T d, sumK T d), sumK T d, .turn 2 2 (3, [c.ca, sumK T d])) := rfl
      rw [k2, et] at ho eK eC eL
      cases ho
      have eK' : v1.K = v.K := by rw [eK, h.num]; rfl
      have eC' : v1.chg = v.chg := by rw [eC, nb]
      have hdl : d < T.length := (List.getElem?_eq_some_iff.1 hT).1
      refine ⟨T, d, 1, h.stay hi e (s := ⟨i, ((2 : Nat) : Int), 1, sumK T d, sumK T d⟩) rfl eL eS (by rw [eK']; exact h.num) ⟨c0, c2, by rw [eC']; exact hC⟩ (fun _ => hdl) ⟨hr, c, hc, .inr (.inr (.inr (.inl ⟨rfl, rfl, rfl, hT, rfl⟩)))⟩ (.inr ⟨_, hT, rfl⟩) (fun n' hH => ?_) han.symm hup.symm (by simp [isT]) (by simp [gst, cur, hT]) (fun k => ?_)⟩
      · rw [hl] at hH
        rcases hH with ⟨a, ha⟩ | ⟨hn, _⟩
        · cases ha
        · exact .inr ⟨hn, .inr (.inl rfl)⟩
      · rw [hl, want_turn, want_turn]
        by_cases h1 : k < ii
        · rw [if_pos h1, if_pos h1, mstep_two (wantM_or ..)]
        · rw [if_neg h1, if_neg h1]
          by_cases h2 : k = ii
          · simp [h2, mstep]
          · simp [h2, mstep]
    · -- he writes
      have k2 : v.K.getD 2 0 = sumK T d := by rw [h.num]; rfl
      have et : mcLock.turn (3, [c.ca, sumK T d]) (sumK T d) = ((sumK T d, wrap64 (sumK T d + c.ca)), wrap64 (sumK T d + c.ca), .turn 5 1 (4, [sumK T d])) := rfl
      have es := sumK_succ hT
      rw [k2, et, ← es] at ho eK eC eL
      cases ho
      have eK' : v1.K = [(T.length : Int), (d : Int), sumK T (d + 1)] := by rw [eK, h.num]; rfl
      have hdl : d < T.length := (List.getElem?_eq_some_iff.1 hT).1
      refine ⟨T, d, 2, h.stay hi e (s := ⟨i, ((2 : Nat) : Int), 2, sumK T d, sumK T (d + 1)⟩) rfl eL eS (by rw [eK']; rfl) ?_ (fun _ => hdl) ⟨hr, c, hc, .inr (.inr (.inr (.inr (.inl ⟨rfl, rfl, rfl, hT, rfl⟩))))⟩ (.inr ⟨_, hT, rfl⟩) (fun n' hH => ?_) han.symm hup.symm (by simp [isT]) (by simp [gst, cur, hT]) (fun k => ?_)⟩
      · rw [eC, hC]
        unfold bump
        split
        · exact ⟨c0, _, rfl⟩
        · exact ⟨c0, c2, rfl⟩
      · rw [hl] at hH
        rcases hH with ⟨a, ha⟩ | ⟨hn, _⟩
        · cases ha
        · exact .inr ⟨hn, .inr (.inr rfl)⟩
      · rw [hl, want_turn, want_turn]
        by_cases h1 : k < ii
        · rw [if_pos h1, if_pos h1, mstep_two (wantM_or ..)]
        · rw [if_neg h1, if_neg h1]
          by_cases h2 : k = ii
          · simp [h2, mstep]
          · simp [h2, mstep]
    · -- he calls the next, and has his answer
      have et : mcLock.turn (4, [sumK T d]) (d : Int) = (((d : Int), (d : Int) + 1), (d : Int) + 1, .ans 0 (sumK T d)) := by
        show ((wrap64 (wrap64 ((d : Int) + 1) - 1), wrap64 ((d : Int) + 1)), wrap64 ((d : Int) + 1), Nx.ans 0 (sumK T d)) = _
        rw [w1 d (by omega), w2 d (by omega)]
      rw [k1, et] at ho eK eC eL
      have hdl : d < T.length := (List.getElem?_eq_some_iff.1 hT).1
      cases ho with
      | ans hF =>
        have eK' : v1.K = [(T.length : Int), ((d + 1 : Nat) : Int), sumK T (d + 1)] := by rw [eK, h.num]; rfl
        refine ⟨T, d + 1, 0, h.answer hi e (c := c) (s := ⟨i, ((1 : Nat) : Int), 5, (d : Int), (d : Int) + 1⟩) han hup hr hc hF rfl eL eS hdl (by rw [eK']; rfl) ⟨c0, c2, ?_⟩ (fun hb => absurd rfl hb) (fun k se hne hk => (hk.oth hT (fun x => hne x.symm) 0).2) (fun n t hn ht => ?_) (fun n t h1 h2 ht => ?_) (fun k j hkj => ?_) (fun hf => ?_) (by simp [isT]) ?_ (fun k => ?_)⟩
        · rw [eC, hC]
          unfold bump
          rw [if_pos ⟨by show (d : Int) ≠ (d : Int) + 1; omega, by simp⟩]
          show [c0, wrap64 ((d : Int) + 1), c2] = _
          rw [w1 d (by omega)]
          rfl
        · have hH := (h.hold n t (by omega) ht).2
          refine ⟨by omega, fun hti => ?_, fun _ => ?_⟩
          · rw [hti, hl] at hH
            rcases hH with ⟨a, ha⟩ | ⟨hn', _⟩
            · cases ha
            · omega
          · match hl2 : v.l t.th, hH with
            | .turn _ _ _ _ _ _, hH =>
              rcases hH with hH | ⟨hn', _⟩
              · exact .inl hH
              · omega
            | .wait _ _ _ _ _, hH => exact hH
        · obtain rfl : n = d := by omega
          rw [hT] at ht
          cases ht
          exact ⟨rfl, rfl⟩
        · rw [tkd_succ hT]
          have : (i == k && ii == j) = false := by
            rcases hkj with h1 | h1
            · simp; exact fun x => absurd x.symm h1
            · simp; exact fun _ x => h1 x.symm
          show (tkd T d k j || (i == k && ii == j)) = _
          rw [this, Bool.or_false]
        · rw [tkd_succ hT] at hf
          simp at hf
        · show pairs T d ++ cur T d 2 ++ gst [_] = (pairs T d ++ _) ++ cur T (d + 1) 0
          simp [cur, hT, gst]
        · rw [mstep_same (s := ⟨i, ((1 : Nat) : Int), 5, (d : Int), (d : Int) + 1⟩) (by show ¬ (5 : Int) = 10; decide) (by show ¬ (5 : Int) = 9; decide) (by show ¬ ((1 : Nat) : Int) = 2; decide), hl, want_turn]
          by_cases h1 : k < ii
          · rw [if_pos h1, if_pos (by omega), mstep_two (wantM_or ..)]
            unfold wantM
            rw [tkd_succ hT]
            have : (i == i && ii == k) = false := by simp; omega
            show _ = if (tkd T d i k || (i == i && ii == k)) = true then 2 else 3
            rw [this, Bool.or_false]
          · rw [if_neg h1]
            by_cases h2 : k = ii
            · subst h2
              rw [if_pos rfl, if_pos (.inr rfl), if_pos (by omega), mstep_two (.inl rfl)]
              unfold wantM
              rw [tkd_succ hT]
              simp
            · rw [if_neg h2, if_neg (by omega)]
              have : ¬ ((ii : Int) = (k : Int)) := by omega
              simp [mstep, this]
    · -- Try looks
      have et : mcLock.turn (5, [c.ca]) (d : Int) = (((d : Int), (d : Int)), (d : Int), .turn 4 0 (7, [c.ca, (d : Int)])) := rfl
      rw [k1, et] at ho eK eC eL
      cases ho
      have eK' : v1.K = v.K := by rw [eK, h.num]; rfl
      have eC' : v1.chg = v.chg := by rw [eC, nb]
      refine ⟨T, d, b, h.stay hi e (s := ⟨i, ((1 : Nat) : Int), 1, (d : Int), (d : Int)⟩) rfl eL eS (by rw [eK']; exact h.num) ⟨c0, c2, by rw [eC']; exact hC⟩ h.bb ⟨hr, c, hc, .inr (.inr (.inr (.inr (.inr (.inr ⟨d, rfl, rfl, rfl, hp, Nat.le_refl _⟩)))))⟩ (.inl rfl) (fun n' hH => ?_) han.symm hup.symm (by simp [isT]) (by simp [gst]) (fun k => ?_)⟩
      · rw [hl] at hH
        rcases hH with ⟨a, ha⟩ | ⟨_, ha⟩
        · cases ha
        · exact absurd ha (by simp)
      · rw [mstep_same (by show ¬ (1 : Int) = 10; decide) (by show ¬ (1 : Int) = 9; decide) (by show ¬ ((1 : Nat) : Int) = 2; decide), hl, want_turn, want_turn]
        simp
    · -- Try tries
      have et : mcLock.turn (7, [c.ca, (m : Int)]) (T.length : Int) = ((effCas m (wrap64 ((m : Int) + 1)) (T.length : Int)).1, (effCas m (wrap64 ((m : Int) + 1)) (T.length : Int)).2.1, if (T.length : Int) = (m : Int) then .turn 1 2 (2, [c.ca]) else .ans 0 (-1)) := rfl
      rw [k0, et, w1 m (by omega)] at ho eK eC eL
      simp only at ho eK eC eL
      unfold effCas at eK eC eL
      have noH : ∀ n, ¬ Hold d n (v.l i) := fun n hH => by
        rw [hl] at hH
        rcases hH with ⟨a, ha⟩ | ⟨_, ha⟩
        · cases ha
        · exact absurd ha (by simp)
      by_cases hz : T.length = m
      · have hz' : (T.length : Int) = (m : Int) := by omega
        rw [if_pos hz'] at ho eK eC eL
        simp only at ho eK eC eL
        cases ho
        have hd : d = T.length := by omega
        have hb0 : b = 0 := by
          cases hb0 : b with
          | zero => rfl
          | succ b' => have := h.bb (by omega); omega
        subst hb0
        have eK' : v1.K = [((T.length + 1 : Nat) : Int), (d : Int), sumK T (if (0 : Nat) = 2 then d + 1 else d)] := by
          rw [eK, h.num]
          show [(m : Int) + 1, (d : Int), _] = _
          rw [← hz']
          rfl
        refine ⟨_, d, 0, h.draw hi e (s := ⟨i, ((0 : Nat) : Int), 4, (m : Int), (m : Int) + 1⟩) rfl eL eS hc hup noH eK' ⟨wrap64 (c0 + 1), c2, ?_⟩ ⟨hr, c, hc, .inr (.inr (.inl ⟨rfl, rfl, rfl, by rw [hd]; simp, rfl⟩))⟩ (.inr ⟨hd.symm, .inl rfl⟩) han.symm hup.symm ?_ rfl (fun k => ?_)⟩
        · rw [eC, hC]
          unfold bump
          rw [if_pos ⟨by show (m : Int) ≠ (m : Int) + 1; omega, by simp⟩]
          rfl
        · have : ¬ ((m : Int) = (m : Int) + 1) := by omega
          simp [isT, this]
        · rw [mstep_same (by show ¬ (4 : Int) = 10; decide) (by show ¬ (4 : Int) = 9; decide) (by show ¬ ((0 : Nat) : Int) = 2; decide), hl, want_turn, want_turn]
          simp
      · rw [if_neg (by omega)] at ho eK eC eL
        simp only at ho eK eC eL
        have eK' : v1.K = v.K := by rw [eK, h.num]; rfl
        have eC' : v1.chg = v.chg := by rw [eC, nb]
        have hlo : tkd T d i ii = false := by
          cases hT : tkd T d i ii with
          | false => rfl
          | true =>
            obtain ⟨n, t, h1, h2, h3, h4⟩ := tkd_iff.1 hT
            have := (h.old n t h1 h2).2.1
            rw [h3, hup] at this
            omega
        cases ho with
        | ans hF =>
          refine ⟨T, d, b, h.answer hi e (c := c) (s := ⟨i, ((0 : Nat) : Int), 4, (T.length : Int), (T.length : Int)⟩) han hup hr hc hF rfl eL eS hle (by rw [eK']; exact h.num) ⟨c0, c2, by rw [eC']; exact hC⟩ h.bb (fun k se hne hk => hk) (fun n t hn ht => ⟨hn, fun hti => ?_, fun x => x⟩) (fun n t h1 h2 ht => absurd h1 h2) (fun k j hkj => rfl) (fun hf => ⟨rfl, hp⟩) (by simp [isT]) (by simp [gst]) (fun k => ?_)⟩
          · have hH := (h.hold n t hn ht).2
            rw [hti] at hH
            exact noH n hH
          · rw [mstep_same (s := ⟨i, ((0 : Nat) : Int), 4, (T.length : Int), (T.length : Int)⟩) (by show ¬ (4 : Int) = 10; decide) (by show ¬ (4 : Int) = 9; decide) (by show ¬ ((0 : Nat) : Int) = 2; decide), hl, want_turn]
            by_cases h1 : k < ii
            · rw [if_pos h1, if_pos (by omega), mstep_two (wantM_or ..)]
            · rw [if_neg h1]
              by_cases h2 : k = ii
              · subst h2
                rw [if_pos rfl, if_neg (by simp), if_pos (by omega)]
                unfold wantM
                rw [hlo]
                simp [mstep]
              · rw [if_neg h2, if_neg (by omega)]
                have : ¬ ((ii : Int) = (k : Int)) := by omega
                simp [mstep, this]
end Go.Proofs.Ytfjjoohflcchnaa.Gen
