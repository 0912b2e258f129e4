/- LockOne: for every schedule and all scripts, the steps on what the lock guards come in pairs, each pair one thread's, in the order of the tickets; nobody is stuck; each call is told the sum of what was added ahead of it; no conditions. Part 32 of 35. (Joined, by program, of: La7b.) -/
import Derived.Test.YtfjjoohflcchnaaLockOne31
set_option linter.unusedSimpArgs false
set_option linter.unusedVariables false
namespace Go.Proofs.Ytfjjoohflcchnaa.Gen
open Go Go.Lift Go.Conc Go.RowKit

open Go.ConcN (upd upd_same upd_ne)
theorem inBlock_exit {id : Nat} {Q : Exit → Act → World → Prop} {a : Act} {w : World} (h : Q .normal a w) : Exit.inBlock id Q (.exit id) a w := by
  show if id = id then _ else _
  rw [if_pos rfl]
  exact h
theorem then_exit {N : Act → World → Prop} {Q : Exit → Act → World → Prop} {id : Nat} {a : Act} {w : World} (h : Q (.exit id) a w) : Exit.then N Q (.exit id) a w := h
/-! ### What the trace says of what is guarded -/
theorem pairs_len (T : List Tk) : ∀ m, m ≤ T.length → (pairs T m).length = 2 * m
  | 0, _ => rfl
  | m + 1, h => by
    simp only [pairs]
    rw [List.getElem?_eq_getElem (by omega), List.length_append, pairs_len T m (by omega)]
    simp
    omega
theorem pairs_get {T : List Tk} {j : Nat} {t : Tk} (h : T[j]? = some t) : ∀ m, j < m → m ≤ T.length → (pairs T m)[2 * j]? = some ⟨t.th, 2, 1, sumK T j, sumK T j⟩ ∧ (pairs T m)[2 * j + 1]? = some ⟨t.th, 2, 2, sumK T j, sumK T (j + 1)⟩
  | m + 1, hm, hT => by
    have hl := pairs_len T m (by omega)
    simp only [pairs]
    by_cases e : j = m
    · subst e
      rw [h]
      simp only
      rw [List.getElem?_append_right (by omega), List.getElem?_append_right (by omega), hl, Nat.sub_self, show 2 * j + 1 - 2 * j = 1 by omega]
      exact ⟨rfl, rfl⟩
    · obtain ⟨h1, h2⟩ := pairs_get h m (by omega) (by omega)
      rw [List.getElem?_append_left (by omega), List.getElem?_append_left (by omega)]
      exact ⟨h1, h2⟩
theorem gst_take {L : List Stp} {i : Nat} {q : Stp} (h : L[i]? = some q) : gst (L.take (i + 1)) = if q.ce = 2 then gst (L.take i) ++ [q] else gst (L.take i) := by
  rw [List.take_add_one, h]
  unfold gst
  rw [List.filter_append]
  by_cases e : q.ce = 2 <;> simp [e]
theorem gst_at {L : List Stp} {i : Nat} {q : Stp} (h : L[i]? = some q) (hc : q.ce = 2) : (gst L)[(gst (L.take i)).length]? = some q := by
  have e : L = L.take (i + 1) ++ L.drop (i + 1) := (List.take_append_drop ..).symm
  have e2 : gst L = gst (L.take (i + 1)) ++ gst (L.drop (i + 1)) := by
    conv => lhs; rw [e]
    exact List.filter_append ..
  rw [e2, gst_take h, if_pos hc, List.append_assoc, List.getElem?_append_right (Nat.le_refl _), Nat.sub_self]
  rfl
theorem gst_le (L : List Stp) (i : Nat) : (gst (L.take i)).length ≤ (gst L).length := by
  have e : L = L.take i ++ L.drop i := (List.take_append_drop ..).symm
  have e2 : gst L = gst (L.take i) ++ gst (L.drop i) := by
    conv => lhs; rw [e]
    exact List.filter_append ..
  rw [e2, List.length_append]
  omega
/-- A row of numbers, while more is made. -/
structure NxG (v : World) (nb n : Nat) (f : Nat → Nat) (u : World) : Prop where
  size : v.heap.size ≤ u.heap.size
  oth : ∀ q, q < v.heap.size → q ≠ nb → u.heap[q]? = v.heap[q]?
  row : u.heap[nb]? = some (NR n f)
  os : u.os = v.os
  out : u.output = v.output
section
variable {v u u' : World} {nb n t : Nat} {f : Nat → Nat}
theorem NxG.cell (h : NxG v nb n f u) (ht : t < n) : u.cell? ⟨nb, t, none⟩ = some (I (f t : Int)) := cell_of h.row (by simp [ht])
theorem NxG.frozen (h : NxG v nb n f u) : u.frozen? ⟨nb, t, none⟩ = false := by
  have := h.row
  unfold NR at this
  simp [World.frozen?, this]
theorem NxG.same (h : NxG v nb n f u) (e : u'.heap = u.heap) (e1 : u'.os = u.os) (e2 : u'.output = u.output) : NxG v nb n f u' := ⟨by rw [e]; exact h.size, fun q hq => by rw [e]; exact h.oth q hq, by rw [e]; exact h.row, e1.trans h.os, e2.trans h.out⟩
theorem NxG.push (h : NxG v nb n f u) {x : Obj} (e : u'.heap = u.heap.push x) (e1 : u'.os = u.os) (e2 : u'.output = u.output) : NxG v nb n f u' := by
  have hn : nb < u.heap.size := (Array.getElem?_eq_some_iff.1 h.row).1
  refine ⟨by rw [e]; have := h.size; simp; omega, fun q hq hne => ?_, ?_, e1.trans h.os, e2.trans h.out⟩
  · rw [e, Array.getElem?_push, if_neg (by have := h.size; omega)]; exact h.oth q hq hne
  · rw [e, Array.getElem?_push, if_neg (by omega)]; exact h.row
theorem NxG.set (h : NxG v nb n f u) {x : Nat} (e : u'.heap = (u.setCell ⟨nb, t, none⟩ (I (x : Int))).heap) (e1 : u'.os = u.os) (e2 : u'.output = u.output) : NxG v nb n (upd f t x) u' := by
  have h2 := (NxW.set (v := u) (nb := nb) (n := n) (f := f) (u := u) (t := t) ⟨fun _ _ => rfl, h.row, rfl, rfl⟩ e e1 e2)
  have hs : u'.heap.size = u.heap.size := by rw [e]; simp [World.setCell]
  exact ⟨by rw [hs]; exact h.size, fun q hq hne => by rw [h2.oth q hne]; exact h.oth q hq hne, h2.row, e1.trans h.os, e2.trans h.out⟩
end
/-- What stays through the loop. -/
structure Fix7 (n M b o g nb : Nat) (A ln cp rb ro : Nat → Nat) (pc : Nat → Option Addr) (cl : Nat → List Cl) (l : Nat → Ph) (L : List Stp) (T : List Tk) (wq : Option Addr) (v2 v3 : World) : Prop where
  rk : RK n M b o A ln cp rb ro pc cl l v2
  tr : TrL g L v2
  who : ∀ (i : Nat) (tk : Tk), T[i]? = some tk → ∃ wg, wq = some ⟨wg, 0, none⟩ ∧ v2.cell? ⟨wg, i, none⟩ = some (I (tk.th : Int))
  nb : nb = v2.heap.size
  size : v2.heap.size < v3.heap.size
  old : ∀ q, q < v2.heap.size → v3.heap[q]? = v2.heap[q]?
theorem Fix7.at_ {n M b o g nb : Nat} {A ln cp rb ro : Nat → Nat} {pc : Nat → Option Addr} {cl : Nat → List Cl} {l : Nat → Ph} {L : List Stp} {T : List Tk} {wq : Option Addr} {v2 v3 u : World} {f : Nat → Nat} (h : Fix7 n M b o g nb A ln cp rb ro pc cl l L T wq v2 v3) (hx : NxG v3 nb n f u) : ∀ q, q < v2.heap.size → u.heap[q]? = v2.heap[q]? := fun q hq => by
  rw [hx.oth q (by have := h.size; omega) (by have := h.nb; omega), h.old q hq]

section
variable {n M b o cap ct wc nb g : Nat} {p wq : Option Addr} {A ln cp rb ro : Nat → Nat} {pc : Nat → Option Addr} {cl : Nat → List Cl} {l : Nat → Ph} {L : List Stp} {T : List Tk} {S : TS} {v2 v3 : World} (hlen : ∀ j, j < n → (cl j).length = ln j ∧ ln j ≤ 64) (hE : LockEnd n cl l L T) (hSn : L.length = S.n) (hs4 : S.n ≤ 400000) (hp : 0 < S.n → p = some ⟨g, 0, none⟩) (hF : Fix7 n M b o g nb A ln cp rb ro pc cl l L T wq v2 v3)
include hlen hE hSn hs4 hp hF
set_option maxHeartbeats 4000000 in
/-- A pair's second step: which call it was. -/
theorem inner7 {i j sb : Nat} {tk : Tk} (htk : T[j]? = some tk) {Q : Exit → Act → World → Prop} {a : Act} {w : World} (hA : Fl 228 [(1, .slice (some ⟨b, o, none⟩) n cap), (7, Pt S.wb 0), (8, .slice (some ⟨M, 0, none⟩) n n), (9, I 0), (10, .slice p S.n ct), (11, .slice wq T.length wc), (12, .slice (some ⟨nb, 0, none⟩) n n), (13, I (sumK T j)), (14, I (j : Int)), (15, I (tk.th : Int)), (16, I (i : Int)), (17, Pt sb 0), (18, I (nxt T j tk.th : Int))] a) (hW : NxG v3 nb n (nxt T j) w)
    (hK : ∀ a' w', Fl 228 [(1, .slice (some ⟨b, o, none⟩) n cap), (7, Pt S.wb 0), (8, .slice (some ⟨M, 0, none⟩) n n), (9, I 0), (10, .slice p S.n ct), (11, .slice wq T.length wc), (12, .slice (some ⟨nb, 0, none⟩) n n), (13, I (sumK T j)), (14, I (j : Int)), (15, I (tk.th : Int)), (16, I (i : Int)), (17, Pt sb 0), (18, I (tk.k : Int))] a' → w'.heap = w.heap → w'.os = w.os → w'.output = w.output → Q .normal a' w') :
    (Code.block 2 (.loop (.seq (.seq n25 (.cond (.tmp 156) .skip (.exit 2))) (.block 3 n26)))).wp Try.prog Q a w := by
  obtain ⟨t1, t2, ⟨c, hc, hca⟩, t4⟩ := hE.tick j tk htk
  obtain ⟨hl1, hl2⟩ := hlen tk.th t1
  rw [hl1] at t2
  have hx0 := nxt_le hE.ord htk
  refine wp_while (fun m a w' => ∃ x, x + m = tk.k ∧ nxt T j tk.th ≤ x ∧ Fl 228 [(1, .slice (some ⟨b, o, none⟩) n cap), (7, Pt S.wb 0), (8, .slice (some ⟨M, 0, none⟩) n n), (9, I 0), (10, .slice p S.n ct), (11, .slice wq T.length wc), (12, .slice (some ⟨nb, 0, none⟩) n n), (13, I (sumK T j)), (14, I (j : Int)), (15, I (tk.th : Int)), (16, I (i : Int)), (17, Pt sb 0), (18, I (x : Int))] a ∧ w'.heap = w.heap ∧ w'.os = w.os ∧ w'.output = w.output) (tk.k - nxt T j tk.th) ⟨nxt T j tk.th, by omega, Nat.le_refl _, hA, rfl, rfl, rfl⟩ ?_
  rintro m' a5 w5 ⟨x, hxm, hx1, hA5, e5, o5, u5⟩
  have hW5 := hW.same e5 o5 u5
  have hm : mst tk.th x L = if tkd T T.length tk.th x then 2 else 3 := hE.ms tk.th t1 x (by rw [hl1]; omega)
  have O5 := hF.at_ hW5
  have R5 := hF.rk.go O5
  have c1 : w5.cell? ⟨b, o + tk.th, none⟩ = some (.slice (some ⟨rb tk.th, ro tk.th, none⟩) (ln tk.th) (cp tk.th)) := by have := R5.sr _ t1; rw [R5.pq _ t1 (by omega)] at this; exact this
  obtain ⟨cx, hcx⟩ : ∃ cx, (cl tk.th)[x]? = some cx := ⟨_, List.getElem?_eq_getElem (by rw [hl1]; omega)⟩
  -- what the head's test says
  have head : ∀ (ec xv : Int), (l tk.th).ans[x]? = some (ec, xv) → ∀ r : Bool, (xv = -1 → cx.po = 2 → r = (!(mst tk.th x L == 2) || (ec != 0))) → (¬ (xv = -1 ∧ cx.po = 2) → r = (ec != 0)) →
      n25.wp Try.prog (fun e a' w' => e = .normal ∧ Fl 228 [(1, .slice (some ⟨b, o, none⟩) n cap), (7, Pt S.wb 0), (8, .slice (some ⟨M, 0, none⟩) n n), (9, I 0), (10, .slice p S.n ct), (11, .slice wq T.length wc), (12, .slice (some ⟨nb, 0, none⟩) n n), (13, I (sumK T j)), (14, I (j : Int)), (15, I (tk.th : Int)), (16, I (i : Int)), (17, Pt sb 0), (18, I (x : Int)), (156, .bool r)] a' ∧ w'.heap = w5.heap ∧ w'.os = w5.os ∧ w'.output = w5.output) a5 w5 := by
    intro ec xv hq r hr1 hr2
    obtain ⟨d3, d2⟩ := R5.an _ t1 _ _ hq
    by_cases h1 : xv = -1
    · by_cases h2 : cx.po = 2
      · rw [hr1 h1 h2]
        exact n25_wpc t1 (by omega) c1 (R5.ar _ t1) d2 d3 (R5.sa _ t1 _ _ hcx).1 h1 h2 hSn hs4 hp (hF.tr.go O5) hA5
      · rw [hr2 (fun h => h2 h.2)]
        exact n25_wpb t1 (by omega) c1 (R5.ar _ t1) d2 d3 (R5.sa _ t1 _ _ hcx).1 h1 h2 hA5
    · rw [hr2 (fun h => h1 h.1)]
      exact n25_wpa t1 (by omega) c1 (R5.ar _ t1) d2 d3 (R5.sa _ t1 _ _ hcx).1 h1 hA5
  by_cases hxk : x = tk.k
  · subst hxk
    rw [tkd_at htk, if_pos rfl] at hm
    refine ⟨_, head 0 (sumK T j) t4 false (fun _ _ => by rw [hm]; rfl) (fun _ => rfl), ?_⟩
    rintro a6 w6 ⟨hA6, e6, o6, u6⟩
    left
    exact ⟨hA6.at 156 (.bool false) (by simp), hK a6 w6 (hA6.sub (by simp)) (e6.trans e5) (o6.trans o5) (u6.trans u5)⟩
  · have hno := nxt_no hE.ord htk hx1 (by omega)
    obtain ⟨c', q, h1, h2, h3⟩ := hE.un tk.th t1 x (by rw [hl1]; omega) hno
    rw [hno] at hm
    rw [hcx] at h1
    cases h1
    obtain ⟨qe, qv⟩ := q
    refine ⟨_, head qe qv h2 true (fun _ _ => by rw [hm]; rfl) (fun h => ?_), ?_⟩
    · rcases h3 with ⟨h3, h4⟩ | h3
      · cases h3
        exact absurd ⟨rfl, h4⟩ h
      · simp only at h3
        simp [h3]
    rintro a6 w6 ⟨hA6, e6, o6, u6⟩
    right
    refine ⟨hA6.at 156 (.bool true) (by simp), ?_⟩
    have hA6' : Fl 228 [(1, .slice (some ⟨b, o, none⟩) n cap), (7, Pt S.wb 0), (8, .slice (some ⟨M, 0, none⟩) n n), (9, I 0), (10, .slice p S.n ct), (11, .slice wq T.length wc), (12, .slice (some ⟨nb, 0, none⟩) n n), (13, I (sumK T j)), (14, I (j : Int)), (15, I (tk.th : Int)), (16, I (i : Int)), (17, Pt sb 0), (18, I (x : Int))] a6 := hA6.sub (by simp)
    refine wp_block (wp_last (n26_wp (by unfold wrap64; omega) hA6') ?_)
    rintro a7 w7 ⟨hA7, e7, o7, u7⟩
    exact ⟨m' - 1, by omega, x + 1, by omega, by omega, hA7, e7.trans (e6.trans e5), o7.trans (o6.trans o5), u7.trans (u6.trans u5)⟩

set_option maxHeartbeats 4000000 in
theorem loop7 {Q : Exit → Act → World → Prop} {a : Act} (hA : Fl 228 [(1, .slice (some ⟨b, o, none⟩) n cap), (7, Pt S.wb 0), (8, .slice (some ⟨M, 0, none⟩) n n), (9, I 0), (10, .slice p S.n ct), (11, .slice wq T.length wc), (12, .slice (some ⟨nb, 0, none⟩) n n), (13, I (sumK T 0)), (14, I ((0 : Nat) : Int)), (15, I (-1)), (16, I ((0 : Nat) : Int))] a) (hW : NxG v3 nb n (nxt T 0) v3)
    (hK : ∀ a' w', Fl 228 [(1, .slice (some ⟨b, o, none⟩) n cap), (7, Pt S.wb 0), (8, .slice (some ⟨M, 0, none⟩) n n), (9, I 0), (10, .slice p S.n ct), (11, .slice wq T.length wc), (12, .slice (some ⟨nb, 0, none⟩) n n), (13, I (sumK T T.length)), (14, I (T.length : Int)), (15, I (-1))] a' → NxG v3 nb n (nxt T T.length) w' → Q .normal a' w') :
    (Code.block 0 (.loop OA)).wp Try.prog Q a v3 := by
  rw [eOA]
  refine wp_while (fun m a w => ∃ i j op, i + m = S.n ∧ ((op = -1 ∧ (gst (L.take i)).length = 2 * j) ∨ (∃ tk, T[j]? = some tk ∧ op = (tk.th : Int) ∧ (gst (L.take i)).length = 2 * j + 1)) ∧ Fl 228 [(1, .slice (some ⟨b, o, none⟩) n cap), (7, Pt S.wb 0), (8, .slice (some ⟨M, 0, none⟩) n n), (9, I 0), (10, .slice p S.n ct), (11, .slice wq T.length wc), (12, .slice (some ⟨nb, 0, none⟩) n n), (13, I (sumK T j)), (14, I (j : Int)), (15, I op), (16, I (i : Int))] a ∧ NxG v3 nb n (nxt T j) w) S.n ⟨0, 0, -1, by omega, .inl ⟨rfl, rfl⟩, hA, hW⟩ ?_
  rintro m a1 w1 ⟨i, j, op, him, hst, hA1, hW1⟩
  refine ⟨_, n14_wp hA1, ?_⟩
  rintro a2 w2 ⟨hA2, e2, o2, u2⟩
  have hW2 := hW1.same e2 o2 u2
  have hT4 : T.length ≤ 400000 := by have := hE.small; omega
  have hpl : (gst L).length = 2 * T.length := by rw [hE.two, pairs_len T _ (Nat.le_refl _)]
  by_cases hi : i < S.n
  · right
    refine ⟨by rw [hA2.at 52 (.bool (decide ((i : Int) < (S.n : Int)))) (by simp), decide_eq_true (by omega)], ?_⟩
    obtain rfl := hp (by omega)
    have hA2' : Fl 228 [(1, .slice (some ⟨b, o, none⟩) n cap), (7, Pt S.wb 0), (8, .slice (some ⟨M, 0, none⟩) n n), (9, I 0), (10, .slice (some ⟨g, 0, none⟩) S.n ct), (11, .slice wq T.length wc), (12, .slice (some ⟨nb, 0, none⟩) n n), (13, I (sumK T j)), (14, I (j : Int)), (15, I op), (16, I (i : Int))] a2 := hA2.sub (by simp)
    obtain ⟨q, hq⟩ : ∃ q, L[i]? = some q := ⟨_, List.getElem?_eq_getElem (by omega)⟩
    have O2 := hF.at_ hW2
    obtain ⟨s0, s1, s2, s3, s4⟩ := hF.tr.go O2 i q hq
    refine wp_seq (wp_block ?_)
    rw [eOI]
    refine wp_then (n16_wp hi s0 s1 s2 s3 s4 hA2') ?_
    rintro a3 w3 ⟨hA3, e3, o3, u3⟩
    have hW3 := hW2.push e3 o3 u3
    have hb : w3.heap[w2.heap.size]? = some (.cells #[I q.th, I q.ce, I q.op, I q.ol, I q.ne] 34) := by rw [e3]; exact Array.getElem?_push_size
    have c0 : ∀ u : World, u.heap = w3.heap → u.cell? ⟨w2.heap.size, 0, none⟩ = some (I q.th) := fun u e => cell_of (by rw [e]; exact hb) rfl
    have c1 : ∀ u : World, u.heap = w3.heap → u.cell? ⟨w2.heap.size, 1, none⟩ = some (I q.ce) := fun u e => cell_of (by rw [e]; exact hb) rfl
    have c2 : ∀ u : World, u.heap = w3.heap → u.cell? ⟨w2.heap.size, 2, none⟩ = some (I q.op) := fun u e => cell_of (by rw [e]; exact hb) rfl
    have c3 : ∀ u : World, u.heap = w3.heap → u.cell? ⟨w2.heap.size, 3, none⟩ = some (I q.ol) := fun u e => cell_of (by rw [e]; exact hb) rfl
    have c4 : ∀ u : World, u.heap = w3.heap → u.cell? ⟨w2.heap.size, 4, none⟩ = some (I q.ne) := fun u e => cell_of (by rw [e]; exact hb) rfl
    have hnbl : nb < w2.heap.size := (Array.getElem?_eq_some_iff.1 hW2.row).1
    refine wp_seq (wp_then (n17_wp (c1 w3 rfl) hA3) ?_)
    rintro a4 w4 ⟨hA4, e4, o4, u4⟩
    have hW4 := hW3.same e4 o4 u4
    -- a round's end
    have fin : ∀ (a' : Act) (w' : World) (j' : Nat) (op' : Int), ((op' = -1 ∧ (gst (L.take (i + 1))).length = 2 * j') ∨ (∃ tk, T[j']? = some tk ∧ op' = (tk.th : Int) ∧ (gst (L.take (i + 1))).length = 2 * j' + 1)) → Fl 228 [(1, .slice (some ⟨b, o, none⟩) n cap), (7, Pt S.wb 0), (8, .slice (some ⟨M, 0, none⟩) n n), (9, I 0), (10, .slice (some ⟨g, 0, none⟩) S.n ct), (11, .slice wq T.length wc), (12, .slice (some ⟨nb, 0, none⟩) n n), (13, I (sumK T j')), (14, I (j' : Int)), (15, I op'), (16, I (i : Int))] a' → NxG v3 nb n (nxt T j') w' →
        n15.wp Try.prog (Exit.then (fun a'' w'' => ∃ n', n' < m ∧ ∃ i j op, i + n' = S.n ∧ ((op = -1 ∧ (gst (L.take i)).length = 2 * j) ∨ (∃ tk, T[j]? = some tk ∧ op = (tk.th : Int) ∧ (gst (L.take i)).length = 2 * j + 1)) ∧ Fl 228 [(1, .slice (some ⟨b, o, none⟩) n cap), (7, Pt S.wb 0), (8, .slice (some ⟨M, 0, none⟩) n n), (9, I 0), (10, .slice (some ⟨g, 0, none⟩) S.n ct), (11, .slice wq T.length wc), (12, .slice (some ⟨nb, 0, none⟩) n n), (13, I (sumK T j)), (14, I (j : Int)), (15, I op), (16, I (i : Int))] a'' ∧ NxG v3 nb n (nxt T j) w'') (Exit.inBlock 0 Q)) a' w' := fun a' w' j' op' hst' hA' hW' => by
      refine wp_last (n15_wp (by unfold wrap64; omega) hA') ?_
      rintro a11 w11 ⟨hA11, e11, o11, u11⟩
      exact ⟨m - 1, by omega, i + 1, j', op', by omega, hst', hA11, hW'.same e11 o11 u11⟩
    by_cases hce : q.ce = 2
    · refine wp_cond_false (by rw [hA4.at 61 (.bool (q.ce != 2)) (by simp), hce]; rfl) (wp_skip ?_)
      have hgt := gst_take hq
      rw [if_pos hce] at hgt
      have hat := gst_at hq hce
      rw [hE.two] at hat
      have hgl : (gst (L.take (i + 1))).length = (gst (L.take i)).length + 1 := by rw [hgt]; simp
      have hgle := gst_le L (i + 1)
      have hA4' : Fl 228 [(1, .slice (some ⟨b, o, none⟩) n cap), (7, Pt S.wb 0), (8, .slice (some ⟨M, 0, none⟩) n n), (9, I 0), (10, .slice (some ⟨g, 0, none⟩) S.n ct), (11, .slice wq T.length wc), (12, .slice (some ⟨nb, 0, none⟩) n n), (13, I (sumK T j)), (14, I (j : Int)), (15, I op), (16, I (i : Int)), (17, Pt w2.heap.size 0)] a4 := hA4.sub (by simp)
      refine wp_seq (wp_then (n18_wp hA4') ?_)
      rintro a5 w5 ⟨hA5, e5, o5, u5⟩
      have hW5 := hW4.same e5 o5 u5
      have e53 : w5.heap = w3.heap := e5.trans e4
      have hA5' : Fl 228 [(1, .slice (some ⟨b, o, none⟩) n cap), (7, Pt S.wb 0), (8, .slice (some ⟨M, 0, none⟩) n n), (9, I 0), (10, .slice (some ⟨g, 0, none⟩) S.n ct), (11, .slice wq T.length wc), (12, .slice (some ⟨nb, 0, none⟩) n n), (13, I (sumK T j)), (14, I (j : Int)), (15, I op), (16, I (i : Int)), (17, Pt w2.heap.size 0)] a5 := hA5.sub (by simp)
      rcases hst with ⟨hop, hlen2⟩ | ⟨tk, htk, hop, hlen2⟩
      · -- a pair's first step
        subst hop
        refine wp_cond_true (by rw [hA5.at 63 (.bool (decide ((-1 : Int) < 0))) (by simp)]; rfl) ?_
        have hj : j < T.length := by omega
        obtain ⟨tk, htk⟩ : ∃ tk, T[j]? = some tk := ⟨_, List.getElem?_eq_getElem hj⟩
        have hp1 := (pairs_get htk T.length hj (Nat.le_refl _)).1
        rw [hlen2, hp1] at hat
        have hq1 := Option.some.inj hat
        obtain ⟨wg, hwq, hwg⟩ := hF.who j tk htk
        subst hwq
        have hA5g : Fl 228 [(1, .slice (some ⟨b, o, none⟩) n cap), (7, Pt S.wb 0), (8, .slice (some ⟨M, 0, none⟩) n n), (9, I 0), (10, .slice (some ⟨g, 0, none⟩) S.n ct), (11, .slice (some ⟨wg, 0, none⟩) T.length wc), (12, .slice (some ⟨nb, 0, none⟩) n n), (13, I (sumK T j)), (14, I (j : Int)), (15, I (-1)), (16, I (i : Int)), (17, Pt w2.heap.size 0)] a5 := hA5'
        have O5 := hF.at_ hW5
        have hth : q.th = (tk.th : Int) := by rw [← hq1]
        refine wp_seq (wp_then (n19_wp (th := (tk.th : Int)) hj (by rw [c0 w5 e53, hth]) (by rw [c2 w5 e53, ← hq1]) (by rw [c3 w5 e53, ← hq1]) (by rw [World.cell?_of_block (w := v2) (O5 _ (World.block_lt_of_cell? _ _ hwg))]; exact hwg) hA5g) ?_)
        rintro a6 w6 ⟨hA6, e6, o6, u6⟩
        have hW6 := hW5.same e6 o6 u6
        refine wp_cond_false (hA6.at 87 (.bool false) (by simp)) (wp_skip ?_)
        have hA6' : Fl 228 [(1, .slice (some ⟨b, o, none⟩) n cap), (7, Pt S.wb 0), (8, .slice (some ⟨M, 0, none⟩) n n), (9, I 0), (10, .slice (some ⟨g, 0, none⟩) S.n ct), (11, .slice (some ⟨wg, 0, none⟩) T.length wc), (12, .slice (some ⟨nb, 0, none⟩) n n), (13, I (sumK T j)), (14, I (j : Int)), (15, I (-1)), (16, I (i : Int)), (17, Pt w2.heap.size 0)] a6 := hA6.sub (by simp)
        refine wp_then (n21_wp (th := (tk.th : Int)) (by rw [c0 w6 (e6.trans e53), hth]) hA6') ?_
        rintro a7 w7 ⟨hA7, e7, o7, u7⟩
        have hW7 := hW6.same e7 o7 u7
        refine wp_exit (then_exit (inBlock_exit ?_))
        exact fin a7 w7 j (tk.th : Int) (.inr ⟨tk, htk, rfl, by omega⟩) (hA7.sub (by simp)) hW7
      · -- its second
        subst hop
        refine wp_cond_false (by rw [hA5.at 63 (.bool (decide ((tk.th : Int) < 0))) (by simp), decide_eq_false (by omega)]) (wp_skip ?_)
        have hj : j < T.length := (List.getElem?_eq_some_iff.1 htk).1
        have hp1 := (pairs_get htk T.length hj (Nat.le_refl _)).2
        rw [hlen2, hp1] at hat
        have hq1 := Option.some.inj hat
        obtain ⟨t1, t2, ⟨c, hc, hca⟩, t4⟩ := hE.tick j tk htk
        obtain ⟨hl1, hl2⟩ := hlen tk.th t1
        rw [hl1] at t2
        have hth : q.th = (tk.th : Int) := by rw [← hq1]
        refine wp_seq (wp_then (n22_wp t1 (by rw [c0 w5 e53, hth]) (by rw [c2 w5 e53, ← hq1]) hA5') ?_)
        rintro a6 w6 ⟨hA6, e6, o6, u6⟩
        have hW6 := hW5.same e6 o6 u6
        refine wp_cond_false (hA6.at 105 (.bool false) (by simp)) (wp_skip ?_)
        have hA6' : Fl 228 [(1, .slice (some ⟨b, o, none⟩) n cap), (7, Pt S.wb 0), (8, .slice (some ⟨M, 0, none⟩) n n), (9, I 0), (10, .slice (some ⟨g, 0, none⟩) S.n ct), (11, .slice wq T.length wc), (12, .slice (some ⟨nb, 0, none⟩) n n), (13, I (sumK T j)), (14, I (j : Int)), (15, I (tk.th : Int)), (16, I (i : Int)), (17, Pt w2.heap.size 0)] a6 := hA6.sub (by simp)
        refine wp_then (n24_wp t1 (hW6.cell t1) hA6') ?_
        rintro a7 w7 ⟨hA7, e7, o7, u7⟩
        have hW7 := hW6.same e7 o7 u7
        refine wp_seq ?_
        refine inner7 hlen hE hSn hs4 hp hF htk hA7 hW7 ?_
        intro a8 w8 hA8 e8 o8 u8
        have hW8 := hW7.same e8 o8 u8
        have e83 : w8.heap = w3.heap := e8.trans (e7.trans (e6.trans e53))
        have R8 := hF.rk.go (hF.at_ hW8)
        have d1 : w8.cell? ⟨b, o + tk.th, none⟩ = some (.slice (some ⟨rb tk.th, ro tk.th, none⟩) (ln tk.th) (cp tk.th)) := by have := R8.sr _ t1; rw [R8.pq _ t1 (by omega)] at this; exact this
        obtain ⟨_, d2⟩ := R8.an _ t1 _ _ t4
        have hne : q.ne = wrap64 (sumK T j + c.ca) := by rw [← hq1, hca, ← sumK_succ htk]
        show Code.wp Try.prog _ _ a8 w8
        refine wp_seq (wp_then (n27_wp t1 t2 d1 (R8.ar _ t1) d2 (R8.sa _ t1 _ _ hc).2 (by rw [c4 w8 e83, hne]) hA8) ?_)
        rintro a9 w9 ⟨hA9, e9, o9, u9⟩
        have hW9 := hW8.same e9 o9 u9
        refine wp_cond_false (hA9.at 201 (.bool false) (by simp)) (wp_skip ?_)
        have hA9' : Fl 228 [(1, .slice (some ⟨b, o, none⟩) n cap), (7, Pt S.wb 0), (8, .slice (some ⟨M, 0, none⟩) n n), (9, I 0), (10, .slice (some ⟨g, 0, none⟩) S.n ct), (11, .slice wq T.length wc), (12, .slice (some ⟨nb, 0, none⟩) n n), (13, I (sumK T j)), (14, I (j : Int)), (15, I (tk.th : Int)), (16, I (i : Int)), (17, Pt w2.heap.size 0), (18, I (tk.k : Int))] a9 := hA9.sub (by simp)
        refine wp_then (n29_wp t1 (hW9.cell t1) hW9.frozen (by unfold wrap64; omega) hA9') ?_
        rintro a10 w10 ⟨hA10, e10, o10, u10⟩
        have hW10 : NxG v3 nb n (nxt T (j + 1)) w10 := by
          rw [nxt_succ htk]
          exact hW9.set e10 o10 u10
        have c4' : w10.cell? ⟨w2.heap.size, 4, none⟩ = some (I q.ne) := by
          refine cell_of (v := w10) (c := #[I q.th, I q.ce, I q.op, I q.ol, I q.ne]) (t := 34) (f := (0, 0)) ?_ rfl
          rw [e10, Below.heap_setCell _ _ _ _ (by show w2.heap.size ≠ nb; omega), e9, e83]
          exact hb
        refine wp_then (n30_wp c4' hA10) ?_
        rintro a11 w11 ⟨hA11, e11, o11, u11⟩
        have hns : q.ne = sumK T (j + 1) := by rw [← hq1]
        rw [hns] at hA11
        refine wp_then (n31_wp (by unfold wrap64; omega) hA11) ?_
        rintro a12 w12 ⟨hA12, e12, o12, u12⟩
        refine wp_last (n32_wp hA12) ?_
        rintro a13 w13 ⟨hA13, e13, o13, u13⟩
        exact fin a13 w13 (j + 1) (-1) (.inl ⟨rfl, by omega⟩) hA13 (((hW10.same e11 o11 u11).same e12 o12 u12).same e13 o13 u13)
    · refine wp_cond_true (by rw [hA4.at 61 (.bool (q.ce != 2)) (by simp)]; simp [hce]) (wp_exit (then_exit (inBlock_exit ?_)))
      have hgt := gst_take hq
      rw [if_neg hce] at hgt
      exact fin a4 w4 j op (by rw [hgt]; exact hst) (hA4.sub (by simp)) hW4
  · left
    have hiS : i = S.n := by omega
    subst hiS
    have htk : L.take S.n = L := List.take_of_length_le (by omega)
    rw [htk] at hst
    obtain ⟨rfl, rfl⟩ : op = -1 ∧ j = T.length := by
      rcases hst with ⟨h1, h2⟩ | ⟨tk, h0, h1, h2⟩
      · exact ⟨h1, by omega⟩
      · omega
    exact ⟨by rw [hA2.at 52 (.bool (decide ((S.n : Int) < (S.n : Int)))) (by simp), decide_eq_false (by omega)], hK a2 w2 (hA2.sub (by simp)) hW2⟩
end

set_option maxHeartbeats 2000000 in
/-- Behind Play. -/
theorem tail7 {n M b o cap : Nat} {A ln cp rb ro : Nat → Nat} {pc : Nat → Option Addr} {cl : Nat → List Cl} {l : Nat → Ph} {L : List Stp} {T : List Tk} {S : TS} {v : World} (hn8 : n ≤ 8) (hlen : ∀ j, j < n → (cl j).length = ln j ∧ ln j ≤ 64) (hE : LockEnd n cl l L T) (hS : Rep zn S v) (hstk : S.stk = false) (htr : S.tr = flat L) (hSn : S.n = L.length) (hs4 : S.n ≤ 400000)
    (hR : RK n M b o A ln cp rb ro pc cl l v) {a : Act} (hA : Fl 228 [(1, .slice (some ⟨b, o, none⟩) n cap), (5, .bool true), (6, I 0), (7, Pt S.wb 0), (8, .slice (some ⟨M, 0, none⟩) n n), (9, I 0)] a) :
    T7.wp Try.prog (fun e a' w' => e = .ret ∧ Fl 228 [(4, .bool true)] a' ∧ Grows v w') a v := by
  unfold T7
  refine wp_seq (wp_then (n5_wp hA) ?_)
  rintro a1 w1 ⟨hA1, e1, o1, u1⟩
  refine wp_cond_false (by rw [hA1.at 35 (.bool ((0 : Int) != 0)) (by simp)]; rfl) (wp_skip ?_)
  have hA1' : Fl 228 [(1, .slice (some ⟨b, o, none⟩) n cap), (7, Pt S.wb 0), (8, .slice (some ⟨M, 0, none⟩) n n), (9, I 0)] a1 := hA1.sub (by simp)
  refine wp_then (n7_wp (hS.same e1) (by omega) (by rw [htr]; exact flat_one L) hA1') ?_
  rintro a2 w2 ⟨p, g, ct, hA2, hp, htc, g2⟩
  have g12 : Grows v w2 := grow_trans (grow_same e1 o1 u1) g2
  have hT2 : TrL g L w2 := fun k s hs => by
    have := flat_get L k s hs
    rw [← htr] at this
    exact ⟨htc _ _ this.1, htc _ _ this.2.1, htc _ _ this.2.2.1, htc _ _ this.2.2.2.1, htc _ _ this.2.2.2.2⟩
  refine wp_then (n8_wp hSn.symm hs4 (fun h => (hp h).1) hT2 hA2) ?_
  rintro a3 w3 ⟨r, hA3, ⟨wq, wc, hr⟩, hown, g3⟩
  have hdl : (drw L).length = T.length := by rw [hE.dr, List.length_map]
  rw [hdl] at hr
  subst hr
  refine wp_then (n9_wp hn8 hA3) ?_
  rintro a4 w4 ⟨hA4, e4, o4, u4⟩
  have g34 := grow_push e4 o4 u4
  refine wp_then (n10_wp hA4) ?_
  rintro a5 w5 ⟨hA5, e5, o5, u5⟩
  refine wp_then (n11_wp hA5) ?_
  rintro a5' w5' ⟨hA5', e5', o5', u5'⟩
  refine wp_then (n12_wp hA5') ?_
  rintro a5'' w5'' ⟨hA5'', e5'', o5'', u5''⟩
  refine wp_seq (wp_seq (wp_mono (n13_wp (j := 0) hA5'') ?_))
  rintro e a6 w6 ⟨rfl, hA6, e6, o6, u6⟩
  have g46 : Grows w4 w6 := grow_same (e6.trans (e5''.trans (e5'.trans e5))) (o6.trans (o5''.trans (o5'.trans o5))) (u6.trans (u5''.trans (u5'.trans u5)))
  have e64 : w6.heap = w3.heap.push (.cells (Array.replicate n (I 0)) 3) := by rw [e6, e5'', e5', e5, e4]
  have g13 : Grows v w3 := grow_trans g12 g3
  have hF : Fix7 n M b o g w3.heap.size A ln cp rb ro pc cl l L T wq w3 w6 := by
    refine ⟨hR.go g13.old, hT2.go g3.old, fun i tk htk => ?_, rfl, by rw [e64]; simp, fun q hq => (grow_trans g34 g46).old q hq⟩
    have hd : (drw L)[i]? = some (tk.th : Int) := by rw [hE.dr, List.getElem?_map, htk]; rfl
    obtain ⟨wg, cap', h1, h2, h3, h4⟩ := int_cell hown hd
    rw [hdl] at h1
    cases h1
    exact ⟨wg, rfl, h4 i _ hd⟩
  have hW0 := NxW.start (v := w6) (u := w6) (nb := w3.heap.size) (n := n) rfl (by rw [e64]; exact Array.getElem?_push_size) rfl rfl
  show Code.wp Try.prog (.block 0 (.loop OA)) _ a6 w6
  refine loop7 hlen hE hSn.symm hs4 (fun h => (hp h).1) hF hA6 ⟨Nat.le_refl _, fun _ _ _ => rfl, hW0.row, rfl, rfl⟩ ?_
  intro a7 w7 hA7 hW7
  have g7 : Grows v w7 := by
    have hs6 : w6.heap.size = w3.heap.size + 1 := by rw [e64]; simp
    refine ⟨by have := g13.size; have := hW7.size; omega, fun q hq => ?_, hW7.os.trans (g46.os.trans (o4.trans g13.os)), hW7.out.trans (g46.output.trans (u4.trans g13.output))⟩
    have hq3 : q < w3.heap.size := Nat.lt_of_lt_of_le hq g13.size
    rw [hW7.oth q (by omega) (by omega), e64, Array.getElem?_push, if_neg (by omega)]
    exact g13.old q hq
  show Code.wp Try.prog n33 _ a7 w7
  refine wp_mono (n33_wp (hS.grows g7.size g7.old) hstk hA7) ?_
  rintro e a8 w8 ⟨rfl, hA8, e8, o8, u8⟩
  exact ⟨rfl, hA8, grow_trans g7 (grow_same e8 o8 u8)⟩
theorem tail7_no {v : World} {s1 s7 s8 : Value} {E : Int} (hE : E ≠ 0) {a : Act} (hA : Fl 228 [(1, s1), (5, .bool true), (6, I E), (7, s7), (8, s8), (9, I E)] a) :
    T7.wp Try.prog (fun e a' w' => e = .ret ∧ Fl 228 [(4, .bool true)] a' ∧ Grows v w') a v := by
  unfold T7
  refine wp_seq (wp_then (n5_wp hA) ?_)
  rintro a1 w1 ⟨hA1, e1, o1, u1⟩
  refine wp_cond_true (by rw [hA1.at 35 (.bool (E != 0)) (by simp)]; simp [hE]) ?_
  have hA1' : Fl 228 [(1, s1), (5, .bool true), (6, I E), (7, s7), (8, s8), (9, I E)] a1 := hA1.sub (by simp)
  refine wp_mono (n6_wp hA1') ?_
  rintro e a8 w8 ⟨rfl, hA8, e8, o8, u8⟩
  exact ⟨rfl, hA8, grow_trans (grow_same e1 o1 u1) (grow_same e8 o8 u8)⟩
end Go.Proofs.Ytfjjoohflcchnaa.Gen
