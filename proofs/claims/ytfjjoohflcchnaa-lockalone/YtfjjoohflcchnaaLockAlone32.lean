/- LockAlone: for every schedule and all scripts, what threads are told together under the lock is what one thread would be told that makes the calls in the order of the tickets; no conditions. Part 32 of 34. (Joined, by program, of: LokR, La8b, LokPkg.) -/
import Derived.Test.YtfjjoohflcchnaaLockAlone22
import Derived.Test.YtfjjoohflcchnaaLockAlone28
import Derived.Test.YtfjjoohflcchnaaLockAlone29
import Derived.Test.YtfjjoohflcchnaaLockAlone30
import Derived.Test.YtfjjoohflcchnaaLockAlone31
set_option linter.unusedSimpArgs false
set_option linter.unusedVariables false
namespace Go.Proofs.Ytfjjoohflcchnaa.Gen
open Go Go.Lift Go.Conc Go.RowKit
open Go.ConcN (upd upd_same upd_ne)

theorem grow_cell {v v' : World} (g : Grows v v') {a : Addr} {x : Value} (h : v.cell? a = some x) : v'.cell? a = some x := by
  rw [World.cell?_of_block (w := v) (w' := v') (g.old _ (World.block_lt_of_cell? _ _ h))]; exact h
theorem grow_same {v v' : World} (e : v'.heap = v.heap) (e1 : v'.os = v.os) (e2 : v'.output = v.output) : Grows v v' := ⟨by rw [e]; exact Nat.le_refl _, fun b _ => by rw [e], e1, e2⟩
theorem grow_push {v v' : World} {x : Obj} (e : v'.heap = v.heap.push x) (e1 : v'.os = v.os) (e2 : v'.output = v.output) : Grows v v' := ⟨by rw [e]; simp, fun b hb => by rw [e, Array.getElem?_push, if_neg (by omega)], e1, e2⟩
theorem grow_trans {v v' v2 : World} (a : Grows v v') (b : Grows v' v2) : Grows v v2 := ⟨Nat.le_trans a.size b.size, fun q hq => by rw [b.old q (Nat.lt_of_lt_of_le hq a.size), a.old q hq], b.os.trans a.os, b.output.trans a.output⟩

/-- Where the answers and the scripts lie. -/
structure RK (n M b o : Nat) (A ln cp rb ro : Nat → Nat) (pc : Nat → Option Addr) (cl : Nat → List Cl) (l : Nat → Ph) (v : World) : Prop where
  ar : ∀ k, k < n → v.cell? ⟨M, k, none⟩ = some (.slice (some ⟨A k, 0, none⟩) (ln k) (ln k))
  an : ∀ k, k < n → ∀ (j : Nat) (q : Int × Int), (l k).ans[j]? = some q → v.cell? ⟨A k, j * 2, none⟩ = some (I q.1) ∧ v.cell? ⟨A k, j * 2 + 1, none⟩ = some (I q.2)
  sr : ∀ k, k < n → v.cell? ⟨b, o + k, none⟩ = some (.slice (pc k) (ln k) (cp k))
  pq : ∀ k, k < n → 0 < ln k → pc k = some ⟨rb k, ro k, none⟩
  sa : ∀ k, k < n → ∀ (j : Nat) (c : Cl), (cl k)[j]? = some c → v.cell? ⟨rb k, ro k + j * 4, none⟩ = some (I c.po) ∧ v.cell? ⟨rb k, ro k + j * 4 + 1, none⟩ = some (I c.ca)
theorem RK.go {n M b o : Nat} {A ln cp rb ro : Nat → Nat} {pc : Nat → Option Addr} {cl : Nat → List Cl} {l : Nat → Ph} {v v' : World} (h : RK n M b o A ln cp rb ro pc cl l v) (g : ∀ q, q < v.heap.size → v'.heap[q]? = v.heap[q]?) : RK n M b o A ln cp rb ro pc cl l v' := by
  have hc : ∀ (a : Addr) (x : Value), v.cell? a = some x → v'.cell? a = some x := fun a x ha => by rw [World.cell?_of_block (w := v) (w' := v') (g _ (World.block_lt_of_cell? _ _ ha))]; exact ha
  exact ⟨fun k hk => hc _ _ (h.ar k hk), fun k hk j q hq => ⟨hc _ _ (h.an k hk j q hq).1, hc _ _ (h.an k hk j q hq).2⟩, fun k hk => hc _ _ (h.sr k hk), h.pq, fun k hk j c hj => ⟨hc _ _ (h.sa k hk j c hj).1, hc _ _ (h.sa k hk j c hj).2⟩⟩
theorem TrL.go {g : Nat} {L : List Stp} {v v' : World} (h : TrL g L v) (q : ∀ b, b < v.heap.size → v'.heap[b]? = v.heap[b]?) : TrL g L v' := fun k s hs => by
  have hc : ∀ (a : Addr) (x : Value), v.cell? a = some x → v'.cell? a = some x := fun a x ha => by rw [World.cell?_of_block (w := v) (w' := v') (q _ (World.block_lt_of_cell? _ _ ha))]; exact ha
  obtain ⟨h1, h2, h3, h4, h5⟩ := h k s hs
  exact ⟨hc _ _ h1, hc _ _ h2, hc _ _ h3, hc _ _ h4, hc _ _ h5⟩
theorem int_cell {w : World} {base : Nat} {v : Value} {l : List Int} (h : w.ownsRow base 3 1 v l.length (l.map I)) {k : Nat} {x : Int} (hx : l[k]? = some x) : ∃ g cap, v = .slice (some ⟨g, 0, none⟩) l.length cap ∧ base ≤ g ∧ g < w.heap.size ∧ ∀ (k : Nat) (x : Int), l[k]? = some x → w.cell? ⟨g, k, none⟩ = some (I x) := by
  have hc : k < l.length := (List.getElem?_eq_some_iff.1 hx).1
  rcases h.2 with ⟨rfl, h0⟩ | ⟨g, cap, cur, rfl, hb, hh, hle, _, hsz, htake⟩
  · omega
  · refine ⟨g, cap, rfl, hb, (Array.getElem?_eq_some_iff.1 hh).1, fun k x hx => ?_⟩
    have hc : k < l.length := (List.getElem?_eq_some_iff.1 hx).1
    have e : (l.map I)[k]? = some (I x) := by simp [hx]
    rw [← htake, Nat.mul_one, List.getElem?_take_of_lt hc] at e
    simp only [World.cell?, hh, Option.isSome_none, Bool.false_eq_true, if_false]
    simpa using e

/-- A row of numbers, one a thread. -/
def NR (n : Nat) (f : Nat → Nat) : Obj := .cells ((List.range n).map fun t => I (f t : Int)).toArray 3 (0, 0)
structure NxW (v : World) (nb n : Nat) (f : Nat → Nat) (u : World) : Prop where
  oth : ∀ q, q ≠ nb → u.heap[q]? = v.heap[q]?
  row : u.heap[nb]? = some (NR n f)
  os : u.os = v.os
  out : u.output = v.output
section
variable {v u u' : World} {nb n t : Nat} {f : Nat → Nat}
theorem NxW.cell (h : NxW v nb n f u) (ht : t < n) : u.cell? ⟨nb, t, none⟩ = some (I (f t : Int)) := cell_of h.row (by simp [ht])
theorem NxW.frozen (h : NxW v nb n f u) : u.frozen? ⟨nb, t, none⟩ = false := by
  have := h.row
  unfold NR at this
  simp [World.frozen?, this]
theorem NxW.same (h : NxW v nb n f u) (e : u'.heap = u.heap) (e1 : u'.os = u.os) (e2 : u'.output = u.output) : NxW v nb n f u' := ⟨fun q hq => by rw [e]; exact h.oth q hq, by rw [e]; exact h.row, e1.trans h.os, e2.trans h.out⟩
theorem NxW.set (h : NxW v nb n f u) {x : Nat} (e : u'.heap = (u.setCell ⟨nb, t, none⟩ (I (x : Int))).heap) (e1 : u'.os = u.os) (e2 : u'.output = u.output) : NxW v nb n (upd f t x) u' := by
  refine ⟨fun q hq => by rw [e, Below.heap_setCell _ _ _ _ hq]; exact h.oth q hq, ?_, e1.trans h.os, e2.trans h.out⟩
  have hr := h.row
  unfold NR at hr
  rw [e, heap_setCell_same hr]
  unfold NR
  congr 2
  apply Array.ext_getElem?
  intro i
  rw [Array.getElem?_setIfInBounds]
  simp only [List.size_toArray, List.length_map, List.length_range, List.getElem?_toArray, List.getElem?_map]
  by_cases hi : i < n
  · rw [List.getElem?_range hi]
    by_cases e : t = i
    · subst e
      simp [hi, upd_same]
    · have : upd f t x i = f i := upd_ne _ _ (fun h => e h.symm)
      simp [e, this]
  · have e3 : (List.range n)[i]? = none := List.getElem?_eq_none (by simp; omega)
    rw [e3]
    by_cases e : t = i
    · subst e; simp [hi]
    · simp [e]
theorem NxW.start (e : u.heap = v.heap) (hr : v.heap[nb]? = some (.cells (Array.replicate n (I 0)) 3)) (e1 : u.os = v.os) (e2 : u.output = v.output) : NxW v nb n (fun _ => 0) u := by
  refine ⟨fun q _ => by rw [e], ?_, e1, e2⟩
  rw [e, hr]
  unfold NR
  congr 2
  apply Array.ext_getElem?
  intro i
  simp only [List.getElem?_toArray, List.getElem?_map, Array.getElem?_replicate]
  by_cases hi : i < n
  · rw [if_pos hi, List.getElem?_range hi]; rfl
  · rw [if_neg hi, List.getElem?_eq_none (by simp; omega)]; rfl
end

/-- Which call of a thread comes next, behind so many tickets. -/
def nxt (T : List Tk) : Nat → Nat → Nat
  | 0, _ => 0
  | i + 1, t => match T[i]? with
    | some u => if u.th = t then u.k + 1 else nxt T i t
    | none => nxt T i t
theorem nxt_succ {T : List Tk} {i : Nat} {u : Tk} (h : T[i]? = some u) : nxt T (i + 1) = upd (nxt T i) u.th (u.k + 1) := by
  funext t
  simp only [nxt, h]
  by_cases e : u.th = t
  · rw [if_pos e, ← e, upd_same]
  · rw [if_neg e, upd_ne _ _ (fun h => e h.symm)]
theorem nxt_of {T : List Tk} {t : Nat} : ∀ {i : Nat}, nxt T i t = 0 ∨ ∃ m u, m < i ∧ T[m]? = some u ∧ u.th = t ∧ nxt T i t = u.k + 1
  | 0 => .inl rfl
  | i + 1 => by
    have ih := nxt_of (T := T) (t := t) (i := i)
    simp only [nxt]
    cases h : T[i]? with
    | none =>
      rcases ih with h1 | ⟨m, u, h1, h2⟩
      · exact .inl h1
      · exact .inr ⟨m, u, by omega, h2⟩
    | some u =>
      simp only
      by_cases e : u.th = t
      · rw [if_pos e]; exact .inr ⟨i, u, by omega, h, e, rfl⟩
      · rw [if_neg e]
        rcases ih with h1 | ⟨m, u, h1, h2⟩
        · exact .inl h1
        · exact .inr ⟨m, u, by omega, h2⟩
section
variable {T : List Tk} (ord : ∀ (a b : Nat) (t u : Tk), a < b → T[a]? = some t → T[b]? = some u → t.th = u.th → t.k < u.k)
include ord
theorem nxt_ge : ∀ {i m : Nat} {u : Tk}, m < i → T[m]? = some u → u.k + 1 ≤ nxt T i u.th
  | i + 1, m, u, hm, hu => by
    simp only [nxt]
    cases h : T[i]? with
    | none =>
      have : m < T.length := (List.getElem?_eq_some_iff.1 hu).1
      have h2 := List.getElem?_eq_none_iff.1 h
      by_cases e : m = i
      · omega
      · exact nxt_ge (by omega) hu
    | some w =>
      simp only
      by_cases e : m = i
      · subst e
        rw [hu] at h
        cases h
        rw [if_pos rfl]
        exact Nat.le_refl _
      · by_cases e2 : w.th = u.th
        · rw [if_pos e2]
          have := ord m i u w (by omega) hu h e2.symm
          omega
        · rw [if_neg e2]
          exact nxt_ge (by omega) hu
theorem nxt_le {i : Nat} {u : Tk} (hu : T[i]? = some u) : nxt T i u.th ≤ u.k := by
  rcases nxt_of (T := T) (t := u.th) (i := i) with h | ⟨m, w, h1, h2, h3, h4⟩
  · omega
  · have := ord m i w u h1 h2 hu h3
    omega
theorem nxt_no {i k : Nat} {u : Tk} (hu : T[i]? = some u) (h1 : nxt T i u.th ≤ k) (h2 : k < u.k) : tkd T T.length u.th k = false := by
  cases h : tkd T T.length u.th k with
  | false => rfl
  | true =>
    exfalso
    obtain ⟨m, w, hm, hw, e1, e2⟩ := tkd_iff.1 h
    rcases Nat.lt_trichotomy m i with h3 | h3 | h3
    · have := nxt_ge ord h3 hw
      rw [e1] at this
      omega
    · subst h3
      rw [hw] at hu
      cases hu
      omega
    · have := ord i m u w h3 hu hw e1.symm
      omega
end
theorem tkd_at {T : List Tk} {i : Nat} {u : Tk} (hu : T[i]? = some u) : tkd T T.length u.th u.k = true := tkd_iff.2 ⟨i, u, (List.getElem?_eq_some_iff.1 hu).1, hu, rfl, rfl⟩
end Go.Proofs.Ytfjjoohflcchnaa.Gen

namespace Go.Proofs.Ytfjjoohflcchnaa.Gen
open Go Go.Lift Go.Conc Go.RowKit

open Go.ConcN (upd upd_same upd_ne)
/-- What stays through the loop. -/
structure Fix8 (n M b o g nb : Nat) (A ln cp rb ro : Nat → Nat) (pc : Nat → Option Addr) (cl : Nat → List Cl) (l : Nat → Ph) (L : List Stp) (T : List Tk) (wq : Option Addr) (v2 v3 : World) : Prop where
  rk : RK n M b o A ln cp rb ro pc cl l v2
  tr : TrL g L v2
  who : ∀ (i : Nat) (tk : Tk), T[i]? = some tk → ∃ wg, wq = some ⟨wg, 0, none⟩ ∧ v2.cell? ⟨wg, i, none⟩ = some (I (tk.th : Int))
  nb : nb = v2.heap.size
  old : ∀ q, q < v2.heap.size → v3.heap[q]? = v2.heap[q]?
theorem Fix8.at_ {n M b o g nb : Nat} {A ln cp rb ro : Nat → Nat} {pc : Nat → Option Addr} {cl : Nat → List Cl} {l : Nat → Ph} {L : List Stp} {T : List Tk} {wq : Option Addr} {v2 v3 u : World} {f : Nat → Nat} (h : Fix8 n M b o g nb A ln cp rb ro pc cl l L T wq v2 v3) (hx : NxW v3 nb n f u) : ∀ q, q < v2.heap.size → u.heap[q]? = v2.heap[q]? := fun q hq => by
  rw [hx.oth q (by have := h.nb; omega), h.old q hq]

set_option maxHeartbeats 4000000 in
theorem loop8 {n M b o cap ct wc nb g : Nat} {p wq : Option Addr} {A ln cp rb ro : Nat → Nat} {pc : Nat → Option Addr} {cl : Nat → List Cl} {l : Nat → Ph} {L : List Stp} {T : List Tk} {S : TS} {v2 v3 : World} (hn8 : n ≤ 8) (hlen : ∀ j, j < n → (cl j).length = ln j ∧ ln j ≤ 64) (hE : LockEnd n cl l L T) (hSn : L.length = S.n) (hs4 : S.n ≤ 400000) (hp : 0 < S.n → p = some ⟨g, 0, none⟩) (hF : Fix8 n M b o g nb A ln cp rb ro pc cl l L T wq v2 v3)
    {Q : Exit → Act → World → Prop} {a : Act} (hA : Fl 154 [(1, .slice (some ⟨b, o, none⟩) n cap), (8, .slice (some ⟨M, 0, none⟩) n n), (10, .slice p S.n ct), (11, .slice wq T.length wc), (12, .slice (some ⟨nb, 0, none⟩) n n), (13, I (sumK T 0)), (14, I ((0 : Nat) : Int))] a) (hW : NxW v3 nb n (nxt T 0) v3)
    (hK : ∀ a' w', Fl 154 [(1, .slice (some ⟨b, o, none⟩) n cap), (8, .slice (some ⟨M, 0, none⟩) n n), (10, .slice p S.n ct), (11, .slice wq T.length wc), (12, .slice (some ⟨nb, 0, none⟩) n n), (13, I (sumK T T.length))] a' → NxW v3 nb n (nxt T T.length) w' → Q .normal a' w') :
    (Code.block 0 (.loop MA)).wp Try.prog Q a v3 := by
  rw [eMA]
  refine wp_while (fun m a w => ∃ i, i + m = T.length ∧ Fl 154 [(1, .slice (some ⟨b, o, none⟩) n cap), (8, .slice (some ⟨M, 0, none⟩) n n), (10, .slice p S.n ct), (11, .slice wq T.length wc), (12, .slice (some ⟨nb, 0, none⟩) n n), (13, I (sumK T i)), (14, I (i : Int))] a ∧ NxW v3 nb n (nxt T i) w) T.length ⟨0, by omega, hA, hW⟩ ?_
  rintro m a1 w1 ⟨i, him, hA1, hW1⟩
  refine ⟨_, m14_wp hA1, ?_⟩
  rintro a2 w2 ⟨hA2, e2, o2, u2⟩
  have hW2 := hW1.same e2 o2 u2
  have hT4 : T.length ≤ 400000 := by have := hE.small; omega
  by_cases hi : i < T.length
  · right
    refine ⟨by rw [hA2.at 54 (.bool (decide ((i : Int) < (T.length : Int)))) (by simp), decide_eq_true (by omega)], ?_⟩
    have hA2' : Fl 154 [(1, .slice (some ⟨b, o, none⟩) n cap), (8, .slice (some ⟨M, 0, none⟩) n n), (10, .slice p S.n ct), (11, .slice wq T.length wc), (12, .slice (some ⟨nb, 0, none⟩) n n), (13, I (sumK T i)), (14, I (i : Int))] a2 := hA2.sub (by simp)
    obtain ⟨tk, htk⟩ : ∃ tk, T[i]? = some tk := ⟨_, List.getElem?_eq_getElem hi⟩
    obtain ⟨t1, t2, ⟨c, hc, hca⟩, t4⟩ := hE.tick i tk htk
    obtain ⟨hl1, hl2⟩ := hlen tk.th t1
    rw [hl1] at t2
    obtain ⟨wg, rfl, hwg⟩ := hF.who i tk htk
    refine wp_seq (wp_block ?_)
    rw [eMI]
    have O2 := hF.at_ hW2
    refine wp_then (m16_wp (t := tk.th) hi (by rw [World.cell?_of_block (w := v2) (O2 _ (World.block_lt_of_cell? _ _ hwg))]; exact hwg) hA2') ?_
    rintro a3 w3 ⟨hA3, e3, o3, u3⟩
    have hW3 := hW2.same e3 o3 u3
    refine wp_seq (wp_then (m17_wp t1 hA3) ?_)
    rintro a4 w4 ⟨hA4, e4, o4, u4⟩
    have hW4 := hW3.same e4 o4 u4
    refine wp_cond_false (hA4.at 68 (.bool false) (by simp)) (wp_skip ?_)
    have hA4' : Fl 154 [(1, .slice (some ⟨b, o, none⟩) n cap), (8, .slice (some ⟨M, 0, none⟩) n n), (10, .slice p S.n ct), (11, .slice (some ⟨wg, 0, none⟩) T.length wc), (12, .slice (some ⟨nb, 0, none⟩) n n), (13, I (sumK T i)), (14, I (i : Int)), (15, I (tk.th : Int))] a4 := hA4.sub (by simp)
    -- the inner loop
    refine wp_seq ?_
    have hx0 := nxt_le hE.ord htk
    have e0 : nxt T i = upd (nxt T i) tk.th (nxt T i tk.th) := by
      funext q
      by_cases e : q = tk.th
      · subst e; rw [upd_same]
      · rw [upd_ne _ _ e]
    refine wp_while (fun m a w => ∃ x, x + m = tk.k ∧ nxt T i tk.th ≤ x ∧ Fl 154 [(1, .slice (some ⟨b, o, none⟩) n cap), (8, .slice (some ⟨M, 0, none⟩) n n), (10, .slice p S.n ct), (11, .slice (some ⟨wg, 0, none⟩) T.length wc), (12, .slice (some ⟨nb, 0, none⟩) n n), (13, I (sumK T i)), (14, I (i : Int)), (15, I (tk.th : Int))] a ∧ NxW v3 nb n (upd (nxt T i) tk.th x) w) (tk.k - nxt T i tk.th) ⟨nxt T i tk.th, by omega, Nat.le_refl _, hA4', by rw [← e0]; exact hW4⟩ ?_
    · rintro m' a5 w5 ⟨x, hxm, hx1, hA5, hW5⟩
      have hm : mst tk.th x L = if tkd T T.length tk.th x then 2 else 3 := hE.ms tk.th t1 x (by rw [hl1]; omega)
      have R5 := hF.rk.go (hF.at_ hW5)
      have cx : w5.cell? ⟨nb, tk.th, none⟩ = some (I (x : Int)) := by have := hW5.cell t1; rw [upd_same] at this; exact this
      refine ⟨_, m19_wp t1 cx (R5.sr _ t1) (by omega) hSn hs4 hp (hF.tr.go (hF.at_ hW5)) hA5, ?_⟩
      rintro a6 w6 ⟨hA6, e6, o6, u6⟩
      have hW6 := hW5.same e6 o6 u6
      by_cases hxk : x = tk.k
      · left
        subst hxk
        rw [tkd_at htk, if_pos rfl] at hm
        refine ⟨by rw [hA6.at 88 (.bool (!(mst tk.th tk.k L == 2))) (by simp), hm]; rfl, ?_⟩
        show Code.wp Try.prog _ _ _ _
        have hA6' : Fl 154 [(1, .slice (some ⟨b, o, none⟩) n cap), (8, .slice (some ⟨M, 0, none⟩) n n), (10, .slice p S.n ct), (11, .slice (some ⟨wg, 0, none⟩) T.length wc), (12, .slice (some ⟨nb, 0, none⟩) n n), (13, I (sumK T i)), (14, I (i : Int)), (15, I (tk.th : Int))] a6 := hA6.sub (by simp)
        have cx6 : w6.cell? ⟨nb, tk.th, none⟩ = some (I (tk.k : Int)) := by have := hW6.cell t1; rw [upd_same] at this; exact this
        refine wp_then (m21_wp t1 cx6 hA6') ?_
        rintro a7 w7 ⟨hA7, e7, o7, u7⟩
        have hW7 := hW6.same e7 o7 u7
        have R7 := hF.rk.go (hF.at_ hW7)
        have c1 : w7.cell? ⟨b, o + tk.th, none⟩ = some (.slice (some ⟨rb tk.th, ro tk.th, none⟩) (ln tk.th) (cp tk.th)) := by have := R7.sr _ t1; rw [R7.pq _ t1 (by omega)] at this; exact this
        obtain ⟨d3, d2⟩ := R7.an _ t1 _ _ t4
        refine wp_seq (wp_then (m22_wp t1 t2 c1 (R7.ar _ t1) d2 d3 hA7) ?_)
        rintro a8 w8 ⟨hA8, e8, o8, u8⟩
        have hW8 := hW7.same e8 o8 u8
        refine wp_cond_false (hA8.at 137 (.bool false) (by simp)) (wp_skip ?_)
        have hA8' : Fl 154 [(1, .slice (some ⟨b, o, none⟩) n cap), (8, .slice (some ⟨M, 0, none⟩) n n), (10, .slice p S.n ct), (11, .slice (some ⟨wg, 0, none⟩) T.length wc), (12, .slice (some ⟨nb, 0, none⟩) n n), (13, I (sumK T i)), (14, I (i : Int)), (15, I (tk.th : Int)), (16, I (tk.k : Int))] a8 := hA8.sub (by simp)
        have R8 := hF.rk.go (hF.at_ hW8)
        have c1' : w8.cell? ⟨b, o + tk.th, none⟩ = some (.slice (some ⟨rb tk.th, ro tk.th, none⟩) (ln tk.th) (cp tk.th)) := by have := R8.sr _ t1; rw [R8.pq _ t1 (by omega)] at this; exact this
        refine wp_then (m24_wp t1 t2 c1' (R8.sa _ t1 _ _ hc).2 hA8') ?_
        rintro a9 w9 ⟨hA9, e9, o9, u9⟩
        have hW9 := hW8.same e9 o9 u9
        rw [hca, ← sumK_succ htk] at hA9
        have cx9 : w9.cell? ⟨nb, tk.th, none⟩ = some (I (tk.k : Int)) := by have := hW9.cell t1; rw [upd_same] at this; exact this
        refine wp_last (m25_wp t1 cx9 hW9.frozen (by unfold wrap64; omega) hA9) ?_
        rintro a10 w10 ⟨hA10, e10, o10, u10⟩
        have hW10 : NxW v3 nb n (nxt T (i + 1)) w10 := by
          have := hW9.set (t := tk.th) (x := tk.k + 1) (u' := w10) (by rw [e10]; congr 2) o10 u10
          rw [nxt_succ htk]
          have e2 : upd (upd (nxt T i) tk.th tk.k) tk.th (tk.k + 1) = upd (nxt T i) tk.th (tk.k + 1) := by
            funext q
            by_cases e : q = tk.th
            · subst e; rw [upd_same, upd_same]
            · rw [upd_ne _ _ e, upd_ne _ _ e, upd_ne _ _ e]
          rw [e2] at this
          exact this
        show Code.wp Try.prog m15 _ a10 w10
        refine wp_last (m15_wp (by unfold wrap64; omega) hA10) ?_
        rintro a11 w11 ⟨hA11, e11, o11, u11⟩
        exact ⟨m - 1, by omega, i + 1, by omega, hA11, hW10.same e11 o11 u11⟩
      · right
        rw [nxt_no hE.ord htk hx1 (by omega)] at hm
        refine ⟨by rw [hA6.at 88 (.bool (!(mst tk.th x L == 2))) (by simp), hm]; rfl, ?_⟩
        have hA6' : Fl 154 [(1, .slice (some ⟨b, o, none⟩) n cap), (8, .slice (some ⟨M, 0, none⟩) n n), (10, .slice p S.n ct), (11, .slice (some ⟨wg, 0, none⟩) T.length wc), (12, .slice (some ⟨nb, 0, none⟩) n n), (13, I (sumK T i)), (14, I (i : Int)), (15, I (tk.th : Int))] a6 := hA6.sub (by simp)
        have cx6 : w6.cell? ⟨nb, tk.th, none⟩ = some (I (x : Int)) := by have := hW6.cell t1; rw [upd_same] at this; exact this
        refine wp_block (wp_last (m20_wp t1 cx6 hW6.frozen (by unfold wrap64; omega) hA6') ?_)
        rintro a7 w7 ⟨hA7, e7, o7, u7⟩
        refine ⟨m' - 1, by omega, x + 1, by omega, by omega, hA7, ?_⟩
        have := hW6.set (t := tk.th) (x := x + 1) (u' := w7) (by rw [e7]; congr 2) o7 u7
        have e2 : upd (upd (nxt T i) tk.th x) tk.th (x + 1) = upd (nxt T i) tk.th (x + 1) := by
          funext q
          by_cases e : q = tk.th
          · subst e; rw [upd_same, upd_same]
          · rw [upd_ne _ _ e, upd_ne _ _ e, upd_ne _ _ e]
        rw [e2] at this
        exact this
  · left
    have hiT : i = T.length := by omega
    subst hiT
    exact ⟨by rw [hA2.at 54 (.bool (decide ((T.length : Int) < (T.length : Int)))) (by simp), decide_eq_false (by omega)], hK a2 w2 (hA2.sub (by simp)) hW2⟩

set_option maxHeartbeats 2000000 in
/-- Behind Play. -/
theorem tail8 {n M b o cap : Nat} {A ln cp rb ro : Nat → Nat} {pc : Nat → Option Addr} {cl : Nat → List Cl} {l : Nat → Ph} {L : List Stp} {T : List Tk} {S : TS} {v : World} (hn8 : n ≤ 8) (hlen : ∀ j, j < n → (cl j).length = ln j ∧ ln j ≤ 64) (hE : LockEnd n cl l L T) (hS : Rep zn S v) (htr : S.tr = flat L) (hSn : S.n = L.length) (hs4 : S.n ≤ 400000)
    (hR : RK n M b o A ln cp rb ro pc cl l v) {a : Act} (hA : Fl 154 [(1, .slice (some ⟨b, o, none⟩) n cap), (7, Pt S.wb 0), (8, .slice (some ⟨M, 0, none⟩) n n), (9, I 0)] a) :
    T8.wp Try.prog (fun e a' w' => e = .ret ∧ Fl 154 [(4, .bool true)] a' ∧ Grows v w') a v := by
  unfold T8
  refine wp_seq (wp_then (m7_wp hA) ?_)
  rintro a1 w1 ⟨hA1, e1, o1, u1⟩
  refine wp_cond_false (hA1.at 43 (.bool false) (by simp)) (wp_skip ?_)
  have hA1' : Fl 154 [(1, .slice (some ⟨b, o, none⟩) n cap), (7, Pt S.wb 0), (8, .slice (some ⟨M, 0, none⟩) n n)] a1 := hA1.sub (by simp)
  refine wp_then (m9_wp (hS.same e1) (by omega) (by rw [htr]; exact flat_one L) hA1') ?_
  rintro a2 w2 ⟨p, g, ct, hA2, hp, htc, g2⟩
  have g12 : Grows v w2 := grow_trans (grow_same e1 o1 u1) g2
  have hT2 : TrL g L w2 := fun k s hs => by
    have := flat_get L k s hs
    rw [← htr] at this
    exact ⟨htc _ _ this.1, htc _ _ this.2.1, htc _ _ this.2.2.1, htc _ _ this.2.2.2.1, htc _ _ this.2.2.2.2⟩
  refine wp_then (m10_wp hSn.symm hs4 (fun h => (hp h).1) hT2 hA2) ?_
  rintro a3 w3 ⟨r, hA3, ⟨wq, wc, hr⟩, hown, g3⟩
  have hdl : (drw L).length = T.length := by rw [hE.dr, List.length_map]
  rw [hdl] at hr
  subst hr
  refine wp_then (m11_wp hn8 hA3) ?_
  rintro a4 w4 ⟨hA4, e4, o4, u4⟩
  have g34 := grow_push e4 o4 u4
  refine wp_then (m12_wp hA4) ?_
  rintro a5 w5 ⟨hA5, e5, o5, u5⟩
  refine wp_seq (wp_seq (wp_mono (m13_wp hA5) ?_))
  rintro e a6 w6 ⟨rfl, hA6, e6, o6, u6⟩
  have g46 : Grows w4 w6 := grow_trans (grow_same e5 o5 u5) (grow_same e6 o6 u6)
  have e64 : w6.heap = w3.heap.push (.cells (Array.replicate n (I 0)) 3) := by rw [e6, e5, e4]
  have g13 : Grows v w3 := grow_trans g12 g3
  have hF : Fix8 n M b o g w3.heap.size A ln cp rb ro pc cl l L T wq w3 w6 := by
    refine ⟨hR.go g13.old, hT2.go g3.old, fun i tk htk => ?_, rfl, fun q hq => (grow_trans g34 g46).old q hq⟩
    have hd : (drw L)[i]? = some (tk.th : Int) := by rw [hE.dr, List.getElem?_map, htk]; rfl
    obtain ⟨wg, cap', h1, h2, h3, h4⟩ := int_cell hown hd
    rw [hdl] at h1
    cases h1
    exact ⟨wg, rfl, h4 i _ hd⟩
  show Code.wp Try.prog (.block 0 (.loop MA)) _ a6 w6
  refine loop8 hn8 hlen hE hSn.symm hs4 (fun h => (hp h).1) hF hA6 (NxW.start rfl (by rw [e64]; exact Array.getElem?_push_size) rfl rfl) ?_
  intro a7 w7 hA7 hW7
  show Code.wp Try.prog m26 _ a7 w7
  refine wp_mono (m26_wp hA7) ?_
  rintro e a8 w8 ⟨rfl, hA8, e8, o8, u8⟩
  refine ⟨rfl, hA8, ?_⟩
  have hsz : w7.heap.size = w6.heap.size := by
    have h1 := hW7.row
    have h2 : ∀ q, (w7.heap[q]? = none ↔ w6.heap[q]? = none) := fun q => by
      by_cases e : q = w3.heap.size
      · subst e
        rw [h1, e64, Array.getElem?_push_size]
        exact ⟨fun h => (by cases h), fun h => (by cases h)⟩
      · rw [hW7.oth q e]
    have h3 := (h2 w6.heap.size).2 (by simp)
    have h4 := (h2 w7.heap.size).1 (by simp)
    simp at h3 h4
    omega
  have g7 : Grows v w7 := ⟨by rw [hsz, e64]; have := g13.size; simp; omega, fun q hq => by
    have hq3 : q < w3.heap.size := Nat.lt_of_lt_of_le hq g13.size
    rw [hW7.oth q (by omega), e64, Array.getElem?_push, if_neg (by omega)]
    exact g13.old q hq, hW7.os.trans (g46.os.trans (o4.trans g13.os)), hW7.out.trans (g46.output.trans (u4.trans g13.output))⟩
  exact grow_trans g7 (grow_same e8 o8 u8)
end Go.Proofs.Ytfjjoohflcchnaa.Gen

namespace Go.Proofs.Ytfjjoohflcchnaa.Gen
open Go Go.Lift Go.Conc Go.RowKit

section
variable {X : Fix mcLock} {z : Nat → Option Nat} {cont : Addr → Value} {Ch : Nat → Prop} {Stop : Goroutine → World → Prop} {cu : Value → Goroutine} {S0 : TS} {K0 : List (Nat × Int)} {v0 : World} {Mo0 : Nat → Option Obj} {σ : TS} {κ : List (Nat × Int)} {S : TS} {v w : World} {t : Thr} {H : Nx → (Nat → Option Obj) → Goroutine → Prop} {xl xx lb gb c0 c1 pb ab qb : Nat} {o : Obj} {c61 : Value → Goroutine} {f : Frs} {a : Int}

/-- addTo is entered. -/
theorem lok_add (C : KCall X cu xl xx lb gb c0 c1 pb ab qb o c61 a) (hf : AF (X.h == 0) f c61 ab) (hH : ∀ x Mo' g, Good v0 Mo0 x Mo' → lokSit X x Mo' cu g → H x Mo' g) (hob : Ob X H z cont Ch Stop cu S0 K0 v0 Mo0 σ κ (.turn 1 2 (2, [a]))) (N : Now X z cont Ch S0 K0 v0 Mo0 (tri pb ab qb o) σ κ S v w t) (code : Code) (hc : Try.f94.body = some code) :
    GoesI Try.prog (X.h == 0) (DT (ScZ z) Ch) Stop (G ((base 94).at { tmps := #[Pt lb 0, Pt X.tb 0, Pt gb 0, I a] ++ Array.replicate 18 undef, defers := [] } [.code code]) (f.top :: f.fs)) w := by
  rw [← N.at_.tb]
  exact addTo_in (h := X.h) (i := X.i) (j := 2) a _ _ (H (.turn 1 2 (2, [a])) (tri pb ab qb o)) (fun g u hg => hH _ _ g (N.good (fun _ _ h => by cases h)) ⟨xl, xx, lb, gb, c0, c1, pb, ab, qb, o, c61, f, a, C, rfl, .inr (.inr ⟨hf, .inl ⟨u, rfl, by rw [← N.at_.tb]; exact hg⟩⟩)⟩) N.at_.rel N.at_.noRow N.at_.mem N.at_.thr (N.cell C.mine.k2).1 (by rw [N.at_.tb]; exact N.at_.z) (by rw [N.at_.tb, N.at_.gc]; exact N.at_.cont) (ob_turn hob N) code hc
/-- It has the lock. -/
theorem lok_got (C : KCall X cu xl xx lb gb c0 c1 pb ab qb o c61 a) {cx : Goroutine} (hT : TBack (X.h == 0) qb ab lb gb X.tb cx c61) (hH : ∀ x Mo' g, Good v0 Mo0 x Mo' → lokSit X x Mo' cu g → H x Mo' g) (hob : Ob X H z cont Ch Stop cu S0 K0 v0 Mo0 σ κ (.turn 1 2 (2, [a]))) (N : Now X z cont Ch S0 K0 v0 Mo0 (tri pb ab qb o) σ κ S v w t) :
    GoesI Try.prog (X.h == 0) (DT (ScZ z) Ch) Stop cx w := by
  have hq : v.cell? ⟨qb, 1, none⟩ = some (I a) := by
    obtain ⟨po, n, cc, ho⟩ := C.o
    have := N.mo qb _ (tri_qb C.n1 C.n2)
    rw [ho] at this
    simp [World.cell?, this]
  exact hT z Ch Stop w v a N.at_.rel N.at_.noRow hq (fun w' g r hoe hM code hcode => lok_add (f := g) C ⟨hoe, hM⟩ hH hob (N.same r N.at_.noRow rfl rfl rfl) code hcode)
/-- Lock looks who is called. -/
theorem lok_look (C : KCall X cu xl xx lb gb c0 c1 pb ab qb o c61 a) (hf : KF (X.h == 0) f c61 qb ab lb gb X.tb 4 0) (hH : ∀ x Mo' g, Good v0 Mo0 x Mo' → lokSit X x Mo' cu g → H x Mo' g) (n : Int) (hob : Ob X H z cont Ch Stop cu S0 K0 v0 Mo0 σ κ (.turn 1 1 (1, [a, n]))) (N : Now X z cont Ch S0 K0 v0 Mo0 (tri pb ab qb o) σ κ S v w t) (u : Nat → Value) :
    GoesI Try.prog (X.h == 0) (DT (ScZ z) Ch) Stop (G (kFr lb X.tb n u) (f.top :: f.fs)) w := by
  rw [← N.at_.tb]
  exact lock_loop (h := X.h) (i := X.i) (j := 1) (cb := c1) n _ u _ (H (.turn 1 1 (1, [a, n])) (tri pb ab qb o)) (fun g hg => hH _ _ g (N.good (fun _ _ h => by cases h)) ⟨xl, xx, lb, gb, c0, c1, pb, ab, qb, o, c61, f, a, C, rfl, .inl ⟨hf, .inr (.inl ⟨n, u, rfl, by rw [← N.at_.tb]; exact hg⟩)⟩⟩) (C.mine.mem v N.at_.pk).2.2.2 N.at_.rel N.at_.noRow N.at_.mem N.at_.thr (N.cell C.mine.k1).1 (by rw [N.at_.tb]; exact N.at_.z) (by rw [N.at_.tb, N.at_.gc]; exact N.at_.cont) (ob_turn hob N)
/-- It has seen that x is called. -/
theorem lok_seen (C : KCall X cu xl xx lb gb c0 c1 pb ab qb o c61 a) (hf : KF (X.h == 0) f c61 qb ab lb gb X.tb 4 0) (hH : ∀ x Mo' g, Good v0 Mo0 x Mo' → lokSit X x Mo' cu g → H x Mo' g) (n x : Int) (hob : Ob X H z cont Ch Stop cu S0 K0 v0 Mo0 σ κ (if x = n then .turn 1 2 (2, [a]) else .wait 1 (6, [a, n]))) (N : Now X z cont Ch S0 K0 v0 Mo0 (tri pb ab qb o) σ κ S v w t) (u : Nat → Value) :
    GoesI Try.prog (X.h == 0) (DT (ScZ z) Ch) Stop (G (kSeen lb c1 X.tb n u (I x)) (f.top :: f.fs)) w := by
  by_cases hx : x = n
  · subst hx
    rw [if_pos rfl] at hob
    exact lock_got (bc := f.bd) (ac := f.ad) (ops := f.od) (q := f.qd) (rest := f.rd) (oc := f.oe) (k := f.kd) x u f.fs hf.oe N.at_.rel N.at_.noRow (fun v2 w2 r2 n2 e1 e2 e3 => lok_got C hf.yes hH hob (N.same r2 n2 e1 e2 e3))
  · rw [if_neg hx] at hob
    refine lock_more (j := 1) n x hx _ u _ (C.mine.mem v N.at_.pk).2.2.2 N.at_.rel N.at_.noRow N.at_.mem (N.cell C.mine.k1).1 (fun v' w' bd ad od qd rd oe kd r n' e hoe hfr code hcode => ?_)
    have N' := N.on e r n' N.nv N.at_.thr N.at_.tb N.at_.gc rfl
    cases hs : S.stk with
    | true =>
      have := await_no (i := X.i) (main := X.h == 0) (Ch := Ch) (Stop := Stop) ((1 : Nat) : Int) (f.top :: f.fs) hoe N'.at_.rel N'.at_.noRow N'.at_.mem hs N'.at_.thr (fun v2 w2 r2 n2 e2 => by
        rw [hfr]
        have N2 := N'.on e2 r2 n2 N'.nv N'.at_.thr N'.at_.tb N'.at_.gc rfl
        exact lock_no (bc := f.bd) (ac := f.ad) (ops := f.od) (q := f.qd) (rest := f.rd) (oc := f.oe) (k := f.kd) n _ f.fs hf.oe r2 n2 (fun v3 w3 r3 n3 e1 e2 e3 => lok_ans C 4 0 hf.no hob (.inr ⟨1, (6, [a, n]), rfl, by rw [← N.nv]; exact hs, rfl⟩) (N2.same r3 n3 e1 e2 e3))) code hcode
      rw [N'.at_.tb] at this
      exact this
    | false =>
      have ee : (fun r => G (bd.at (ad.put oe.dst r) (.inRegion od rd :: kd)) (f.top :: f.fs)) = (fun r => G (kWoke lb X.tb n (kVal lb c1 X.tb n x 1 u) r) (f.top :: f.fs)) := funext fun r => by rw [hfr]
      have := await_goes (h := X.h) (cont := cont) (i := X.i) (Stop := Stop) ((1 : Nat) : Int) (f.top :: f.fs) (H (.wait 1 (6, [a, n])) (tri pb ab qb o)) hoe (fun g hg => hH _ _ g (N'.good (fun _ _ h => by cases h)) ⟨xl, xx, lb, gb, c0, c1, pb, ab, qb, o, c61, f, a, C, rfl, .inl ⟨hf, .inr (.inr ⟨n, kVal lb c1 X.tb n x 1 u, rfl, by rw [← ee, ← N'.at_.tb]; exact hg⟩)⟩⟩) N'.at_.rel N'.at_.noRow N'.at_.mem hs N'.at_.thr (by rw [N'.at_.tb]; exact N'.at_.z) (by rw [N'.at_.tb, N'.at_.gc]; exact N'.at_.cont) (ob_wait hob hs N') code hcode
      rw [N'.at_.tb] at this
      exact this
end

set_option maxHeartbeats 1000000 in
noncomputable def pkgLock : Pkg mcLock 66 where
  fn := Try.f66
  code := Try.f66.body.getD .skip
  hf := Try.func66
  hname := by kernel_rfl
  hcode := rfl
  Mine X := ∃ xl xx lb gb c0 c1, KMine X xl xx lb gb c0 c1
  Sit := lokSit
  start := by
    rintro X ok ⟨xl, xx, lb, gb, c0, c1, hm⟩ hfid c hc cs bc ac ops q rest oc k hoc H z cont Ch Stop S K v w t A hH hob
    rw [hm.caps]
    show GoesI Try.prog (X.h == 0) (DT (ScZ z) Ch) Stop (G ((base 66).at { tmps := #[Pt X.tb 0, .agg #[I c.po, I c.ca, I c.cb, I c.cc], Pt xl 0, Pt xx 0] ++ Array.replicate 8 undef, defers := [] } [.code (Try.f66.body.getD .skip)]) (bc.at ac (.inRegion ops (q :: rest) :: k) :: cs)) w
    refine lclo_goes c.po c.ca c.cb c.cc (hm.mem v A.pk).1 (hm.mem v A.pk).2.1 cs hoc A.rel A.noRow (fun v1 w1 bd ad od qd rd oe kd hr hn hg hbox hoe hL code hcode => ?_) _ rfl
    have hlt : v.heap.size + 1 < v1.heap.size := (Array.getElem?_eq_some_iff.1 hbox).1
    -- the call is entered, its own memory made
    have now : ∀ (v2 w2 : World), Rel z v2 w2 → NoRow Ch v2 → Grows v1 v2 → v2.heap[v1.heap.size + 1]? = some box0 → v2.heap[v1.heap.size]? = some (.cells #[I c.po, I c.ca, I c.cb, I c.cc] 39 (0, 0)) →
        Now X z cont Ch S K v (fun _ => none) (tri (v.heap.size + 1) (v1.heap.size + 1) v1.heap.size (.cells #[I c.po, I c.ca, I c.cb, I c.cc] 39 (0, 0))) (Gen.nv S) K S v2 w2 t := fun v2 w2 r2 n2 g2 h1 h2 => by
      have g12 : Grows v v2 := hg.trans' g2
      refine ⟨⟨r2, n2, (A.mem.grows g12).mem, A.thr, A.tb, A.gc, A.kb, A.z, A.cont, fun b o hb => ?_, A.far⟩, Evo.toP (A.mem.grows g12), rfl, rfl, fun b o hb => ?_, fun b hb ho => ?_, fun b hb => ?_, tri_row ⟨_, _, _, rfl⟩⟩
      · have h1 := A.pk b o hb
        rw [g12.old b (Array.getElem?_eq_some_iff.1 h1).1]; exact h1
      · have e := tri_eq (b := b) (by rw [hb]; simp)
        rcases e with e | e | e
        · subst e
          rw [tri_pb] at hb
          cases hb
          rw [g2.old _ hlt]; exact hbox
        · subst e
          rw [tri_ab] at hb
          cases hb
          exact h1
        · subst e
          rw [tri_qb (by omega) (by omega)] at hb
          cases hb
          exact h2
      · have e := tri_eq hb
        have := A.mem.lt ho
        omega
      · have e := tri_eq hb
        exact .inr (by omega)
    have C : KCall X (fun r => G (bc.at (ac.put oc.dst r) (.inRegion ops rest :: k)) cs) xl xx lb gb c0 c1 (v.heap.size + 1) (v1.heap.size + 1) v1.heap.size (.cells #[I c.po, I c.ca, I c.cb, I c.cc] 39 (0, 0)) (fun r => G (bd.at (ad.put oe.dst r) (.inRegion od rd :: kd)) (bc.at ac (.inRegion ops (q :: rest) :: k) :: cs)) c.ca := ⟨hm, hL, by omega, by omega, by omega, _, _, _, rfl⟩
    by_cases h1 : c.po = 1
    · have es : mcLock.start c = .turn 5 0 (0, [c.ca]) := by simp [mcLock, h1]
      rw [es] at hob
      rw [h1] at now C ⊢
      refine lcall_lock c.ca c.cb c.cc _ hoe hr hn (fun v2 w2 f r2 n2 g2 k1 k2 hfo hno hyes code2 hcode2 => ?_) code hcode
      have N := now v2 w2 r2 n2 g2 k1 k2
      have := lock_in (h := X.h) (i := X.i) (j := 0) (cb := c0) (cont := cont) _ (f.top :: f.fs) (H (.turn 5 0 (0, [c.ca])) _) (fun g hg => hH _ _ g (N.good (fun _ _ h => by cases h)) ⟨xl, xx, lb, gb, c0, c1, _, _, _, _, _, f, c.ca, C, rfl, .inl ⟨⟨hfo, hno, hyes⟩, .inl ⟨rfl, by rw [← N.at_.tb]; exact hg⟩⟩⟩) (hm.mem v2 N.at_.pk).2.2.1 N.at_.rel N.at_.noRow N.at_.mem N.at_.thr (N.cell hm.k0).1 (by rw [N.at_.tb]; exact N.at_.z) (by rw [N.at_.tb, N.at_.gc]; exact N.at_.cont) (ob_turn hob N) code2 hcode2
      rw [N.at_.tb] at this
      exact this
    · by_cases h2 : c.po = 2
      · have es : mcLock.start c = .turn 1 1 (5, [c.ca]) := by simp [mcLock, h2]
        rw [es] at hob
        rw [h2] at now C ⊢
        refine lcall_try c.ca c.cb c.cc _ hoe hr hn (fun v2 w2 f r2 n2 g2 k1 k2 hfo hno hyes code2 hcode2 => ?_) code hcode
        have N := now v2 w2 r2 n2 g2 k1 k2
        have := try_in (h := X.h) (i := X.i) (j := 1) (cb := c1) (cont := cont) _ (f.top :: f.fs) (H (.turn 1 1 (5, [c.ca])) _) (fun g hg => hH _ _ g (N.good (fun _ _ h => by cases h)) ⟨xl, xx, lb, gb, c0, c1, _, _, _, _, _, f, c.ca, C, rfl, .inr (.inl ⟨⟨hfo, hno, hyes⟩, .inl ⟨rfl, by rw [← N.at_.tb]; exact hg⟩⟩)⟩) (hm.mem v2 N.at_.pk).2.2.2 N.at_.rel N.at_.noRow N.at_.mem N.at_.thr (N.cell hm.k1).1 (by rw [N.at_.tb]; exact N.at_.z) (by rw [N.at_.tb, N.at_.gc]; exact N.at_.cont) (ob_turn hob N) code2 hcode2
        rw [N.at_.tb] at this
        exact this
      · have es : mcLock.start c = .ans 1 0 := by simp [mcLock, h1, h2]
        rw [es] at hob
        refine lcall_none c.po c.ca c.cb c.cc h1 h2 _ hoe hr hn (fun v2 w2 r2 n2 g2 => ?_) code hcode
        have g12 : Grows v v2 := hg.trans' g2
        have hno : ¬ Own S K (v.heap.size + 1) := fun ho => by have := A.mem.lt ho; omega
        exact hL z Ch Stop w2 v2 S K 1 0 r2 n2 (A.mem.grows g12).mem (by rw [g2.old _ hlt]; exact hbox) hno (fun v3 w3 r3 n3 e3 => hob.ans (1, 0) (.inl rfl) v3 w3 S r3 n3 rfl ((Evo.toP (A.mem.grows g12)).join e3 (fun b hb => .inr (by
          have hb' : b = v.heap.size + 1 := hb
          omega))))
  turn := by
    rintro X ok - hfid op j q Mo cu g ⟨xl, xx, lb, gb, c0, c1, pb, ab, qb, o, c61, f, a, C, rfl, hsit⟩ H z cont Ch Stop y S K v w t A hH hop hce hl hMo hMf hMp hob
    have N0 := Now.here A hMo hMf (tri_row (by obtain ⟨po, n, cc, ho⟩ := C.o; exact ⟨_, _, _, ho⟩))
    have h0 := N0.cell C.mine.k0
    have h1 := N0.cell C.mine.k1
    have h2 := N0.cell C.mine.k2
    have f0 : (cellAt K 0).1 = c0 := by rw [h0.2]
    have f1 : (cellAt K 1).1 = c1 := by rw [h1.2]
    have f2 : (cellAt K 2).1 = gb := by rw [h2.2]
    have sb : ∀ (tv : Value) (b a : Int), (didS S tv X.i t b a).bk = S.bk := fun tv b a => (sta_did (i := X.i) S tv t b a).bk
    rcases hsit with ⟨hf, ⟨hx, hg⟩ | ⟨n, u, hx, hg⟩ | ⟨n, u, hx, hg⟩⟩ | ⟨hf, ⟨hx, hg⟩ | ⟨m, u, hx, hg⟩⟩ | ⟨hf, ⟨u, hx, hg⟩ | ⟨y1, u, hx, hg⟩ | ⟨y1, u, hx, hg⟩⟩
    · cases hx
      refine hg z Ch Stop y w v S K t (cellAt K 0).2 A.rel A.noRow A.mem A.thr A.tb hop hce h0.1 hl (fun v1 w1 tv r1 n1 e1 => ?_)
      have N1 := N0.on e1 r1 n1 (nv_did tv t _ _) (did_thr A.thr) A.tb A.gc (sb _ _ _)
      rw [f0] at hob
      exact lock_ticket _ _ _ (fun u => lok_look C hf hH _ hob N1 u)
    · cases hx
      refine hg z Ch Stop y w v S K t (cellAt K 1).2 A.rel A.noRow A.mem A.thr A.tb hop hce h1.1 hl (fun v1 w1 tv r1 n1 e1 => ?_)
      have N1 := N0.on e1 r1 n1 (nv_did tv t _ _) (did_thr A.thr) A.tb A.gc (sb _ _ _)
      rw [f1] at hob
      exact lok_seen C hf hH n (cellAt K 1).2 hob N1 u
    · cases hx
    · cases hx
      refine hg z Ch Stop y w v S K t (cellAt K 1).2 A.rel A.noRow A.mem A.thr A.tb hop hce h1.1 hl (fun v1 w1 tv r1 n1 e1 => ?_)
      have N1 := N0.on e1 r1 n1 (nv_did tv t _ _) (did_thr A.thr) A.tb A.gc (sb _ _ _)
      rw [f1] at hob
      have := try_draw (h := X.h) (i := X.i) (j := 0) (cb := c0) (nb := c1) (cont := cont) (Stop := Stop) (cellAt K 1).2 _ (fun _ => undef) (f.top :: f.fs) (H (.turn 4 0 (7, [a, (cellAt K 1).2])) (tri pb ab qb o)) (fun g hg => hH _ _ g (N1.good (fun _ _ h => by cases h)) ⟨xl, xx, lb, gb, c0, c1, pb, ab, qb, o, c61, f, a, C, rfl, .inr (.inl ⟨hf, .inr ⟨_, _, rfl, by rw [N1.at_.tb] at hg; exact hg⟩⟩)⟩) (C.mine.mem v1 N1.at_.pk).2.2.1 N1.at_.rel N1.at_.noRow N1.at_.mem N1.at_.thr (N1.cell C.mine.k0).1 (by rw [N1.at_.tb]; exact N1.at_.z) (by rw [N1.at_.tb, N1.at_.gc]; exact N1.at_.cont) (ob_turn hob N1)
      rw [N1.at_.tb] at this
      exact this
    · cases hx
      refine hg z Ch Stop y w v S K t (cellAt K 0).2 A.rel A.noRow A.mem A.thr A.tb hop hce h0.1 hl (fun v1 w1 tv r1 n1 e1 => ?_)
      have N1 := N0.on e1 r1 n1 (nv_did tv t _ _) (did_thr A.thr) A.tb A.gc (sb _ _ _)
      rw [f0] at hob
      have hob : Ob X H z cont Ch Stop cu S K v (tri pb ab qb o) (didS (Gen.nv S) undef X.i t (effCas m (wrap64 (m + 1)) (cellAt K 0).2).1.1 (effCas m (wrap64 (m + 1)) (cellAt K 0).2).1.2) (K.set 0 (c0, (effCas m (wrap64 (m + 1)) (cellAt K 0).2).2.1)) (if (cellAt K 0).2 = m then .turn 1 2 (2, [a]) else .ans 0 (-1)) := hob
      by_cases hx : (cellAt K 0).2 = m
      · rw [if_pos hx] at hob
        rw [show (effCas m (wrap64 (m + 1)) (cellAt K 0).2).2.2 = .bool true by unfold effCas; rw [if_pos hx]]
        exact try_done (bc := f.bd) (ac := f.ad) (ops := f.od) (q := f.qd) (rest := f.rd) (oc := f.oe) (k := f.kd) true u f.fs hf.oe r1 n1 (fun w2 r2 => lok_got C hf.yes hH hob (N1.same r2 n1 rfl rfl rfl))
      · rw [if_neg hx] at hob
        rw [show (effCas m (wrap64 (m + 1)) (cellAt K 0).2).2.2 = .bool false by unfold effCas; rw [if_neg hx]]
        exact try_done (bc := f.bd) (ac := f.ad) (ops := f.od) (q := f.qd) (rest := f.rd) (oc := f.oe) (k := f.kd) false u f.fs hf.oe r1 n1 (fun w2 r2 => lok_ans C 0 (-1) hf.no hob (.inl rfl) (N1.same r2 n1 rfl rfl rfl))
    · cases hx
      refine hg z Ch Stop y w v S K t (cellAt K 2).2 A.rel A.noRow A.mem A.thr A.tb hop hce h2.1 hl (fun v1 w1 tv r1 n1 e1 => ?_)
      have N1 := N0.on e1 r1 n1 (nv_did tv t _ _) (did_thr A.thr) A.tb A.gc (sb _ _ _)
      rw [f2] at hob
      have := addTo_put (h := X.h) (i := X.i) (j := 2) (cb := gb) (lb := lb) (cont := cont) (Stop := Stop) a (cellAt K 2).2 _ u (f.top :: f.fs) (H (.turn 2 2 (3, [a, (cellAt K 2).2])) (tri pb ab qb o)) (fun g u hg => hH _ _ g (N1.good (fun _ _ h => by cases h)) ⟨xl, xx, lb, gb, c0, c1, pb, ab, qb, o, c61, f, a, C, rfl, .inr (.inr ⟨hf, .inr (.inl ⟨_, u, rfl, by rw [N1.at_.tb] at hg; exact hg⟩)⟩)⟩) N1.at_.rel N1.at_.noRow N1.at_.mem N1.at_.thr (N1.cell C.mine.k2).1 (by rw [N1.at_.tb]; exact N1.at_.z) (by rw [N1.at_.tb, N1.at_.gc]; exact N1.at_.cont) (ob_turn hob N1)
      rw [N1.at_.tb] at this
      exact this
    · cases hx
      refine hg z Ch Stop y w v S K t (cellAt K 2).2 A.rel A.noRow A.mem A.thr A.tb hop hce h2.1 hl (fun v1 w1 tv r1 n1 e1 => ?_)
      have N1 := N0.on e1 r1 n1 (nv_did tv t _ _) (did_thr A.thr) A.tb A.gc (sb _ _ _)
      rw [f2] at hob
      have := addTo_free (h := X.h) (i := X.i) (j := 1) (cb := c1) (gb := gb) (lb := lb) (cont := cont) (Stop := Stop) a y1 _ u (.tuple #[]) (f.top :: f.fs) (H (.turn 5 1 (4, [y1])) (tri pb ab qb o)) (fun g u hg => hH _ _ g (N1.good (fun _ _ h => by cases h)) ⟨xl, xx, lb, gb, c0, c1, pb, ab, qb, o, c61, f, a, C, rfl, .inr (.inr ⟨hf, .inr (.inr ⟨y1, u, rfl, by rw [N1.at_.tb] at hg; exact hg⟩)⟩)⟩) (C.mine.mem v1 N1.at_.pk).2.2.2 N1.at_.rel N1.at_.noRow N1.at_.mem N1.at_.thr (N1.cell C.mine.k1).1 (by rw [N1.at_.tb]; exact N1.at_.z) (by rw [N1.at_.tb, N1.at_.gc]; exact N1.at_.cont) (ob_turn hob N1)
      rw [N1.at_.tb] at this
      exact this
    · cases hx
      refine hg z Ch Stop y w v S K t (cellAt K 1).2 A.rel A.noRow A.mem A.thr A.tb hop hce h1.1 hl (fun v1 w1 tv r1 n1 e1 => ?_)
      have N1 := N0.on e1 r1 n1 (nv_did tv t _ _) (did_thr A.thr) A.tb A.gc (sb _ _ _)
      rw [f1] at hob
      exact addTo_out (bc := f.bd) (ac := f.ad) (ops := f.od) (q := f.qd) (rest := f.rd) (oc := f.oe) (k := f.kd) a y1 u _ f.fs hf.oe r1 n1 (fun w2 r2 => lok_ans C 0 y1 (hf.back y1) hob (.inl rfl) (N1.same r2 n1 rfl rfl rfl))
  wake := by
    rintro X ok - hfid j q Mo cu g ⟨xl, xx, lb, gb, c0, c1, pb, ab, qb, o, c61, f, a, C, rfl, hsit⟩ H z cont Ch Stop y S K v w t A hH hl hMo hMf hMp hob1 hob2
    have N0 := Now.here A hMo hMf (tri_row (by obtain ⟨po, n, cc, ho⟩ := C.o; exact ⟨_, _, _, ho⟩))
    rcases hsit with ⟨hf, ⟨hx, hg⟩ | ⟨n, u, hx, hg⟩ | ⟨n, u, hx, hg⟩⟩ | ⟨hf, ⟨hx, hg⟩ | ⟨m, u, hx, hg⟩⟩ | ⟨hf, ⟨u, hx, hg⟩ | ⟨y1, u, hx, hg⟩ | ⟨y1, u, hx, hg⟩⟩
    · cases hx
    · cases hx
    · cases hx
      refine hg z Ch Stop y w v S K t A.rel A.noRow A.mem A.thr A.tb hl (fun v1 w1 tv hs r1 n1 e1 => ?_) (fun v1 w1 hs r1 n1 e1 => ?_)
      · have N1 := N0.on e1 r1 n1 rfl A.thr A.tb A.gc rfl
        exact lock_again n u _ (fun u => lok_look C hf hH n (hob2 hs) N1 u)
      · have N1 := N0.on e1 r1 n1 rfl A.thr A.tb A.gc rfl
        exact lock_no (bc := f.bd) (ac := f.ad) (ops := f.od) (q := f.qd) (rest := f.rd) (oc := f.oe) (k := f.kd) n u f.fs hf.oe r1 n1 (fun v2 w2 r2 n2 e1 e2 e3 => lok_ans C 4 0 hf.no (hob1 hs) (.inl rfl) (N1.same r2 n2 e1 e2 e3))
    · cases hx
    · cases hx
    · cases hx
    · cases hx
    · cases hx
end Go.Proofs.Ytfjjoohflcchnaa.Gen
