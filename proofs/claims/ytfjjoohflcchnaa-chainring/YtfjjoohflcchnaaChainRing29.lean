/- ChainRing: of a ring the last who writes down is told, under every schedule. Part 29 of 37. (Joined, by program, of: La3b, La3c, GOpens.) -/
import Derived.Test.YtfjjoohflcchnaaChainRing28
import Derived.Conc.LeavingOf
import Derived.ProofKit
import Derived.OpenShut
import Derived.ChangeOld
import Derived.SizedLaws
import Derived.Lib.SmallJoins
import Derived.Deep.SlicePairs
set_option linter.unusedSimpArgs false
set_option linter.unusedVariables false
namespace Go.Proofs.Ytfjjoohflcchnaa.Gen
open Go Go.Lift Go.Conc Go.RowKit

open Go.ConcN (upd upd_same upd_ne)
/-- A script's cells. -/
def clC (ops : List Cl) : List Value := ops.flatMap fun c => [I c.po, I c.ca, I c.cb, I c.cc]
theorem clC_one (ops : List Cl) (c : Cl) : clC (ops ++ [c]) = clC ops ++ [I c.po, I c.ca, I c.cb, I c.cc] := by
  unfold clC
  rw [List.flatMap_append]
  rfl
theorem clC_get : ∀ (ops : List Cl) (k : Nat) (c : Cl), ops[k]? = some c → (clC ops)[k * 4]? = some (I c.po) ∧ (clC ops)[k * 4 + 1]? = some (I c.ca) ∧ (clC ops)[k * 4 + 2]? = some (I c.cb) ∧ (clC ops)[k * 4 + 3]? = some (I c.cc)
  | b :: l, 0, a, h => by
    obtain rfl : b = a := by simpa using h
    exact ⟨rfl, rfl, rfl, rfl⟩
  | b :: l, k + 1, a, h => by
    have := clC_get l k a (by simpa using h)
    have e : clC (b :: l) = [I b.po, I b.ca, I b.cb, I b.cc] ++ clC l := rfl
    rw [e]
    refine ⟨?_, ?_, ?_, ?_⟩
    · rw [show (k + 1) * 4 = k * 4 + 4 by omega]; simpa using this.1
    · rw [show (k + 1) * 4 + 1 = k * 4 + 1 + 4 by omega]; simpa using this.2.1
    · rw [show (k + 1) * 4 + 2 = k * 4 + 2 + 4 by omega]; simpa using this.2.2.1
    · rw [show (k + 1) * 4 + 3 = k * 4 + 3 + 4 by omega]; simpa using this.2.2.2
/-- The four scripts under way: lists of the call's own, made behind v0. -/
structure Scs (v0 : World) (Sb : Nat) (rows : Nat → Value) (ops : Nat → List Cl) (w : World) : Prop where
  out : w.rowIs Sb 37 4 rows
  lo : v0.heap.size ≤ Sb
  gr : Grows v0 w
  own : ∀ t, t < 4 → w.ownsRow v0.heap.size 39 4 (rows t) (ops t).length (clC (ops t))
  shp : ∀ t, t < 4 → ∃ p c, rows t = .slice p (ops t).length c
  dis : ∀ t t', t < 4 → t' < 4 → t ≠ t' → ∀ g, (rows t).ownBlock = some g → (rows t').ownBlock ≠ some g
  far : ∀ t, t < 4 → (rows t).ownBlock ≠ some Sb
theorem Scs.same {v0 w w' : World} {Sb : Nat} {rows : Nat → Value} {ops : Nat → List Cl} (h : Scs v0 Sb rows ops w) (g : Grows w w') : Scs v0 Sb rows ops w' :=
  ⟨h.out.of_block (g.old _ h.out.lt), h.lo, grow_trans h.gr g, fun t ht => own_stay (fun x hx => g.old x (own_lt (h.own t ht) x hx).2) (h.own t ht), h.shp, h.dis, h.far⟩
theorem Scs.put {v0 w w' : World} {Sb : Nat} {rows : Nat → Value} {ops : Nat → List Cl} (h : Scs v0 Sb rows ops w) {t : Nat} (ht : t < 4) {c : Cl} (k : Put Sb t (rows t) (ops t).length v0.heap.size (clC (ops t)) [I c.po, I c.ca, I c.cb, I c.cc] w w') :
    ∃ rows', Scs v0 Sb rows' (upd ops t (ops t ++ [c])) w' := by
  obtain ⟨g, cap, k1, k2, k3, k4⟩ := k
  have hsz := h.gr.size
  have hSb := h.out.lt
  have hlo := h.lo
  refine ⟨fun j => if j = t then .slice (some ⟨g, 0, none⟩) ((ops t).length + 1) cap else rows j, k1 _ h.out, h.lo, ?_, fun j hj => ?_, fun j hj => ?_, fun j j' hj hj' hne x hx => ?_, fun j hj => ?_⟩
  · refine ⟨Nat.le_trans hsz k4.size, fun b hb => ?_, k4.os.trans h.gr.os, k4.output.trans h.gr.output⟩
    rw [k4.block b (by omega) (fun e => by
      rcases e with e | e
      · omega
      · have := (own_lt (h.own t ht) b e.symm).1; omega)]
    exact h.gr.old b hb
  · by_cases e : j = t
    · subst e
      show w'.ownsRow _ 39 4 (if j = j then _ else _) _ _
      rw [if_pos rfl, upd_same, List.length_append, clC_one]
      exact k2
    · show w'.ownsRow _ 39 4 (if j = t then _ else _) _ _
      rw [if_neg e, upd_ne _ _ e]
      refine own_stay (fun x hx => k4.block x (own_lt (h.own j hj) x hx).2 (fun e' => ?_)) (h.own j hj)
      rcases e' with rfl | e'
      · exact h.far j hj hx
      · exact h.dis j t hj ht e x hx e'.symm
  · by_cases e : j = t
    · subst e
      exact ⟨some ⟨g, 0, none⟩, cap, by show (if j = j then _ else _) = _; rw [if_pos rfl, upd_same, List.length_append]; rfl⟩
    · obtain ⟨p, c', e'⟩ := h.shp j hj
      exact ⟨p, c', by show (if j = t then _ else _) = _; rw [if_neg e, upd_ne _ _ e, e']⟩
  · have new : ∀ j, j < 4 → j ≠ t → (rows j).ownBlock ≠ some g := fun j hj e hq => by
      rcases k3 with q | q
      · exact h.dis j t hj ht e g hq q
      · have := (own_lt (h.own j hj) g hq).2; omega
    by_cases e : j = t
    · subst e
      have hx : (if j = j then Value.slice (some ⟨g, 0, none⟩) ((ops j).length + 1) cap else rows j).ownBlock = some x := hx
      rw [if_pos rfl] at hx
      obtain rfl : g = x := Option.some.inj hx
      show (if j' = j then _ else rows j').ownBlock ≠ _
      rw [if_neg (Ne.symm hne)]
      exact new j' hj' (Ne.symm hne)
    · have hx : (if j = t then Value.slice (some ⟨g, 0, none⟩) ((ops t).length + 1) cap else rows j).ownBlock = some x := hx
      rw [if_neg e] at hx
      show (if j' = t then Value.slice (some ⟨g, 0, none⟩) ((ops t).length + 1) cap else rows j').ownBlock ≠ _
      by_cases e' : j' = t
      · rw [if_pos e']
        intro q
        obtain rfl : g = x := Option.some.inj q
        exact new j hj e hx
      · rw [if_neg e']
        exact h.dis j j' hj hj' hne x hx
  · show (if j = t then Value.slice (some ⟨g, 0, none⟩) ((ops t).length + 1) cap else rows j).ownBlock ≠ _
    by_cases e : j = t
    · rw [if_pos e]
      intro q
      obtain rfl : g = Sb := Option.some.inj q
      rcases k3 with q | q
      · exact h.far t ht q
      · omega
    · rw [if_neg e]; exact h.far j hj
/-- A list of calls that came in. -/
structure InK (W : World) (p : Option Addr) (b o : Nat) (xs : List Cl) : Prop where
  at_ : 0 < xs.length → p = some ⟨b, o, none⟩
  call : ∀ (k : Nat) (c : Cl), xs[k]? = some c → W.cell? ⟨b, o + k * 4, none⟩ = some (I c.po) ∧ W.cell? ⟨b, o + k * 4 + 1, none⟩ = some (I c.ca) ∧ W.cell? ⟨b, o + k * 4 + 2, none⟩ = some (I c.cb) ∧ W.cell? ⟨b, o + k * 4 + 3, none⟩ = some (I c.cc)
  ok : ∀ c ∈ xs, InR c.ca ∧ c.ok
/-- What the scripts hold, once of the ring's calls the first i are in them. -/
structure Ops (R : List Nat) (ops : Nat → List Cl) (i len : Nat) : Prop where
  len : ∀ t, t < 4 → (ops t).length ≤ len
  all : ∀ t, t < 4 → ∀ c ∈ ops t, c.po = 1 ∧ c.cc = 0 ∧ InR c.cb ∧ ((12 ≤ c.ca ∧ c.ca < 20) ∨ ∃ i0, c.ca = (rg R i0 : Int) ∧ c.cb = (rg R (i0 + 1) : Int))
  has : ∀ i0, i0 < i → ∃ t, t < 4 ∧ ∃ c ∈ ops t, c.ca = (rg R i0 : Int)
theorem Ops.put {R : List Nat} {ops : Nat → List Cl} {i i' len : Nat} (h : Ops R ops i len) {t : Nat} (ht : t < 4) {c : Cl} (h1 : c.po = 1 ∧ c.cc = 0 ∧ InR c.cb ∧ ((12 ≤ c.ca ∧ c.ca < 20) ∨ ∃ i0, c.ca = (rg R i0 : Int) ∧ c.cb = (rg R (i0 + 1) : Int))) (h2 : i' = i ∨ (i' = i + 1 ∧ c.ca = (rg R i : Int))) : Ops R (upd ops t (ops t ++ [c])) i' (len + 1) := by
  have mem : ∀ j x, x ∈ ops j → x ∈ upd ops t (ops t ++ [c]) j := fun j x hx => by
    by_cases e : j = t
    · subst e; rw [upd_same]; exact List.mem_append_left _ hx
    · rw [upd_ne _ _ e]; exact hx
  refine ⟨fun j hj => ?_, fun j hj x hx => ?_, fun i0 h0 => ?_⟩
  · by_cases e : j = t
    · subst e; rw [upd_same, List.length_append]; have := h.len j hj; show _ + 1 ≤ _; omega
    · rw [upd_ne _ _ e]; have := h.len j hj; omega
  · by_cases e : j = t
    · subst e
      rw [upd_same, List.mem_append, List.mem_singleton] at hx
      rcases hx with hx | rfl
      · exact h.all j hj x hx
      · exact h1
    · rw [upd_ne _ _ e] at hx; exact h.all j hj x hx
  · by_cases e : i0 < i
    · obtain ⟨t', h3, x, h4, h5⟩ := h.has i0 e
      exact ⟨t', h3, x, mem t' x h4, h5⟩
    · rcases h2 with h2 | ⟨h2, h3⟩
      · omega
      · obtain rfl : i0 = i := by omega
        exact ⟨t, ht, c, by rw [upd_same]; simp, h3⟩
theorem and3 (x : Int) : ∃ m : Nat, m < 4 ∧ bits .and .i64 x 3 = (m : Int) := by
  have h3 : (BitVec.ofInt 64 3).toNat = 3 := by decide
  have h7 : (BitVec.ofInt 64 x &&& BitVec.ofInt 64 3).toNat ≤ 3 := by
    rw [BitVec.toNat_and, h3]
    exact Nat.and_le_right
  refine ⟨(BitVec.ofInt 64 x &&& BitVec.ofInt 64 3).toNat, by omega, ?_⟩
  show IntKind.i64.wrap ((BitVec.ofInt 64 x &&& BitVec.ofInt 64 3).toNat : Int) = _
  generalize (BitVec.ofInt 64 x &&& BitVec.ofInt 64 3).toNat = m at h7
  rw [Go.IntWalk.i64_left]
  unfold wrap64
  omega
section
variable {Q : Exit → Act → World → Prop} {a : Act} {u v v0 : World} {s0 s1 s2 s3 : Value} {lp : Option Addr} {m lc Sb : Nat} {R : List Nat}
set_option maxHeartbeats 1000000 in
/-- The noise. -/
theorem la3_noise {p3 : Option Addr} {b3 o3 c3 : Nat} {ns : List Cl} (hI : InK v0 p3 b3 o3 ns) {rows : Nat → Value} {ops : Nat → List Cl} (hS0 : Scs v0 Sb rows ops u) (hO0 : Ops R ops 0 0) (hA : Fl 254 [(0, s0), (1, s1), (2, s2), (3, .slice p3 ns.length c3), (9, .bool true), (10, .slice lp m lc), (15, .slice (some ⟨Sb, 0, none⟩) 4 4)] a)
    (k : ∀ a' u' rows ops, Fl 254 [(0, s0), (1, s1), (2, s2), (3, .slice p3 ns.length c3), (9, .bool true), (10, .slice lp m lc), (15, .slice (some ⟨Sb, 0, none⟩) 4 4)] a' → Scs v0 Sb rows ops u' → Ops R ops 0 20 → Q .normal a' u') : (Code.seq q3_17 (.block 4 K3_4)).wp Try.prog Q a u := by
  refine wp_then (p3_17 hA) fun a1 w1 h => ?_
  obtain ⟨h1, rfl⟩ := h
  unfold K3_4
  refine wp_while (t := 79) (fun c a x => ∃ i rows ops, i ≤ 20 ∧ c = 20 - i ∧ Fl 254 [(0, s0), (1, s1), (2, s2), (3, .slice p3 ns.length c3), (9, .bool true), (10, .slice lp m lc), (15, .slice (some ⟨Sb, 0, none⟩) 4 4), (16, I (i : Nat))] a ∧ Scs v0 Sb rows ops x ∧ Ops R ops 0 i) _
    ⟨0, _, _, Nat.zero_le _, rfl, h1, hS0, hO0⟩ ?_
  clear h1 hA hS0 hO0
  rintro c a2 x ⟨i, rows, ops, hi, rfl, h2, hS, hO⟩
  have done : ∀ {a' : Act} {w' : World}, Fl 254 [(79, .bool false), (0, s0), (1, s1), (2, s2), (3, .slice p3 ns.length c3), (9, .bool true), (10, .slice lp m lc), (15, .slice (some ⟨Sb, 0, none⟩) 4 4), (16, I (i : Nat))] a' → w' = x → Q .normal a' w' := fun hA' e => by
    subst e
    exact k _ _ rows ops (hA'.sub (by simp)) hS ⟨fun t ht => by have := hO.len t ht; omega, hO.all, hO.has⟩
  by_cases hlt : i < ns.length
  · by_cases hm : i < 20
    · refine ⟨_, p3_18a hlt hm h2, ?_⟩
      rintro a3 w3 ⟨h3, rfl⟩
      refine .inr ⟨h3.hd rfl, ?_⟩
      refine wp_seq (wp_block ?_)
      unfold K3_5
      obtain ⟨c, hc⟩ : ∃ c, ns[i]? = some c := ⟨_, List.getElem?_eq_getElem hlt⟩
      have hp := hI.at_ (by omega)
      subst hp
      obtain ⟨_, d1, d2, _⟩ := hI.call i c hc
      refine wp_then (wp_nrm (p3_20 hlt (hS.gr.cell d1) (hS.gr.cell d2) h3.tl)) fun a4 w4 h => ?_
      obtain ⟨h4, e1, e2, e3⟩ := h
      have hw := which_lt c.ca (show 0 < 8 by omega)
      generalize which c.ca 8 = K at e1 hw
      have hg4 : Grows w3 w4 := ⟨by rw [e1, size_alloc]; omega, fun b hb => by rw [e1]; show (w3.heap.push _)[b]? = _; rw [Array.getElem?_push, if_neg (by omega)], e2, e3⟩
      have hS4 := hS.same hg4
      have hc4 : ∀ (j : Nat) (y : Value), #[I 1, I ((12 + K : Nat) : Int), I c.cb, I 0][j]? = some y → w4.cell? ⟨w3.heap.size, j, none⟩ = some y := fun j y hy => cell_of (b := w3.heap.size) (by rw [e1]; show (w3.heap.push _)[w3.heap.size]? = _; rw [Array.getElem?_push_size]) hy
      have ht : i % 4 < 4 := Nat.mod_lt _ (by omega)
      obtain ⟨tp, tc, hrow⟩ := hS4.shp (i % 4) ht
      have hown := hS4.own (i % 4) ht
      have hcell := hS4.out.cell ht
      have hfar := hS4.far (i % 4) ht
      rw [hrow] at hown hcell hfar
      have hl20 := hO.len (i % 4) ht
      refine wp_last (wp_nrm (p3_21 (lo := v0.heap.size) (by omega) hcell (hS4.out.frozen _) (hc4 0 _ rfl) (hc4 1 _ rfl) (hc4 2 _ rfl) (hc4 3 _ rfl) hown hfar (by omega) hS4.gr.size h4)) fun a5 w5 h => ?_
      obtain ⟨h5, hP⟩ := h
      rw [← hrow] at hP
      obtain ⟨rows', hS5⟩ := hS4.put (c := ⟨1, ((12 + K : Nat) : Int), c.cb, 0⟩) ht hP
      show Code.wp _ _ _ _ _
      refine wp_last (p3_19 (by omega) h5) fun a6 w6 h => ?_
      obtain ⟨h6, rfl⟩ := h
      exact ⟨20 - (i + 1), by omega, i + 1, rows', _, by omega, rfl, h6, hS5, hO.put ht ⟨rfl, rfl, (hI.ok c (List.mem_of_getElem? hc)).2.1, .inl ⟨by show (12 : Int) ≤ ((12 + K : Nat) : Int); omega, by show ((12 + K : Nat) : Int) < 20; omega⟩⟩ (.inl rfl)⟩
    · refine ⟨_, p3_18b hlt hm h2, ?_⟩
      rintro a3 w3 ⟨h3, e⟩
      exact .inl ⟨h3.hf rfl, done h3 e⟩
  · refine ⟨_, p3_18c hlt h2, ?_⟩
    rintro a3 w3 ⟨h3, e⟩
    exact .inl ⟨h3.hf rfl, done h3 e⟩
end
section
variable {Q : Exit → Act → World → Prop} {a : Act} {u v v0 : World} {s0 s1 s2 s3 : Value} {g lc Sb : Nat} {R : List Nat}
set_option maxHeartbeats 1000000 in
/-- The ring's calls. -/
theorem la3_calls {p2 : Option Addr} {b2 o2 c2 : Nat} {se : List Int} (hI : InI v0 p2 b2 o2 se) (hR0 : 0 < R.length) (hR12 : R.length ≤ 12) (hRl : ∀ x ∈ R, x < 12) (hRc : ∀ j x, R[j]? = some x → v0.cell? ⟨g, j, none⟩ = some (I (x : Nat))) {rows : Nat → Value} {ops : Nat → List Cl} (hS0 : Scs v0 Sb rows ops u) (hO0 : Ops R ops 0 20) (hA : Fl 254 [(0, s0), (1, s1), (2, .slice p2 se.length c2), (3, s3), (9, .bool true), (10, .slice (some ⟨g, 0, none⟩) R.length lc), (15, .slice (some ⟨Sb, 0, none⟩) 4 4)] a)
    (k : ∀ a' u' rows ops, Fl 254 [(0, s0), (1, s1), (2, .slice p2 se.length c2), (3, s3), (9, .bool true), (10, .slice (some ⟨g, 0, none⟩) R.length lc), (15, .slice (some ⟨Sb, 0, none⟩) 4 4)] a' → Scs v0 Sb rows ops u' → Ops R ops R.length 32 → Q .normal a' u') : (Code.seq q3_22 (.block 6 K3_6)).wp Try.prog Q a u := by
  refine wp_then (p3_22 hA) fun a1 w1 h => ?_
  obtain ⟨h1, rfl⟩ := h
  unfold K3_6
  have hgv : g < v0.heap.size := World.block_lt_of_cell? _ _ (hRc 0 _ (List.getElem?_eq_getElem hR0))
  refine wp_while (t := 110) (fun c a x => ∃ i rows ops, i ≤ R.length ∧ c = R.length - i ∧ Fl 254 [(0, s0), (1, s1), (2, .slice p2 se.length c2), (3, s3), (9, .bool true), (10, .slice (some ⟨g, 0, none⟩) R.length lc), (15, .slice (some ⟨Sb, 0, none⟩) 4 4), (18, I (i : Nat))] a ∧ Scs v0 Sb rows ops x ∧ Ops R ops i (20 + i)) _
    ⟨0, _, _, Nat.zero_le _, rfl, h1, hS0, hO0⟩ ?_
  clear h1 hA hS0 hO0
  rintro c a2 x ⟨i, rows, ops, hi, rfl, h2, hS, hO⟩
  refine ⟨_, p3_23 h2, ?_⟩
  rintro a3 w3 ⟨h3, rfl⟩
  by_cases hlt : i < R.length
  · refine .inr ⟨h3.hd (by simp [hlt]), ?_⟩
    refine wp_seq (wp_block ?_)
    unfold K3_7
    refine wp_then (p3_25 (by omega) h3.tl) fun a4 w4 h => ?_
    obtain ⟨h4, rfl⟩ := h
    refine wp_seq ?_
    refine wp_then (p3_26 h4) fun a5 w5 h => ?_
    obtain ⟨h5, rfl⟩ := h
    have e1 : R[i]? = some (rg R i) := by
      unfold rg
      rw [Nat.mod_eq_of_lt hlt, List.getD_eq_getElem?_getD, List.getElem?_eq_getElem hlt]; rfl
    have hj : (i + 1) % R.length < R.length := Nat.mod_lt _ hR0
    have e2 : R[(i + 1) % R.length]? = some (rg R (i + 1)) := by
      unfold rg
      rw [List.getD_eq_getElem?_getD, List.getElem?_eq_getElem hj]; rfl
    have hr2 := hRl _ (rg_mem hR0 (i + 1))
    have fin : ∀ {a' : Act} {t : Nat}, t < 4 → Fl 254 [(0, s0), (1, s1), (2, .slice p2 se.length c2), (3, s3), (9, .bool true), (10, .slice (some ⟨g, 0, none⟩) R.length lc), (15, .slice (some ⟨Sb, 0, none⟩) 4 4), (18, I (i : Nat)), (19, I (t : Nat))] a' →
        q3_28.wp Try.prog (fun e a6 w6 => e = .normal ∧ ∃ rows ops, Fl 254 [(0, s0), (1, s1), (2, .slice p2 se.length c2), (3, s3), (9, .bool true), (10, .slice (some ⟨g, 0, none⟩) R.length lc), (15, .slice (some ⟨Sb, 0, none⟩) 4 4), (18, I (i : Nat))] a6 ∧ Scs v0 Sb rows ops w6 ∧ Ops R ops (i + 1) (20 + i + 1)) a' w5 := by
      intro a' t ht hA'
      obtain ⟨tp, tc, hrow⟩ := hS.shp t ht
      have hown := hS.own t ht
      have hcell := hS.out.cell ht
      have hfar := hS.far t ht
      rw [hrow] at hown hcell hfar
      have hng : (Value.slice tp (ops t).length tc).ownBlock ≠ some g := fun e => by have := (own_lt hown g e).1; omega
      have hl := hO.len t ht
      refine wp_last (wp_nrm (p3_28 (lo := v0.heap.size) hlt (by omega) rfl ht hcell (hS.out.frozen _) (hS.gr.cell (hRc _ _ e1)) (hS.gr.cell (hRc _ _ e2)) hown hfar hng (by omega) hS.gr.size hA')) fun a6 w6 h => ?_
      obtain ⟨h6, hP⟩ := h
      rw [← hrow] at hP
      obtain ⟨rows', hS6⟩ := hS.put (c := ⟨1, (rg R i : Int), (rg R (i + 1) : Int), 0⟩) ht hP
      exact ⟨rfl, rows', _, h6, hS6, hO.put ht ⟨rfl, rfl, ⟨by show -9223372036854775808 ≤ (rg R (i + 1) : Int); omega, by show (rg R (i + 1) : Int) < 9223372036854775808; omega⟩, .inr ⟨i, rfl, rfl⟩⟩ (.inr ⟨rfl, rfl⟩)⟩
    by_cases hse : i < se.length
    · refine wp_cond_true (h5.hd (by simp [hse])) ?_
      obtain ⟨y, hy⟩ : ∃ y, se[i]? = some y := ⟨_, List.getElem?_eq_getElem hse⟩
      have hp := hI.at_ (by omega)
      subst hp
      obtain ⟨t, ht, hb⟩ := and3 y
      refine wp_last (p3_27 hse (hS.gr.cell (hI.cell i y hy)) hb h5.tl) fun a6 w6 h => ?_
      obtain ⟨h6, rfl⟩ := h
      show Code.wp _ _ _ _ _
      refine wp_last (fin ht h6) fun a7 w7 h => ?_
      obtain ⟨rows', ops', h7, hS7, hO7⟩ := h
      show Code.wp _ _ _ _ _
      refine wp_last (p3_24 (by omega) h7) fun a8 w8 h => ?_
      obtain ⟨h8, rfl⟩ := h
      exact ⟨R.length - (i + 1), by omega, i + 1, rows', ops', by omega, rfl, h8, hS7, hO7⟩
    · refine wp_cond_false (h5.hf (by simp [hse])) (wp_skip ?_)
      show Code.wp _ _ _ _ _
      refine wp_last (fin (Nat.mod_lt _ (by omega)) h5.tl) fun a7 w7 h => ?_
      obtain ⟨rows', ops', h7, hS7, hO7⟩ := h
      show Code.wp _ _ _ _ _
      refine wp_last (p3_24 (by omega) h7) fun a8 w8 h => ?_
      obtain ⟨h8, rfl⟩ := h
      exact ⟨R.length - (i + 1), by omega, i + 1, rows', ops', by omega, rfl, h8, hS7, hO7⟩
  · refine .inl ⟨h3.hf (by simp [hlt]), ?_⟩
    obtain rfl : i = R.length := by omega
    exact k _ _ rows ops (h3.sub (by simp)) hS ⟨fun t ht => by have := hO.len t ht; omega, hO.all, hO.has⟩
end
end Go.Proofs.Ytfjjoohflcchnaa.Gen

namespace Go.Proofs.Ytfjjoohflcchnaa.Gen
open Go Go.Lift Go.Conc Go.RowKit

open Go.ConcN (upd upd_same upd_ne)
/-- What the last one was told. -/
def lsA (l : Nat → Ph) : Option (Nat × Nat) → Int × Int
  | none => (0, 0)
  | some (i, k) => (l i).ans.getD k (0, 0)
theorem rsH_call (cl : Nat → List Cl) (r : Rh) (s : Stp) {t : Nat} (ht : s.th = t) : (rsH cl r s).call = if s.op = 9 then upd r.call t s.ol.toNat else r.call := by
  unfold rsH
  rw [ht]
  split <;> rfl
theorem rsH_last (cl : Nat → List Cl) (r : Rh) (s : Stp) {t : Nat} (ht : s.th = t) : (rsH cl r s).last = if s.op = 2 ∧ caOf cl t (r.call t) < 12 then some (t, r.call t) else r.last := by
  unfold rsH
  rw [ht]
  split
  · rename_i h
    rw [if_neg (by rw [h]; rintro ⟨h, _⟩; cases h)]
  · rfl
theorem row_at {w : World} {b t n : Nat} {f : Nat → Value} (h : w.rowIs b t n f) {i : Nat} {x : Value} (hi : i < n) (e : f i = x) : w.cell? ⟨b, i, none⟩ = some x := by rw [← e]; exact h.cell hi
section
variable {M wb Z Lb Sb : Nat} {Q : Exit → Act → World → Prop} {a : Act} {u v : World}
set_option maxHeartbeats 1000000 in
/-- The steps. -/
theorem la3_steps {cl : Nat → List Cl} {l : Nat → Ph} {A ln cp rb ro : Nat → Nat} {pc : Nat → Option Addr} {L : List Stp} {p : Option Addr} {g T ct : Nat} (hS0 : SL 4 Sb 0 ln cp rb ro pc cl v) (hL0 : AL 4 M A ln l v) (hk0 : Kq v.heap.size v u) (hT : T = L.length) (hT4 : T ≤ 4000000) (hp : 0 < T → p = some ⟨g, 0, none⟩) (hgZ : 0 < T → g ≠ Z ∧ g ≠ Lb) (hBZ : v.heap.size ≤ Z) (hBL : v.heap.size ≤ Lb) (hZL : Z ≠ Lb) (hst : StsR 4 20 cl rh0 L)
    (hg : ∀ j x, (flat L)[j]? = some x → u.cell? ⟨g, j, none⟩ = some x) (hz : u.rowIs Z 3 4 (fun _ => I 0)) (hlb : u.rowIs Lb 42 2 (fun _ => I 0)) (hA : Fl 254 [(15, .slice (some ⟨Sb, 0, none⟩) 4 4), (20, Pt wb 0), (21, .slice (some ⟨M, 0, none⟩) 4 4), (23, Pt Lb 0), (24, .slice p T ct), (25, .slice (some ⟨Z, 0, none⟩) 4 4)] a)
    (k : ∀ a' u', Fl 254 [(15, .slice (some ⟨Sb, 0, none⟩) 4 4), (20, Pt wb 0), (21, .slice (some ⟨M, 0, none⟩) 4 4), (23, Pt Lb 0), (24, .slice p T ct), (25, .slice (some ⟨Z, 0, none⟩) 4 4)] a' → Kq v.heap.size v u' → u'.rowIs Lb 42 2 (fun j => if j = 0 then I (lsA l (repH cl L).last).1 else I (lsA l (repH cl L).last).2) → Q .normal a' u') : (Code.seq q3_36 (.block 8 K3_8)).wp Try.prog Q a u := by
  refine wp_then (p3_36 hA) fun a1 w1 h => ?_
  obtain ⟨h1, rfl⟩ := h
  unfold K3_8
  refine wp_while (t := 172) (fun c a x => ∃ k, k ≤ T ∧ c = T - k ∧ Fl 254 [(15, .slice (some ⟨Sb, 0, none⟩) 4 4), (20, Pt wb 0), (21, .slice (some ⟨M, 0, none⟩) 4 4), (23, Pt Lb 0), (24, .slice p T ct), (25, .slice (some ⟨Z, 0, none⟩) 4 4), (26, I (k : Nat))] a ∧ (∀ j y, (flat L)[j]? = some y → x.cell? ⟨g, j, none⟩ = some y) ∧ x.rowIs Z 3 4 (fun t => I (((repH cl (L.take k)).call t : Nat) : Int)) ∧ x.rowIs Lb 42 2 (fun j => if j = 0 then I (lsA l (repH cl (L.take k)).last).1 else I (lsA l (repH cl (L.take k)).last).2) ∧ Kq v.heap.size v x) _
    ⟨0, Nat.zero_le _, rfl, h1, hg, hz.congr (fun i _ => rfl), hlb.congr (fun i _ => by split <;> rfl), hk0⟩ ?_
  clear h1 hg hz hlb hA hk0
  rintro c a2 x ⟨j, hj, rfl, h2, hg, hz, hlb, hk⟩
  refine ⟨_, p3_37 h2, ?_⟩
  rintro a3 w3 ⟨h3, rfl⟩
  by_cases hlt : j < T
  · refine .inr ⟨h3.hd (by simp [hlt]), ?_⟩
    refine wp_seq (wp_block ?_)
    unfold K3_9
    have hp' := hp (by omega)
    obtain ⟨hgZ', hgL'⟩ := hgZ (by omega)
    subst hp'
    obtain ⟨s, hs⟩ : ∃ s, L[j]? = some s := ⟨_, List.getElem?_eq_getElem (by omega)⟩
    obtain ⟨f0, f1, f2, f3, f4⟩ := flat_get L j s hs
    obtain ⟨t, ht, htN, hcl, _, hol⟩ := hst.at j s hs
    have hrep : repH cl (L.take (j + 1)) = rsH cl (repH cl (L.take j)) s := by
      rw [List.take_add_one, hs]
      exact repH_one cl (L.take j) s
    have hcl : (repH cl (L.take (j + 1))).call t < (cl t).length := hcl
    have hcall : (repH cl (L.take (j + 1))).call = if s.op = 9 then upd (repH cl (L.take j)).call t s.ol.toNat else (repH cl (L.take j)).call := by rw [hrep]; exact rsH_call cl _ s ht
    have hlast : (repH cl (L.take (j + 1))).last = if s.op = 2 ∧ caOf cl t ((repH cl (L.take j)).call t) < 12 then some (t, (repH cl (L.take j)).call t) else (repH cl (L.take j)).last := by rw [hrep]; exact rsH_last cl _ s ht
    obtain ⟨r', hr'⟩ : ∃ r', r' = repH cl (L.take (j + 1)) := ⟨_, rfl⟩
    rw [← hr'] at hcl hcall hlast
    have f0' := hg _ _ f0
    rw [ht] at f0'
    refine wp_then (p3_39 hlt f0' (hg _ _ f1) (hg _ _ f2) (hg _ _ f3) (hg _ _ f4) h3.tl) fun a4 w4 h => ?_
    obtain ⟨h4, hw4⟩ := h
    have hc4 : ∀ (i : Nat) (y : Value), #[I (t : Nat), I s.ce, I s.op, I s.ol, I s.ne][i]? = some y → w4.cell? ⟨w3.heap.size, i, none⟩ = some y := fun i y hy => by
      rw [hw4]; exact cell_of (v := w3.alloc (.cells #[I (t : Nat), I s.ce, I s.op, I s.ol, I s.ne] 34)) (b := w3.heap.size) (by show (w3.heap.push _)[w3.heap.size]? = _; simp; exact ⟨rfl, rfl⟩) hy
    have hz4 : w4.rowIs Z 3 4 (fun t => I (((repH cl (L.take j)).call t : Nat) : Int)) := hw4 ▸ hz.alloc _
    have hl4 : w4.rowIs Lb 42 2 (fun j_1 => if j_1 = 0 then I (lsA l (repH cl (L.take j)).last).1 else I (lsA l (repH cl (L.take j)).last).2) := hw4 ▸ hlb.alloc _
    have hk4 : Kq w3.heap.size w3 w4 := hw4 ▸ Kq.alloc _ (Nat.le_refl _)
    have hg4 : ∀ j y, (flat L)[j]? = some y → w4.cell? ⟨g, j, none⟩ = some y := fun j y h => kq_all hk4 _ _ (hg j y h)
    have hxZ : w3.heap.size ≠ Z := by have := hz.lt; omega
    have hxL : w3.heap.size ≠ Lb := by have := hlb.lt; omega
    have hB3 : v.heap.size ≤ w3.heap.size := hk.size
    have hkv4 : Kq v.heap.size v w4 := hk.trans (hk4.le hB3)
    clear hw4 hz hlb hg hk
    refine wp_seq ?_
    refine wp_then (p3_40 (hc4 0 _ rfl) htN h4) fun a5 w5 h => ?_
    obtain ⟨h5, rfl⟩ := h
    refine wp_cond_false (h5.hf rfl) (wp_skip ?_)
    show Code.wp _ _ _ _ _
    refine wp_seq ?_
    refine wp_then (p3_42 (hc4 2 _ rfl) h5.tl) fun a6 w6 h => ?_
    obtain ⟨h6, rfl⟩ := h
    -- from where the call's number stands in its place
    have rest : ∀ {Q1 : Exit → Act → World → Prop} {a' : Act} {w' : World}, Fl 254 [(15, .slice (some ⟨Sb, 0, none⟩) 4 4), (20, Pt wb 0), (21, .slice (some ⟨M, 0, none⟩) 4 4), (23, Pt Lb 0), (24, .slice (some ⟨g, 0, none⟩) T ct), (25, .slice (some ⟨Z, 0, none⟩) 4 4), (26, I (j : Nat)), (27, Pt w3.heap.size 0)] a' → (∀ (i : Nat) (y : Value), #[I (t : Nat), I s.ce, I s.op, I s.ol, I s.ne][i]? = some y → w'.cell? ⟨w3.heap.size, i, none⟩ = some y) → w'.rowIs Z 3 4 (fun t => I ((r'.call t : Nat) : Int)) → w'.rowIs Lb 42 2 (fun j_1 => if j_1 = 0 then I (lsA l (repH cl (L.take j)).last).1 else I (lsA l (repH cl (L.take j)).last).2) → (∀ j y, (flat L)[j]? = some y → w'.cell? ⟨g, j, none⟩ = some y) → Kq v.heap.size v w' →
        (∀ a'' w'', Fl 254 [(15, .slice (some ⟨Sb, 0, none⟩) 4 4), (20, Pt wb 0), (21, .slice (some ⟨M, 0, none⟩) 4 4), (23, Pt Lb 0), (24, .slice (some ⟨g, 0, none⟩) T ct), (25, .slice (some ⟨Z, 0, none⟩) 4 4), (26, I (j : Nat))] a'' → (∀ j y, (flat L)[j]? = some y → w''.cell? ⟨g, j, none⟩ = some y) → w''.rowIs Z 3 4 (fun t => I ((r'.call t : Nat) : Int)) → w''.rowIs Lb 42 2 (fun j_1 => if j_1 = 0 then I (lsA l r'.last).1 else I (lsA l r'.last).2) → Kq v.heap.size v w'' → Q1 .normal a'' w'') →
        (Code.seq q3_44 (.seq (.seq q3_45 (.cond (.tmp 227) (.seq q3_46 .ret) .skip)) (.seq q3_47 (.cond (.tmp 242) q3_48 .skip)))).wp Try.prog Q1 a' w' := by
      intro Q1 a' w' hA' hc' hz' hl' hg' hk' hQ1
      refine wp_then (p3_44 (c := r'.call t) (hc' 0 _ rfl) htN (hz'.cell htN) hA') fun a7 w7 h => ?_
      obtain ⟨h7, rfl⟩ := h
      have hS7 := hS0.go hk'
      have hL7 := hL0.go hk'
      have hln : r'.call t < ln t := by rw [← hS0.len t htN]; exact hcl
      have hsr := hS7.sr t htN
      have hpq := hS7.pq t htN (by omega)
      rw [Nat.zero_add] at hsr
      refine wp_seq ?_
      refine wp_then (wp_nrm (p3_45 (hc' 0 _ rfl) htN hsr (hL7.ar t htN) hln h7)) fun a8 w8 h => ?_
      obtain ⟨h8, e1, e2, e3⟩ := h
      refine wp_cond_false (h8.hf rfl) (wp_skip ?_)
      show Code.wp _ _ _ _ _
      have k8 : Kq w7.heap.size w7 w8 := Kq.same e1 e2 e3
      have hc8 : ∀ (i : Nat) (y : Value), #[I (t : Nat), I s.ce, I s.op, I s.ol, I s.ne][i]? = some y → w8.cell? ⟨w3.heap.size, i, none⟩ = some y := fun i y hy => kq_all k8 _ _ (hc' i y hy)
      have hz8 := hz'.of_block (w' := w8) (by rw [e1])
      have hl8 := hl'.of_block (w' := w8) (by rw [e1])
      have hg8 : ∀ j y, (flat L)[j]? = some y → w8.cell? ⟨g, j, none⟩ = some y := fun j y h => kq_all k8 _ _ (hg' j y h)
      have hkv8 : Kq v.heap.size v w8 := hk'.trans (k8.le hk'.size)
      have hS8 := hS0.go hkv8
      have hL8 := hL0.go hkv8
      have hsr8 := hS8.sr t htN
      rw [Nat.zero_add, hpq] at hsr8
      obtain ⟨c, hcc⟩ : ∃ c, (cl t)[r'.call t]? = some c := ⟨_, List.getElem?_eq_getElem hcl⟩
      obtain ⟨q, hqq⟩ : ∃ q, (l t).ans[r'.call t]? = some q := ⟨_, List.getElem?_eq_getElem (by rw [hL0.al t htN]; exact hln)⟩
      by_cases h2 : s.op = 2
      · have hcr : r'.call = (repH cl (L.take j)).call := by rw [hcall, if_neg (by rw [h2]; decide)]
        have hca : caOf cl t ((repH cl (L.take j)).call t) = c.ca := by rw [← hcr]; exact caOf_eq hcc
        have d2 := hc8 2 _ rfl
        rw [h2] at d2
        refine wp_then (p3_47y (ca := c.ca) d2 (hc8 0 _ rfl) htN hsr8 hln (hS8.sa t htN _ c hcc).2.1 h8.tl) fun a9 w9 h => ?_
        obtain ⟨h9, rfl⟩ := h
        by_cases h12 : c.ca < 12
        · refine wp_cond_true (h9.hd (by simp [h12])) ?_
          have an := hL8.an t htN _ q hqq
          refine wp_last (p3_48 (e0 := (lsA l (repH cl (L.take j)).last).1) (y0 := (lsA l (repH cl (L.take j)).last).2) (hc8 0 _ rfl) htN (hL8.ar t htN) hln an.1 an.2 (row_at hl8 (by omega) (by simp)) (row_at hl8 (by omega) (by simp)) (hl8.frozen _) (hl8.frozen _) h9.tl) fun a10 w10 h => ?_
          obtain ⟨h10, hw⟩ := h
          have hls : r'.last = some (t, r'.call t) := by rw [hlast, if_pos ⟨h2, by rw [hca]; exact h12⟩, hcr]
          have hlq : lsA l r'.last = q := by rw [hls]; show (l t).ans.getD _ _ = _; rw [List.getD_eq_getElem?_getD, hqq]; rfl
          refine hQ1 _ _ (h10.sub (by simp)) (fun j y h => ?_) ?_ ?_ ?_
          · rw [hw, World.cell?_of_block (w := w9) ((Below.heap_setCell _ _ _ _ hgL').trans (Below.heap_setCell _ _ _ _ hgL'))]; exact hg8 j y h
          · rw [hw]; exact (hz8.setOther hZL _).setOther hZL _
          · rw [hw, hlq]
            refine ((hl8.set 0 _).set 1 _).congr fun i hi => ?_
            by_cases e : i = 0
            · subst e; simp
            · have : i = 1 := by omega
              subst this; simp
          · rw [hw]; exact hkv8.trans ((Kq.set _ hBL).trans (Kq.set _ hBL))
        · refine wp_cond_false (h9.hf (by simp [h12])) (wp_skip ?_)
          have hls : r'.last = (repH cl (L.take j)).last := by rw [hlast, if_neg (by rw [hca]; exact fun h => h12 h.2)]
          refine hQ1 _ _ (h9.sub (by simp)) hg8 hz8 (by rw [hls]; exact hl8) hkv8
      · refine wp_then (p3_47n (hc8 2 _ rfl) h2 h8.tl) fun a9 w9 h => ?_
        obtain ⟨h9, rfl⟩ := h
        refine wp_cond_false (h9.hf rfl) (wp_skip ?_)
        have hls : r'.last = (repH cl (L.take j)).last := by rw [hlast, if_neg (fun h => h2 h.1)]
        refine hQ1 _ _ (h9.sub (by simp)) hg8 hz8 (by rw [hls]; exact hl8) hkv8
    have last : ∀ {a' : Act} {w' : World}, Fl 254 [(15, .slice (some ⟨Sb, 0, none⟩) 4 4), (20, Pt wb 0), (21, .slice (some ⟨M, 0, none⟩) 4 4), (23, Pt Lb 0), (24, .slice (some ⟨g, 0, none⟩) T ct), (25, .slice (some ⟨Z, 0, none⟩) 4 4), (26, I (j : Nat))] a' → (∀ j y, (flat L)[j]? = some y → w'.cell? ⟨g, j, none⟩ = some y) → w'.rowIs Z 3 4 (fun t => I ((r'.call t : Nat) : Int)) → w'.rowIs Lb 42 2 (fun j_1 => if j_1 = 0 then I (lsA l r'.last).1 else I (lsA l r'.last).2) → Kq v.heap.size v w' → r' = repH cl (L.take (j + 1)) →
        q3_38.wp Try.prog (fun e a x => e = .normal ∧ ∃ n', n' < T - j ∧ ∃ k, k ≤ T ∧ n' = T - k ∧ Fl 254 [(15, .slice (some ⟨Sb, 0, none⟩) 4 4), (20, Pt wb 0), (21, .slice (some ⟨M, 0, none⟩) 4 4), (23, Pt Lb 0), (24, .slice (some ⟨g, 0, none⟩) T ct), (25, .slice (some ⟨Z, 0, none⟩) 4 4), (26, I (k : Nat))] a ∧ (∀ j y, (flat L)[j]? = some y → x.cell? ⟨g, j, none⟩ = some y) ∧ x.rowIs Z 3 4 (fun t => I (((repH cl (L.take k)).call t : Nat) : Int)) ∧ x.rowIs Lb 42 2 (fun j => if j = 0 then I (lsA l (repH cl (L.take k)).last).1 else I (lsA l (repH cl (L.take k)).last).2) ∧ Kq v.heap.size v x) a' w' := by
      intro a' w' hA' q1 q2 q3 q4 q5
      subst q5
      refine wp_last (p3_38 (by omega) hA') fun a9 w9 h => ?_
      obtain ⟨h9, rfl⟩ := h
      exact ⟨rfl, T - (j + 1), by omega, j + 1, by omega, rfl, h9, q1, q2, q3, q4⟩
    by_cases h9 : s.op = 9
    · refine wp_cond_true (h6.hd (by simp [h9])) ?_
      refine wp_last (p3_43 (hc4 0 _ rfl) (hc4 3 _ rfl) htN (hz4.cell htN) (hz4.frozen _) h6.tl) fun a7 w7 h => ?_
      obtain ⟨h7, hw⟩ := h
      have hol' := hol h9
      show Code.wp _ _ _ _ _
      refine rest h7 (fun i y hy => ?_) ?_ ?_ (fun j y h => ?_) ?_ fun a8 w8 r1 r2 r3 r4 r5 => ?_
      · rw [hw, World.cell?_of_block (w := w6) (Below.heap_setCell _ _ _ _ hxZ)]; exact hc4 i y hy
      · rw [hw]
        refine (hz4.set t _).congr fun i hi => ?_
        rw [hcall, if_pos h9]
        by_cases e : i = t
        · subst e; rw [if_pos rfl, upd_same]; exact congrArg I (by omega)
        · rw [if_neg e, upd_ne _ _ e]
      · rw [hw]; exact hl4.setOther (Ne.symm hZL) _
      · rw [hw, World.cell?_of_block (w := w6) (Below.heap_setCell _ _ _ _ hgZ')]; exact hg4 j y h
      · rw [hw]; exact hkv4.trans (Kq.set _ hBZ)
      · show Code.wp _ _ _ _ _
        refine wp_mono (last r1 r2 r3 r4 r5 hr') fun e a w h => ?_
        obtain ⟨rfl, h⟩ := h
        exact h
    · refine wp_cond_false (h6.hf (by simp [h9])) (wp_skip ?_)
      show Code.wp _ _ _ _ _
      refine rest h6.tl hc4 (hz4.congr fun i hi => by rw [hcall, if_neg h9]) hl4 hg4 hkv4 fun a8 w8 r1 r2 r3 r4 r5 => ?_
      show Code.wp _ _ _ _ _
      refine wp_mono (last r1 r2 r3 r4 r5 hr') fun e a w h => ?_
      obtain ⟨rfl, h⟩ := h
      exact h
  · refine .inl ⟨h3.hf (by simp [hlt]), ?_⟩
    have e : L.take j = L := List.take_of_length_le (by omega)
    rw [e] at hlb
    exact k _ _ (h3.sub (by simp)) hk hlb
end
end Go.Proofs.Ytfjjoohflcchnaa.Gen

namespace Go.Proofs.Ytfjjoohflcchnaa.Gen
open Go Go.Lift Go.Conc
open Go.ChangeShapes Go.WideShapes Go.ChangeAt Go.RowKit Go.Joins Go.Deep

theorem op_knob : ownKnob Try.prog.godebug = none := by kernel_rfl
theorem op_cells3 : Try.prog.cellsOf 3 = 1 := by kernel_rfl
theorem op_cells39 : Try.prog.cellsOf 39 = 4 := by kernel_rfl
theorem op_bytes3 : Try.prog.bytesOf 3 = 8 := by kernel_rfl
def clV (c : Cl) : List Value := [I c.po, I c.ca, I c.cb, I c.cc]
theorem inr_of {n : Int} (h : (Lit.int .i64 n).wf = true) : InR n := by
  have := bounds_i64 h
  unfold InR
  omega

section
variable {H : Type} {enc : TypeId × Value → H} {w : World}
set_option maxRecDepth 100000 in
/-- A list of numbers that came in. -/
theorem ints_in {r : Reach} {b0 : Nat} {v : Value} {d : DataW H} {ps : List MemPlace} (hv : Value.okWide Try.prog w r b0 22 v) (h : DataW.Trod enc Try.prog w 0 (fun _ => true) true 22 v d ps) (hsz : ∀ elems spare, d = .slice elems spare → (elems.length + spare.length) * Try.prog.bytesOf 3 ≤ reachBytes) :
    ∃ (p : Option Addr) (cap b o : Nat) (xs : List Int), v = .slice p xs.length cap ∧ InI w p b o xs := by
  obtain ⟨a0, len0, cap0, rfl⟩ := okWide_slice Try.underlying22 hv
  obtain ⟨fuel, hf⟩ := h
  rcases open_ints Try.underlying22 Try.underlying3 op_cells3 hf with ⟨hcs, _⟩ | ⟨x, l, c, zs, hcs, _, hl, hm, hz, hx, hcell, hwf⟩
  · simp [Value.cells] at hcs
    obtain ⟨rfl, rfl, rfl⟩ := hcs
    exact ⟨none, 0, 0, 0, [], rfl, ⟨fun h => by simp at h, fun k x hk => by simp at hk, fun x hx => by simp at hx, Nat.zero_le _⟩⟩
  · simp [Value.cells] at hcs
    obtain ⟨rfl, rfl, rfl⟩ := hcs
    have hz' : zs.length = cap0 := by simpa using hz
    have ht : (zs.take len0).length = len0 := by rw [List.length_take]; omega
    have hb := hsz _ _ (congrArg Prod.fst hx)
    have hlz : ∀ (k : IntKind) (l : List Int), (ChangeShapes.lits (H := H) k l).length = l.length := fun k l => by simp [ChangeShapes.lits]
    rw [op_bytes3, hlz, hlz, ht] at hb
    have hlen : len0 ≤ 17592186043904 := by unfold reachBytes at hb; omega
    obtain ⟨b, off, spot⟩ := x
    by_cases h0 : len0 = 0
    · subst h0
      exact ⟨_, _, 0, 0, [], rfl, ⟨fun h => by simp at h, fun k x hk => by simp at hk, fun x hx => by simp at hx, Nat.zero_le _⟩⟩
    · have hspot : spot = none := by simpa [Addr.add] using World.cell?_spot (hcell 0 (by omega))
      subst hspot
      refine ⟨_, _, b, off, zs.take len0, by rw [ht], ⟨fun _ => rfl, fun i a hi => ?_, fun x hx => inr_of (hwf x (List.mem_of_mem_take hx)), by rw [ht]; exact hlen⟩⟩
      have hil : i < len0 := by have := (List.getElem?_eq_some_iff.1 hi).1; omega
      have hc := hcell i (by omega)
      have hadd : (⟨b, off, none⟩ : Addr).add i = ⟨b, off + i, none⟩ := by unfold Addr.add; split <;> simp_all
      rw [hadd] at hc
      have ha : zs.getD i 0 = a := by
        rw [List.getElem?_take_of_lt hil] at hi
        rw [List.getD_eq_getElem?_getD, hi]
        rfl
      rw [ha] at hc
      exact hc

set_option maxRecDepth 100000 in
theorem clV_open : ∀ fuel cs (y : DataW H × List MemPlace), cs.length = 4 → DataW.trod enc Try.prog w 0 (fun _ => true) true fuel 39 cs = some y → ∃ a, cs = clV a ∧ InR a.ca ∧ a.ok := by
  intro fuel cs y hl h
  obtain ⟨xs, k, hk, hxy, _, hxl, hf⟩ := DataW.trod_struct Try.underlying39 h
  match xs, hxl, cs, hl with
  | [y0, y1, y2, y3], _, [c0, c1, c2, c3], _ =>
    have g0 := hf 0 _ rfl
    have g1 := hf 1 _ rfl
    have g2 := hf 2 _ rfl
    have g3 := hf 3 _ rfl
    simp [op_cells3] at g0 g1 g2 g3
    obtain ⟨a0, e0, _, f0⟩ := DataW.trod_int Try.underlying3 g0
    obtain ⟨a1, e1, _, f1⟩ := DataW.trod_int Try.underlying3 g1
    obtain ⟨a2, e2, _, f2⟩ := DataW.trod_int Try.underlying3 g2
    obtain ⟨a3, e3, _, f3⟩ := DataW.trod_int Try.underlying3 g3
    simp at e0 e1 e2 e3
    subst e0 e1 e2 e3
    exact ⟨⟨a0, a1, a2, a3⟩, rfl, inr_of f1, inr_of f2, inr_of f3⟩

/-- A script that came in. -/
def Sc (w : World) (v : Value) (q : Option Addr × Nat × Nat × List Cl) : Prop :=
  v = .slice q.1 q.2.2.2.length q.2.1 ∧ (0 < q.2.2.2.length → q.1 = some ⟨q.2.2.1, roOf q.1, none⟩) ∧ (∀ (k : Nat) (c : Cl), q.2.2.2[k]? = some c → w.cell? ⟨q.2.2.1, roOf q.1 + k * 4, none⟩ = some (I c.po) ∧ w.cell? ⟨q.2.2.1, roOf q.1 + k * 4 + 1, none⟩ = some (I c.ca) ∧ w.cell? ⟨q.2.2.1, roOf q.1 + k * 4 + 2, none⟩ = some (I c.cb) ∧ w.cell? ⟨q.2.2.1, roOf q.1 + k * 4 + 3, none⟩ = some (I c.cc)) ∧ ∀ c ∈ q.2.2.2, InR c.ca ∧ c.ok
set_option maxRecDepth 100000 in
theorem script_in {fuel : Nat} {cs : List Value} {y : DataW H × List MemPlace} (h : DataW.trod enc Try.prog w 0 (fun _ => true) true fuel 37 cs = some y) : ∃ v q, cs = [v] ∧ Sc w v q := by
  rcases open_slice Try.underlying37 h with ⟨hcs, hx⟩ | ⟨ad, len, cap, m, k, D, Pl, hcs, _, hl, hm, hmm, hxe, hx⟩
  · exact ⟨_, (none, 0, 0, []), hcs, rfl, fun h => by simp at h, fun k c h => by simp at h, fun c hc => by simp at hc⟩
  · simp only [if_true] at hmm
    subst hmm
    have each : ∀ i, i < len → ∃ a : Cl, (∀ j, j < 4 → w.cell? ((ad.add (i * 4)).add j) = (clV a)[j]?) ∧ InR a.ca ∧ a.ok := by
      intro i hi
      obtain ⟨cs', h1, h2⟩ := hx i (by omega)
      rw [op_cells39] at h1
      obtain ⟨_, hlen, hc⟩ := World.cells?_some h1
      obtain ⟨a, rfl, ha⟩ := clV_open _ _ _ hlen h2
      exact ⟨a, hc, ha⟩
    have ie : Inhabited Cl := ⟨⟨0, 0, 0, 0⟩⟩
    obtain ⟨q, hq⟩ := choose_lt each
    obtain ⟨b, off, spot⟩ := ad
    by_cases h0 : len = 0
    · subst h0
      exact ⟨_, (some ⟨b, off, spot⟩, m, 0, []), hcs, rfl, fun h => by simp at h, fun k c h => by simp at h, fun c hc => by simp at hc⟩
    · have c01 : w.cell? (((⟨b, off, spot⟩ : Addr).add (0 * 4)).add 0) = some (I (q 0).po) := (hq 0 (by omega)).1 0 (by omega)
      have hspot : spot = none := by
        have := World.cell?_spot c01
        simpa [Addr.add] using this
      subst hspot
      have hadd : ∀ (o j : Nat), (⟨b, o, none⟩ : Addr).add j = ⟨b, o + j, none⟩ := by intro o j; unfold Addr.add; split <;> simp_all
      refine ⟨_, (some ⟨b, off, none⟩, m, b, (List.range len).map q), hcs, ?_, fun _ => rfl, fun i a hi => ?_, fun c hc => ?_⟩
      · simp
      · have hil : i < len := by simpa using (List.getElem?_eq_some_iff.1 hi).1
        have ha : a = q i := by simp [hil] at hi; exact hi.symm
        subst ha
        have k0 := (hq i hil).1 0 (by omega)
        have k1 := (hq i hil).1 1 (by omega)
        have k2 := (hq i hil).1 2 (by omega)
        have k3 := (hq i hil).1 3 (by omega)
        rw [hadd, hadd] at k0 k1 k2 k3
        exact ⟨k0, k1, k2, k3⟩
      · obtain ⟨i, hi, rfl⟩ := List.mem_map.1 hc
        exact (hq i (List.mem_range.1 hi)).2
end

theorem grows_frame {W w' : World} (h : Grows W w') (may : MemPlace → Prop) : W.keptBut w' may := by
  refine ⟨h.os, h.output, fun i hi => ?_⟩
  rw [h.old i hi]
  split <;> simp_all
theorem grows_same {W w' : World} (h : Grows W w') {p : MemPlace} (hp : p.block < W.heap.size) : W.sameAt w' p := by
  cases p with
  | cell b o => exact World.cell?_of_block (w := W) (h.old b hp)
  | map b => exact h.old b hp
theorem op_laid : laidOutB Try.prog = true := by kernel_rfl
theorem grows_trod {H : Type} {enc : TypeId × Value → H} {t : TypeId} (hr : Try.prog.readableRec t = true) (hrow : t < Try.prog.types.size) {W W' : World} {v : Value} {d : DataW H} {ps : List MemPlace}
    (h : DataW.Trod enc Try.prog W 0 (fun _ => true) true t v d ps) (hb : Grows W W') (hlt : ∀ x ∈ ps, x.block < W.heap.size) :
    DataW.Trod enc Try.prog W' 0 (fun b => decide (b < W.heap.size)) true t v d ps :=
  WideElems.Trod_stays op_laid hr hrow h (fun x hx => grows_same hb (hlt x hx)) (fun x hx => by simpa using hlt x hx)
end Go.Proofs.Ytfjjoohflcchnaa.Gen
