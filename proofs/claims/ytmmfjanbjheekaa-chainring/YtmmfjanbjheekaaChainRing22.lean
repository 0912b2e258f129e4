/- ChainRing: of a ring the last who writes down is told, under every schedule. Part 22 of 28. (Joined, by program, of: La3c, GOpens, La3d, GEnd, GWb, GNow.) -/
import Derived.Test.YtmmfjanbjheekaaChainRing12
import Derived.Test.YtmmfjanbjheekaaChainRing14
import Derived.Test.YtmmfjanbjheekaaChainRing17
import Derived.Test.YtmmfjanbjheekaaChainRing21
import Derived.Conc.LeavingOf
import Derived.ProofKit
import Derived.OpenShut
import Derived.ChangeOld
import Derived.SizedLaws
import Derived.Lib.SmallJoins
import Derived.Deep.SlicePairs

/- The law ChainRing (3): the steps; behind Play, whole; what the scripts ask. (Made by wip/tools/mk3c.py.) -/
set_option linter.unusedSimpArgs false
set_option linter.unusedVariables false
namespace Go.Proofs.Ytmmfjanbjheekaa.Gen
open Go Go.Lift Go.Conc Go.RowKit

open Go.ConcN (upd upd_same upd_ne)
/-- What the last one was told. -/
def lsA (l : Nat → Ph) : Option (Nat × Nat) → Int × Int
  | none => (0, 0)
  | some (i, k) => (l i).ans.getD k (0, 0)
theorem rsH_call (cl : Nat → List Cl) (r : Rh) (s : Stp) {t : Nat} (ht : s.th = t) : (rsH cl r s).call = if s.op = 9 then upd r.call t s.ol.toNat else r.call := by
  unfold rsH
  rw [ht]
  split <;> rfl
theorem rsH_last (cl : Nat → List Cl) (r : Rh) (s : Stp) {t : Nat} (ht : s.th = t) : (rsH cl r s).last = if s.op = 2 ∧ caOf cl t (r.call t) < 12 then some (t, r.call t) else r.last := by
  unfold rsH
  rw [ht]
  split
  · rename_i h
    rw [if_neg (by rw [h]; rintro ⟨h, _⟩; cases h)]
  · rfl
theorem row_at {w : World} {b t n : Nat} {f : Nat → Value} (h : w.rowIs b t n f) {i : Nat} {x : Value} (hi : i < n) (e : f i = x) : w.cell? ⟨b, i, none⟩ = some x := by rw [← e]; exact h.cell hi
section
variable {M wb Z Lb Sb : Nat} {Q : Exit → Act → World → Prop} {a : Act} {u v : World}
set_option maxHeartbeats 1000000 in
/-- The steps. -/
theorem la3_steps {cl : Nat → List Cl} {l : Nat → Ph} {A ln cp rb ro : Nat → Nat} {pc : Nat → Option Addr} {L : List Stp} {p : Option Addr} {g T ct : Nat} (hS0 : SL 4 Sb 0 ln cp rb ro pc cl v) (hL0 : AL 4 M A ln l v) (hk0 : Kq v.heap.size v u) (hT : T = L.length) (hT4 : T ≤ 4000000) (hp : 0 < T → p = some ⟨g, 0, none⟩) (hgZ : 0 < T → g ≠ Z ∧ g ≠ Lb) (hBZ : v.heap.size ≤ Z) (hBL : v.heap.size ≤ Lb) (hZL : Z ≠ Lb) (hst : StsR 4 20 cl rh0 L)
    (hg : ∀ j x, (flat L)[j]? = some x → u.cell? ⟨g, j, none⟩ = some x) (hz : u.rowIs Z 3 4 (fun _ => I 0)) (hlb : u.rowIs Lb 36 2 (fun _ => I 0)) (hA : Fl 254 [(15, .slice (some ⟨Sb, 0, none⟩) 4 4), (20, Pt wb 0), (21, .slice (some ⟨M, 0, none⟩) 4 4), (23, Pt Lb 0), (24, .slice p T ct), (25, .slice (some ⟨Z, 0, none⟩) 4 4)] a)
    (k : ∀ a' u', Fl 254 [(15, .slice (some ⟨Sb, 0, none⟩) 4 4), (20, Pt wb 0), (21, .slice (some ⟨M, 0, none⟩) 4 4), (23, Pt Lb 0), (24, .slice p T ct), (25, .slice (some ⟨Z, 0, none⟩) 4 4)] a' → Kq v.heap.size v u' → u'.rowIs Lb 36 2 (fun j => if j = 0 then I (lsA l (repH cl L).last).1 else I (lsA l (repH cl L).last).2) → Q .normal a' u') : (Code.seq q3_36 (.block 8 K3_8)).wp Try.prog Q a u := by
  refine wp_then (p3_36 hA) fun a1 w1 h => ?_
  obtain ⟨h1, rfl⟩ := h
  unfold K3_8
  refine wp_while (t := 172) (fun c a x => ∃ k, k ≤ T ∧ c = T - k ∧ Fl 254 [(15, .slice (some ⟨Sb, 0, none⟩) 4 4), (20, Pt wb 0), (21, .slice (some ⟨M, 0, none⟩) 4 4), (23, Pt Lb 0), (24, .slice p T ct), (25, .slice (some ⟨Z, 0, none⟩) 4 4), (26, I (k : Nat))] a ∧ (∀ j y, (flat L)[j]? = some y → x.cell? ⟨g, j, none⟩ = some y) ∧ x.rowIs Z 3 4 (fun t => I (((repH cl (L.take k)).call t : Nat) : Int)) ∧ x.rowIs Lb 36 2 (fun j => if j = 0 then I (lsA l (repH cl (L.take k)).last).1 else I (lsA l (repH cl (L.take k)).last).2) ∧ Kq v.heap.size v x) _
    ⟨0, Nat.zero_le _, rfl, h1, hg, hz.congr (fun i _ => rfl), hlb.congr (fun i _ => by split <;> rfl), hk0⟩ ?_
  clear h1 hg hz hlb hA hk0
  rintro c a2 x ⟨j, hj, rfl, h2, hg, hz, hlb, hk⟩
  refine ⟨_, p3_37 h2, ?_⟩
  rintro a3 w3 ⟨h3, rfl⟩
  by_cases hlt : j < T
  · refine .inr ⟨h3.hd (by simp [hlt]), ?_⟩
    refine wp_seq (wp_block ?_)
    unfold K3_9
    have hp' := hp (by omega)
    obtain ⟨hgZ', hgL'⟩ := hgZ (by omega)
    subst hp'
    obtain ⟨s, hs⟩ : ∃ s, L[j]? = some s := ⟨_, List.getElem?_eq_getElem (by omega)⟩
    obtain ⟨f0, f1, f2, f3, f4⟩ := flat_get L j s hs
    obtain ⟨t, ht, htN, hcl, _, hol⟩ := hst.at j s hs
    have hrep : repH cl (L.take (j + 1)) = rsH cl (repH cl (L.take j)) s := by
      rw [List.take_add_one, hs]
      exact repH_one cl (L.take j) s
    have hcl : (repH cl (L.take (j + 1))).call t < (cl t).length := hcl
    have hcall : (repH cl (L.take (j + 1))).call = if s.op = 9 then upd (repH cl (L.take j)).call t s.ol.toNat else (repH cl (L.take j)).call := by rw [hrep]; exact rsH_call cl _ s ht
    have hlast : (repH cl (L.take (j + 1))).last = if s.op = 2 ∧ caOf cl t ((repH cl (L.take j)).call t) < 12 then some (t, (repH cl (L.take j)).call t) else (repH cl (L.take j)).last := by rw [hrep]; exact rsH_last cl _ s ht
    obtain ⟨r', hr'⟩ : ∃ r', r' = repH cl (L.take (j + 1)) := ⟨_, rfl⟩
    rw [← hr'] at hcl hcall hlast
    have f0' := hg _ _ f0
    rw [ht] at f0'
    refine wp_then (p3_39 hlt f0' (hg _ _ f1) (hg _ _ f2) (hg _ _ f3) (hg _ _ f4) h3.tl) fun a4 w4 h => ?_
    obtain ⟨h4, hw4⟩ := h
    have hc4 : ∀ (i : Nat) (y : Value), #[I (t : Nat), I s.ce, I s.op, I s.ol, I s.ne][i]? = some y → w4.cell? ⟨w3.heap.size, i, none⟩ = some y := fun i y hy => by
      rw [hw4]; exact cell_of (v := w3.alloc (.cells #[I (t : Nat), I s.ce, I s.op, I s.ol, I s.ne] 40)) (b := w3.heap.size) (by show (w3.heap.push _)[w3.heap.size]? = _; simp; exact ⟨rfl, rfl⟩) hy
    have hz4 : w4.rowIs Z 3 4 (fun t => I (((repH cl (L.take j)).call t : Nat) : Int)) := hw4 ▸ hz.alloc _
    have hl4 : w4.rowIs Lb 36 2 (fun j_1 => if j_1 = 0 then I (lsA l (repH cl (L.take j)).last).1 else I (lsA l (repH cl (L.take j)).last).2) := hw4 ▸ hlb.alloc _
    have hk4 : Kq w3.heap.size w3 w4 := hw4 ▸ Kq.alloc _ (Nat.le_refl _)
    have hg4 : ∀ j y, (flat L)[j]? = some y → w4.cell? ⟨g, j, none⟩ = some y := fun j y h => kq_all hk4 _ _ (hg j y h)
    have hxZ : w3.heap.size ≠ Z := by have := hz.lt; omega
    have hxL : w3.heap.size ≠ Lb := by have := hlb.lt; omega
    have hB3 : v.heap.size ≤ w3.heap.size := hk.size
    have hkv4 : Kq v.heap.size v w4 := hk.trans (hk4.le hB3)
    clear hw4 hz hlb hg hk
    refine wp_seq ?_
    refine wp_then (p3_40 (hc4 0 _ rfl) htN h4) fun a5 w5 h => ?_
    obtain ⟨h5, rfl⟩ := h
    refine wp_cond_false (h5.hf rfl) (wp_skip ?_)
    show Code.wp _ _ _ _ _
    refine wp_seq ?_
    refine wp_then (p3_42 (hc4 2 _ rfl) h5.tl) fun a6 w6 h => ?_
    obtain ⟨h6, rfl⟩ := h
    -- from where the call's number stands in its place
    have rest : ∀ {Q1 : Exit → Act → World → Prop} {a' : Act} {w' : World}, Fl 254 [(15, .slice (some ⟨Sb, 0, none⟩) 4 4), (20, Pt wb 0), (21, .slice (some ⟨M, 0, none⟩) 4 4), (23, Pt Lb 0), (24, .slice (some ⟨g, 0, none⟩) T ct), (25, .slice (some ⟨Z, 0, none⟩) 4 4), (26, I (j : Nat)), (27, Pt w3.heap.size 0)] a' → (∀ (i : Nat) (y : Value), #[I (t : Nat), I s.ce, I s.op, I s.ol, I s.ne][i]? = some y → w'.cell? ⟨w3.heap.size, i, none⟩ = some y) → w'.rowIs Z 3 4 (fun t => I ((r'.call t : Nat) : Int)) → w'.rowIs Lb 36 2 (fun j_1 => if j_1 = 0 then I (lsA l (repH cl (L.take j)).last).1 else I (lsA l (repH cl (L.take j)).last).2) → (∀ j y, (flat L)[j]? = some y → w'.cell? ⟨g, j, none⟩ = some y) → Kq v.heap.size v w' →
        (∀ a'' w'', Fl 254 [(15, .slice (some ⟨Sb, 0, none⟩) 4 4), (20, Pt wb 0), (21, .slice (some ⟨M, 0, none⟩) 4 4), (23, Pt Lb 0), (24, .slice (some ⟨g, 0, none⟩) T ct), (25, .slice (some ⟨Z, 0, none⟩) 4 4), (26, I (j : Nat))] a'' → (∀ j y, (flat L)[j]? = some y → w''.cell? ⟨g, j, none⟩ = some y) → w''.rowIs Z 3 4 (fun t => I ((r'.call t : Nat) : Int)) → w''.rowIs Lb 36 2 (fun j_1 => if j_1 = 0 then I (lsA l r'.last).1 else I (lsA l r'.last).2) → Kq v.heap.size v w'' → Q1 .normal a'' w'') →
        (Code.seq q3_44 (.seq (.seq q3_45 (.cond (.tmp 227) (.seq q3_46 .ret) .skip)) (.seq q3_47 (.cond (.tmp 242) q3_48 .skip)))).wp Try.prog Q1 a' w' := by
      intro Q1 a' w' hA' hc' hz' hl' hg' hk' hQ1
      refine wp_then (p3_44 (c := r'.call t) (hc' 0 _ rfl) htN (hz'.cell htN) hA') fun a7 w7 h => ?_
      obtain ⟨h7, rfl⟩ := h
      have hS7 := hS0.go hk'
      have hL7 := hL0.go hk'
      have hln : r'.call t < ln t := by rw [← hS0.len t htN]; exact hcl
      have hsr := hS7.sr t htN
      have hpq := hS7.pq t htN (by omega)
      rw [Nat.zero_add] at hsr
      refine wp_seq ?_
      refine wp_then (wp_nrm (p3_45 (hc' 0 _ rfl) htN hsr (hL7.ar t htN) hln h7)) fun a8 w8 h => ?_
      obtain ⟨h8, e1, e2, e3⟩ := h
      refine wp_cond_false (h8.hf rfl) (wp_skip ?_)
      show Code.wp _ _ _ _ _
      have k8 : Kq w7.heap.size w7 w8 := Kq.same e1 e2 e3
      have hc8 : ∀ (i : Nat) (y : Value), #[I (t : Nat), I s.ce, I s.op, I s.ol, I s.ne][i]? = some y → w8.cell? ⟨w3.heap.size, i, none⟩ = some y := fun i y hy => kq_all k8 _ _ (hc' i y hy)
      have hz8 := hz'.of_block (w' := w8) (by rw [e1])
      have hl8 := hl'.of_block (w' := w8) (by rw [e1])
      have hg8 : ∀ j y, (flat L)[j]? = some y → w8.cell? ⟨g, j, none⟩ = some y := fun j y h => kq_all k8 _ _ (hg' j y h)
      have hkv8 : Kq v.heap.size v w8 := hk'.trans (k8.le hk'.size)
      have hS8 := hS0.go hkv8
      have hL8 := hL0.go hkv8
      have hsr8 := hS8.sr t htN
      rw [Nat.zero_add, hpq] at hsr8
      obtain ⟨c, hcc⟩ : ∃ c, (cl t)[r'.call t]? = some c := ⟨_, List.getElem?_eq_getElem hcl⟩
      obtain ⟨q, hqq⟩ : ∃ q, (l t).ans[r'.call t]? = some q := ⟨_, List.getElem?_eq_getElem (by rw [hL0.al t htN]; exact hln)⟩
      by_cases h2 : s.op = 2
      · have hcr : r'.call = (repH cl (L.take j)).call := by rw [hcall, if_neg (by rw [h2]; decide)]
        have hca : caOf cl t ((repH cl (L.take j)).call t) = c.ca := by rw [← hcr]; exact caOf_eq hcc
        have d2 := hc8 2 _ rfl
        rw [h2] at d2
        refine wp_then (p3_47y (ca := c.ca) d2 (hc8 0 _ rfl) htN hsr8 hln (hS8.sa t htN _ c hcc).2.1 h8.tl) fun a9 w9 h => ?_
        obtain ⟨h9, rfl⟩ := h
        by_cases h12 : c.ca < 12
        · refine wp_cond_true (h9.hd (by simp [h12])) ?_
          have an := hL8.an t htN _ q hqq
          refine wp_last (p3_48 (e0 := (lsA l (repH cl (L.take j)).last).1) (y0 := (lsA l (repH cl (L.take j)).last).2) (hc8 0 _ rfl) htN (hL8.ar t htN) hln an.1 an.2 (row_at hl8 (by omega) (by simp)) (row_at hl8 (by omega) (by simp)) (hl8.frozen _) (hl8.frozen _) h9.tl) fun a10 w10 h => ?_
          obtain ⟨h10, hw⟩ := h
          have hls : r'.last = some (t, r'.call t) := by rw [hlast, if_pos ⟨h2, by rw [hca]; exact h12⟩, hcr]
          have hlq : lsA l r'.last = q := by rw [hls]; show (l t).ans.getD _ _ = _; rw [List.getD_eq_getElem?_getD, hqq]; rfl
          refine hQ1 _ _ (h10.sub (by simp)) (fun j y h => ?_) ?_ ?_ ?_
          · rw [hw, World.cell?_of_block (w := w9) ((Below.heap_setCell _ _ _ _ hgL').trans (Below.heap_setCell _ _ _ _ hgL'))]; exact hg8 j y h
          · rw [hw]; exact (hz8.setOther hZL _).setOther hZL _
          · rw [hw, hlq]
            refine ((hl8.set 0 _).set 1 _).congr fun i hi => ?_
            by_cases e : i = 0
            · subst e; simp
            · have : i = 1 := by omega
              subst this; simp
          · rw [hw]; exact hkv8.trans ((Kq.set _ hBL).trans (Kq.set _ hBL))
        · refine wp_cond_false (h9.hf (by simp [h12])) (wp_skip ?_)
          have hls : r'.last = (repH cl (L.take j)).last := by rw [hlast, if_neg (by rw [hca]; exact fun h => h12 h.2)]
          refine hQ1 _ _ (h9.sub (by simp)) hg8 hz8 (by rw [hls]; exact hl8) hkv8
      · refine wp_then (p3_47n (hc8 2 _ rfl) h2 h8.tl) fun a9 w9 h => ?_
        obtain ⟨h9, rfl⟩ := h
        refine wp_cond_false (h9.hf rfl) (wp_skip ?_)
        have hls : r'.last = (repH cl (L.take j)).last := by rw [hlast, if_neg (fun h => h2 h.1)]
        refine hQ1 _ _ (h9.sub (by simp)) hg8 hz8 (by rw [hls]; exact hl8) hkv8
    have last : ∀ {a' : Act} {w' : World}, Fl 254 [(15, .slice (some ⟨Sb, 0, none⟩) 4 4), (20, Pt wb 0), (21, .slice (some ⟨M, 0, none⟩) 4 4), (23, Pt Lb 0), (24, .slice (some ⟨g, 0, none⟩) T ct), (25, .slice (some ⟨Z, 0, none⟩) 4 4), (26, I (j : Nat))] a' → (∀ j y, (flat L)[j]? = some y → w'.cell? ⟨g, j, none⟩ = some y) → w'.rowIs Z 3 4 (fun t => I ((r'.call t : Nat) : Int)) → w'.rowIs Lb 36 2 (fun j_1 => if j_1 = 0 then I (lsA l r'.last).1 else I (lsA l r'.last).2) → Kq v.heap.size v w' → r' = repH cl (L.take (j + 1)) →
        q3_38.wp Try.prog (fun e a x => e = .normal ∧ ∃ n', n' < T - j ∧ ∃ k, k ≤ T ∧ n' = T - k ∧ Fl 254 [(15, .slice (some ⟨Sb, 0, none⟩) 4 4), (20, Pt wb 0), (21, .slice (some ⟨M, 0, none⟩) 4 4), (23, Pt Lb 0), (24, .slice (some ⟨g, 0, none⟩) T ct), (25, .slice (some ⟨Z, 0, none⟩) 4 4), (26, I (k : Nat))] a ∧ (∀ j y, (flat L)[j]? = some y → x.cell? ⟨g, j, none⟩ = some y) ∧ x.rowIs Z 3 4 (fun t => I (((repH cl (L.take k)).call t : Nat) : Int)) ∧ x.rowIs Lb 36 2 (fun j => if j = 0 then I (lsA l (repH cl (L.take k)).last).1 else I (lsA l (repH cl (L.take k)).last).2) ∧ Kq v.heap.size v x) a' w' := by
      intro a' w' hA' q1 q2 q3 q4 q5
      subst q5
      refine wp_last (p3_38 (by omega) hA') fun a9 w9 h => ?_
      obtain ⟨h9, rfl⟩ := h
      exact ⟨rfl, T - (j + 1), by omega, j + 1, by omega, rfl, h9, q1, q2, q3, q4⟩
    by_cases h9 : s.op = 9
    · refine wp_cond_true (h6.hd (by simp [h9])) ?_
      refine wp_last (p3_43 (hc4 0 _ rfl) (hc4 3 _ rfl) htN (hz4.cell htN) (hz4.frozen _) h6.tl) fun a7 w7 h => ?_
      obtain ⟨h7, hw⟩ := h
      have hol' := hol h9
      show Code.wp _ _ _ _ _
      refine rest h7 (fun i y hy => ?_) ?_ ?_ (fun j y h => ?_) ?_ fun a8 w8 r1 r2 r3 r4 r5 => ?_
      · rw [hw, World.cell?_of_block (w := w6) (Below.heap_setCell _ _ _ _ hxZ)]; exact hc4 i y hy
      · rw [hw]
        refine (hz4.set t _).congr fun i hi => ?_
        rw [hcall, if_pos h9]
        by_cases e : i = t
        · subst e; rw [if_pos rfl, upd_same]; exact congrArg I (by omega)
        · rw [if_neg e, upd_ne _ _ e]
      · rw [hw]; exact hl4.setOther (Ne.symm hZL) _
      · rw [hw, World.cell?_of_block (w := w6) (Below.heap_setCell _ _ _ _ hgZ')]; exact hg4 j y h
      · rw [hw]; exact hkv4.trans (Kq.set _ hBZ)
      · show Code.wp _ _ _ _ _
        refine wp_mono (last r1 r2 r3 r4 r5 hr') fun e a w h => ?_
        obtain ⟨rfl, h⟩ := h
        exact h
    · refine wp_cond_false (h6.hf (by simp [h9])) (wp_skip ?_)
      show Code.wp _ _ _ _ _
      refine rest h6.tl hc4 (hz4.congr fun i hi => by rw [hcall, if_neg h9]) hl4 hg4 hkv4 fun a8 w8 r1 r2 r3 r4 r5 => ?_
      show Code.wp _ _ _ _ _
      refine wp_mono (last r1 r2 r3 r4 r5 hr') fun e a w h => ?_
      obtain ⟨rfl, h⟩ := h
      exact h
  · refine .inl ⟨h3.hf (by simp [hlt]), ?_⟩
    have e : L.take j = L := List.take_of_length_le (by omega)
    rw [e] at hlb
    exact k _ _ (h3.sub (by simp)) hk hlb
end
end Go.Proofs.Ytmmfjanbjheekaa.Gen

/- Arguments that came in are opened; behind the call they read as before. -/
set_option linter.unusedSimpArgs false
set_option linter.unusedVariables false
namespace Go.Proofs.Ytmmfjanbjheekaa.Gen
open Go Go.Lift Go.Conc
open Go.ChangeShapes Go.WideShapes Go.ChangeAt Go.RowKit Go.Joins Go.Deep

theorem op_knob : ownKnob Try.prog.godebug = none := by kernel_rfl
theorem op_cells3 : Try.prog.cellsOf 3 = 1 := by kernel_rfl
theorem op_cells39 : Try.prog.cellsOf 28 = 4 := by kernel_rfl
theorem op_bytes3 : Try.prog.bytesOf 3 = 8 := by kernel_rfl
def clV (c : Cl) : List Value := [I c.po, I c.ca, I c.cb, I c.cc]
theorem inr_of {n : Int} (h : (Lit.int .i64 n).wf = true) : InR n := by
  have := bounds_i64 h
  unfold InR
  omega

section
variable {H : Type} {enc : TypeId × Value → H} {w : World}
set_option maxRecDepth 100000 in
/-- A list of numbers that came in. -/
theorem ints_in {r : Reach} {b0 : Nat} {v : Value} {d : DataW H} {ps : List MemPlace} (hv : Value.okWide Try.prog w r b0 22 v) (h : DataW.Trod enc Try.prog w 0 (fun _ => true) true 22 v d ps) (hsz : ∀ elems spare, d = .slice elems spare → (elems.length + spare.length) * Try.prog.bytesOf 3 ≤ reachBytes) :
    ∃ (p : Option Addr) (cap b o : Nat) (xs : List Int), v = .slice p xs.length cap ∧ InI w p b o xs := by
  obtain ⟨a0, len0, cap0, rfl⟩ := okWide_slice Try.underlying22 hv
  obtain ⟨fuel, hf⟩ := h
  rcases open_ints Try.underlying22 Try.underlying3 op_cells3 hf with ⟨hcs, _⟩ | ⟨x, l, c, zs, hcs, _, hl, hm, hz, hx, hcell, hwf⟩
  · simp [Value.cells] at hcs
    obtain ⟨rfl, rfl, rfl⟩ := hcs
    exact ⟨none, 0, 0, 0, [], rfl, ⟨fun h => by simp at h, fun k x hk => by simp at hk, fun x hx => by simp at hx, Nat.zero_le _⟩⟩
  · simp [Value.cells] at hcs
    obtain ⟨rfl, rfl, rfl⟩ := hcs
    have hz' : zs.length = cap0 := by simpa using hz
    have ht : (zs.take len0).length = len0 := by rw [List.length_take]; omega
    have hb := hsz _ _ (congrArg Prod.fst hx)
    have hlz : ∀ (k : IntKind) (l : List Int), (ChangeShapes.lits (H := H) k l).length = l.length := fun k l => by simp [ChangeShapes.lits]
    rw [op_bytes3, hlz, hlz, ht] at hb
    have hlen : len0 ≤ 17592186043904 := by unfold reachBytes at hb; omega
    obtain ⟨b, off, spot⟩ := x
    by_cases h0 : len0 = 0
    · subst h0
      exact ⟨_, _, 0, 0, [], rfl, ⟨fun h => by simp at h, fun k x hk => by simp at hk, fun x hx => by simp at hx, Nat.zero_le _⟩⟩
    · have hspot : spot = none := by simpa [Addr.add] using World.cell?_spot (hcell 0 (by omega))
      subst hspot
      refine ⟨_, _, b, off, zs.take len0, by rw [ht], ⟨fun _ => rfl, fun i a hi => ?_, fun x hx => inr_of (hwf x (List.mem_of_mem_take hx)), by rw [ht]; exact hlen⟩⟩
      have hil : i < len0 := by have := (List.getElem?_eq_some_iff.1 hi).1; omega
      have hc := hcell i (by omega)
      have hadd : (⟨b, off, none⟩ : Addr).add i = ⟨b, off + i, none⟩ := by unfold Addr.add; split <;> simp_all
      rw [hadd] at hc
      have ha : zs.getD i 0 = a := by
        rw [List.getElem?_take_of_lt hil] at hi
        rw [List.getD_eq_getElem?_getD, hi]
        rfl
      rw [ha] at hc
      exact hc

set_option maxRecDepth 100000 in
theorem clV_open : ∀ fuel cs (y : DataW H × List MemPlace), cs.length = 4 → DataW.trod enc Try.prog w 0 (fun _ => true) true fuel 28 cs = some y → ∃ a, cs = clV a ∧ InR a.ca ∧ a.ok := by
  intro fuel cs y hl h
  obtain ⟨xs, k, hk, hxy, _, hxl, hf⟩ := DataW.trod_struct Try.underlying28 h
  match xs, hxl, cs, hl with
  | [y0, y1, y2, y3], _, [c0, c1, c2, c3], _ =>
    have g0 := hf 0 _ rfl
    have g1 := hf 1 _ rfl
    have g2 := hf 2 _ rfl
    have g3 := hf 3 _ rfl
    simp [op_cells3] at g0 g1 g2 g3
    obtain ⟨a0, e0, _, f0⟩ := DataW.trod_int Try.underlying3 g0
    obtain ⟨a1, e1, _, f1⟩ := DataW.trod_int Try.underlying3 g1
    obtain ⟨a2, e2, _, f2⟩ := DataW.trod_int Try.underlying3 g2
    obtain ⟨a3, e3, _, f3⟩ := DataW.trod_int Try.underlying3 g3
    simp at e0 e1 e2 e3
    subst e0 e1 e2 e3
    exact ⟨⟨a0, a1, a2, a3⟩, rfl, inr_of f1, inr_of f2, inr_of f3⟩

/-- A script that came in. -/
def Sc (w : World) (v : Value) (q : Option Addr × Nat × Nat × List Cl) : Prop :=
  v = .slice q.1 q.2.2.2.length q.2.1 ∧ (0 < q.2.2.2.length → q.1 = some ⟨q.2.2.1, roOf q.1, none⟩) ∧ (∀ (k : Nat) (c : Cl), q.2.2.2[k]? = some c → w.cell? ⟨q.2.2.1, roOf q.1 + k * 4, none⟩ = some (I c.po) ∧ w.cell? ⟨q.2.2.1, roOf q.1 + k * 4 + 1, none⟩ = some (I c.ca) ∧ w.cell? ⟨q.2.2.1, roOf q.1 + k * 4 + 2, none⟩ = some (I c.cb) ∧ w.cell? ⟨q.2.2.1, roOf q.1 + k * 4 + 3, none⟩ = some (I c.cc)) ∧ ∀ c ∈ q.2.2.2, InR c.ca ∧ c.ok
set_option maxRecDepth 100000 in
theorem script_in {fuel : Nat} {cs : List Value} {y : DataW H × List MemPlace} (h : DataW.trod enc Try.prog w 0 (fun _ => true) true fuel 23 cs = some y) : ∃ v q, cs = [v] ∧ Sc w v q := by
  rcases open_slice Try.underlying23 h with ⟨hcs, hx⟩ | ⟨ad, len, cap, m, k, D, Pl, hcs, _, hl, hm, hmm, hxe, hx⟩
  · exact ⟨_, (none, 0, 0, []), hcs, rfl, fun h => by simp at h, fun k c h => by simp at h, fun c hc => by simp at hc⟩
  · simp only [if_true] at hmm
    subst hmm
    have each : ∀ i, i < len → ∃ a : Cl, (∀ j, j < 4 → w.cell? ((ad.add (i * 4)).add j) = (clV a)[j]?) ∧ InR a.ca ∧ a.ok := by
      intro i hi
      obtain ⟨cs', h1, h2⟩ := hx i (by omega)
      rw [op_cells39] at h1
      obtain ⟨_, hlen, hc⟩ := World.cells?_some h1
      obtain ⟨a, rfl, ha⟩ := clV_open _ _ _ hlen h2
      exact ⟨a, hc, ha⟩
    have ie : Inhabited Cl := ⟨⟨0, 0, 0, 0⟩⟩
    obtain ⟨q, hq⟩ := choose_lt each
    obtain ⟨b, off, spot⟩ := ad
    by_cases h0 : len = 0
    · subst h0
      exact ⟨_, (some ⟨b, off, spot⟩, m, 0, []), hcs, rfl, fun h => by simp at h, fun k c h => by simp at h, fun c hc => by simp at hc⟩
    · have c01 : w.cell? (((⟨b, off, spot⟩ : Addr).add (0 * 4)).add 0) = some (I (q 0).po) := (hq 0 (by omega)).1 0 (by omega)
      have hspot : spot = none := by
        have := World.cell?_spot c01
        simpa [Addr.add] using this
      subst hspot
      have hadd : ∀ (o j : Nat), (⟨b, o, none⟩ : Addr).add j = ⟨b, o + j, none⟩ := by intro o j; unfold Addr.add; split <;> simp_all
      refine ⟨_, (some ⟨b, off, none⟩, m, b, (List.range len).map q), hcs, ?_, fun _ => rfl, fun i a hi => ?_, fun c hc => ?_⟩
      · simp
      · have hil : i < len := by simpa using (List.getElem?_eq_some_iff.1 hi).1
        have ha : a = q i := by simp [hil] at hi; exact hi.symm
        subst ha
        have k0 := (hq i hil).1 0 (by omega)
        have k1 := (hq i hil).1 1 (by omega)
        have k2 := (hq i hil).1 2 (by omega)
        have k3 := (hq i hil).1 3 (by omega)
        rw [hadd, hadd] at k0 k1 k2 k3
        exact ⟨k0, k1, k2, k3⟩
      · obtain ⟨i, hi, rfl⟩ := List.mem_map.1 hc
        exact (hq i (List.mem_range.1 hi)).2
end

theorem grows_frame {W w' : World} (h : Grows W w') (may : MemPlace → Prop) : W.keptBut w' may := by
  refine ⟨h.os, h.output, fun i hi => ?_⟩
  rw [h.old i hi]
  split <;> simp_all
theorem grows_same {W w' : World} (h : Grows W w') {p : MemPlace} (hp : p.block < W.heap.size) : W.sameAt w' p := by
  cases p with
  | cell b o => exact World.cell?_of_block (w := W) (h.old b hp)
  | map b => exact h.old b hp
theorem op_laid : laidOutB Try.prog = true := by kernel_rfl
theorem grows_trod {H : Type} {enc : TypeId × Value → H} {t : TypeId} (hr : Try.prog.readableRec t = true) (hrow : t < Try.prog.types.size) {W W' : World} {v : Value} {d : DataW H} {ps : List MemPlace}
    (h : DataW.Trod enc Try.prog W 0 (fun _ => true) true t v d ps) (hb : Grows W W') (hlt : ∀ x ∈ ps, x.block < W.heap.size) :
    DataW.Trod enc Try.prog W' 0 (fun b => decide (b < W.heap.size)) true t v d ps :=
  WideElems.Trod_stays op_laid hr hrow h (fun x hx => grows_same hb (hlt x hx)) (fun x hx => by simpa using hlt x hx)
end Go.Proofs.Ytmmfjanbjheekaa.Gen

/- The law ChainRing (3): behind Play, whole; what the scripts ask; where they lie. (Made by wip/tools/mk3d.py.) -/
set_option linter.unusedSimpArgs false
set_option linter.unusedVariables false
namespace Go.Proofs.Ytmmfjanbjheekaa.Gen
open Go Go.Lift Go.Conc Go.RowKit

open Go.ConcN (upd upd_same upd_ne)
noncomputable def T3 : Code := .seq (.seq q3_31 (.cond ( .tmp 164 ) (.seq q3_32 .ret) .skip)) (.seq q3_33 (.seq q3_34 (.seq q3_35 (.seq (.seq q3_36 (.block 8 K3_8)) (.seq q3_49 .ret)))))
theorem fine_T3 : fineCode Try.prog true LV T3 := fineCode_askS callV extT (by kernel_rfl)
set_option maxHeartbeats 1000000 in
/-- Play has answered. -/
theorem tail3 {Sb M : Nat} {a : Act} {v : World} {S : TS} {A ln cp rb ro : Nat → Nat} {pc : Nat → Option Addr} {cl : Nat → List Cl} {l : Nat → Ph} {L : List Stp}
    (hS : SL 4 Sb 0 ln cp rb ro pc cl v) (hL : AL 4 M A ln l v) (hR : Rep zn S v) (htr : S.tr = flat L) (hSn : S.n = L.length) (hs4 : S.n ≤ 4000000) (hst : StsR 4 20 cl rh0 L)
    (hlast : ∃ i k, i < 4 ∧ (repH cl L).last = some (i, k) ∧ k < (cl i).length ∧ (l i).ans[k]? = some (0, 1))
    (hA : Fl 254 [(9, .bool true), (15, .slice (some ⟨Sb, 0, none⟩) 4 4), (20, Pt S.wb 0), (21, .slice (some ⟨M, 0, none⟩) 4 4), (22, I 0)] a) : T3.wp Try.prog (fun e a' w' => e = .ret ∧ Fl 254 [(8, .bool true)] a' ∧ Kq v.heap.size v w') a v := by
  unfold T3
  refine wp_seq (wp_then (p3_31 hA) fun a1 w1 h => ?_)
  obtain ⟨h1, rfl⟩ := h
  refine wp_cond_false (h1.hf rfl) (wp_skip ?_)
  show Code.wp _ _ _ _ _
  refine wp_then (p3_33 h1.tl) fun a2 w2 h => ?_
  obtain ⟨h2, hw2⟩ := h
  have hk2 : Kq w1.heap.size w1 w2 := hw2 ▸ Kq.alloc _ (Nat.le_refl _)
  have hs2 : w2.heap.size = w1.heap.size + 1 := by rw [hw2, size_alloc]
  have hr2 : w2.rowIs w1.heap.size 36 2 (fun _ => I 0) := hw2 ▸ World.rowIs_alloc w1 #[I 0, I 0] 36 (fun _ => I 0) (fun i hi => by
    have : i < 2 := hi
    match i, this with
    | 0, _ => rfl
    | 1, _ => rfl)
  clear hw2
  refine wp_then (p3_34 (S := S) (hR.grows hk2.size (fun b hb => hk2.old b hb)) rfl (by omega) (by rw [htr]; exact flat_one L) h2) fun a3 w3 h => ?_
  obtain ⟨p, g, ct, h3, hp, htc, g3⟩ := h
  rw [htr] at htc
  refine wp_then (p3_35 h3) fun a4 w4 h => ?_
  obtain ⟨h4, hw4⟩ := h
  have hk4 : Kq w3.heap.size w3 w4 := hw4 ▸ Kq.alloc _ (Nat.le_refl _)
  have hr4 : w4.rowIs w3.heap.size 3 4 (fun _ => I 0) := hw4 ▸ World.rowIs_made w3 (I 0) 4 3
  clear hw4
  have h23 : w2.heap.size ≤ w3.heap.size := g3.size
  have hk3 : Kq w2.heap.size w2 w3 := ⟨g3.os, g3.output, g3.size, fun k hk => g3.old k hk⟩
  have hkv : Kq w1.heap.size w1 w4 := hk2.trans ((hk3.le (by omega)).trans (hk4.le (by omega)))
  refine wp_seq (la3_steps (v := w1) (L := L) hS hL hkv hSn hs4 (fun h => (hp h).1) (fun h => ⟨fun e => ?_, fun e => ?_⟩) (by omega) (Nat.le_refl _) (by omega) hst (fun j x h => kq_all hk4 _ _ (htc j x h)) hr4 ((hr2.of_block (g3.old _ (by omega))).of_block (hk4.old _ (by omega))) h4 fun a5 w5 h5 hk5 hr5 => ?_)
  · obtain ⟨x0, hx0⟩ : ∃ x, (flat L)[0]? = some x := by
      obtain ⟨s, hs⟩ : ∃ s, L[0]? = some s := ⟨_, List.getElem?_eq_getElem (by omega)⟩
      exact ⟨_, (flat_get L 0 s hs).1⟩
    have := World.block_lt_of_cell? _ _ (htc 0 _ hx0)
    have this : g < w3.heap.size := this
    omega
  · have := (hp h).2; omega
  · obtain ⟨i, k, hi, e1, e2, e3⟩ := hlast
    have hls : lsA l (repH cl L).last = (0, 1) := by rw [e1]; show (l i).ans.getD k (0, 0) = _; rw [List.getD_eq_getElem?_getD, e3]; rfl
    rw [hls] at hr5
    show Code.wp _ _ _ _ _
    refine wp_then (p3_49 (row_at hr5 (by omega) rfl) (row_at hr5 (by omega) rfl) (h5.sub (by simp))) fun a6 w6 h => ?_
    obtain ⟨h6, rfl⟩ := h
    exact wp_ret ⟨rfl, h6, hk5⟩

/-- What the scripts ask. -/
theorem key_of {x : Nat} (h : x < 20) : keyH 20 (x : Int) = x := by
  have := keyH_int (show 0 < 20 by omega) (x : Int)
  have e : ((x : Int) % ((20 : Nat) : Int)) = x := Int.emod_eq_of_lt (by omega) (by omega)
  omega
theorem ops_rg {R : List Nat} {ops : Nat → List Cl} {len : Nat} (h0 : 0 < R.length) (h12 : R.length ≤ 12) (nd : R.Nodup) (hl : ∀ x ∈ R, x < 12) (h : Ops R ops R.length len) : Rg 4 20 R ops := by
  have hr : ∀ i, rg R i < 12 := fun i => hl _ (rg_mem h0 i)
  refine ⟨h0, by omega, nd, fun i hi c hc h1 => ?_, fun i hi c hc h1 i0 e => ?_, fun i0 => ?_⟩
  · rcases (h.all i hi c hc).2.2.2 with h2 | ⟨i0, e1, e2⟩
    · omega
    · refine ⟨i0, ?_, ?_⟩
      · rw [e1]; exact key_of (by have := hr i0; omega)
      · rw [e2]; exact key_of (by have := hr (i0 + 1); omega)
  · rcases (h.all i hi c hc).2.2.2 with h2 | ⟨i1, e1, e2⟩
    · obtain ⟨x, hx⟩ : ∃ x : Nat, c.ca = (x : Int) := ⟨c.ca.toNat, by omega⟩
      rw [hx, key_of (by omega)] at e
      have := hr i0
      omega
    · have := hr i1; omega
  · obtain ⟨t, ht, c, hc, e⟩ := h.has (i0 % R.length) (Nat.mod_lt _ h0)
    refine ⟨t, ht, c, hc, (h.all t ht c hc).1, ?_⟩
    have e2 : rg R (i0 % R.length) = rg R i0 := by unfold rg; rw [Nat.mod_mod]
    rw [e, e2]
    exact key_of (by have := hr i0; omega)
def slP : Value → Option Addr
  | .slice p _ _ => p
  | _ => none
def slC : Value → Nat
  | .slice _ _ c => c
  | _ => 0
theorem scs_in {v0 w : World} {Sb len i : Nat} {R : List Nat} {rows : Nat → Value} {ops : Nat → List Cl} (h : Scs v0 Sb rows ops w) (ho : Ops R ops i len) (hR : ∀ j, rg R j < 12) :
    InS w (some ⟨Sb, 0, none⟩) Sb 0 4 (fun j => slP (rows j)) (fun j => (ops j).length) (fun j => slC (rows j)) (fun j => ((rows j).ownBlock).getD 0) ops := by
  refine ⟨fun _ => rfl, fun k hk => ?_, fun j hj => rfl, fun j hj hl => ?_, fun j hj k c hc => ?_, fun j hj c hc => ?_, by omega⟩
  · obtain ⟨p, c, e⟩ := h.shp k hk
    rw [Nat.zero_add, h.out.cell hk, e]
    rfl
  · obtain ⟨p, c, e⟩ := h.shp j hj
    have hw := h.own j hj
    rw [e] at hw
    obtain ⟨g, rfl, _⟩ := own_get hw hl
    rw [e]
    rfl
  · obtain ⟨p, c', e⟩ := h.shp j hj
    have hw := h.own j hj
    rw [e] at hw
    obtain ⟨g, rfl, hg⟩ := own_get hw (by have := (List.getElem?_eq_some_iff.1 hc).1; omega)
    obtain ⟨q0, q1, q2, q3⟩ := clC_get _ k c hc
    rw [e]
    show w.cell? ⟨g, 0 + k * 4, none⟩ = some (I c.po) ∧ w.cell? ⟨g, 0 + k * 4 + 1, none⟩ = some (I c.ca) ∧ w.cell? ⟨g, 0 + k * 4 + 2, none⟩ = some (I c.cb) ∧ w.cell? ⟨g, 0 + k * 4 + 3, none⟩ = some (I c.cc)
    rw [Nat.zero_add]
    exact ⟨hg _ _ q0, hg _ _ q1, hg _ _ q2, hg _ _ q3⟩
  · obtain ⟨_, h2, h3, h4⟩ := ho.all j hj c hc
    refine ⟨?_, h3, by rw [h2]; exact ⟨by decide, by decide⟩⟩
    rcases h4 with h4 | ⟨i0, e, _⟩
    · exact ⟨by omega, by omega⟩
    · have := hR i0
      rw [e]
      exact ⟨by omega, by omega⟩
section
variable {H : Type} {enc : TypeId × Value → H} {w : World}
open Go.ChangeShapes Go.WideShapes Go.ChangeAt Go.RowKit Go.Joins Go.Deep in
set_option maxRecDepth 100000 in
/-- Calls that came in. -/
theorem calls_in {r : Reach} {b0 : Nat} {v : Value} {d : DataW H} {ps : List MemPlace} (hv : Value.okWide Try.prog w r b0 23 v) (h : DataW.Trod enc Try.prog w 0 (fun _ => true) true 23 v d ps) :
    ∃ (p : Option Addr) (b o cap : Nat) (xs : List Cl), v = .slice p xs.length cap ∧ InK w p b o xs := by
  obtain ⟨a0, len0, cap0, rfl⟩ := okWide_slice Try.underlying23 hv
  obtain ⟨fuel, hf⟩ := h
  obtain ⟨v', q, e, hq⟩ := script_in hf
  simp [Value.cells] at e
  subst e
  exact ⟨q.1, q.2.2.1, roOf q.1, q.2.1, q.2.2.2, hq.1, hq.2.1, hq.2.2.1, hq.2.2.2⟩
end
theorem InK.grows {W W' : World} {p : Option Addr} {b o : Nat} {xs : List Cl} (h : InK W p b o xs) (g : Grows W W') : InK W' p b o xs :=
  ⟨h.at_, fun k c hc => by have := h.call k c hc; exact ⟨g.cell this.1, g.cell this.2.1, g.cell this.2.2.1, g.cell this.2.2.2⟩, h.ok⟩
end Go.Proofs.Ytmmfjanbjheekaa.Gen

/- A law's last stretch: a lone walk to its return; and its end. -/
set_option linter.unusedSimpArgs false
set_option linter.unusedVariables false
namespace Go.Proofs.Ytmmfjanbjheekaa.Gen
open Go Go.Lift Go.Conc Go.RowKit

/-- Code that returns, walked alone. -/
theorem goesI_retZ {Ch : Nat → Prop} {Stop : Goroutine → World → Prop} {main : Bool} {f : FuncId} {c : Code} {act : Act} {more : List Item} {cs : List Frame} {v w : World} {Q : Act → World → Prop} (hvw : Rel zn v w) (hn : NoRow Ch v) (hc : fineCode Try.prog true LV c) (ha : act.defers = [])
    (hwp : ∀ τ, c.wp Try.prog (fun e a w' => e = .ret ∧ Q a w') act (onTape v τ 0))
    (h : ∀ a' v' w' todo, Q a' v' → a'.defers = [] → Rel zn v' w' → NoRow Ch v' → GoesI Try.prog main (DT (ScZ zn) Ch) Stop (G { (base f).at a' todo with mode := .returning } cs) w') :
    GoesI Try.prog main (DT (ScZ zn) Ch) Stop (G ((base f).at act (.code c :: more)) cs) w := by
  have hfin := lift_code (P := Try.prog) (z := zn) (wr := true) (L := LV) (D := DT (ScZ zn) Ch) (I := NoRow Ch) (main := main) (b := base f) (k := more) (cs := cs) hE fineV noRow_keeps (fun v v' w w' es hi hr ho he => dt_of_z v v' w w' es hi hr ho he) hvw hc ha (by simp [base]) hn
    (Q := fun e a w' => e = .ret ∧ Q a w') hwp (fun e a w hq => .inr hq.1)
  refine hfin.then ?_
  rintro g w' ⟨a', v', hr, hiv, hd, ⟨⟨hq, _⟩, _⟩ | ⟨⟨_, hQ⟩, todo, rfl⟩⟩
  · cases hq
  · exact h a' v' w' todo hQ hd hr hiv

theorem _root_.Go.Proofs.Ytmmfjanbjheekaa.Grows.toAt {W v w : World} (h : Grows W v) (hr : Rel zn v w) (d : Nat) : Grows W (w.at d) := by
  have e : (w.at d).heap = v.heap := hr.eq
  exact ⟨by rw [e]; exact h.size, fun b hb => by rw [e]; exact h.old b hb, hr.os.trans h.os, hr.output.trans h.output⟩
theorem _root_.Go.Proofs.Ytmmfjanbjheekaa.Grows.andThen {W v w : World} (h : Grows W v) (k : Grows v w) : Grows W w := ⟨Nat.le_trans h.size k.size, fun b hb => by rw [k.old b (by have := h.size; omega), h.old b hb], k.os.trans h.os, k.output.trans h.output⟩
def PostT (W : World) (r : Value) (w' : World) : Prop := r = .bool true ∧ Grows W w'
end Go.Proofs.Ytmmfjanbjheekaa.Gen

/- A world stays where it is, through hiring and turns. -/
set_option linter.unusedSimpArgs false
set_option linter.unusedVariables false
namespace Go.Proofs.Ytmmfjanbjheekaa.Gen
open Go Go.Lift Go.Conc Go.RowKit
/-! ### The world stays where it is -/
theorem going_wb (S : TS) (i : Nat) (t : Thr) : (going S i t).wb = S.wb := by
  unfold going
  first
    | rfl
    | (unfold picked; split <;> rfl)
    | (split <;> rfl)
theorem pturn_wb {mc : Mc} {p p' : PSt} (h : pturn mc p = some p') : p'.S.wb = p.S.wb := by
  unfold pturn at h
  split at h
  · split at h
    · cases h; rfl
    · cases h
  · cases h
    exact (resume_sta _ _ _ _ _).wb.trans (going_wb _ _ _)
theorem turns_wb {mc : Mc} {m : Nat} {p p' : PSt} (h : Turns mc m p p') : p'.S.wb = p.S.wb := by
  induction h with
  | stop _ => rfl
  | step h1 _ ih => exact ih.trans (pturn_wb h1)
theorem hires_wb {mc : Mc} {k : Nat} {ss : List (Scr mc)} {S S' : TS} {l l' : Nat → Ph} (h : Hires mc k ss S l S' l') : S'.wb = S.wb := by
  induction h with
  | nil => rfl
  | cons tv tb gc _ ih => exact ih.trans (flow_sta _ _ _ _ _ _ _).wb

end Go.Proofs.Ytmmfjanbjheekaa.Gen

/- A thread in the middle of a call: where it is (Now), and that a seat which it comes to is what Ob asks. -/
set_option linter.unusedSimpArgs false
set_option linter.unusedVariables false
namespace Go.Proofs.Ytmmfjanbjheekaa.Gen
open Go Go.Lift Go.Conc Go.RowKit
variable {mc : Mc}

/-- It goes on from a world v0 (state S0, cells K0), and is in a world v: state S (σ, but for the trace's place), cells κ; Mo is its own. -/
structure Now (X : Fix mc) (z : Nat → Option Nat) (cont : Addr → Value) (Ch : Nat → Prop) (S0 : TS) (K0 : List (Nat × Int)) (v0 : World) (Mo0 Mo : Nat → Option Obj) (σ : TS) (κ : List (Nat × Int)) (S : TS) (v w : World) (t : Thr) : Prop where
  at_ : At X z cont Ch S κ v w t
  evo : EvoP (fun b => Mo0 b ≠ none) z S0 K0 v0 S κ v
  nv : nv S = σ
  bk : S.bk = S0.bk
  mo : Has Mo v
  far : ∀ b, Mo b ≠ none → ¬ Own S κ b
  new : ∀ b, Mo b ≠ none → Mo0 b ≠ none ∨ v0.heap.size ≤ b
  row : ∀ b o, Mo b = some o → ∃ c e f, o = .cells c e f

section
variable {X : Fix mc} {z : Nat → Option Nat} {cont : Addr → Value} {Ch : Nat → Prop} {Stop : Goroutine → World → Prop} {cu : Value → Goroutine} {S0 : TS} {K0 : List (Nat × Int)} {v0 : World} {Mo0 Mo : Nat → Option Obj} {σ : TS} {κ : List (Nat × Int)} {S : TS} {v w : World} {t : Thr} {H : Nx → (Nat → Option Obj) → Goroutine → Prop}

theorem Now.good (N : Now X z cont Ch S0 K0 v0 Mo0 Mo σ κ S v w t) {x : Nx} (hx : ∀ e y, x ≠ .ans e y) : Good v0 Mo0 x Mo := ⟨hx, N.new, N.row⟩

/-- It goes on. -/
theorem Now.on (N : Now X z cont Ch S0 K0 v0 Mo0 Mo σ κ S v w t) {S' σ' : TS} {κ' : List (Nat × Int)} {v' w' : World} {t' : Thr} (e : Evo z S κ v S' κ' v') (r : Rel z v' w') (n : NoRow Ch v') (hS : Gen.nv S' = σ') (ht : S'.thr[X.i]? = some t') (htb : t'.tb = X.tb) (hgc : t'.gc = X.gc) (hbk : S'.bk = S.bk) (hok : KOk mc κ') : Now X z cont Ch S0 K0 v0 Mo0 Mo σ' κ' S' v' w' t' := by
  have kp : ∀ b, b < v.heap.size → ¬ Own S κ b → v'.heap[b]? = v.heap[b]? ∧ ¬ Own S' κ' b := fun b hb ho => (Evo.toP (Pr := fun _ => False) e).keeps hb ho (fun h => h)
  have km : ∀ (M : Nat → Option Obj), Has M v → (∀ b, M b ≠ none → ¬ Own S κ b) → Has M v' ∧ ∀ b, M b ≠ none → ¬ Own S' κ' b := fun M hM hf => by
    have h1 : ∀ b o, M b = some o → v'.heap[b]? = v.heap[b]? ∧ ¬ Own S' κ' b := fun b o hb => kp b (Array.getElem?_eq_some_iff.1 (hM b o hb)).1 (hf b (by rw [hb]; simp))
    refine ⟨fun b o hb => by rw [(h1 b o hb).1]; exact hM b o hb, fun b hb => ?_⟩
    obtain ⟨o, ho⟩ := Option.ne_none_iff_exists'.1 hb
    exact (h1 b o ho).2
  have k1 := km X.pk N.at_.pk N.at_.far
  have k2 := km Mo N.mo N.far
  exact ⟨⟨r, n, e.mem, ht, htb, hgc, ⟨e.blks.trans N.at_.kb.1, hok⟩, N.at_.z, N.at_.cont, k1.1, k1.2⟩, N.evo.trans (Evo.toP e), hS, hbk.trans N.bk, k2.1, k2.2, N.new, N.row⟩
/-- .. with nothing changed. -/
theorem Now.same (N : Now X z cont Ch S0 K0 v0 Mo0 Mo σ κ S v w t) {v' w' : World} (r : Rel z v' w') (n : NoRow Ch v') (e1 : v'.heap = v.heap) (e2 : v'.os = v.os) (e3 : v'.output = v.output) : Now X z cont Ch S0 K0 v0 Mo0 Mo σ κ S v' w' t :=
  N.on (N.at_.mem.grows ⟨by rw [e1]; exact Nat.le_refl _, fun b _ => by rw [e1], e2, e3⟩) r n N.nv N.at_.thr N.at_.tb N.at_.gc rfl N.at_.kb.2
/-- A call goes on from its seat. -/
theorem Now.here (A : At X z cont Ch S κ v w t) (hm : Has Mo v) (hf : ∀ b, Mo b ≠ none → ¬ Own S κ b) (hr : ∀ b o, Mo b = some o → ∃ c e f, o = .cells c e f) : Now X z cont Ch S κ v Mo Mo (Gen.nv S) κ S v w t :=
  ⟨A, Evo.toP (A.mem.grows ⟨Nat.le_refl _, fun _ _ => rfl, rfl, rfl⟩), rfl, rfl, hm, hf, fun b hb => .inl hb, hr⟩
theorem Now.cell (N : Now X z cont Ch S0 K0 v0 Mo0 Mo σ κ S v w t) {j cb : Nat} (h : X.kb[j]? = some cb) : κ[j]? = some (cb, (cellAt κ j).2) ∧ cellAt κ j = (cb, (cellAt κ j).2) := by
  rw [← N.at_.kb.1, List.getElem?_map, Option.map_eq_some_iff] at h
  obtain ⟨p, h1, rfl⟩ := h
  have : cellAt κ j = p := by unfold cellAt; rw [h1]; rfl
  rw [this]
  exact ⟨h1, rfl⟩

/-- A turn. -/
theorem ob_turn {op : Int} {j : Nat} {q : Q} (hob : Ob X H z cont Ch Stop cu S0 K0 v0 Mo0 σ κ (.turn op j q)) (N : Now X z cont Ch S0 K0 v0 Mo0 Mo σ κ S v w t) (g : Goroutine) (w' : World) (hg : GiveT z cont X.h S.bk t.gc (H (.turn op j q) Mo) (Then z Ch S κ v (waiting S X.i t 1 op j) κ) g w') : Stop g w' := by
  refine hob.seat 1 op j (.inl ⟨⟨q, rfl⟩, rfl⟩) g w' Mo (N.good (fun _ _ h => by cases h)) ?_
  rw [N.at_.gc, N.bk] at hg
  refine atGive_mono (fun hF => ?_) hg
  obtain ⟨v', r, n, e⟩ := hF
  have N' := N.on e r n rfl (t' := { t with st := 1, op := op, ce := j, se := _ }) (List.getElem?_set_self (List.getElem?_eq_some_iff.1 N.at_.thr).1) N.at_.tb N.at_.gc rfl N.at_.kb.2
  refine ⟨v', _, r, n, ?_, N'.evo, N'.mo, N'.far⟩
  rw [← N.nv, show thrI (Gen.nv S) X.i = t from thrI_of N.at_.thr]
  rfl
end
end Go.Proofs.Ytmmfjanbjheekaa.Gen
