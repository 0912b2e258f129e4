/-
  What the document's objects can do, as the reference tells it: the stack.
-/
import Derived.Test.YteniopbmkooomaaWith
namespace Go.Proofs.Yteniopbmkooomaa
open Go.RowKit Hi Go.Deep Go.Maps

/-- A slice holds ways: an answer, and the state then. -/
def WOuts (w : World) (v : Value) (os : List ((Int × Int) × List Int)) : Prop :=
  ∃ p, v = .slice p os.length os.length ∧ ∀ i o, os[i]? = some o → ∃ blk sv, p = some ⟨blk, 0, none⟩ ∧ w.rangeAt blk (i * 3) [I o.1.1, I o.1.2, sv] ∧ SI w sv o.2

theorem wouts_nil (w : World) : WOuts w (.slice none 0 0) [] := ⟨none, rfl, fun i o h => by simp at h⟩
theorem wouts_one {w : World} {blk : Nat} {o : (Int × Int) × List Int} {sv : Value} (h : w.rangeAt blk 0 [I o.1.1, I o.1.2, sv]) (hs : SI w sv o.2) : WOuts w (.slice (some ⟨blk, 0, none⟩) 1 1) [o] := ⟨_, rfl, fun i o' hi => by
  cases i with
  | zero => simp at hi; subst hi; exact ⟨blk, sv, rfl, by simpa using h, hs⟩
  | succ i => simp at hi⟩
theorem wouts_two {w : World} {blk : Nat} {o o2 : (Int × Int) × List Int} {sv sv2 : Value} (h : w.rangeAt blk 0 [I o.1.1, I o.1.2, sv]) (hs : SI w sv o.2) (h2 : w.rangeAt blk 3 [I o2.1.1, I o2.1.2, sv2]) (hs2 : SI w sv2 o2.2) :
    WOuts w (.slice (some ⟨blk, 0, none⟩) 2 2) [o, o2] := ⟨_, rfl, fun i o' hi => by
  match i, hi with
  | 0, hi => simp at hi; subst hi; exact ⟨blk, sv, rfl, by simpa using h, hs⟩
  | 1, hi => simp at hi; subst hi; exact ⟨blk, sv2, rfl, by simpa using h2, hs2⟩
  | i + 2, hi => simp at hi⟩

set_option maxHeartbeats 400000 in
theorem ok_any (v : Int) (w : World) : Calls Try.prog 40 #[I v] w fun e w' => e = .returned (.agg #[I 0, I v]) ∧ Below w.heap.size w w' := by
  go_enter Try.func40, Try.ntmps40
  go_wp2
  refine bodyPost_ret (v := .agg #[I 0, I v]) (by simp [results, Try.results40, go_sem]) rfl ⟨rfl, ?_⟩
  exact below_alloc (Below.refl _ _) _

theorem keep4 {u u' : World} {a1 a2 a3 a4 : Addr} {v1 v2 v3 v4 : Value} (h : u.cell? a1 = some v1 ∧ u.cell? a2 = some v2 ∧ u.cell? a3 = some v3 ∧ u.cell? a4 = some v4) (hb : Below u.heap.size u u') : u'.cell? a1 = some v1 ∧ u'.cell? a2 = some v2 ∧ u'.cell? a3 = some v3 ∧ u'.cell? a4 = some v4 :=
  ⟨kcell hb h.1, kcell hb h.2.1, kcell hb h.2.2.1, kcell hb h.2.2.2⟩
theorem keep1 {u u' : World} {a1 : Addr} {v1 : Value} (h : u.cell? a1 = some v1) (hb : Below u.heap.size u u') : u'.cell? a1 = some v1 := kcell hb h

theorem snoc_of {s : List Int} (h : s ≠ []) : ∃ r v, s = r ++ [v] := ⟨s.dropLast, s.getLast h, (List.dropLast_concat_getLast h).symm⟩

theorem si_less {w : World} {p : Option Addr} {cap : Nat} {r : List Int} {v : Int} (h : SI w (.slice p (r.length + 1) cap) (r ++ [v])) : SI w (.slice p r.length cap) r := by
  obtain ⟨p', cap', e, h1, h2, h3⟩ := h
  simp only [List.length_append, List.length_singleton] at e h1
  cases e
  exact ⟨_, _, rfl, by omega, h2, fun i a hi => h3 i a (by rw [List.getElem?_append_left (List.getElem?_eq_some_iff.1 hi).1]; exact hi)⟩

set_option maxHeartbeats 2000000 in
set_option maxRecDepth 100000 in
theorem stack_any (sv : Value) (s : List Int) (x : Ev) (w : World) (h : SI w sv s) (hn : s.length ≤ 1000000) :
    Calls Try.prog 41 #[sv, evV x] w fun e w' => ∃ v, e = .returned v ∧ WOuts w' v (wayStack s x) ∧ Below w.heap.size w w' := by
  by_cases h1 : x.op = 1
  · have e1 : wayStack s x = [((0, 0), s ++ [x.a]), ((80, 0), s)] := by unfold wayStack; rw [if_pos h1]
    rw [e1]
    have h1' : (x.op == 1) = true := by simpa using h1
    have HS : Hid (SI w sv s) := h
    obtain ⟨p, cap, rfl, hc, hm, _⟩ := h
    unfold maxLen at hm
    clear h1 e1
    go_enter Try.func41, Try.ntmps41
    go_wp2_with fail
    go_region_held3 (fun u => u.cell? ⟨w.heap.size, 2, none⟩ = some (I x.a) ∧ u.cell? ⟨w.heap.size + 1, 0, none⟩ = some (I 80) ∧ u.cell? ⟨w.heap.size + 1, 1, none⟩ = some (I 0) ∧ u.cell? ⟨w.heap.size + 1, 2, none⟩ = some (.slice p s.length cap))
      (first | (exact keep4 ‹_› ‹Below _ _ _›) | (exact keep4 ‹_› (below_alloc (Below.refl _ _) _)) | (simp [go_sem, *]; done))
      (first
        | (go_at_call 62; refine (with_any (.slice p s.length cap) s x.a _ (HS.out.later (below_drew (below_alloc (below_alloc (Below.refl _ _) _) _))) hn).mono ?_; rintro e w5 ⟨p5, c5, rfl, hsi5, hb5⟩))
    rename_i hH
    clear hH
    go_wp2_with fail
    go_ret
    have hb : Below w.heap.size w w5 := below_step (below_drew (below_alloc (below_alloc (Below.refl _ _) _) _)) hb5
    refine ⟨_, rfl, wouts_two (range_new _ _ _ _ _ rfl rfl) (hsi5.later (below_alloc (Below.refl _ _) _)) (range_new _ _ _ _ _ rfl rfl) (HS.out.later (below_alloc hb _)), below_alloc hb _⟩
  · have h1' : (x.op == 1) = false := by simpa using h1
    by_cases h2 : x.op = 2
    · have h2' : (x.op == 2) = true := by simpa using h2
      by_cases h0 : s = []
      · subst h0
        have e1 : wayStack [] x = [((90, 0), [])] := by unfold wayStack; rw [if_neg h1, if_pos h2]; rfl
        rw [e1]
        have HS : Hid (SI w sv []) := h
        obtain ⟨p, cap, rfl, hc, hm, _⟩ := h
        unfold maxLen at hm
        clear h1 h2 e1
        go_enter Try.func41, Try.ntmps41
        go_wp2_with fail
        go_ret
        exact ⟨_, rfl, wouts_one (range_new _ _ _ _ _ rfl (by simp)) (HS.out.later (below_alloc (below_alloc (Below.refl _ _) _) _)), below_alloc (below_alloc (Below.refl _ _) _) _⟩
      · obtain ⟨r, v, rfl⟩ := snoc_of h0
        have e1 : wayStack (r ++ [v]) x = [((0, v), r)] := by
          unfold wayStack; rw [if_neg h1, if_pos h2]; simp
        rw [e1]
        have HS : Hid (SI w sv (r ++ [v])) := h
        obtain ⟨p, cap, rfl, hc, hm, h3⟩ := h
        unfold maxLen at hm
        obtain ⟨blk, off, rfl, hlb, hr⟩ := h3 r.length v (by simp)
        have hv : w.cell? ⟨blk, off + r.length, none⟩ = some (I v) := by simpa using hr 0 (I v) rfl
        simp only [List.length_append, List.length_singleton] at hc hn HS ⊢
        generalize hm' : r.length = m at hc hn HS hv ⊢
        have hl0 : (((m + 1 : Nat) : Int) == 0) = false := by simp; omega
        have hl1 : ((m : Int) + 1 == 0) = false := by simp; omega
        have hi1 : (0 : Int) ≤ (m : Int) := by omega
        have hi2 : (m : Int) ≤ (m : Int) + 1 := by omega
        have hi3 : (m : Int) < (m : Int) + 1 := by omega
        have hi4 : (m : Int) ≤ (cap : Int) := by omega
        have hi5 : (m : Int) + 1 - 1 = m := by omega
        have hw1 : IntKind.i64.wrap ((m : Int) + 1 - 1) = m := by rw [IntKind.wrap_i64]; omega
        have hw2 : IntKind.i64.wrap (m : Int) = m := by rw [IntKind.wrap_i64]; omega
        have hw3 : IntKind.i64.wrap (((m + 1 : Nat) : Int) - 1) = m := by rw [IntKind.wrap_i64]; omega
        have HM : Hid (r.length = m) := hm'
        clear h1 h2 e1 h3 hr h0 hm'
        go_enter Try.func41, Try.ntmps41
        go_wp2_with fail
        go_region_held3 (fun u => u.cell? ⟨blk, off + m, none⟩ = some (I v))
          (first | (exact keep1 ‹_› ‹Below _ _ _›) | (exact keep1 ‹_› (below_alloc (Below.refl _ _) _)) | (simp [go_sem, *]; done))
          (first
            | (go_at_call 40; refine (ok_any v _).mono ?_; rintro e w5 ⟨rfl, hb5⟩))
        rename_i hH
        clear hH
        go_wp2_with fail
        go_ret
        have hb : Below w.heap.size w w5 := below_step (below_drew (below_alloc (Below.refl _ _) _)) hb5
        have hsi : SI w (.slice (some ⟨blk, off, none⟩) m cap) r := by
          have := si_less (r := r) (v := v) (p := some ⟨blk, off, none⟩) (cap := cap) (w := w) (by rw [HM.out]; exact HS.out)
          rwa [HM.out] at this
        exact ⟨_, rfl, wouts_one (o := ((0, v), r)) (sv := .slice (some ⟨blk, off, none⟩) m cap) (range_new _ _ _ _ _ rfl rfl) (hsi.later (below_alloc hb _)), below_alloc hb _⟩
    · have e1 : wayStack s x = [] := by unfold wayStack; rw [if_neg h1, if_neg h2]
      rw [e1]
      have h2' : (x.op == 2) = false := by simpa using h2
      obtain ⟨p, cap, rfl, hc, hm, _⟩ := h
      unfold maxLen at hm
      clear h1 h2 e1
      go_enter Try.func41, Try.ntmps41
      go_wp2_with fail
      go_ret
      exact ⟨_, rfl, wouts_nil _, below_alloc (Below.refl _ _) _⟩

end Go.Proofs.Yteniopbmkooomaa
