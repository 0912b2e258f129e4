/- ChainRing: of a ring the last who writes down is told, under every schedule. Part 37 of 37. (Joined, by program, of: La3e, La3g, La3Row.) -/
import Derived.Test.YtfjjoohflcchnaaChainRing29
import Derived.Test.YtfjjoohflcchnaaChainRing30
import Derived.Test.YtfjjoohflcchnaaChainRing36
import Derived.Test.YtfjjoohflcchnaaRows
set_option linter.unusedSimpArgs false
set_option linter.unusedVariables false
namespace Go.Proofs.Ytfjjoohflcchnaa.Gen
open Go Go.Lift Go.Conc Go.RowKit

noncomputable def B3_0 : Code := .seq q3_3 (.block 0 K3_0)
noncomputable def B3_14 : Code := .seq q3_14 (.cond ( .tmp 69 ) (.seq q3_15 .ret) .skip)
noncomputable def B3_4 : Code := .seq q3_17 (.block 4 K3_4)
noncomputable def B3_6 : Code := .seq q3_22 (.block 6 K3_6)
noncomputable def P3 : Code := .seq q3_2 (.seq B3_0 (.seq B3_14 (.seq q3_16 (.seq B3_4 (.seq B3_6 (.seq q3_29 (.seq q3_30 T3)))))))
theorem eC3 : C3 = .seq q3_0 (.seq q3_1 P3) := e3
theorem fine_q3_2 : fineCode Try.prog true LV q3_2 := fineCode_askS callV extT (by kernel_rfl)
theorem fine_B3_0 : fineCode Try.prog true LV B3_0 := fineCode_askS callV extT (by kernel_rfl)
theorem fine_B3_14 : fineCode Try.prog true LV B3_14 := fineCode_askS callV extT (by kernel_rfl)
theorem fine_q3_16 : fineCode Try.prog true LV q3_16 := fineCode_askS callV extT (by kernel_rfl)
theorem fine_B3_4 : fineCode Try.prog true LV B3_4 := fineCode_askS callV extT (by kernel_rfl)
theorem fine_B3_6 : fineCode Try.prog true LV B3_6 := fineCode_askS callV extT (by kernel_rfl)
theorem fine_q3_29 : fineCode Try.prog true LV q3_29 := fineCode_askS callV extT (by kernel_rfl)
set_option maxHeartbeats 4000000 in
set_option maxRecDepth 100000 in
theorem q3_29_wp {v : World} {a : Act} {s1 : Value} (p : Option Addr) (cap vb vo : Nat) (xs : List Int) (hp : 0 < xs.length → p = some ⟨vb, vo, none⟩) (hx1 : xs.length ≤ 17592186043904) (hv : ∀ k x, xs[k]? = some x → v.cell? ⟨vb, vo + k, none⟩ = some (I x)) (hA : Fl 254 [(0, .slice p xs.length cap), (9, .bool true), (15, s1)] a) :
    q3_29.wp Try.prog (fun e a w' => e = .normal ∧ ∃ wb bk sc, Fl 254 [(9, .bool true), (15, s1), (20, Pt wb 0)] a ∧ IsNew v xs wb bk sc w') a v := by
  have H7 : Hid (Calls Try.prog 18 #[.slice p xs.length cap] v _) := ⟨(body7A p vb vo cap xs hp hx1 hv).calls Try.func18 rfl⟩
  clear hp hx1 hv
  obtain ⟨hsz, hd, hp⟩ := hA
  obtain ⟨u, rfl, hg⟩ := litN hsz hd
  simp only [List.forall_mem_cons, hg] at hp
  obtain ⟨u0, u9, u15, -⟩ := hp
  clear hg hsz hd
  unfold q3_29 C3 Try.f15 seq2 seq1
  simp only [Option.getD_some, lits, Nat.reduceAdd, u0, u9, u15]
  clear u0 u9 u15
  go_wp2_with (first
    | (go_at_call 18; refine H7.out.mono ?_; rintro e w1 ⟨_, rfl, wb, bk, sc, rfl, hnew⟩))
  exact ⟨wb, ⟨rfl, rfl, by
    intro p hp
    simp only [List.mem_cons, List.not_mem_nil, or_false] at hp
    rcases hp with rfl | rfl | rfl <;> rfl⟩, bk, sc, hnew⟩

set_option maxHeartbeats 4000000 in
set_option maxRecDepth 100000 in
theorem law3_in {Ch : Nat → Prop} {Stop : Goroutine → World → Prop} {main : Bool} {w : World} (x0 x1 x2 x3 : Value)
    (hk : ∀ (w' : World) (bd : Frame) (ad : Act) (od : Array Oper) (qd : Nat) (rd : List Nat) (oe : Oper) (kd : List Item), (∃ d, w' = w.at d) → od[qd]? = some oe →
      (∀ (Ch : Nat → Prop) (Stop : Goroutine → World → Prop) (w1 : World), (∀ a, Fl 254 [(0, x0), (1, x1), (2, x2), (3, x3), (9, .bool true)] a → GoesI Try.prog main (DT (ScZ zn) Ch) Stop (G ((base 15).at a [.code P3]) []) w1) → GoesI Try.prog main (DT (ScZ zn) Ch) Stop (G (bd.at (ad.put oe.dst (.bool true)) (.inRegion od rd :: kd)) []) w1) →
      GoesI Try.prog main (DT (ScZ zn) Ch) Stop (G ((base 50).at { tmps := Array.replicate 89 undef, defers := [] } [.code hwB]) [bd.at ad (.inRegion od (qd :: rd) :: kd)]) w') :
    GoesI Try.prog main (DT (ScZ zn) Ch) Stop (G ((base 15).at { tmps := #[x0, x1, x2, x3] ++ Array.replicate 250 undef, defers := [] } [.code C3]) []) w := by
  rw [eC3]
  simp only [Array.replicate_succ, Array.replicate_zero, List.push_toArray, List.append_toArray, List.nil_append, List.cons_append]
  refine goesI_seq (dt_idle _ _) ?_
  generalize hR : P3 = R9 at hk ⊢
  unfold q3_0 q3_1 C3 Try.f15 seq1 seq2
  simp only [Option.getD_some]
  refine goesI_region (dt_idle _ _) ?_
  simp only [List.size_toArray, List.length_cons, List.length_nil, Nat.reduceAdd, Nat.zero_add, List.range, List.range.loop]
  iterate 1
    (refine goesI_oper rfl rfl (by decide) (fun d K hK => ?_)
     go_simp
     refine hK _ _ ⟨dt_reads (fun e he => ?_), GoesI.at ?_ d⟩
     · have hm := mem_listed he
       simp [go_sem, *] at hm
       try exact ⟨_, _, hm⟩
     clear hK K)
  refine goesI_regionEnd (dt_idle _ _) ?_
  refine goesI_seq (dt_idle _ _) ?_
  refine goesI_region (dt_idle _ _) ?_
  simp only [List.size_toArray, List.length_cons, List.length_nil, Nat.reduceAdd, Nat.zero_add, List.range, List.range.loop]
  refine goesI_into (f := 50) (fn := Try.f50) (args := #[]) (dt_idle _ _) rfl rfl (by decide) rfl (by simp [Act.eval]) Try.func50 (by decide) rfl ?_
  refine hk w _ _ _ _ _ _ _ ⟨w.drawn, rfl⟩ rfl (fun Ch Stop w1 hg => ?_)
  clear hk
  iterate 1
    (refine goesI_oper rfl rfl (by decide) (fun d K hK => ?_)
     go_simp
     refine hK _ _ ⟨dt_reads (fun e he => ?_), GoesI.at ?_ d⟩
     · have hm := mem_listed he
       simp [go_sem, *] at hm
       try exact ⟨_, _, hm⟩
     clear hK K)
  refine goesI_regionEnd (dt_idle _ _) ?_
  exact hg _ ⟨rfl, rfl, by
    intro p hp
    simp only [List.mem_cons, List.not_mem_nil, or_false] at hp
    rcases hp with rfl | rfl | rfl | rfl | rfl <;> rfl⟩

theorem end3 {a : Act} {todo : List Item} {w : World} (hd : a.defers = []) (h4 : a.tmps.getD 8 undef = .bool true) : stepG Try.prog true (G { (base 15).at a todo with mode := .returning } []) w = .ended (.done (.bool true)) w #[] := by
  have hr : (results Try.f15 a.tmps).run Try.prog w = .ok (.bool true) w := by rw [results_tmp (t := 8) rfl, h4]
  have he : (results Try.f15 a.tmps).events Try.prog w #[] = #[] := by simp [results, go_sem, Try.f15]
  simp [G, stepG, unwind, Frame.at, hd, Try.func15, base, hr, he, doReturn, GStep.after, seen]
/-- All is made for Play. -/
structure Rdy (W u : World) (xs : List Int) (Sb wb bk : Nat) (sc : Value) (pc : Nat → Option Addr) (ln cp rb : Nat → Nat) (cl : Nat → List Cl) (v' : World) : Prop where
  gr : Grows W u
  ins : InS u (some ⟨Sb, 0, none⟩) Sb 0 4 pc ln cp rb cl
  len : ∀ j, j < 4 → ln j ≤ 64
  ring : ∃ R, Rg 4 20 R cl
  new : IsNew u xs wb bk sc v'
theorem gr_tape (v : World) (τ : Tape) : Grows v (onTape v τ 0) := ⟨Nat.le_refl _, fun _ _ => rfl, rfl, rfl⟩

set_option maxHeartbeats 4000000 in
set_option maxRecDepth 100000 in
theorem law3_b {Ch : Nat → Prop} {Stop : Goroutine → World → Prop} {main : Bool} {v w : World} {p0 p1 p2 p3 : Option Addr} {b0 o0 c0 b1 o1 c1 b2 o2 c2 b3 o3 c3 : Nat} {xs pk se : List Int} {ns : List Cl} (i0 : InI v p0 b0 o0 xs) (i1 : InI v p1 b1 o1 pk) (i2 : InI v p2 b2 o2 se) (i3 : InK v p3 b3 o3 ns) (hvw : Rel zn v w) (hn : NoRow Ch v)
    (hend : ∀ a' v' w' todo, Rel zn v' w' → Grows v v' → a'.defers = [] → a'.tmps.getD 8 undef = .bool true → GoesI Try.prog main (DT (ScZ zn) Ch) Stop (G { (base 15).at a' todo with mode := .returning } []) w')
    (hk : ∀ (u v' w' : World) (Sb wb bk : Nat) (sc : Value) (pc : Nat → Option Addr) (ln cp rb : Nat → Nat) (cl : Nat → List Cl) (bd : Frame) (ad : Act) (od : Array Oper) (qd : Nat) (rd : List Nat) (oe : Oper) (kd : List Item), Rel zn v' w' → NoRow Ch v' → Rdy v u xs Sb wb bk sc pc ln cp rb cl v' → od[qd]? = some oe →
      (∀ (Ch : Nat → Prop) (Stop : Goroutine → World → Prop) (w2 : World) (A : Value) (E : Int), (∀ a, Fl 254 [(9, .bool true), (15, .slice (some ⟨Sb, 0, none⟩) 4 4), (20, Pt wb 0), (21, A), (22, I E)] a → GoesI Try.prog main (DT (ScZ zn) Ch) Stop (G ((base 15).at a [.code T3]) []) w2) →
        GoesI Try.prog main (DT (ScZ zn) Ch) Stop (G (bd.at (ad.put oe.dst (.tuple #[A, I E])) (.inRegion od rd :: kd)) []) w2) →
      GoesI Try.prog main (DT (ScZ zn) Ch) Stop (G ((base 52).at { tmps := #[Pt wb 0, I 20, .slice (some ⟨Sb, 0, none⟩) 4 4] ++ Array.replicate 25 undef, defers := [] } [.code B8c]) [bd.at ad (.inRegion od (qd :: rd) :: kd)]) w') :
    ∀ a, Fl 254 [(0, .slice p0 xs.length c0), (1, .slice p1 pk.length c1), (2, .slice p2 se.length c2), (3, .slice p3 ns.length c3), (9, .bool true)] a → GoesI Try.prog main (DT (ScZ zn) Ch) Stop (G ((base 15).at a [.code P3]) []) w := by
  intro a0 hA0
  unfold P3
  refine goesI_seq (dt_idle _ _) ?_
  refine goesI_plain (z := zn) (wr := true) (L := LV) (I := NoRow Ch) hE fineV noRow_keeps (fun v v' w w' es hi hr ho he => dt_of_z v v' w w' es hi hr ho he) hvw fine_q3_2 hA0.2.1 (by simp [base]) hn
    (Q := fun a w' => Fl 254 [(0, .slice p0 xs.length c0), (1, .slice p1 pk.length c1), (2, .slice p2 se.length c2), (3, .slice p3 ns.length c3), (9, .bool true), (10, .slice none 0 0)] a ∧ Grows v w') (fun τ => wp_mono (p3_2 (v := onTape v τ 0) hA0) (fun e a w' hq => ⟨hq.1, hq.2.1, by rw [hq.2.2]; exact gr_tape v τ⟩)) ?_
  rintro a1 v1 w1 ⟨hA1, g1⟩ hr1 hn1 -
  refine goesI_seq (dt_idle _ _) ?_
  refine goesI_plain (z := zn) (wr := true) (L := LV) (I := NoRow Ch) hE fineV noRow_keeps (fun v v' w w' es hi hr ho he => dt_of_z v v' w w' es hi hr ho he) hr1 fine_B3_0 hA1.2.1 (by simp [base]) hn1
    (Q := fun a w' => ∃ R lp lc, Fl 254 [(0, .slice p0 xs.length c0), (1, .slice p1 pk.length c1), (2, .slice p2 se.length c2), (3, .slice p3 ns.length c3), (9, .bool true), (10, .slice lp R.length lc)] a ∧ RgI v1 (.slice lp R.length lc) R w' ∧ R.length ≤ 12) (fun τ => la3_ring (v0 := onTape v1 τ 0) ((i1.grows g1).grows (gr_tape v1 τ)) hA1 (fun a' u' R lp lc h1 h2 h3 => ⟨rfl, R, lp, lc, h1, (show RgI v1 (.slice lp R.length lc) R u' from ⟨h2.own, ⟨h2.gr.size, h2.gr.old, h2.gr.os, h2.gr.output⟩, h2.nd, h2.lt⟩), h3⟩)) ?_
  rintro a2 v2 w2 ⟨R, lp, lc, hA2, hR, h12⟩ hr2 hn2 -
  have g2 : Grows v v2 := grow_trans g1 hR.gr
  refine goesI_seq (dt_idle _ _) ?_
  by_cases hR0 : R.length = 0
  · refine goesI_retZ (Q := fun a w' => Fl 254 [(8, .bool true)] a ∧ Grows v2 w') hr2 hn2 fine_B3_14 hA2.2.1 (fun τ => ?_) (fun a' v' w' todo hQ hd hr hn' => hend a' v' w' todo hr (grow_trans g2 hQ.2) hd (hQ.1.at 8 (.bool true) (by simp)))
    unfold B3_14
    refine wp_then (p3_14 hA2) fun a3 w3 h => ?_
    obtain ⟨h3, rfl⟩ := h
    refine wp_cond_true (h3.hd (by simp [hR0])) ?_
    refine wp_then (p3_15 (h3.sub (by simp))) fun a4 w4 h => ?_
    obtain ⟨h4, rfl⟩ := h
    exact wp_ret ⟨rfl, h4, gr_tape v2 τ⟩
  refine goesI_plain (z := zn) (wr := true) (L := LV) (I := NoRow Ch) hE fineV noRow_keeps (fun v v' w w' es hi hr ho he => dt_of_z v v' w w' es hi hr ho he) hr2 fine_B3_14 hA2.2.1 (by simp [base]) hn2
    (Q := fun a w' => Fl 254 [(0, .slice p0 xs.length c0), (1, .slice p1 pk.length c1), (2, .slice p2 se.length c2), (3, .slice p3 ns.length c3), (9, .bool true), (10, .slice lp R.length lc)] a ∧ Grows v2 w') (fun τ => by
      unfold B3_14
      refine wp_then (p3_14 hA2) fun a3 w3 h => ?_
      obtain ⟨h3, rfl⟩ := h
      exact wp_cond_false (h3.hf (by rw [beq_eq_false_iff_ne]; omega)) (wp_skip ⟨rfl, h3.tl, gr_tape v2 τ⟩)) ?_
  rintro a3 v3 w3 ⟨hA3, g3⟩ hr3 hn3 -
  obtain ⟨g, hg, hgc⟩ := own_get hR.own (by omega)
  subst hg
  have hRc : ∀ j x, R[j]? = some x → v3.cell? ⟨g, j, none⟩ = some (I (x : Nat)) := fun j x hx => g3.cell (hgc j _ (by simp [rgV, hx]))
  have hr12 : ∀ j, rg R j < 12 := fun j => hR.lt _ (rg_mem (by omega) j)
  have g3' : Grows v v3 := grow_trans g2 g3
  refine goesI_seq (dt_idle _ _) ?_
  refine goesI_plain (z := zn) (wr := true) (L := LV) (I := NoRow Ch) hE fineV noRow_keeps (fun v v' w w' es hi hr ho he => dt_of_z v v' w w' es hi hr ho he) hr3 fine_q3_16 hA3.2.1 (by simp [base]) hn3
    (Q := fun a w' => Fl 254 [(0, .slice p0 xs.length c0), (1, .slice p1 pk.length c1), (2, .slice p2 se.length c2), (3, .slice p3 ns.length c3), (9, .bool true), (10, .slice (some ⟨g, 0, none⟩) R.length lc), (15, .slice (some ⟨v3.heap.size, 0, none⟩) 4 4)] a ∧ Scs v3 v3.heap.size (fun _ => .slice none 0 0) (fun _ => []) w') (fun τ => wp_mono (p3_16 (v := onTape v3 τ 0) hA3) (fun e a w' hq => ⟨hq.1, hq.2.1, by
      have hw := hq.2.2
      have hm := World.rowIs_made (onTape v3 τ 0) (.slice none 0 0) 4 37
      rw [← hw] at hm
      refine ⟨hm, Nat.le_refl _, ⟨by rw [hw, size_alloc]; exact Nat.le_succ _, fun b hb => by rw [hw]; show (v3.heap.push _)[b]? = _; rw [Array.getElem?_push, if_neg (by omega)], by rw [hw]; rfl, by rw [hw]; rfl⟩, fun t ht => World.ownsRow_nil _ _ _ _, fun t ht => ⟨none, 0, rfl⟩, fun t t' _ _ _ g hg => (by cases hg), fun t ht hg => (by cases hg)⟩⟩)) ?_
  rintro a4 v4 w4 ⟨hA4, hS4⟩ hr4 hn4 -
  refine goesI_seq (dt_idle _ _) ?_
  have hO4 : Ops R (fun _ => []) 0 0 := ⟨fun t ht => Nat.le_refl _, fun t ht c hc => (by cases hc), fun i0 h => by omega⟩
  refine goesI_plain (z := zn) (wr := true) (L := LV) (I := NoRow Ch) hE fineV noRow_keeps (fun v v' w w' es hi hr ho he => dt_of_z v v' w w' es hi hr ho he) hr4 fine_B3_4 hA4.2.1 (by simp [base]) hn4
    (Q := fun a w' => ∃ rows ops, Fl 254 [(0, .slice p0 xs.length c0), (1, .slice p1 pk.length c1), (2, .slice p2 se.length c2), (3, .slice p3 ns.length c3), (9, .bool true), (10, .slice (some ⟨g, 0, none⟩) R.length lc), (15, .slice (some ⟨v3.heap.size, 0, none⟩) 4 4)] a ∧ Scs v3 v3.heap.size rows ops w' ∧ Ops R ops 0 20) (fun τ => la3_noise (i3.grows g3') (hS4.same (gr_tape v4 τ)) hO4 hA4 (fun a' u' rows ops h1 h2 h3 => ⟨rfl, rows, ops, h1, h2, h3⟩)) ?_
  rintro a5 v5 w5 ⟨rows5, ops5, hA5, hS5, hO5⟩ hr5 hn5 -
  refine goesI_seq (dt_idle _ _) ?_
  refine goesI_plain (z := zn) (wr := true) (L := LV) (I := NoRow Ch) hE fineV noRow_keeps (fun v v' w w' es hi hr ho he => dt_of_z v v' w w' es hi hr ho he) hr5 fine_B3_6 hA5.2.1 (by simp [base]) hn5
    (Q := fun a w' => ∃ rows ops, Fl 254 [(0, .slice p0 xs.length c0), (1, .slice p1 pk.length c1), (2, .slice p2 se.length c2), (3, .slice p3 ns.length c3), (9, .bool true), (10, .slice (some ⟨g, 0, none⟩) R.length lc), (15, .slice (some ⟨v3.heap.size, 0, none⟩) 4 4)] a ∧ Scs v3 v3.heap.size rows ops w' ∧ Ops R ops R.length 32) (fun τ => la3_calls (i2.grows g3') (by omega) h12 hR.lt hRc (hS5.same (gr_tape v5 τ)) hO5 hA5 (fun a' u' rows ops h1 h2 h3 => ⟨rfl, rows, ops, h1, h2, h3⟩)) ?_
  rintro a6 v6 w6 ⟨rows, ops, hA6, hS6, hO6⟩ hr6 hn6 -
  have g6 : Grows v v6 := grow_trans g3' hS6.gr
  have hins := scs_in hS6 hO6 hr12
  have hrg : Rg 4 20 R ops := ops_rg (by omega) h12 hR.nd hR.lt hO6
  refine goesI_seq (dt_idle _ _) ?_
  refine goesI_plain (z := zn) (wr := true) (L := LV) (I := NoRow Ch) hE fineV noRow_keeps (fun v v' w w' es hi hr ho he => dt_of_z v v' w w' es hi hr ho he) hr6 fine_q3_29 hA6.2.1 (by simp [base]) hn6
    (Q := fun a w' => ∃ wb bk sc, Fl 254 [(9, .bool true), (15, .slice (some ⟨v3.heap.size, 0, none⟩) 4 4), (20, Pt wb 0)] a ∧ IsNew v6 xs wb bk sc w') (fun τ => wp_mono (q3_29_wp (v := onTape v6 τ 0) (s1 := .slice (some ⟨v3.heap.size, 0, none⟩) 4 4) p0 c0 b0 o0 xs i0.at_ i0.len (i0.grows g6).cell (hA6.sub (by simp))) (fun e a w' hq => ⟨hq.1, by
      obtain ⟨_, wb, bk, sc, h1, h2⟩ := hq
      exact ⟨wb, bk, sc, h1, h2.mem, h2.opn, h2.new, ⟨h2.old.size, h2.old.old, h2.old.os, h2.old.output⟩⟩⟩)) ?_
  rintro a7 v7 w7 ⟨wb, bk, sc, hB, hnew⟩ hr7 hn7 -
  have hrdy : Rdy v v6 xs v3.heap.size wb bk sc (fun j => slP (rows j)) (fun j => (ops j).length) (fun j => slC (rows j)) (fun j => ((rows j).ownBlock).getD 0) ops v7 := ⟨g6, hins, fun j hj => by have := hO6.len j hj; show (ops j).length ≤ 64; omega, ⟨R, hrg⟩, hnew⟩
  generalize v3.heap.size = Sb at hB hrdy
  obtain ⟨hsz, hd, hpp⟩ := hB
  obtain ⟨u, rfl, hg⟩ := litN hsz hd
  simp only [List.forall_mem_cons, hg] at hpp
  obtain ⟨u9, u15, u20, -⟩ := hpp
  clear hg hsz hd hA0 hA1 hA2 hA3 hA4 hA5 hA6
  refine goesI_seq (dt_idle _ _) ?_
  clear hvw hn hnew hend i0 i1 i2 i3 hS4 hS5 hS6 hO4 hO5 hO6 hins hrg hRc hgc
  generalize hT : T3 = T at hk ⊢
  unfold q3_30 C3 Try.f15 seq1 seq2
  simp only [Option.getD_some, lits, Nat.reduceAdd, u9, u15, u20]
  clear u9 u15 u20
  refine goesI_region (dt_idle _ _) ?_
  simp only [List.size_toArray, List.length_cons, List.length_nil, Nat.reduceAdd, Nat.zero_add, List.range, List.range.loop]
  iterate 2
    (refine goesI_oper rfl rfl (by decide) (fun d K hK => ?_)
     go_simp
     refine hK _ _ ⟨dt_reads (fun e he => ?_), GoesI.at ?_ d⟩
     · have hm := mem_listed he
       simp [go_sem, *] at hm
       try exact ⟨_, _, hm⟩
     clear hK K)
  refine goesI_into (f := 52) (fn := Try.f52) (args := #[Pt wb 0, I 20, .slice (some ⟨Sb, 0, none⟩) 4 4]) (dt_idle _ _) rfl rfl (by decide) rfl (by simp [Act.eval]) Try.func52 (by decide) rfl ?_
  refine hk v6 v7 w7 Sb wb bk sc _ _ _ _ _ _ _ _ _ _ _ _ hr7 hn7 hrdy rfl (fun Ch Stop w2 A E hwp => ?_)
  clear hk hrdy hr7 hn7
  iterate 5
    (refine goesI_oper rfl rfl (by decide) (fun d K hK => ?_)
     go_simp
     refine hK _ _ ⟨dt_reads (fun e he => ?_), GoesI.at ?_ d⟩
     · have hm := mem_listed he
       simp [go_sem, *] at hm
       try exact ⟨_, _, hm⟩
     clear hK K)
  refine goesI_regionEnd (dt_idle _ _) ?_
  exact hwp _ ⟨rfl, rfl, by
    intro p hp
    simp only [List.mem_cons, List.not_mem_nil, or_false] at hp
    rcases hp with rfl | rfl | rfl | rfl | rfl <;> rfl⟩

/-- Play has answered. -/
theorem law3_yes {Ch : Nat → Prop} {Stop : Goroutine → World → Prop} {main : Bool} {v w : World} {a : Act} {S : TS} {Sb M : Nat} {A ln cp rb ro : Nat → Nat} {pc : Nat → Option Addr} {cl : Nat → List Cl} {l : Nat → Ph} {L : List Stp}
    (hS : SL 4 Sb 0 ln cp rb ro pc cl v) (hL : AL 4 M A ln l v) (hR : Rep zn S v) (htr : S.tr = flat L) (hSn : S.n = L.length) (hs4 : S.n ≤ 4000000) (hst : StsR 4 20 cl rh0 L)
    (hlast : ∃ i k, i < 4 ∧ (repH cl L).last = some (i, k) ∧ k < (cl i).length ∧ (l i).ans[k]? = some (0, 1)) (hvw : Rel zn v w) (hn : NoRow Ch v)
    (hA : Fl 254 [(9, .bool true), (15, .slice (some ⟨Sb, 0, none⟩) 4 4), (20, Pt S.wb 0), (21, .slice (some ⟨M, 0, none⟩) 4 4), (22, I 0)] a)
    (hend : ∀ a' v' w' todo, Rel zn v' w' → Grows v v' → a'.defers = [] → a'.tmps.getD 8 undef = .bool true → GoesI Try.prog main (DT (ScZ zn) Ch) Stop (G { (base 15).at a' todo with mode := .returning } []) w') :
    GoesI Try.prog main (DT (ScZ zn) Ch) Stop (G ((base 15).at a [.code T3]) []) w :=
  goesI_retZ (Q := fun a w' => Fl 254 [(8, .bool true)] a ∧ Kq v.heap.size v w') hvw hn fine_T3 hA.2.1 (fun τ => wp_mono (tail3 (v := onTape v τ 0) (hS.go (Kq.same rfl rfl rfl)) (hL.go (Kq.same rfl rfl rfl)) (hR.same (v' := onTape v τ 0) rfl) htr hSn hs4 hst hlast hA) (fun e a w' hq => ⟨hq.1, hq.2.1, hq.2.2.os, hq.2.2.out, hq.2.2.size, hq.2.2.old⟩)) (fun a' v' w' todo hQ hd hr hn' => hend a' v' w' todo hr (hQ.2.grows (Nat.le_refl _)) hd (hQ.1.at 8 (.bool true) (by simp)))
end Go.Proofs.Ytfjjoohflcchnaa.Gen

namespace Go.Proofs.Ytfjjoohflcchnaa.Gen
open Go Go.Lift Go.Conc Go.RowKit


set_option maxHeartbeats 2000000 in
theorem run3 (W : World) {p0 p1 p2 p3 : Option Addr} {b0 o0 c0 b1 o1 c1 b2 o2 c2 b3 o3 c3 : Nat} {xs pk se : List Int} {ns : List Cl} (i0 : InI W p0 b0 o0 xs) (i1 : InI W p1 b1 o1 pk) (i2 : InI W p2 b2 o2 se) (i3 : InK W p3 b3 o3 ns) :
    ∃ M last o w' t', runNT Try.prog (M + 1) (solo (G (Frame.enter Try.prog 15 #[.slice p0 xs.length c0, .slice p1 pk.length c1, .slice p2 se.length c2, .slice p3 ns.length c3] .normal) []) W) #[] = (.ended o w', t') ∧
      runN Try.prog M (solo (G (Frame.enter Try.prog 15 #[.slice p0 xs.length c0, .slice p1 pk.length c1, .slice p2 se.length c2, .slice p3 ns.length c3] .normal) []) W) = .next last ∧ step Try.prog last = .ended o w' ∧ Go.Conc.Good Try.prog (PostT W) last o w' t' := by
  have e : Frame.enter Try.prog 15 #[.slice p0 xs.length c0, .slice p1 pk.length c1, .slice p2 se.length c2, .slice p3 ns.length c3] .normal = (base 15).at { tmps := #[.slice p0 xs.length c0, .slice p1 pk.length c1, .slice p2 se.length c2, .slice p3 ns.length c3] ++ Array.replicate 250 undef, defers := [] } [.code C3] := enter_at (fn := Try.f15) (c := C3) _ Try.func15 (by rfl)
  rw [e, solo_eq_crowd]
  have A : Alone #[G ((base 15).at { tmps := #[.slice p0 xs.length c0, .slice p1 pk.length c1, .slice p2 se.length c2, .slice p3 ns.length c3] ++ Array.replicate 250 undef, defers := [] } [.code C3]) []] W #[] (fun _ => 0) := ⟨leavers_one _ _, 0, Nat.zero_le _, past_nil⟩
  -- to awake
  obtain ⟨N1, gs1, a1, w1, sl1, T1, q1, r1, z1, h1, ⟨bd, ad, od, qd, rd, oe, kd, ⟨d1, rfl⟩, hoe, hback, rfl⟩, A1⟩ := alone_goes A rfl none (Stop := fun g w' => ∃ (bd : Frame) (ad : Act) (od : Array Oper) (qd : Nat) (rd : List Nat) (oe : Oper) (kd : List Item), (∃ d, w' = W.at d) ∧ od[qd]? = some oe ∧
      (∀ (Ch : Nat → Prop) (Stop : Goroutine → World → Prop) (w1 : World), (∀ a, Fl 254 [(0, .slice p0 xs.length c0), (1, .slice p1 pk.length c1), (2, .slice p2 se.length c2), (3, .slice p3 ns.length c3), (9, .bool true)] a → GoesI Try.prog true (DT (ScZ zn) Ch) Stop (G ((base 15).at a [.code P3]) []) w1) → GoesI Try.prog true (DT (ScZ zn) Ch) Stop (G (bd.at (ad.put oe.dst (.bool true)) (.inRegion od rd :: kd)) []) w1) ∧
      g = G ((base 50).at { tmps := Array.replicate 89 undef, defers := [] } [.code hwB]) [bd.at ad (.inRegion od (qd :: rd) :: kd)])
    (law3_in _ _ _ _ (fun w' bd ad od qd rd oe kd hw ho hback => GoesI.stop fun d => ⟨bd, ad, od, qd, rd, oe, kd, by obtain ⟨d0, rfl⟩ := hw; exact ⟨d, rfl⟩, ho, hback, rfl⟩))
  obtain ⟨N2, gs2, w2, sl2, T2, q2, r2, h2, A2, g2⟩ := hawake_all hoe sl1 A1 h1
  have g2' : Grows W w2 := ⟨g2.size, g2.old, g2.os, g2.output⟩
  -- to Play, or to the end
  obtain ⟨N3, gs3, a3, w3, sl3, T3', q3, r3, z3, h3, hst3, A3⟩ := alone_goes A2 h2 sl2 (Stop := fun g w' => (∃ (u : World) (Sb wb bk : Nat) (sc : Value) (pc : Nat → Option Addr) (ln cp rb : Nat → Nat) (cl : Nat → List Cl) (bd : Frame) (ad : Act) (od : Array Oper) (qd : Nat) (rd : List Nat) (oe : Oper) (kd : List Item), Rdy w2 u xs Sb wb bk sc pc ln cp rb cl w' ∧ od[qd]? = some oe ∧
      (∀ (Ch : Nat → Prop) (Stop : Goroutine → World → Prop) (w2 : World) (A : Value) (E : Int), (∀ a, Fl 254 [(9, .bool true), (15, .slice (some ⟨Sb, 0, none⟩) 4 4), (20, Pt wb 0), (21, A), (22, I E)] a → GoesI Try.prog true (DT (ScZ zn) Ch) Stop (G ((base 15).at a [.code T3]) []) w2) →
        GoesI Try.prog true (DT (ScZ zn) Ch) Stop (G (bd.at (ad.put oe.dst (.tuple #[A, I E])) (.inRegion od rd :: kd)) []) w2) ∧
      g = G ((base 52).at { tmps := #[Pt wb 0, I 20, .slice (some ⟨Sb, 0, none⟩) 4 4] ++ Array.replicate 25 undef, defers := [] } [.code B8c]) [bd.at ad (.inRegion od (qd :: rd) :: kd)]) ∨ (∃ a' todo, a'.defers = [] ∧ a'.tmps.getD 8 undef = .bool true ∧ Grows W w' ∧ g = G { (base 15).at a' todo with mode := .returning } []))
    (hback (fun _ => False) _ w2 (law3_b (i0.grows g2') (i1.grows g2') (i2.grows g2') (i3.grows g2') (Rel.refl w2) (fun c hc => hc.elim) (fun a' v' w' todo hr hgr hd h6 => GoesI.stop fun d => .inr ⟨a', todo, hd, h6, by
      have e : (w'.at d).heap = v'.heap := hr.eq
      have := g2'.trans' hgr
      exact ⟨by rw [e]; exact this.size, fun b hb => by rw [e]; exact this.old b hb, hr.os.trans this.os, hr.output.trans this.output⟩, rfl⟩) (fun u v' w' Sb wb bk sc pc ln cp rb cl bd ad od qd rd oe kd hr hn hrdy ho hend => GoesI.stop fun d => .inl ⟨u, Sb, wb, bk, sc, pc, ln, cp, rb, cl, bd, ad, od, qd, rd, oe, kd, by
      have e : (w'.at d).heap = v'.heap := hr.eq
      have hgr : Grows v' (w'.at d) := ⟨by rw [e]; exact Nat.le_refl _, fun b _ => by rw [e], hr.os, hr.output⟩
      have hnew := hrdy.new
      refine ⟨hrdy.gr, hrdy.ins, hrdy.len, hrdy.ring, (hnew.mem.grows hgr).mem, ?_, hnew.new, ⟨by rw [e]; exact hnew.old.size, fun b hb => by rw [e]; exact hnew.old.old b hb, hr.os.trans hnew.old.os, hr.output.trans hnew.old.output⟩⟩
      obtain ⟨c, m, h⟩ := hnew.opn
      exact ⟨c, m, by rw [e]; exact h⟩, ho, hend, rfl⟩)))
  -- the end
  have fin : ∀ (N4 : Nat) (gs4 : Array Goroutine) (w4 : World) (sl4 : Option (Nat × Nat)) (T4 : Trace) (q4 : Nat → Nat) (a4 : Goroutine), runNT Try.prog N4 (crowd gs3 w3 sl3) T3' = (.next (crowd gs4 w4 sl4), T4) → gs4[0]? = some a4 → Alone gs4 w4 T4 q4 → (∃ a' todo, a'.defers = [] ∧ a'.tmps.getD 8 undef = .bool true ∧ Grows W w4 ∧ a4 = G { (base 15).at a' todo with mode := .returning } []) →
      ∃ M last o w' t', runNT Try.prog (M + 1) (crowd #[G ((base 15).at { tmps := #[.slice p0 xs.length c0, .slice p1 pk.length c1, .slice p2 se.length c2, .slice p3 ns.length c3] ++ Array.replicate 250 undef, defers := [] } [.code C3]) []] W none) #[] = (.ended o w', t') ∧ runN Try.prog M (crowd #[G ((base 15).at { tmps := #[.slice p0 xs.length c0, .slice p1 pk.length c1, .slice p2 se.length c2, .slice p3 ns.length c3] ++ Array.replicate 250 undef, defers := [] } [.code C3]) []] W none) = .next last ∧ step Try.prog last = .ended o w' ∧ Go.Conc.Good Try.prog (PostT W) last o w' t' := by
    intro N4 gs4 w4 sl4 T4 q4 a4 r4 h4 A4 ⟨a', todo, hd, h6, g4, ea⟩
    subst ea
    obtain ⟨M5, last, o, w', t', e1, e2, e3, e4⟩ := alone_ends A4 h4 sl4 (Post := PostT W) (fun B d => ⟨rfl, .bool true, #[], end3 hd h6, fun e he => by simp at he, rfl, ⟨g4.size, g4.old, g4.os, g4.output⟩⟩)
    have hrun := runNT_then (runNT_then (runNT_then r1 r2) r3) r4
    refine ⟨N1 + N2 + N3 + N4 + M5, last, o, w', t', ?_, ?_, e3, e4⟩
    · rw [Nat.add_assoc, runNT_add, hrun]; exact e1
    · rw [runN_add, ← runNT_fst Try.prog _ _ #[], hrun]; exact e2
  rcases hst3 with ⟨u, Sb, wb, bk, sc, pc, ln, cp, rb, cl, bd, ad, od, qd, rd, oe, kd, hrdy, hoe3, hend3, rfl⟩ | hret
  · have hnew := hrdy.new
    have hC := hrdy.ins
    have h64 := hrdy.len
    obtain ⟨R, hRg⟩ := hrdy.ring
    have gu : Grows W u := g2'.trans' hrdy.gr
    have g3 : Grows W w3 := gu.trans' hnew.old
    have hn8 : 0 < 4 ∧ 4 ≤ 8 := by decide
    have hl64 : ∀ j, j < 4 → (cl j).length ≤ 64 := fun j hj => by rw [hC.len j hj]; exact h64 j hj
    have hlens : ∀ caps pk N K, lens (scrs (mcH 20) 81 caps pk N 4 K pc ln cp rb cl) ≤ 512 := fun caps pk N K => Nat.le_trans (lens_scrs _ _ _ _ _ _ _ _ _ _ _ _ hl64) (by omega)
    have hML : (metH 20).L ≤ 101 := by show 20 + 1 ≤ 101; omega
    obtain ⟨N4, gs4, w4, sl4, T4', q4, caps, pk', N, cv, K, S', S1, l1, m, p', r4, z4, h4, A4, hK, hnv, hH, hT, O⟩ := cplay_all 20 (by omega) (by omega) (S := newS wb bk u.heap.size sc xs) (n := 4) (sb := Sb) (so := 0) (cap := 4) (pc := pc) (ln := ln) (cp := cp) (rb := rb) (cl := cl) hoe3 sl3 2000000 A3 h3 hnew.mem rfl rfl rfl hnew.opn (asked_of hC hnew h64 hn8.1) hn8 (fun caps pk N K => by
        have := hlens caps pk N K
        show 0 + 2 * _ ≤ 1000000
        omega) (by have := i0.len; show xs.length ≤ _; omega) (fun x hx => i0.inr x hx) (fun _ => .done []) (fun caps pk N cv K hK S1 l1 hH => ends_far (metH 20) hH rfl (by rw [scrs_len]; exact hn8.2) (hlens caps pk N K) hML rfl)
    obtain ⟨v, t1, t2, t3, t4, hI, hRI, hdone⟩ := chain_run (N := 4) (cl := cl) (E := Ed 4 20 cl) (by omega) (scrs_len _ _ _ _ _ _ _ _ _ _ _ _) hn8.2 (fun i hi c hc hp => ⟨i, hi, c, hc, hp, rfl, rfl⟩) (scrs_calls _ _ _ _ _ _ _ _ _ _ _ _) (scrs_ans _ _ _ _ _ _ _ _ _ _ _ _ (fun j hj => hC.len j hj)) rfl rfl rfl rfl hK hH hT
    have hlast := ring_end hRg hI (hRI R hRg) hdone
    rw [t4] at hlast
    have hSn : S'.n = v.L.length := by have := congrArg TS.n hnv; exact this.trans t2
    have hStr : S'.tr = flat v.L := by have := congrArg TS.tr hnv; exact this.trans t1
    have hsm := small_far (metH 20) hH hT rfl (by rw [scrs_len]; exact hn8.2) (hlens caps pk' N _) hML rfl
    have hSw : S'.wb = wb := by
      have h5 := congrArg TS.wb hnv
      have h6 := (turns_wb hT).trans (hires_wb hH)
      exact h5.trans h6
    have hn1 : S'.n ≤ 4000000 := by
      have : S'.n = p'.S.n := by have := congrArg TS.n hnv; exact this
      omega
    have hg34 : ∀ b, b < u.heap.size → w4.heap[b]? = w3.heap[b]? := fun b hb => by
      have hs := hnew.old.size
      exact (O.old b (by omega) (fun h => by have := hnew.new b (.inl h); omega) (fun h => by have := hnew.new b (.inr h); omega)).1
    have hgu : Grows u w4 := ⟨by have := hnew.old.size; have := O.size; omega, fun b hb => by rw [hg34 b hb]; exact hnew.old.old b hb, O.os.trans hnew.old.os, O.out.trans hnew.old.output⟩
    have hgW : Grows W w4 := gu.trans' hgu
    have hC4 := hC.grows hgu
    subst hSw
    have hal : ∀ j, j < 4 → (p'.l j).ans.length = ln j := fun j hj => (O.ans j hj).1
    have hSL : SL 4 Sb 0 ln cp rb (fun j => roOf (pc j)) pc cl w4 := ⟨hC4.len, hC4.row, hC4.pq, hC4.call⟩
    have hAL : AL 4 (N + 1) (fun j => N + 4 + 3 * j + 2) ln p'.l w4 := ⟨O.rows, hal, fun k hk j q hq => by
      have hj := (List.getElem?_eq_some_iff.1 hq).1
      have hpos : 0 < ln k := by have := hal k hk; omega
      have := arow_get _ _ _ hq
      exact ⟨cell_of ((O.ans k hk).2.1 hpos) (by rw [List.getElem?_toArray]; exact this.1), cell_of ((O.ans k hk).2.1 hpos) (by rw [List.getElem?_toArray]; exact this.2)⟩⟩
    obtain ⟨N5, gs5, a5, w5, sl5, T5, q5, r5, z5, h5, hs5, A5⟩ := alone_goes A4 h4 sl4 (hend3 (fun _ => False) (fun g w' => ∃ a' todo, a'.defers = [] ∧ a'.tmps.getD 8 undef = .bool true ∧ Grows W w' ∧ g = G { (base 15).at a' todo with mode := .returning } []) w4 _ 0 (fun a hA => law3_yes (v := w4) (S := S') hSL hAL O.mem.rep hStr hSn hn1 hI.stp hlast (Rel.refl w4) (fun c hc => hc.elim) hA (fun a' v' w' todo hr hgr hd h6 => GoesI.stop fun d => ⟨a', todo, hd, h6, by
      have e : (w'.at d).heap = v'.heap := hr.eq
      have := hgW.trans' hgr
      exact ⟨by rw [e]; exact this.size, fun b hb => by rw [e]; exact this.old b hb, hr.os.trans this.os, hr.output.trans this.output⟩, rfl⟩)))
    exact fin _ gs5 w5 sl5 T5 q5 a5 (runNT_then r4 r5) h5 A5 hs5
  · exact fin 0 gs3 w3 sl3 T3' q3 a3 rfl h3 A3 hret
end Go.Proofs.Ytfjjoohflcchnaa.Gen

namespace Go.Proofs.Ytfjjoohflcchnaa
open Go Go.Lift Go.Conc
open Go.ChangeShapes Go.WideShapes Go.ChangeAt Go.RowKit Go.Joins Go.Deep
open Gen

set_option maxRecDepth 100000 in
theorem chainRing_lifted (os : Os) (started : os.Started) (H : Type) (enc : TypeId × Value → H) :
    ReturnsInLeavingWide {} Try.checked os 15 .any (Rows.chainRingSpec.pre6 enc Try.prog Try.f15 Rows.chainRingRow.domain false) (Rows.chainRingSpec.post enc Try.prog Try.f15 false true false false) := by
  refine returnsInLeavingWide_of_change_sized (C := Try.checked) op_knob started Try.func15
    (ChangeSpec.witness6 (enc := enc) (C := Try.checked) false ⟨#[], #[.slice none 0 0, .slice none 0 0, .slice none 0 0, .slice none 0 0], []⟩ 8 (by kernel_rfl) (by kernel_rfl) (by kernel_rfl) (by kernel_rfl)) ?_
  intro W base args ds gs before hval0 hW _ hsz0 _
  have hval : ∀ (j : Nat) t v, Try.f15.params[j]? = some t → args[j]? = some v → Value.okWide Try.prog W .any base t v := hval0
  have hW' := hW
  obtain ⟨p, q, hA0, hV, rfl, _, _⟩ := hW
  have hA : DataW.TrodAll enc Try.prog W 0 (fun _ => true) true Try.f15.params.toList args.toList ds p := hA0
  have hsz : (DataW.weightsEach Try.prog (Try.f15.params.toList ++ Rows.chainRingSpec.plain.varTypes Try.prog) (ds ++ gs)).all (· ≤ reachBytes) = true := hsz0
  rw [Try.params15] at hA hval hsz
  obtain ⟨v0, vs0, d0, ds0, p0, q0, hargs, rfl, rfl, h0, r0⟩ := trodAll_cons hA
  obtain ⟨v1, vs1, d1, ds1, p1, q1, rfl, rfl, rfl, h1, r1⟩ := trodAll_cons r0
  obtain ⟨v2, vs2, d2, ds2, p2, q2, rfl, rfl, rfl, h2, r2⟩ := trodAll_cons r1
  obtain ⟨v3, vs3, d3, ds3, p3, q3, rfl, rfl, rfl, h3, r3⟩ := trodAll_cons r2
  obtain ⟨rfl, rfl, rfl⟩ := trodAll_nil r3
  obtain rfl : args = #[v0, v1, v2, v3] := by cases args; simp_all
  obtain ⟨rfl, rfl⟩ := trodVars_none hV
  have k0 := h0
  have k1 := h1
  have k2 := h2
  have k3 := h3
  have lt0 : ∀ x ∈ p0, x.block < W.heap.size := by obtain ⟨m, hm⟩ := k0; exact DataW.trod_lt m _ _ _ hm
  have lt1 : ∀ x ∈ p1, x.block < W.heap.size := by obtain ⟨m, hm⟩ := k1; exact DataW.trod_lt m _ _ _ hm
  have lt2 : ∀ x ∈ p2, x.block < W.heap.size := by obtain ⟨m, hm⟩ := k2; exact DataW.trod_lt m _ _ _ hm
  have lt3 : ∀ x ∈ p3, x.block < W.heap.size := by obtain ⟨m, hm⟩ := k3; exact DataW.trod_lt m _ _ _ hm
  obtain ⟨sp, scap, sb, so, sched, e0, hS⟩ := ints_in (hval 0 22 v0 rfl rfl) h0 (fun el sp e => sized_slice hsz (j := 0) rfl (by rw [e]; rfl) Try.underlying22)
  obtain ⟨pp, pcap, pb, po, pk, e1, hP⟩ := ints_in (hval 1 22 v1 rfl rfl) h1 (fun el sp e => sized_slice hsz (j := 1) rfl (by rw [e]; rfl) Try.underlying22)
  obtain ⟨ep, ecap, eb, eo, se, e2, hE⟩ := ints_in (hval 2 22 v2 rfl rfl) h2 (fun el sp e => sized_slice hsz (j := 2) rfl (by rw [e]; rfl) Try.underlying22)
  obtain ⟨np, nb, no, ncap, ns, e3, hN⟩ := calls_in (hval 3 37 v3 rfl rfl) h3
  clear hA0 hval0 hsz0
  subst e0 e1 e2 e3
  simp only [List.append_nil] at hW'
  obtain ⟨M, last, o', w', t', g1, g2, g3, g4⟩ := run3 (c0 := scap) (c1 := pcap) (c2 := ecap) (c3 := ncap) W hS hP hE hN
  refine ⟨M, last, o', w', t', g1, g2, g3, g4.mono fun v hF => ?_⟩
  obtain ⟨rfl, bel⟩ : PostT W v w' := hF
  exact ⟨_, _, _, [], _, [], hW', trodAll_mk1 (shut_bool Try.underlying4 _),
    (trodAll_cons_mk (grows_trod (by kernel_rfl) (of_decide_eq_true (by kernel_rfl)) k0 bel lt0)
    (trodAll_cons_mk (grows_trod (by kernel_rfl) (of_decide_eq_true (by kernel_rfl)) k1 bel lt1)
    (trodAll_cons_mk (grows_trod (by kernel_rfl) (of_decide_eq_true (by kernel_rfl)) k2 bel lt2)
    (trodAll_cons_mk (grows_trod (by kernel_rfl) (of_decide_eq_true (by kernel_rfl)) k3 bel lt3) trodAll_mk0)))), rfl, grows_frame bel _, fun h => by cases h⟩

theorem chainRing_holds : Rows.ChainRingSaid :=
  OpenClaim.holds_of_wide_leaving 15 Try.f15 rfl rfl rfl rfl rfl rfl rfl ⟨rfl, rfl, rfl, rfl, rfl⟩ rfl rfl rfl rfl rfl (by kernel_rfl) Try.func15 (by kernel_rfl)
    (of_decide_eq_true (by kernel_rfl)) (by unfold Func.isWrapper; first | (rw [if_pos (by decide +kernel)]; kernel_rfl) | (rw [if_neg (by decide +kernel)]; exact ⟨rfl, rfl⟩))
    (fun os started H enc _ => chainRing_lifted os started H enc)

#print axioms chainRing_holds
end Go.Proofs.Ytfjjoohflcchnaa
