/- CounterAlone, whatever the shards, the numbers and the ids: a counter of no world, added to by free threads; behind each Add its Sum is the sum of the shards' amounts, each within 32 bits with a sign; the law answers true and its input reads as it did. Part 34 of 35. (Joined, by program, of: La15e, GIns, GOpens, GRowL.) -/
import Derived.Test.YtcfmffmcammbjaaDoorCounterAlone22
import Derived.Test.YtcfmffmcammbjaaDoorCounterAlone31
import Derived.Test.YtcfmffmcammbjaaDoorCounterAlone33
import Derived.Conc.LeavingOf
import Derived.ProofKit
import Derived.OpenShut
import Derived.ChangeOld
import Derived.SizedLaws
import Derived.Lib.SmallJoins
import Derived.Deep.SlicePairs
import Derived.Test.YtcfmffmcammbjaaDoorRows
import Derived.LaidLaws
import Derived.LaidHandle
import Derived.Lay

/- The law CounterAlone (15): its loop, its rest, its run. (Made by wip/tools/mkla15.py.) -/
set_option linter.unusedSimpArgs false
set_option linter.unusedVariables false
namespace Go.Proofs.YtcfmffmcammbjaaDoor.Gen
open Go Go.Lift Go.Conc Go.RowKit

section
variable {Ch : Nat → Prop} {Stop : Goroutine → World → Prop} {main : Bool} {u0 : World} {c sb s ab : Nat} {kb : List Nat} {b1 o1 n1 cap1 b2 o2 n2 cap2 : Nat} {p1 p2 : Option Addr} {ad wh : List Int}
set_option maxHeartbeats 4000000 in
set_option maxRecDepth 100000 in
theorem loop15 (hF : R1.Flds u0) (hp1 : 0 < n1 → p1 = some ⟨b1, o1, none⟩) (hl1 : ad.length = n1) (hn9 : (n1 : Int) < 9223372036854775808) (hI1 : InN u0 b1 o1 ad) (hp2 : 0 < n2 → p2 = some ⟨b2, o2, none⟩) (hl2 : wh.length = n2) (hI2 : InN u0 b2 o2 wh) (cs : List Frame) (kk : List Item)
    (hK : ∀ a' v' w', Rel zn v' w' → NoRow Ch v' → Bl u0.heap.size u0 v' → a'.tmps.size = 90 → a'.defers = [] → GoesI Tryd.prog main (DT (ScZ zn) Ch) Stop (G ((base 15).at a' kk) cs) w') :
    ∀ (m i : Nat) (a : Act) (v w : World) (xs : List Int), i + m = n1 → Rel zn v w → NoRow Ch v → Fl 90 [(1, .slice p1 n1 cap1), (2, .slice p2 n2 cap2), (8, Pt c 0), (9, I (s : Int)), (10, .slice (some ⟨ab, 0, none⟩) s s), (11, I (i : Int))] a → M15 u0 c sb s ab kb xs v →
    GoesI Tryd.prog main (DT (ScZ zn) Ch) Stop (G ((base 15).at a (.code L15 :: .inLoop L15 :: .inBlock 0 :: kk)) cs) w := by
  intro m
  induction m with
  | zero =>
    intro i a v w xs hi hvw hn hA hM
    rw [eL15]
    refine goesI_seq (dt_idle _ _) ?_
    refine goesI_seq (dt_idle _ _) ?_
    refine goesI_plain (z := zn) (wr := true) (L := LV) (I := NoRow Ch) hE fineV noRow_keeps (fun v v' w w' es hi hr ho he => dt_of_z v v' w w' es hi hr ho he) hvw fine_p8 hA.2.1 (by simp [base]) hn (Q := fun a w' => Fl 90 [(1, .slice p1 n1 cap1), (2, .slice p2 n2 cap2), (8, Pt c 0), (9, I (s : Int)), (10, .slice (some ⟨ab, 0, none⟩) s s), (11, I (i : Int)), (34, .bool (decide ((i : Int) < (n1 : Int))))] a ∧ w'.heap = v.heap ∧ w'.os = v.os ∧ w'.output = v.output) (fun τ => p8_wp (v := onTape v τ 0) rfl hA) ?_
    rintro a1 v1 w1 ⟨hA1, e1, q1, z1⟩ hr1 hn1 -
    refine goesI_cond (dt_idle _ _) (t := false) (by rw [hA1.at 34 (.bool (decide ((i : Int) < (n1 : Int)))) (by simp), decide_eq_false (by omega)]) ?_
    simp only [if_false, Bool.false_eq_true]
    refine goesI_exit (dt_idle _ _) (k' := kk) (by simp [exitTo]) ?_
    exact hK a1 v1 w1 hr1 hn1 (hM.same e1 q1 z1).bl hA1.1 hA1.2.1
  | succ m ih =>
    intro i a v w xs hi hvw hn hA hM
    have hin : i < n1 := by omega
    obtain rfl := hp1 (by omega)
    rw [eL15]
    refine goesI_seq (dt_idle _ _) ?_
    refine goesI_seq (dt_idle _ _) ?_
    refine goesI_plain (z := zn) (wr := true) (L := LV) (I := NoRow Ch) hE fineV noRow_keeps (fun v v' w w' es hi hr ho he => dt_of_z v v' w w' es hi hr ho he) hvw fine_p8 hA.2.1 (by simp [base]) hn (Q := fun a w' => Fl 90 [(1, .slice (some ⟨b1, o1, none⟩) n1 cap1), (2, .slice p2 n2 cap2), (8, Pt c 0), (9, I (s : Int)), (10, .slice (some ⟨ab, 0, none⟩) s s), (11, I (i : Int)), (34, .bool (decide ((i : Int) < (n1 : Int))))] a ∧ w'.heap = v.heap ∧ w'.os = v.os ∧ w'.output = v.output) (fun τ => p8_wp (v := onTape v τ 0) rfl hA) ?_
    rintro a1 v1 w1 ⟨hA1, e1, q1, z1⟩ hr1 hn1 -
    refine goesI_cond (dt_idle _ _) (t := true) (by rw [hA1.at 34 (.bool (decide ((i : Int) < (n1 : Int)))) (by simp), decide_eq_true (by omega)]) ?_
    simp only [if_true]
    refine goesI_skip (dt_idle _ _) ?_
    refine goesI_seq (dt_idle _ _) ?_
    refine goesI_block (dt_idle _ _) ?_
    rw [← eL15]
    have hA1' : Fl 90 [(1, .slice (some ⟨b1, o1, none⟩) n1 cap1), (2, .slice p2 n2 cap2), (8, Pt c 0), (9, I (s : Int)), (10, .slice (some ⟨ab, 0, none⟩) s s), (11, I (i : Int))] a1 := hA1.sub (by simp)
    refine round15 hF hl1 hI1 hp2 hl2 hI2 hin (hM.same e1 q1 z1) cs _ hr1 hn1 hA1' (fun a2 v2 w2 xs' hr2 hn2 hM2 hA2 => ?_)
    refine goesI_plain (z := zn) (wr := true) (L := LV) (I := NoRow Ch) hE fineV noRow_keeps (fun v v' w w' es hi hr ho he => dt_of_z v v' w w' es hi hr ho he) hr2 fine_p9 hA2.2.1 (by simp [base]) hn2 (Q := fun a w' => Fl 90 [(1, .slice (some ⟨b1, o1, none⟩) n1 cap1), (2, .slice p2 n2 cap2), (8, Pt c 0), (9, I (s : Int)), (10, .slice (some ⟨ab, 0, none⟩) s s), (11, I ((i + 1 : Nat) : Int))] a ∧ w'.heap = v2.heap ∧ w'.os = v2.os ∧ w'.output = v2.output) (fun τ => p9_wp (v := onTape v2 τ 0) (by unfold wrap64; omega) hA2) ?_
    rintro a3 v3 w3 ⟨hA3, e3, q3, z3⟩ hr3 hn3 -
    refine goesI_inLoop (dt_idle _ _) ?_
    exact ih (i + 1) a3 v3 w3 xs' (by omega) hr3 hn3 hA3 (hM2.same e3 q3 z3)

set_option maxHeartbeats 4000000 in
set_option maxRecDepth 100000 in
/-- Behind the law's first play. -/
theorem law15_rest {v w : World} (n0 : Int) (hF : R1.Flds v) (hp1 : 0 < n1 → p1 = some ⟨b1, o1, none⟩) (hl1 : ad.length = n1) (hn9 : (n1 : Int) < 9223372036854775808) (hI1 : InN v b1 o1 ad) (hp2 : 0 < n2 → p2 = some ⟨b2, o2, none⟩) (hl2 : wh.length = n2) (hI2 : InN v b2 o2 wh) (hvw : Rel zn v w) (hn : NoRow Ch v)
    (hend : ∀ a' v' w' todo, Rel zn v' w' → Grows v v' → a'.defers = [] → a'.tmps.getD 6 undef = .bool true → GoesI Tryd.prog main (DT (ScZ zn) Ch) Stop (G { (base 15).at a' todo with mode := .returning } []) w') :
    ∀ a, Fl 90 [(0, I n0), (1, .slice p1 n1 cap1), (2, .slice p2 n2 cap2), (7, .bool true)] a → GoesI Tryd.prog main (DT (ScZ zn) Ch) Stop (G ((base 15).at a [.code P15]) []) w := by
  intro a hA
  unfold P15
  generalize hq1 : Value.slice p1 n1 cap1 = l1 at hA
  generalize hq2 : Value.slice p2 n2 cap2 = l2 at hA
  obtain ⟨s0, s1⟩ := shN_pos n0
  refine goesI_seq (dt_idle _ _) ?_
  refine goesI_plain (z := zn) (wr := true) (L := LV) (I := NoRow Ch) hE fineV noRow_keeps (fun v v' w w' es hi hr ho he => dt_of_z v v' w w' es hi hr ho he) hvw fine_y2 hA.2.1 (by simp [base]) hn (Q := fun a w' => Fl 90 [(0, I n0), (1, l1), (2, l2), (7, .bool true), (8, Pt (v.heap.size + 1) 0)] a ∧ NwC v (shN n0) v.heap.size (shN n0) w') (fun τ => wp_mono (y2_wp (v := onTape v τ 0) hA) fun e a w hq => ⟨hq.1, hq.2.1, ⟨hq.2.2.row, hq.2.2.ctr, hq.2.2.cel, hq.2.2.size, hq.2.2.old, hq.2.2.os, hq.2.2.out⟩⟩) ?_
  rintro a2 v2 w2 ⟨hA2, hN2⟩ hr2 hn2 -
  refine goesI_seq (dt_idle _ _) ?_
  refine goesI_plain (z := zn) (wr := true) (L := LV) (I := NoRow Ch) hE fineV noRow_keeps (fun v v' w w' es hi hr ho he => dt_of_z v v' w w' es hi hr ho he) hr2 fine_y3 hA2.2.1 (by simp [base]) hn2 (Q := fun a w' => Fl 90 [(0, I n0), (1, l1), (2, l2), (7, .bool true), (8, Pt (v.heap.size + 1) 0)] a ∧ w'.heap = v2.heap ∧ w'.os = v2.os ∧ w'.output = v2.output) (fun τ => y3_wp (v := onTape v2 τ 0) hA2) ?_
  rintro a3 v3 w3 ⟨hA3, e3, q3, z3⟩ hr3 hn3 -
  refine goesI_seq (dt_idle _ _) ?_
  refine goesI_plain (z := zn) (wr := true) (L := LV) (I := NoRow Ch) hE fineV noRow_keeps (fun v v' w w' es hi hr ho he => dt_of_z v v' w w' es hi hr ho he) hr3 fine_y5 hA3.2.1 (by simp [base]) hn3 (Q := fun a w' => Fl 90 [(0, I n0), (1, l1), (2, l2), (7, .bool true), (8, Pt (v.heap.size + 1) 0), (9, I (shN n0 : Int))] a ∧ w'.heap = v3.heap ∧ w'.os = v3.os ∧ w'.output = v3.output) (fun τ => y5_wp (v := onTape v3 τ 0) rfl hA3) ?_
  rintro a5 v5 w5 ⟨hA5, e5, q5, z5⟩ hr5 hn5 -
  refine goesI_seq (dt_idle _ _) ?_
  refine goesI_plain (z := zn) (wr := true) (L := LV) (I := NoRow Ch) hE fineV noRow_keeps (fun v v' w w' es hi hr ho he => dt_of_z v v' w w' es hi hr ho he) hr5 fine_y6 hA5.2.1 (by simp [base]) hn5 (Q := fun a w' => Fl 90 [(1, l1), (2, l2), (8, Pt (v.heap.size + 1) 0), (9, I (shN n0 : Int)), (10, .slice (some ⟨v5.heap.size, 0, none⟩) (shN n0) (shN n0))] a ∧ w'.heap = v5.heap.push (rowI (List.replicate (shN n0) 0)) ∧ w'.os = v5.os ∧ w'.output = v5.output) (fun τ => y6_wp (v := onTape v5 τ 0) s1 hA5) ?_
  rintro a6 v6 w6 ⟨hA6, e6, q6, z6⟩ hr6 hn6 -
  refine goesI_seq (dt_idle _ _) ?_
  refine goesI_seq (dt_idle _ _) ?_
  refine goesI_plain (z := zn) (wr := true) (L := LV) (I := NoRow Ch) hE fineV noRow_keeps (fun v v' w w' es hi hr ho he => dt_of_z v v' w w' es hi hr ho he) hr6 fine_y7 hA6.2.1 (by simp [base]) hn6 (Q := fun a w' => Fl 90 [(1, l1), (2, l2), (8, Pt (v.heap.size + 1) 0), (9, I (shN n0 : Int)), (10, .slice (some ⟨v5.heap.size, 0, none⟩) (shN n0) (shN n0)), (11, I 0)] a ∧ w'.heap = v6.heap ∧ w'.os = v6.os ∧ w'.output = v6.output) (fun τ => y7_wp (v := onTape v6 τ 0) hA6) ?_
  rintro a7 v7 w7 ⟨hA7, e7, q7, z7⟩ hr7 hn7 -
  have hN5 : NwC v (shN n0) v.heap.size (shN n0) v5 := (hN2.same e3 q3 z3).same e5 q5 z5
  have hsz5 := hN5.size
  have g7 : Grows v5 v7 := ⟨by rw [e7, e6]; simp, fun b hb => by rw [e7, e6, Array.getElem?_push, if_neg (by omega)], q7.trans q6, z7.trans z6⟩
  have hb5 : Bl v.heap.size v v5 := ⟨hN5.old, by omega, hN5.os, hN5.out⟩
  have hM : M15 v (v.heap.size + 1) v.heap.size (shN n0) v5.heap.size ((List.range (shN n0)).map fun j => v.heap.size + 2 + j) (List.replicate (shN n0) 0) v7 := by
    refine ⟨(hN5.fcs s0 s1).bl ⟨g7.old, g7.size, g7.os, g7.output⟩, ?_, ⟨by omega, by omega, fun hm => ?_⟩, hb5.trans (Grows.bl g7 (by omega)), ⟨by omega, by omega, by omega, fun cb hcb => ?_⟩⟩
    · rw [e7, e6, Array.getElem?_push_size, List.map_replicate, R1.amtS_zero]
    · obtain ⟨j, hj, e⟩ := List.mem_map.1 hm
      have := List.mem_range.1 hj
      omega
    · obtain ⟨j, hj, e⟩ := List.mem_map.1 hcb
      omega
  refine goesI_block (dt_idle _ _) ?_
  refine goesI_loop (dt_idle _ _) ?_
  subst hq1 hq2
  refine loop15 hF hp1 hl1 hn9 hI1 hp2 hl2 hI2 [] _ (fun a' v' w' hr' hn' hb' hs' hd' => ?_) n1 0 a7 v7 w7 _ (by omega) hr7 hn7 hA7 hM
  refine goesI_retZ (Q := fun a w' => a.tmps.getD 6 undef = .bool true ∧ w'.heap = v'.heap ∧ w'.os = v'.os ∧ w'.output = v'.output) hr' hn' fine_T15 hd' (fun τ => T15_wp (v := onTape v' τ 0) hs' hd') (fun a'' v'' w'' todo hQ hd hr'' hn'' => hend a'' v'' w'' todo hr'' (hb'.same hQ.2.1 hQ.2.2.1 hQ.2.2.2).grows hd hQ.1)
end

set_option maxHeartbeats 4000000 in
set_option maxRecDepth 100000 in
theorem law15_in {Ch : Nat → Prop} {Stop : Goroutine → World → Prop} {main : Bool} {w : World} (x0 : Value) (x1 : Value) (x2 : Value)
    (hk : ∀ (w' : World) (bd : Frame) (ad : Act) (od : Array Oper) (qd : Nat) (rd : List Nat) (oe : Oper) (kd : List Item), (∃ d, w' = w.at d) → od[qd]? = some oe →
      (∀ (Ch : Nat → Prop) (Stop : Goroutine → World → Prop) (w1 : World), (∀ a, Fl 90 [(0, x0), (1, x1), (2, x2), (7, .bool true)] a → GoesI Tryd.prog main (DT (ScZ zn) Ch) Stop (G ((base 15).at a [.code P15]) []) w1) → GoesI Tryd.prog main (DT (ScZ zn) Ch) Stop (G (bd.at (ad.put oe.dst (.bool true)) (.inRegion od rd :: kd)) []) w1) →
      GoesI Tryd.prog main (DT (ScZ zn) Ch) Stop (G ((base 51).at { tmps := Array.replicate 28 undef, defers := [] } [.code B51]) [bd.at ad (.inRegion od (qd :: rd) :: kd)]) w') :
    GoesI Tryd.prog main (DT (ScZ zn) Ch) Stop (G ((base 15).at { tmps := #[x0, x1, x2] ++ Array.replicate 87 undef, defers := [] } [.code LB15]) []) w := by
  rw [eLB15]
  simp only [Array.replicate_succ, Array.replicate_zero, List.push_toArray, List.append_toArray, List.nil_append, List.cons_append]
  refine goesI_seq (dt_idle _ _) ?_
  generalize hR : P15 = R9 at hk ⊢
  unfold y1 LB15 Tryd.f15 seq1 seq2
  simp only [Option.getD_some]
  refine goesI_region (dt_idle _ _) ?_
  simp only [List.size_toArray, List.length_cons, List.length_nil, Nat.reduceAdd, Nat.zero_add, List.range, List.range.loop]
  iterate 1
    (refine goesI_oper rfl rfl (by decide) (fun d K hK => ?_)
     go_simp
     refine hK _ _ ⟨dt_reads (fun e he => ?_), GoesI.at ?_ d⟩
     · have hm := mem_listed he
       simp [go_sem, *] at hm
       try exact ⟨_, _, hm⟩
     clear hK K)
  refine goesI_regionEnd (dt_idle _ _) ?_
  refine goesI_seq (dt_idle _ _) ?_
  refine goesI_region (dt_idle _ _) ?_
  simp only [List.size_toArray, List.length_cons, List.length_nil, Nat.reduceAdd, Nat.zero_add, List.range, List.range.loop]
  refine goesI_into (f := 51) (fn := Tryd.f51) (args := #[]) (dt_idle _ _) rfl rfl (by decide) rfl (by simp [Act.eval]) Tryd.func51 (by decide) rfl ?_
  refine hk w _ _ _ _ _ _ _ ⟨w.drawn, rfl⟩ rfl (fun Ch Stop w1 hg => ?_)
  clear hk
  iterate 1
    (refine goesI_oper rfl rfl (by decide) (fun d K hK => ?_)
     go_simp
     refine hK _ _ ⟨dt_reads (fun e he => ?_), GoesI.at ?_ d⟩
     · have hm := mem_listed he
       simp [go_sem, *] at hm
       try exact ⟨_, _, hm⟩
     clear hK K)
  refine goesI_regionEnd (dt_idle _ _) ?_
  exact hg _ ⟨rfl, rfl, by
    intro p hp
    simp only [List.mem_cons, List.not_mem_nil, or_false] at hp
    rcases hp with rfl | rfl | rfl | rfl <;> rfl⟩

theorem end15 {a : Act} {todo : List Item} {w : World} (hd : a.defers = []) (h4 : a.tmps.getD 6 undef = .bool true) : stepG Tryd.prog true (G { (base 15).at a todo with mode := .returning } []) w = .ended (.done (.bool true)) w #[] := by
  have hr : (results Tryd.f15 a.tmps).run Tryd.prog w = .ok (.bool true) w := by rw [results_tmp (t := 6) rfl, h4]
  have he : (results Tryd.f15 a.tmps).events Tryd.prog w #[] = #[] := by simp [results, go_sem, Tryd.f15]
  simp [G, stepG, unwind, Frame.at, hd, Tryd.func15, base, hr, he, doReturn, GStep.after, seen]

/-- The law's last frame returns. -/
theorem alone_ends {gs : Array Goroutine} {w : World} {T : Trace} {q : Nat → Nat} (A : Alone gs w T q) {a : Goroutine} (hg : gs[0]? = some a) (sl : Option (Nat × Nat)) {Post : Value → World → Prop} (hE : ∀ B, ∀ d, AtEnd Tryd.prog (fun _ => False) B Post a (w.at d)) :
    ∃ N last o w' t', runNT Tryd.prog (N + 1) (crowd gs w sl) T = (.ended o w', t') ∧ runN Tryd.prog N (crowd gs w sl) = .next last ∧ step Tryd.prog last = .ended o w' ∧ Go.Conc.Good Tryd.prog Post last o w' t' := by
  obtain ⟨B, hB, hP⟩ := A.past
  refine beside_ends (D := fun _ _ es => es = #[]) (Shun := fun _ => False) (B := B) (n := 0) (fun _ _ es h e he => by subst h; simp at he) hg A.left hP ?_
  rintro w1 ⟨d, rfl⟩
  exact hE B d
theorem gl_flds {w : World} (h : Gl w) : R1.Flds w := by
  obtain ⟨c, t, f, h1, h2, h3⟩ := h.a
  obtain ⟨c', t', f', k1, k2, k3⟩ := h.b
  exact ⟨cell_of h1 h2, cell_of h1 h3, cell_of k1 k2, cell_of k1 k3⟩
theorem grows_bl {v v' : World} (g : Grows v v') : Bl v.heap.size v v' := ⟨g.old, g.size, g.os, g.output⟩
set_option maxHeartbeats 1000000 in
theorem run15 (W : World) (hGl : Gl W) (n0 : Int) {b1 o1 n1 cap1 b2 o2 n2 cap2 : Nat} {p1 p2 : Option Addr} {ad wh : List Int} (hp1 : 0 < n1 → p1 = some ⟨b1, o1, none⟩) (hl1 : ad.length = n1) (hn9 : (n1 : Int) < 9223372036854775808) (hI1 : InN W b1 o1 ad) (hp2 : 0 < n2 → p2 = some ⟨b2, o2, none⟩) (hl2 : wh.length = n2) (hI2 : InN W b2 o2 wh) :
    ∃ M last o w' t', runNT Tryd.prog (M + 1) (solo (G (Frame.enter Tryd.prog 15 #[I n0, .slice p1 n1 cap1, .slice p2 n2 cap2] .normal) []) W) #[] = (.ended o w', t') ∧
      runN Tryd.prog M (solo (G (Frame.enter Tryd.prog 15 #[I n0, .slice p1 n1 cap1, .slice p2 n2 cap2] .normal) []) W) = .next last ∧ step Tryd.prog last = .ended o w' ∧ Go.Conc.Good Tryd.prog (PostT W) last o w' t' := by
  have e : Frame.enter Tryd.prog 15 #[I n0, .slice p1 n1 cap1, .slice p2 n2 cap2] .normal = (base 15).at { tmps := #[I n0, .slice p1 n1 cap1, .slice p2 n2 cap2] ++ Array.replicate 87 undef, defers := [] } [.code LB15] := enter_at (fn := Tryd.f15) (c := LB15) _ Tryd.func15 (by rfl)
  rw [e, solo_eq_crowd]
  have A : Alone #[G ((base 15).at { tmps := #[I n0, .slice p1 n1 cap1, .slice p2 n2 cap2] ++ Array.replicate 87 undef, defers := [] } [.code LB15]) []] W #[] (fun _ => 0) := ⟨leavers_one _ _, 0, Nat.zero_le _, past_nil⟩
  obtain ⟨N1, gs1, a1, w1, sl1, T1, q1, r1, z1, h1, ⟨bd, ad', od, qd, rd, oe, kd, ⟨d1, rfl⟩, hoe, hback, rfl⟩, A1⟩ := alone_goes A rfl none (Stop := fun g w' => ∃ (bd : Frame) (ad : Act) (od : Array Oper) (qd : Nat) (rd : List Nat) (oe : Oper) (kd : List Item), (∃ d, w' = W.at d) ∧ od[qd]? = some oe ∧
      (∀ (Ch : Nat → Prop) (Stop : Goroutine → World → Prop) (w1 : World), (∀ a, Fl 90 [(0, I n0), (1, .slice p1 n1 cap1), (2, .slice p2 n2 cap2), (7, .bool true)] a → GoesI Tryd.prog true (DT (ScZ zn) Ch) Stop (G ((base 15).at a [.code P15]) []) w1) → GoesI Tryd.prog true (DT (ScZ zn) Ch) Stop (G (bd.at (ad.put oe.dst (.bool true)) (.inRegion od rd :: kd)) []) w1) ∧
      g = G ((base 51).at { tmps := Array.replicate 28 undef, defers := [] } [.code B51]) [bd.at ad (.inRegion od (qd :: rd) :: kd)])
    (law15_in _ _ _ (fun w' bd ad od qd rd oe kd hw ho hback => GoesI.stop fun d => ⟨bd, ad, od, qd, rd, oe, kd, by obtain ⟨d0, rfl⟩ := hw; exact ⟨d, rfl⟩, ho, hback, rfl⟩))
  obtain ⟨N2, gs2, w2, sl2, T2, q2, r2, h2, A2, g2⟩ := cawake_all hoe sl1 A1 (w := W.at d1) (show Gl (W.at d1) from ⟨hGl.a, hGl.b⟩) h1
  have g2' : Grows W w2 := ⟨g2.size, g2.old, g2.os, g2.output⟩
  obtain ⟨N3, gs3, a3, w3, sl3, T3, q3, r3, z3, h3, ⟨a', todo, hd, h4, g3, rfl⟩, A3⟩ := alone_goes A2 h2 sl2 (Stop := fun g w' => ∃ a' todo, a'.defers = [] ∧ a'.tmps.getD 6 undef = .bool true ∧ Grows w2 w' ∧ g = G { (base 15).at a' todo with mode := .returning } []) (hback (fun _ => False) _ w2 (law15_rest n0 (gl_flds (hGl.grows g2')) hp1 hl1 hn9 (hI1.bl (grows_bl g2')) hp2 hl2 (hI2.bl (grows_bl g2')) (Rel.refl w2) (fun c hc => hc.elim) (fun a' v' w' todo hr hgr hd h4 => GoesI.stop fun d => ⟨a', todo, hd, h4, hgr.toAt hr d, rfl⟩)))
  have hfin : Grows W w3 := g2'.andThen g3
  obtain ⟨M4, last, o, w', t', e1, e2, e3, e4⟩ := alone_ends A3 h3 sl3 (Post := PostT W) (fun B d => ⟨rfl, .bool true, #[], end15 hd h4, fun e he => by simp at he, rfl, ⟨hfin.size, hfin.old, hfin.os, hfin.output⟩⟩)
  have hrun := runNT_then (runNT_then r1 r2) r3
  refine ⟨N1 + N2 + N3 + M4, last, o, w', t', ?_, ?_, e3, e4⟩
  · rw [Nat.add_assoc, runNT_add, hrun]; exact e1
  · rw [runN_add, ← runNT_fst Tryd.prog _ _ #[], hrun]; exact e2
end Go.Proofs.YtcfmffmcammbjaaDoor.Gen

/- What came in: lists of numbers, scripts; what a Play asks of them. -/
set_option linter.unusedSimpArgs false
set_option linter.unusedVariables false
namespace Go.Proofs.YtcfmffmcammbjaaDoor.Gen
open Go Go.Lift Go.Conc Go.RowKit

def InR (x : Int) : Prop := -9223372036854775808 ≤ x ∧ x < 9223372036854775808
def Cl.ok (c : Cl) : Prop := InR c.cb ∧ InR c.cc
/-- Where a list of ints lies that came in. -/
structure InI (W : World) (p : Option Addr) (b o : Nat) (xs : List Int) : Prop where
  at_ : 0 < xs.length → p = some ⟨b, o, none⟩
  cell : ∀ k x, xs[k]? = some x → W.cell? ⟨b, o + k, none⟩ = some (I x)
  inr : ∀ x ∈ xs, InR x
  len : xs.length ≤ 17592186043904
theorem InI.grows {W W' : World} {p : Option Addr} {b o : Nat} {xs : List Int} (h : InI W p b o xs) (g : Grows W W') : InI W' p b o xs :=
  ⟨h.at_, fun k x hk => g.cell (h.cell k x hk), h.inr, h.len⟩
/-- Where scripts lie that came in. -/
structure InS (W : World) (p : Option Addr) (b o n : Nat) (pc : Nat → Option Addr) (ln cp rb : Nat → Nat) (cl : Nat → List Cl) : Prop where
  at_ : 0 < n → p = some ⟨b, o, none⟩
  row : ∀ k, k < n → W.cell? ⟨b, o + k, none⟩ = some (.slice (pc k) (ln k) (cp k))
  len : ∀ j, j < n → (cl j).length = ln j
  pq : ∀ j, j < n → 0 < ln j → pc j = some ⟨rb j, roOf (pc j), none⟩
  call : ∀ j, j < n → ∀ (k : Nat) (c : Cl), (cl j)[k]? = some c → W.cell? ⟨rb j, roOf (pc j) + k * 4, none⟩ = some (I c.po) ∧ W.cell? ⟨rb j, roOf (pc j) + k * 4 + 1, none⟩ = some (I c.ca) ∧ W.cell? ⟨rb j, roOf (pc j) + k * 4 + 2, none⟩ = some (I c.cb) ∧ W.cell? ⟨rb j, roOf (pc j) + k * 4 + 3, none⟩ = some (I c.cc)
  ok : ∀ j, j < n → ∀ c ∈ cl j, InR c.ca ∧ c.ok
  n : n ≤ 17592186043904
theorem InS.grows {W W' : World} {p : Option Addr} {b o n : Nat} {pc : Nat → Option Addr} {ln cp rb : Nat → Nat} {cl : Nat → List Cl} (h : InS W p b o n pc ln cp rb cl) (g : Grows W W') : InS W' p b o n pc ln cp rb cl :=
  ⟨h.at_, fun k hk => g.cell (h.row k hk), h.len, h.pq, fun j hj k c hc => by
    have := h.call j hj k c hc
    exact ⟨g.cell this.1, g.cell this.2.1, g.cell this.2.2.1, g.cell this.2.2.2⟩, h.ok, h.n⟩

theorem lens_scrs (mc : Mc) (fid : FuncId) (caps : Array Value) (pk : Nat → Option Obj) (N n : Nat) (K : List (Nat × Int)) (pc : Nat → Option Addr) (ln cp rb : Nat → Nat) (cl : Nat → List Cl) (hl : ∀ j, j < n → (cl j).length ≤ 64) : lens (scrs mc fid caps pk N n K pc ln cp rb cl) ≤ 64 * n := by
  unfold lens scrs
  rw [List.map_map]
  have : ∀ (m j : Nat), j + m ≤ n → ((List.range' j m).map ((fun s : Scr mc => s.calls.length) ∘ scrOf mc fid caps pk N n (K.map (·.1)) pc ln cp rb cl)).sum ≤ 64 * m := by
    intro m
    induction m with
    | zero => intro j _; simp
    | succ m ih =>
      intro j hj
      rw [List.range'_succ, List.map_cons, List.sum_cons]
      have h1 := ih (j + 1) (by omega)
      have h2 : ((fun s : Scr mc => s.calls.length) ∘ scrOf mc fid caps pk N n (K.map (·.1)) pc ln cp rb cl) j ≤ 64 := hl j (by omega)
      omega
  exact this n 0 (by omega)
theorem scrs_len (mc : Mc) (fid : FuncId) (caps : Array Value) (pk : Nat → Option Obj) (N n : Nat) (K : List (Nat × Int)) (pc : Nat → Option Addr) (ln cp rb : Nat → Nat) (cl : Nat → List Cl) : (scrs mc fid caps pk N n K pc ln cp rb cl).length = n := by simp [scrs]
theorem scrs_calls {mc : Mc} {fid : FuncId} {caps : Array Value} {pk : Nat → Option Obj} {N n : Nat} {K : List (Nat × Int)} {pc : Nat → Option Addr} {ln cp rb : Nat → Nat} {cl : Nat → List Cl} {s : Scr mc} (hs : s ∈ scrs mc fid caps pk N n K pc ln cp rb cl) : ∃ j, j < n ∧ s.calls = cl j := by
  simp only [scrs, List.mem_map, List.mem_range'] at hs
  obtain ⟨j, ⟨i, hi, rfl⟩, rfl⟩ := hs
  exact ⟨_, by omega, rfl⟩

/-- The world is new: the scripts lie there for Play. -/
theorem asked_of {W v : World} {p : Option Addr} {b o n : Nat} {pc : Nat → Option Addr} {ln cp rb : Nat → Nat} {cl : Nat → List Cl} (h : InS W p b o n pc ln cp rb cl) {xs : List Int} {wb bk : Nat} {sc : Value} (hn : IsNew W xs wb bk sc v) (h64 : ∀ j, j < n → ln j ≤ 64) (h0 : 0 < n) : Asked v (newS wb bk W.heap.size sc xs) n b o pc ln cp rb cl := by
  have g := h.grows hn.old
  have far : ∀ (a : Addr) (x : Value), W.cell? a = some x → ¬ Own (newS wb bk W.heap.size sc xs) [] a.block := fun a x ha ho => by
    have := hn.new _ (.inl ho)
    have := World.block_lt_of_cell? _ _ ha
    omega
  refine ⟨fun j hj => ⟨h.len j hj, h64 j hj⟩, g.row, far _ _ (h.row 0 h0), fun j hj hl => ⟨h.pq j hj hl, ?_⟩, g.call, fun j hj c hc => (h.ok j hj c hc).1⟩
  obtain ⟨c, hc⟩ : ∃ c, (cl j)[0]? = some c := ⟨_, List.getElem?_eq_getElem (by rw [h.len j hj]; exact hl)⟩
  exact far _ _ (h.call j hj 0 c hc).1

end Go.Proofs.YtcfmffmcammbjaaDoor.Gen

/- Arguments that came in are opened; behind the call they read as before. -/
set_option linter.unusedSimpArgs false
set_option linter.unusedVariables false
namespace Go.Proofs.YtcfmffmcammbjaaDoor.Gen
open Go Go.Lift Go.Conc
open Go.ChangeShapes Go.WideShapes Go.ChangeAt Go.RowKit Go.Joins Go.Deep

theorem op_knob : ownKnob Tryd.prog.godebug = none := by kernel_rfl
theorem op_cells3 : Tryd.prog.cellsOf 3 = 1 := by kernel_rfl
theorem op_cells39 : Tryd.prog.cellsOf 35 = 4 := by kernel_rfl
theorem op_cells37 : Tryd.prog.cellsOf 33 = 1 := by kernel_rfl
theorem op_bytes3 : Tryd.prog.bytesOf 3 = 8 := by kernel_rfl
theorem op_bytes37 : Tryd.prog.bytesOf 33 = 24 := by kernel_rfl
def clV (c : Cl) : List Value := [I c.po, I c.ca, I c.cb, I c.cc]
theorem inr_of {n : Int} (h : (Lit.int .i64 n).wf = true) : InR n := by
  have := bounds_i64 h
  unfold InR
  omega

section
variable {H : Type} {enc : TypeId × Value → H} {w : World}
set_option maxRecDepth 100000 in
/-- A list of numbers that came in. -/
theorem ints_in {r : Reach} {b0 : Nat} {v : Value} {d : DataW H} {ps : List MemPlace} (hv : Value.okWide Tryd.prog w r b0 22 v) (h : DataW.Trod enc Tryd.prog w 0 (fun _ => true) true 22 v d ps) (hsz : ∀ elems spare, d = .slice elems spare → (elems.length + spare.length) * Tryd.prog.bytesOf 3 ≤ reachBytes) :
    ∃ (p : Option Addr) (cap b o : Nat) (xs : List Int), v = .slice p xs.length cap ∧ InI w p b o xs := by
  obtain ⟨a0, len0, cap0, rfl⟩ := okWide_slice Tryd.underlying22 hv
  obtain ⟨fuel, hf⟩ := h
  rcases open_ints Tryd.underlying22 Tryd.underlying3 op_cells3 hf with ⟨hcs, _⟩ | ⟨x, l, c, zs, hcs, _, hl, hm, hz, hx, hcell, hwf⟩
  · simp [Value.cells] at hcs
    obtain ⟨rfl, rfl, rfl⟩ := hcs
    exact ⟨none, 0, 0, 0, [], rfl, ⟨fun h => by simp at h, fun k x hk => by simp at hk, fun x hx => by simp at hx, Nat.zero_le _⟩⟩
  · simp [Value.cells] at hcs
    obtain ⟨rfl, rfl, rfl⟩ := hcs
    have hz' : zs.length = cap0 := by simpa using hz
    have ht : (zs.take len0).length = len0 := by rw [List.length_take]; omega
    have hb := hsz _ _ (congrArg Prod.fst hx)
    have hlz : ∀ (k : IntKind) (l : List Int), (ChangeShapes.lits (H := H) k l).length = l.length := fun k l => by simp [ChangeShapes.lits]
    rw [op_bytes3, hlz, hlz, ht] at hb
    have hlen : len0 ≤ 17592186043904 := by unfold reachBytes at hb; omega
    obtain ⟨b, off, spot⟩ := x
    by_cases h0 : len0 = 0
    · subst h0
      exact ⟨_, _, 0, 0, [], rfl, ⟨fun h => by simp at h, fun k x hk => by simp at hk, fun x hx => by simp at hx, Nat.zero_le _⟩⟩
    · have hspot : spot = none := by simpa [Addr.add] using World.cell?_spot (hcell 0 (by omega))
      subst hspot
      refine ⟨_, _, b, off, zs.take len0, by rw [ht], ⟨fun _ => rfl, fun i a hi => ?_, fun x hx => inr_of (hwf x (List.mem_of_mem_take hx)), by rw [ht]; exact hlen⟩⟩
      have hil : i < len0 := by have := (List.getElem?_eq_some_iff.1 hi).1; omega
      have hc := hcell i (by omega)
      have hadd : (⟨b, off, none⟩ : Addr).add i = ⟨b, off + i, none⟩ := by unfold Addr.add; split <;> simp_all
      rw [hadd] at hc
      have ha : zs.getD i 0 = a := by
        rw [List.getElem?_take_of_lt hil] at hi
        rw [List.getD_eq_getElem?_getD, hi]
        rfl
      rw [ha] at hc
      exact hc

set_option maxRecDepth 100000 in
theorem clV_open : ∀ fuel cs (y : DataW H × List MemPlace), cs.length = 4 → DataW.trod enc Tryd.prog w 0 (fun _ => true) true fuel 35 cs = some y → ∃ a, cs = clV a ∧ InR a.ca ∧ a.ok := by
  intro fuel cs y hl h
  obtain ⟨xs, k, hk, hxy, _, hxl, hf⟩ := DataW.trod_struct Tryd.underlying35 h
  match xs, hxl, cs, hl with
  | [y0, y1, y2, y3], _, [c0, c1, c2, c3], _ =>
    have g0 := hf 0 _ rfl
    have g1 := hf 1 _ rfl
    have g2 := hf 2 _ rfl
    have g3 := hf 3 _ rfl
    simp [op_cells3] at g0 g1 g2 g3
    obtain ⟨a0, e0, _, f0⟩ := DataW.trod_int Tryd.underlying3 g0
    obtain ⟨a1, e1, _, f1⟩ := DataW.trod_int Tryd.underlying3 g1
    obtain ⟨a2, e2, _, f2⟩ := DataW.trod_int Tryd.underlying3 g2
    obtain ⟨a3, e3, _, f3⟩ := DataW.trod_int Tryd.underlying3 g3
    simp at e0 e1 e2 e3
    subst e0 e1 e2 e3
    exact ⟨⟨a0, a1, a2, a3⟩, rfl, inr_of f1, inr_of f2, inr_of f3⟩

/-- A script that came in. -/
def Sc (w : World) (v : Value) (q : Option Addr × Nat × Nat × List Cl) : Prop :=
  v = .slice q.1 q.2.2.2.length q.2.1 ∧ (0 < q.2.2.2.length → q.1 = some ⟨q.2.2.1, roOf q.1, none⟩) ∧ (∀ (k : Nat) (c : Cl), q.2.2.2[k]? = some c → w.cell? ⟨q.2.2.1, roOf q.1 + k * 4, none⟩ = some (I c.po) ∧ w.cell? ⟨q.2.2.1, roOf q.1 + k * 4 + 1, none⟩ = some (I c.ca) ∧ w.cell? ⟨q.2.2.1, roOf q.1 + k * 4 + 2, none⟩ = some (I c.cb) ∧ w.cell? ⟨q.2.2.1, roOf q.1 + k * 4 + 3, none⟩ = some (I c.cc)) ∧ ∀ c ∈ q.2.2.2, InR c.ca ∧ c.ok
set_option maxRecDepth 100000 in
theorem script_in {fuel : Nat} {cs : List Value} {y : DataW H × List MemPlace} (h : DataW.trod enc Tryd.prog w 0 (fun _ => true) true fuel 33 cs = some y) : ∃ v q, cs = [v] ∧ Sc w v q := by
  rcases open_slice Tryd.underlying33 h with ⟨hcs, hx⟩ | ⟨ad, len, cap, m, k, D, Pl, hcs, _, hl, hm, hmm, hxe, hx⟩
  · exact ⟨_, (none, 0, 0, []), hcs, rfl, fun h => by simp at h, fun k c h => by simp at h, fun c hc => by simp at hc⟩
  · simp only [if_true] at hmm
    subst hmm
    have each : ∀ i, i < len → ∃ a : Cl, (∀ j, j < 4 → w.cell? ((ad.add (i * 4)).add j) = (clV a)[j]?) ∧ InR a.ca ∧ a.ok := by
      intro i hi
      obtain ⟨cs', h1, h2⟩ := hx i (by omega)
      rw [op_cells39] at h1
      obtain ⟨_, hlen, hc⟩ := World.cells?_some h1
      obtain ⟨a, rfl, ha⟩ := clV_open _ _ _ hlen h2
      exact ⟨a, hc, ha⟩
    have ie : Inhabited Cl := ⟨⟨0, 0, 0, 0⟩⟩
    obtain ⟨q, hq⟩ := choose_lt each
    obtain ⟨b, off, spot⟩ := ad
    by_cases h0 : len = 0
    · subst h0
      exact ⟨_, (some ⟨b, off, spot⟩, m, 0, []), hcs, rfl, fun h => by simp at h, fun k c h => by simp at h, fun c hc => by simp at hc⟩
    · have c01 : w.cell? (((⟨b, off, spot⟩ : Addr).add (0 * 4)).add 0) = some (I (q 0).po) := (hq 0 (by omega)).1 0 (by omega)
      have hspot : spot = none := by
        have := World.cell?_spot c01
        simpa [Addr.add] using this
      subst hspot
      have hadd : ∀ (o j : Nat), (⟨b, o, none⟩ : Addr).add j = ⟨b, o + j, none⟩ := by intro o j; unfold Addr.add; split <;> simp_all
      refine ⟨_, (some ⟨b, off, none⟩, m, b, (List.range len).map q), hcs, ?_, fun _ => rfl, fun i a hi => ?_, fun c hc => ?_⟩
      · simp
      · have hil : i < len := by simpa using (List.getElem?_eq_some_iff.1 hi).1
        have ha : a = q i := by simp [hil] at hi; exact hi.symm
        subst ha
        have k0 := (hq i hil).1 0 (by omega)
        have k1 := (hq i hil).1 1 (by omega)
        have k2 := (hq i hil).1 2 (by omega)
        have k3 := (hq i hil).1 3 (by omega)
        rw [hadd, hadd] at k0 k1 k2 k3
        exact ⟨k0, k1, k2, k3⟩
      · obtain ⟨i, hi, rfl⟩ := List.mem_map.1 hc
        exact (hq i (List.mem_range.1 hi)).2
set_option maxRecDepth 100000 in
/-- Scripts that came in. -/
theorem scripts_in {r : Reach} {b0 : Nat} {v : Value} {d : DataW H} {ps : List MemPlace} (hv : Value.okWide Tryd.prog w r b0 23 v) (h : DataW.Trod enc Tryd.prog w 0 (fun _ => true) true 23 v d ps) (hsz : ∀ elems spare, d = .slice elems spare → (elems.length + spare.length) * Tryd.prog.bytesOf 33 ≤ reachBytes) :
    ∃ (p : Option Addr) (b o n cap : Nat) (pc : Nat → Option Addr) (ln cp rb : Nat → Nat) (cl : Nat → List Cl), v = .slice p n cap ∧ InS w p b o n pc ln cp rb cl := by
  obtain ⟨a0, len0, cap0, rfl⟩ := okWide_slice Tryd.underlying23 hv
  obtain ⟨fuel, hf⟩ := h
  have nothing : ∀ p cap, ∃ (p' : Option Addr) (b o n cap' : Nat) (pc : Nat → Option Addr) (ln cp rb : Nat → Nat) (cl : Nat → List Cl), (Value.slice p 0 cap) = .slice p' n cap' ∧ InS w p' b o n pc ln cp rb cl := fun p cap =>
    ⟨p, 0, 0, 0, cap, fun _ => none, fun _ => 0, fun _ => 0, fun _ => 0, fun _ => [], rfl, ⟨fun h => by omega, fun k hk => by omega, fun k hk => by omega, fun k hk => by omega, fun k hk => by omega, fun k hk => by omega, Nat.zero_le _⟩⟩
  rcases open_slice Tryd.underlying23 hf with ⟨hcs, _⟩ | ⟨ad, len, cap, m, k, D, Pl, hcs, _, hl, hm, hmm, hxe, hx⟩
  · simp [Value.cells] at hcs
    obtain ⟨rfl, rfl, rfl⟩ := hcs
    exact nothing _ _
  · simp [Value.cells] at hcs
    obtain ⟨rfl, rfl, rfl⟩ := hcs
    simp only [if_true] at hmm
    subst hmm
    have hb := hsz _ _ (congrArg Prod.fst hxe)
    rw [op_bytes37] at hb
    simp only [List.length_map, List.length_range] at hb
    have hlen : len0 ≤ 17592186043904 := by unfold reachBytes at hb; omega
    have each : ∀ i, i < len0 → ∃ q : Option Addr × Nat × Nat × List Cl, ∃ v, w.cell? ((ad.add (i * 1)).add 0) = some v ∧ Sc w v q := by
      intro i hi
      obtain ⟨cs', h1, h2⟩ := hx i (by omega)
      rw [op_cells37] at h1
      obtain ⟨_, hlen, hc⟩ := World.cells?_some h1
      obtain ⟨v, q, rfl, hq⟩ := script_in h2
      exact ⟨q, v, hc 0 (by omega), hq⟩
    have ie : Inhabited (Option Addr × Nat × Nat × List Cl) := ⟨(none, 0, 0, [])⟩
    obtain ⟨q, hq⟩ := choose_lt each
    obtain ⟨b, off, spot⟩ := ad
    by_cases h0 : len0 = 0
    · subst h0
      exact nothing _ _
    · obtain ⟨v0, hv0, _⟩ := hq 0 (by omega)
      have hspot : spot = none := by
        have := World.cell?_spot hv0
        simpa [Addr.add] using this
      subst hspot
      have hadd : ∀ (o j : Nat), (⟨b, o, none⟩ : Addr).add j = ⟨b, o + j, none⟩ := by intro o j; unfold Addr.add; split <;> simp_all
      refine ⟨some ⟨b, off, none⟩, b, off, len0, _, fun i => (q i).1, fun i => (q i).2.2.2.length, fun i => (q i).2.1, fun i => (q i).2.2.1, fun i => (q i).2.2.2, rfl, ⟨fun _ => rfl, fun i hi => ?_, fun _ _ => rfl, fun i hi h => ?_, fun i hi k c hc => ?_, fun i hi c hc => ?_, hlen⟩⟩
      · obtain ⟨v, h1, h2⟩ := hq i hi
        rw [hadd, hadd, Nat.mul_one, h2.1] at h1
        exact h1
      · obtain ⟨v, h1, h2⟩ := hq i hi
        exact h2.2.1 h
      · obtain ⟨v, h1, h2⟩ := hq i hi
        exact h2.2.2.1 k c hc
      · obtain ⟨v, h1, h2⟩ := hq i hi
        exact h2.2.2.2 c hc
end

theorem grows_frame {W w' : World} (h : Grows W w') (may : MemPlace → Prop) : W.keptBut w' may := by
  refine ⟨h.os, h.output, fun i hi => ?_⟩
  rw [h.old i hi]
  split <;> simp_all
theorem grows_same {W w' : World} (h : Grows W w') {p : MemPlace} (hp : p.block < W.heap.size) : W.sameAt w' p := by
  cases p with
  | cell b o => exact World.cell?_of_block (w := W) (h.old b hp)
  | map b => exact h.old b hp
theorem op_laid : laidOutB Tryd.prog = true := by kernel_rfl
theorem grows_trod {H : Type} {enc : TypeId × Value → H} {t : TypeId} (hr : Tryd.prog.readableRec t = true) (hrow : t < Tryd.prog.types.size) {W W' : World} {v : Value} {d : DataW H} {ps : List MemPlace}
    (h : DataW.Trod enc Tryd.prog W 0 (fun _ => true) true t v d ps) (hb : Grows W W') (hlt : ∀ x ∈ ps, x.block < W.heap.size) :
    DataW.Trod enc Tryd.prog W' 0 (fun b => decide (b < W.heap.size)) true t v d ps :=
  WideElems.Trod_stays op_laid hr hrow h (fun x hx => grows_same hb (hlt x hx)) (fun x hx => by simpa using hlt x hx)
end Go.Proofs.YtcfmffmcammbjaaDoor.Gen

/- Rows that list variables, for calls that start goroutines: from one good run at every start. -/
set_option linter.unusedSimpArgs false
set_option linter.unusedVariables false
namespace Go.Proofs.YtcfmffmcammbjaaDoor
open Go Go.Lift Go.Conc
open Go.ChangeShapes Go.WideShapes Go.ChangeAt Go.RowKit Go.Joins Go.Deep
open Gen

section
variable {H : Type} {enc : TypeId × Value → H}
/-- One good run at every start that meets X besides. -/
theorem leaving_and {a : Assume} {C : Checked} {os : Os} {f : FuncId} {fn : Func} {s : ChangeSpec} {X : World → Array Value → Prop}
    (hX : ∀ (w w' : World) (args : Array Value), w.heap = w'.heap → X w args → X w' args)
    (own : ownKnob C.prog.godebug = none) (started : os.Started) (hfn : C.prog.funcs[f]? = some fn)
    (wit : ∃ (w : World) (tape : Tape) (i : Input), w.os = os ∧ (w.forCall tape i).Shaped C.prog ∧ i.vars = [] ∧ Input.okWide C.prog (w.forCall tape i) .any w.heap.size f i ∧
      ((s.pre enc C.prog fn [] false (w.forCall tape i).memory i.args ∧ X (w.forCall tape i).memory i.args) ∧ sizedMet enc C.prog fn (OpenSpec.ofChange s) false (w.forCall tape i).memory i.args) ∧ a.holds C.prog (lone (Frame.enter C.prog f i.args .normal) [] (w.forCall tape i)))
    (runs : ∀ (W : World) (base : Nat) (args : Array Value) (ds gs : List (DataW H)) (before : List MemPlace),
      (∀ (j : Nat) t v, fn.params[j]? = some t → args[j]? = some v → Value.okWide C.prog W .any base t v) →
      DataW.Whole enc C.prog fn.params.toList s.vars false W args.toList ds gs before →
      (DataW.weightsEach C.prog (fn.params.toList ++ s.plain.varTypes C.prog) (ds ++ gs)).all (· ≤ reachBytes) = true → X W args →
      ∃ M last o w' t', runNT C.prog (M + 1) (solo (G (Frame.enter C.prog f args .normal) []) W) #[] = (.ended o w', t') ∧ runN C.prog M (solo (G (Frame.enter C.prog f args .normal) []) W) = .next last ∧
        step C.prog last = .ended o w' ∧ Conc.Good C.prog (fun v W' => s.post enc C.prog fn false true false false W args v W') last o w' t') :
    ReturnsInLeavingWide a C os f .any (fun w args => (s.pre enc C.prog fn [] false w args ∧ X w args) ∧ sizedMet enc C.prog fn (OpenSpec.ofChange s) false w args) (s.post enc C.prog fn false true false false) := by
  refine returnsInLeavingWide_of_good own started wit ?_
  intro w tape i _ _ _ hok hpre _
  obtain ⟨_, _, _, fn', hfn', _, _, _, _, hval⟩ := hok
  have e : fn' = fn := Option.some.inj (hfn'.symm.trans hfn)
  subst e
  obtain ⟨⟨⟨ds, gs, before, hw, hc⟩, hx⟩, hz⟩ := hpre
  have hw' := DataW.Whole.of_heap (w' := w.forCall tape i) (by rfl) hw
  obtain ⟨M, last, o, w', t', h1, h2, h3, h4⟩ := runs (w.forCall tape i) w.heap.size i.args ds gs before hval hw' (hz.weights hw) (hX _ _ _ (by rfl) hx)
  exact ⟨M, last, o, w', t', h1, h2, h3, h4.mono fun v hp => ChangeSpec.post_blind hp⟩
end

theorem fieldT6 : (Tryd.prog.globals[6]?).map (·.type) = some 110 := by kernel_rfl
theorem fieldT7 : (Tryd.prog.globals[7]?).map (·.type) = some 110 := by kernel_rfl
theorem cells110 : Tryd.prog.cellsOf 110 = 2 := by kernel_rfl
set_option maxRecDepth 100000 in
/-- A field that a variable holds. -/
theorem field_open {w : World} {fuel : Nat} {cs : List Value} {x y : Int} {p : List MemPlace} (h : DataW.trod (fun _ => ()) Tryd.prog w 0 (fun _ => true) false fuel 110 cs = some (.agg [.lit (.int .i64 x), .lit (.int .i64 y)], p)) : cs = [I x, I y] := by
  obtain ⟨xs, k, hk, hxy, hl, hxl, hf⟩ := DataW.trod_struct Tryd.underlying110 h
  rw [cells110] at hl
  match xs, hxl, cs, hl with
  | [y0, y1], _, [c0, c1], _ =>
    have g0 := hf 0 _ rfl
    have g1 := hf 1 _ rfl
    simp [op_cells3] at g0 g1
    obtain ⟨a0, e0, f0, _⟩ := DataW.trod_int Tryd.underlying3 g0
    obtain ⟨a1, e1, f1, _⟩ := DataW.trod_int Tryd.underlying3 g1
    simp at e0 e1
    subst e0 e1 f0 f1
    simp at hxy
    obtain ⟨⟨rfl, rfl⟩, _⟩ := hxy
    rfl
theorem var_row {w : World} {n : String} {g : Nat} {cs : Array Value} (hg : Tryd.prog.globalNamed n = some g) (h : w.var? Tryd.prog n = some cs) : ∃ t f, w.heap[g]? = some (.cells cs t f) := by
  simp only [World.var?, hg, Option.bind_some] at h
  split at h
  · rename_i c t f e
    cases h
    exact ⟨t, f, e⟩
  · cases h
abbrev laidC : List (String × DataW Unit) := [("butler/counter.fieldAmount", Rows.laid_butler_counter_fieldAmount), ("butler/counter.fieldVersion", Rows.laid_butler_counter_fieldVersion)]
theorem gA : Tryd.prog.globalNamed "butler/counter.fieldAmount" = some 6 := by kernel_rfl
theorem gV : Tryd.prog.globalNamed "butler/counter.fieldVersion" = some 7 := by kernel_rfl
theorem gl_laid {W : World} (h : laidMetH Tryd.prog laidC W) : Gl W := by
  have h' : laidMet Tryd.prog laidC W := h
  obtain ⟨ps, hv, _, _⟩ := h'
  obtain ⟨g, t, cs, fuel, p, q, e1, e2, e3, e4, hr, rfl⟩ := hv
  obtain ⟨g', t', cs', fuel', p', q', k1, k2, k3, k4, hr', rfl⟩ := hr
  obtain rfl := Option.some.inj (gA.symm.trans e1)
  obtain rfl := Option.some.inj (gV.symm.trans k1)
  obtain rfl := Option.some.inj (fieldT6.symm.trans e2)
  obtain rfl := Option.some.inj (fieldT7.symm.trans k2)
  have f1 := field_open e4
  have f2 := field_open k4
  obtain ⟨ty, fz, r1⟩ := var_row gA e3
  obtain ⟨ty', fz', r2⟩ := var_row gV k3
  have c1 : cs = #[I 0, I 32] := by rw [← f1]
  have c2 : cs' = #[I 32, I 30] := by rw [← f2]
  subst c1 c2
  exact ⟨⟨_, _, _, r1, rfl, rfl⟩, ⟨_, _, _, r2, rfl, rfl⟩⟩
end Go.Proofs.YtcfmffmcammbjaaDoor
