/- CounterAlone, whatever the shards, the numbers and the ids: a counter of no world, added to by free threads; behind each Add its Sum is the sum of the shards' amounts, each within 32 bits with a sign; the law answers true and its input reads as it did. Part 27 of 35. (Joined, by program, of: CtT, CtF, CtG.) -/
import Derived.Test.YtcfmffmcammbjaaDoorCounterAlone23
import Derived.Test.YtcfmffmcammbjaaDoorCounterAlone26
import Derived.RegionTactic
import Derived.Laws.CopyRow

/- counter's Sum (57), in company, in pieces: around its two collects. (Made by wip/tools/mkctt.py.) -/
set_option linter.unusedSimpArgs false
set_option linter.unusedVariables false
namespace Go.Proofs.YtcfmffmcammbjaaDoor.Gen
open Go Go.Lift Go.Conc Go.RowKit

theorem info3 : (Tryd.prog.info? 3).map (fun i => (i.zero, i.size, i.bytes)) = some (some (I 0), 1, 8) := by kernel_rfl
theorem make_nums (n : Nat) (hn : n ≤ 1048576) (w : World) :
    (Instr.makeSlice 22 (.int .i64 (n : Int)) (.int .i64 (n : Int))).run Tryd.prog w = .ok (.slice (some ⟨w.heap.size, 0, none⟩) n n) (w.alloc (.cells (madeCells #[I 0] n) 3)) := by
  cases hq : Tryd.prog.info? 3 with
  | none => have := info3; rw [hq] at this; cases this
  | some i =>
    have hi := info3
    rw [hq] at hi
    simp only [Option.map_some, Option.some.injEq, Prod.mk.injEq] at hi
    obtain ⟨hz, hs, hb⟩ := hi
    have := run_make (P := Tryd.prog) w 22 3 i _ Tryd.underlying22 hq hz .i64 .i64 (n : Int) (n : Int) (by omega) (by omega) (by rw [hb]; omega) (by omega)
    rw [hs] at this
    rw [this]
    simp [Value.cells]
/-- A row of ints. -/
def rowI (l : List Int) : Obj := .cells (l.map I).toArray 3 (0, 0)
theorem rowI_cell {v : World} {b : Nat} {l : List Int} (h : v.heap[b]? = some (rowI l)) {k : Nat} {x : Int} (hk : l[k]? = some x) : v.cell? ⟨b, k, none⟩ = some (I x) := by
  simp only [World.cell?, h, rowI]
  simp [hk]
theorem rowI_froz {v : World} {b : Nat} {l : List Int} (h : v.heap[b]? = some (rowI l)) (k : Nat) : v.frozen? ⟨b, k, none⟩ = false := by
  simp only [World.frozen?, h, rowI]
  simp
theorem made_rowI (s : Nat) : (.cells (madeCells #[I 0] s) 3 : Obj) = rowI (List.replicate s 0) := by
  unfold rowI
  congr 1
  apply Array.ext_getElem?
  intro i
  by_cases h : i < s
  · simp [madeCells, h, Nat.mod_one]
  · simp [madeCells, h]
theorem rowI_set {v : World} {b : Nat} {l : List Int} (h : v.heap[b]? = some (rowI l)) (k : Nat) (x : Int) : (v.setCell ⟨b, k, none⟩ (I x)).heap[b]? = some (rowI (l.set k x)) := by
  have := heap_setCell_same (o := k) (show v.heap[b]? = some (.cells (l.map I).toArray 3 (0, 0)) from h) (I x)
  rw [this]
  unfold rowI
  congr 2
  apply Array.ext_getElem?
  intro i
  simp [List.map_set]
theorem setRow_rowI {v : World} {b : Nat} {m : List Int} (h : v.heap[b]? = some (rowI m)) (l : List Int) : (v.setRow b (l.map I).toArray).heap[b]? = some (rowI l) := setRow_heap v b (m.map I).toArray _ 3 (0, 0) h

noncomputable def a57 : Code := seq1 (seq2 (Tryd.f57.body.getD .skip))
noncomputable def L57 : Code := loopC (blockC (seq2 (seq2 (Tryd.f57.body.getD .skip))))
noncomputable def B57 : Code := blockC L57
noncomputable def ops572 : Array Oper := opsOf (seq1 B57)
noncomputable def ops574 : Array Oper := opsOf (seq1 (seq2 (seq2 B57)))
theorem fine_a57 : fineCode Tryd.prog true LT a57 := fineCode_ask callT extT (by kernel_rfl)
/-- The frame at the loop's head; behind the first collect; behind the second. -/
noncomputable def sFr (a : Act) : Frame := (base 57).at a [.code L57, .inLoop L57, .inBlock 0]
noncomputable def sOne (a : Act) : Frame := (base 57).at a [.inRegion ops572 [3], .code (seq2 B57), .inBlock 1, .inLoop L57, .inBlock 0]
noncomputable def sOneB (a : Act) : Frame := (base 57).at (a.put (some 22) (.tuple #[])) [.inRegion ops572 [], .code (seq2 B57), .inBlock 1, .inLoop L57, .inBlock 0]
noncomputable def sTwo (a : Act) : Frame := (base 57).at a [.inRegion ops574 [3], .code (seq2 (seq2 (seq2 B57))), .inBlock 1, .inLoop L57, .inBlock 0]
noncomputable def sTwoB (a : Act) : Frame := (base 57).at (a.put (some 29) (.tuple #[])) [.inRegion ops574 [], .code (seq2 (seq2 (seq2 B57))), .inBlock 1, .inLoop L57, .inBlock 0]

set_option maxHeartbeats 2000000 in
set_option maxRecDepth 100000 in
theorem a57_wp (v : World) (c sb s tb : Nat) (hs1 : s ≤ 16) (h0 : v.cell? ⟨c, 0, none⟩ = some (.slice (some ⟨sb, 0, none⟩) s s)) (u : Nat → Value) :
    a57.wp Tryd.prog (fun e a w' => e = .normal ∧ ∃ nb fb, Fl 35 [(0, Pt c 0), (1, Pt tb 0), (5, .slice (some ⟨nb, 0, none⟩) s s), (6, .slice (some ⟨fb, 0, none⟩) s s)] a ∧ ((nb = v.heap.size ∧ fb = v.heap.size + 1) ∨ (nb = v.heap.size + 1 ∧ fb = v.heap.size)) ∧ w'.heap = (v.heap.push (rowI (List.replicate s 0))).push (rowI (List.replicate s 0)) ∧ w'.os = v.os ∧ w'.output = v.output) { tmps := #[Pt c 0, Pt tb 0, u 2, u 3, u 4, u 5, u 6, u 7, u 8, u 9, u 10, u 11, u 12, u 13, u 14, u 15, u 16, u 17, u 18, u 19, u 20, u 21, u 22, u 23, u 24, u 25, u 26, u 27, u 28, u 29, u 30, u 31, u 32, u 33, u 34], defers := [] } v := by
  have hmk := make_nums s (by omega)
  have hc : c < v.heap.size := World.block_lt_of_cell? _ _ h0
  rw [← made_rowI]
  unfold a57 Tryd.f57 seq1 seq2
  simp only [Option.getD_some]
  go_wp2_with fail
  go_region
  · exact ⟨rfl, _, _, ⟨rfl, rfl, by
    intro p hp
    simp only [List.mem_cons, List.not_mem_nil, or_false] at hp
    rcases hp with rfl | rfl | rfl | rfl <;> rfl⟩, .inl ⟨rfl, rfl⟩, rfl, rfl, rfl⟩
  · exact ⟨rfl, _, _, ⟨rfl, rfl, by
    intro p hp
    simp only [List.mem_cons, List.not_mem_nil, or_false] at hp
    rcases hp with rfl | rfl | rfl | rfl <;> rfl⟩, .inr ⟨rfl, rfl⟩, rfl, rfl, rfl⟩
set_option maxHeartbeats 2000000 in
set_option maxRecDepth 100000 in
/-- It has been entered. -/
theorem sum_in {z : Nat → Option Nat} {Ch : Nat → Prop} {Stop : Goroutine → World → Prop} {main : Bool} {v w : World} {c sb s tb : Nat} (hs1 : s ≤ 16) (h0 : v.cell? ⟨c, 0, none⟩ = some (.slice (some ⟨sb, 0, none⟩) s s)) (cs : List Frame) (hvw : Rel z v w) (hn : NoRow Ch v)
    (hk : ∀ a v' w' nb fb, Fl 35 [(0, Pt c 0), (1, Pt tb 0), (5, .slice (some ⟨nb, 0, none⟩) s s), (6, .slice (some ⟨fb, 0, none⟩) s s)] a → ((nb = v.heap.size ∧ fb = v.heap.size + 1) ∨ (nb = v.heap.size + 1 ∧ fb = v.heap.size)) → Rel z v' w' → NoRow Ch v' → v'.heap = (v.heap.push (rowI (List.replicate s 0))).push (rowI (List.replicate s 0)) → v'.os = v.os → v'.output = v.output → GoesI Tryd.prog main (DT (ScZ z) Ch) Stop (G (sFr a) cs) w') (code : Code) (hc : Tryd.f57.body = some code) :
    GoesI Tryd.prog main (DT (ScZ z) Ch) Stop (G ((base 57).at { tmps := #[Pt c 0, Pt tb 0] ++ Array.replicate 33 undef, defers := [] } [.code code]) cs) w := by
  have hw0 : code = .seq (seq1 (Tryd.f57.body.getD .skip)) (.seq a57 (.block 0 (.loop L57))) := by
    rw [show code = Tryd.f57.body.getD .skip by rw [hc]; rfl]; rfl
  subst hw0
  clear hc
  simp only [Array.replicate_succ, Array.replicate_zero, List.push_toArray, List.append_toArray, List.nil_append, List.cons_append]
  refine goesI_seq (dt_idle _ _) ?_
  generalize hT : Code.seq a57 (.block 0 (.loop L57)) = T
  unfold Tryd.f57 seq1
  simp only [Option.getD_some]
  refine goesI_region (dt_idle _ _) ?_
  simp only [List.size_toArray, List.length_cons, List.length_nil, Nat.reduceAdd, Nat.zero_add, List.range, List.range.loop]
  iterate 1
    (refine goesI_oper rfl rfl (by decide) (fun d K hK => ?_)
     go_simp
     refine hK _ _ ⟨dt_reads (fun e he => ?_), GoesI.at ?_ d⟩
     · have hm := mem_listed he
       simp [go_sem, *] at hm
       try exact ⟨_, _, hm⟩
     clear hK K)
  refine goesI_regionEnd (dt_idle _ _) ?_
  subst hT
  refine goesI_seq (dt_idle _ _) ?_
  refine goesI_plain (z := z) (wr := true) (L := LT) (I := NoRow Ch) hE fineT noRow_keeps (fun v v' w w' es hi hr ho he => dt_of_z v v' w w' es hi hr ho he) hvw fine_a57 rfl (by simp [base]) hn
    (Q := fun a w' => ∃ nb fb, Fl 35 [(0, Pt c 0), (1, Pt tb 0), (5, .slice (some ⟨nb, 0, none⟩) s s), (6, .slice (some ⟨fb, 0, none⟩) s s)] a ∧ ((nb = v.heap.size ∧ fb = v.heap.size + 1) ∨ (nb = v.heap.size + 1 ∧ fb = v.heap.size)) ∧ w'.heap = (v.heap.push (rowI (List.replicate s 0))).push (rowI (List.replicate s 0)) ∧ w'.os = v.os ∧ w'.output = v.output) (fun τ => a57_wp (onTape v τ 0) c sb s tb hs1 h0 (fun m => match m with | 4 => I 0 | m => undef)) ?_
  rintro a' v' w' ⟨nb, fb, hA, hb, q1, q2, q3⟩ hr' hn' -
  refine goesI_block (dt_idle _ _) ?_
  refine goesI_loop (dt_idle _ _) ?_
  exact hk a' v' w' nb fb hA hb hr' hn' q1 q2 q3

set_option maxHeartbeats 2000000 in
set_option maxRecDepth 100000 in
/-- It goes to collect. -/
theorem sum_first {z : Nat → Option Nat} {Ch : Nat → Prop} {Stop : Goroutine → World → Prop} {main : Bool} {v w : World} {c sb s nb fb tb : Nat} {a : Act} (hA : Fl 35 [(0, Pt c 0), (1, Pt tb 0), (5, .slice (some ⟨nb, 0, none⟩) s s), (6, .slice (some ⟨fb, 0, none⟩) s s)] a) (cs : List Frame)
    (hk : ∀ a, Fl 35 [(0, Pt c 0), (1, Pt tb 0), (5, .slice (some ⟨nb, 0, none⟩) s s), (6, .slice (some ⟨fb, 0, none⟩) s s)] a → ∀ code, Tryd.f88.body = some code → GoesI Tryd.prog main (DT (ScZ z) Ch) Stop (G ((base 88).at { tmps := #[Pt c 0, Pt tb 0, .slice (some ⟨nb, 0, none⟩) s s] ++ Array.replicate 22 undef, defers := [] } [.code code]) (sOne a :: cs)) w) :
    GoesI Tryd.prog main (DT (ScZ z) Ch) Stop (G (sFr a) cs) w := by
  unfold sOne ops572 B57 L57 Tryd.f57 seq1 seq2 blockC loopC opsOf at hk
  simp only [Option.getD_some] at hk
  obtain ⟨hsz, hd, hpp⟩ := hA
  obtain ⟨u, rfl, hg⟩ := litN hsz hd
  have u0 := (hg 0).symm.trans (hpp (0, Pt c 0) (by simp))
  have u1 := (hg 1).symm.trans (hpp (1, Pt tb 0) (by simp))
  have u5 := (hg 5).symm.trans (hpp (5, .slice (some ⟨nb, 0, none⟩) s s) (by simp))
  have u6 := (hg 6).symm.trans (hpp (6, .slice (some ⟨fb, 0, none⟩) s s) (by simp))
  clear hg hpp hsz hd
  unfold sFr L57 Tryd.f57 seq2 blockC loopC
  simp only [Option.getD_some, lits, Nat.reduceAdd, u0, u1, u5, u6]
  clear u0 u1 u5 u6
  refine goesI_block (dt_idle _ _) ?_
  refine goesI_seq (dt_idle _ _) ?_
  refine goesI_region (dt_idle _ _) ?_
  simp only [List.size_toArray, List.length_cons, List.length_nil, Nat.reduceAdd, Nat.zero_add, List.range, List.range.loop]
  iterate 3
    (refine goesI_oper rfl rfl (by decide) (fun d K hK => ?_)
     go_simp
     refine hK _ _ ⟨dt_reads (fun e he => ?_), GoesI.at ?_ d⟩
     · have hm := mem_listed he
       simp [go_sem, *] at hm
       try exact ⟨_, _, hm⟩
     clear hK K)
  refine goesI_into (f := 88) (fn := Tryd.f88) (args := #[Pt c 0, Pt tb 0, .slice (some ⟨nb, 0, none⟩) s s]) (dt_idle _ _) rfl rfl (by decide) rfl (by simp [Act.eval]) Tryd.func88 (by decide) rfl ?_
  exact hk _ ⟨rfl, rfl, by
    intro p hp
    simp only [List.mem_cons, List.not_mem_nil, or_false] at hp
    rcases hp with rfl | rfl | rfl | rfl <;> rfl⟩ _ rfl

theorem gx_cell {v v' : World} (g : Grows v v') {a : Addr} {x : Value} (h : v.cell? a = some x) : v'.cell? a = some x := by rw [World.cell?_of_block (w := v) (w' := v') (g.old _ (World.block_lt_of_cell? _ _ h))]; exact h
theorem gx_trans {v v' v2 : World} (a : Grows v v') (b : Grows v' v2) : Grows v v2 := ⟨Nat.le_trans a.size b.size, fun q hq => by rw [b.old q (Nat.lt_of_lt_of_le hq a.size), a.old q hq], b.os.trans a.os, b.output.trans a.output⟩
theorem size3 : (Tryd.prog.info? 3).map (·.size) = some 1 := by kernel_rfl
theorem run_copyI (v : World) (ty : TypeId) (nb fb s : Nat) (l m : List Int) (hl : l.length = s) (hm : m.length = s) (h1 : v.heap[nb]? = some (rowI l)) (h2 : v.heap[fb]? = some (rowI m)) :
    (Builtin.copy_ #[22, 22] ty #[.slice (some ⟨fb, 0, none⟩) s s, .slice (some ⟨nb, 0, none⟩) s s]).run Tryd.prog v = .ok (goInt s) (v.setRow fb (l.map I).toArray) := by
  have := run_copy_row (P := Tryd.prog) v 22 22 ty 3 fb 0 s s ⟨nb, 0, none⟩ s s (m.map I).toArray 3 (l.map I) Tryd.underlying22 size3 h2 (by simp [hl]) (fun j u hj => by
    rw [List.getElem?_map] at hj
    cases hx : l[j]? with
    | none => rw [hx] at hj; cases hj
    | some x =>
      rw [hx] at hj
      cases hj
      have := rowI_cell h1 hx
      rw [show (⟨nb, 0, none⟩ : Addr).add j = ⟨nb, j, none⟩ by unfold Addr.add; split <;> simp_all]
      exact this) (by simp [hl, hm]) (fun u hu => by
    obtain ⟨x, _, rfl⟩ := List.mem_map.1 hu
    rfl)
  rw [this]
  have hd : (m.map I).drop s = [] := List.drop_eq_nil_iff.2 (by rw [List.length_map, hm]; exact Nat.le_refl _)
  simp [hl, hd]
set_option maxHeartbeats 2000000 in
set_option maxRecDepth 100000 in
/-- What was collected is copied; it goes to collect again. -/
theorem sum_mid {z : Nat → Option Nat} {Ch : Nat → Prop} {Stop : Goroutine → World → Prop} {main : Bool} {v w : World} {c sb s nb fb tb : Nat} {a : Act} (hA : Fl 35 [(0, Pt c 0), (1, Pt tb 0), (5, .slice (some ⟨nb, 0, none⟩) s s), (6, .slice (some ⟨fb, 0, none⟩) s s)] a) (l m : List Int) (hl : l.length = s) (hm : m.length = s) (h1 : v.heap[nb]? = some (rowI l)) (h2 : v.heap[fb]? = some (rowI m)) (cs : List Frame) (hvw : Rel z v w) (hn : NoRow Ch v)
    (hk : ∀ a w', Fl 35 [(0, Pt c 0), (1, Pt tb 0), (5, .slice (some ⟨nb, 0, none⟩) s s), (6, .slice (some ⟨fb, 0, none⟩) s s)] a → Rel z (v.setRow fb (l.map I).toArray) w' → NoRow Ch (v.setRow fb (l.map I).toArray) → ∀ code, Tryd.f88.body = some code → GoesI Tryd.prog main (DT (ScZ z) Ch) Stop (G ((base 88).at { tmps := #[Pt c 0, Pt tb 0, .slice (some ⟨nb, 0, none⟩) s s] ++ Array.replicate 22 undef, defers := [] } [.code code]) (sTwo a :: cs)) w') :
    GoesI Tryd.prog main (DT (ScZ z) Ch) Stop (G (sOneB a) cs) w := by
  have hcp := run_copyI v 3 nb fb s l m hl hm h1 h2
  unfold sTwo ops574 B57 L57 Tryd.f57 seq1 seq2 blockC loopC opsOf at hk
  simp only [Option.getD_some] at hk
  obtain ⟨hsz, hd, hpp⟩ := hA
  obtain ⟨u, rfl, hg⟩ := litN hsz hd
  have u0 := (hg 0).symm.trans (hpp (0, Pt c 0) (by simp))
  have u1 := (hg 1).symm.trans (hpp (1, Pt tb 0) (by simp))
  have u5 := (hg 5).symm.trans (hpp (5, .slice (some ⟨nb, 0, none⟩) s s) (by simp))
  have u6 := (hg 6).symm.trans (hpp (6, .slice (some ⟨fb, 0, none⟩) s s) (by simp))
  clear hg hpp hsz hd
  unfold sOneB ops572 B57 L57 Tryd.f57 seq2 seq1 blockC loopC opsOf
  simp only [Option.getD_some, lits, Nat.reduceAdd, u0, u1, u5, u6]
  clear u0 u1 u5 u6
  walk_nrm
  refine goesI_regionEnd (dt_idle _ _) ?_
  refine goesI_seq (dt_idle _ _) ?_
  refine goesI_region (dt_idle _ _) ?_
  simp only [List.size_toArray, List.length_cons, List.length_nil, Nat.reduceAdd, Nat.zero_add, List.range, List.range.loop]
  iterate 2
    (refine goesI_oper rfl rfl (by decide) (fun d K hK => ?_)
     go_simp
     refine hK _ _ ⟨dt_reads (fun e he => ?_), GoesI.at ?_ d⟩
     · have hm := mem_listed he
       simp [go_sem, *] at hm
       try exact ⟨_, _, hm⟩
     clear hK K)
  refine goesI_opZ (L := LT) rfl rfl (by decide) (fineOp_ask callT extT (by kernel_rfl)) hvw hn (x := goInt s) (v' := v.setRow fb (l.map I).toArray) (by simp [execOp, resolve, Act.eval, hcp, go_sem]) rfl (fun w1 hvw1 hn1 => ?_)
  walk_nrm
  refine goesI_regionEnd (dt_idle _ _) ?_
  refine goesI_seq (dt_idle _ _) ?_
  refine goesI_region (dt_idle _ _) ?_
  simp only [List.size_toArray, List.length_cons, List.length_nil, Nat.reduceAdd, Nat.zero_add, List.range, List.range.loop]
  iterate 3
    (refine goesI_oper rfl rfl (by decide) (fun d K hK => ?_)
     go_simp
     refine hK _ _ ⟨dt_reads (fun e he => ?_), GoesI.at ?_ d⟩
     · have hm := mem_listed he
       simp [go_sem, *] at hm
       try exact ⟨_, _, hm⟩
     clear hK K)
  refine goesI_into (f := 88) (fn := Tryd.f88) (args := #[Pt c 0, Pt tb 0, .slice (some ⟨nb, 0, none⟩) s s]) (dt_idle _ _) rfl rfl (by decide) rfl (by simp [Act.eval]) Tryd.func88 (by decide) rfl ?_
  exact hk _ _ ⟨rfl, rfl, by
    intro p hp
    simp only [List.mem_cons, List.not_mem_nil, or_false] at hp
    rcases hp with rfl | rfl | rfl | rfl <;> rfl⟩ hvw1 hn1 _ rfl

noncomputable def yes57 : Code := condA (seq2 (seq2 (seq2 (seq2 B57))))
theorem fine_yes57 : fineCode Tryd.prog true LT yes57 := fineCode_ask callT extT (by kernel_rfl)
set_option maxHeartbeats 2000000 in
set_option maxRecDepth 100000 in
/-- It has seen the same twice: the sum; else it begins again. -/
theorem sum_end {z : Nat → Option Nat} {Ch : Nat → Prop} {Stop : Goroutine → World → Prop} {main : Bool} {v w : World} {c sb s nb fb tb : Nat} {a : Act} (hA : Fl 35 [(0, Pt c 0), (1, Pt tb 0), (5, .slice (some ⟨nb, 0, none⟩) s s), (6, .slice (some ⟨fb, 0, none⟩) s s)] a) (l m : List Int) (hs1 : s ≤ 16) (hl : l.length = s) (hm : m.length = s) (hF : R1.Flds v) (h1 : v.heap[nb]? = some (rowI l)) (h2 : v.heap[fb]? = some (rowI m)) (cs : List Frame) {bc : Frame} {ac : Act} {ops : Array Oper} {q : Nat} {rest : List Nat} {oc : Oper} {k : List Item} (hoc : ops[q]? = some oc) (hvw : Rel z v w) (hn : NoRow Ch v)
    (hyes : m = l → ∀ v' w', Rel z v' w' → NoRow Ch v' → Grows v v' → GoesI Tryd.prog main (DT (ScZ z) Ch) Stop (G (bc.at (ac.put oc.dst (I (R1.totI l))) (.inRegion ops rest :: k)) cs) w')
    (hno : m ≠ l → ∀ a v' w', Fl 35 [(0, Pt c 0), (1, Pt tb 0), (5, .slice (some ⟨nb, 0, none⟩) s s), (6, .slice (some ⟨fb, 0, none⟩) s s)] a → Rel z v' w' → NoRow Ch v' → Grows v v' → GoesI Tryd.prog main (DT (ScZ z) Ch) Stop (G (sFr a) (bc.at ac (.inRegion ops (q :: rest) :: k) :: cs)) w') :
    GoesI Tryd.prog main (DT (ScZ z) Ch) Stop (G (sTwoB a) (bc.at ac (.inRegion ops (q :: rest) :: k) :: cs)) w := by
  unfold sFr L57 Tryd.f57 seq2 blockC loopC at hno
  simp only [Option.getD_some] at hno
  obtain ⟨hsz, hd, hpp⟩ := hA
  obtain ⟨u, rfl, hg⟩ := litN hsz hd
  have u0 := (hg 0).symm.trans (hpp (0, Pt c 0) (by simp))
  have u1 := (hg 1).symm.trans (hpp (1, Pt tb 0) (by simp))
  have u5 := (hg 5).symm.trans (hpp (5, .slice (some ⟨nb, 0, none⟩) s s) (by simp))
  have u6 := (hg 6).symm.trans (hpp (6, .slice (some ⟨fb, 0, none⟩) s s) (by simp))
  clear hg hpp hsz hd
  unfold sTwoB ops574 B57 L57 Tryd.f57 seq2 seq1 blockC loopC opsOf
  simp only [Option.getD_some, lits, Nat.reduceAdd, u0, u1, u5, u6]
  clear u0 u1 u5 u6
  walk_nrm
  refine goesI_regionEnd (dt_idle _ _) ?_
  refine goesI_seq (dt_idle _ _) ?_
  refine goesI_region (dt_idle _ _) ?_
  simp only [List.size_toArray, List.length_cons, List.length_nil, Nat.reduceAdd, Nat.zero_add, List.range, List.range.loop]
  iterate 2
    (refine goesI_oper rfl rfl (by decide) (fun d K hK => ?_)
     go_simp
     refine hK _ _ ⟨dt_reads (fun e he => ?_), GoesI.at ?_ d⟩
     · have hm := mem_listed he
       simp [go_sem, *] at hm
       try exact ⟨_, _, hm⟩
     clear hK K)
  refine goesI_call (f := 89) (fn := Tryd.f89) (args := #[.slice (some ⟨fb, 0, none⟩) s s, .slice (some ⟨nb, 0, none⟩) s s]) hE fineT rfl rfl (by decide) rfl (by simp [Act.eval]) Tryd.func89 (by kernel_rfl) rfl (fineFn_body fineT (by simp [LT, plainFs]) Tryd.func89 rfl) (fun tmps => ⟨_, fun w => results_tmp rfl _ _ _, fun w => by simp [results, go_sem, Tryd.f89]⟩) hvw hn
    (R := fun r v4 => r = .bool (decide (m = l)) ∧ Grows v v4) (fun τ => ?_) (fun r v4 w4 hR hvw4 hn4 => ?_)
  · have := R1.equal_any m l fb nb s s (onTape v τ 0) (by omega) (by omega) (fun k x hk => rowI_cell (v := onTape v τ 0) h2 hk) (fun k x hk => rowI_cell (v := onTape v τ 0) h1 hk) _ rfl
    rw [hl, hm] at this
    exact wp_mono this (bp_mono fun r u hq => ⟨hq.1, ⟨(blw_grows hq.2).size, (blw_grows hq.2).old, hq.2.os, hq.2.output⟩⟩)
  obtain ⟨rfl, hg4⟩ := hR
  walk_nrm
  refine goesI_regionEnd (dt_idle _ _) ?_
  by_cases hml : m = l
  · subst hml
    refine goesI_cond (dt_idle _ _) (t := true) (by simp [Act.eval]) ?_
    simp only [if_true, if_false, Bool.false_eq_true]
    refine goesI_outZ (c := yes57) (f := 57) (fn := Tryd.f57) (L := LT) hE fineT hvw4 hn4 Tryd.func57 fine_yes57 rfl hoc (R := fun r w' => r = I (R1.totI m) ∧ Grows v4 w') (fun τ => ?_) (fun r v' w' hR hr' hn' => ?_)
    · have HT : Hid (Body Tryd.f90 #[.slice (some ⟨nb, 0, none⟩) m.length s] (onTape v4 τ 0) _) := ⟨R1.total_any m nb s (onTape v4 τ 0) (by omega) (hF.of fun a x ha => by
        have := gx_cell hg4 ha
        exact this) (fun k x hk => by
        have := gx_cell hg4 (rowI_cell h1 hk)
        exact this)⟩
      rw [hm] at HT
      show Code.wp Tryd.prog (condA (seq2 (seq2 (seq2 (seq2 (blockC (loopC (blockC (seq2 (seq2 (Tryd.f57.body.getD .skip)))))))))) ) _ _ _
      unfold Tryd.f57 condA seq2 blockC loopC
      simp only [Option.getD_some]
      go_wp2_with (first
        | (go_at_call 90; refine (HT.out.calls Tryd.func90 rfl).mono ?_; rintro e w1 ⟨_, rfl, rfl, hb⟩))
      exact ⟨_, results_tmp rfl _ _ _, rfl, ⟨hb.size, fun b hbb => hb.block b hbb, hb.os, hb.output⟩⟩
    · obtain ⟨rfl, hg5⟩ := hR
      exact hyes rfl v' w' hr' hn' (gx_trans hg4 hg5)
  · refine goesI_cond (dt_idle _ _) (t := false) (by simp [Act.eval, hml]) ?_
    simp only [if_true, if_false, Bool.false_eq_true]
    refine goesI_skip (dt_idle _ _) ?_
    refine goesI_inBlock (dt_idle _ _) ?_
    refine goesI_inLoop (dt_idle _ _) ?_
    exact hno hml _ _ _ ⟨rfl, rfl, by
      intro p hp
      simp only [List.mem_cons, List.not_mem_nil, or_false] at hp
      rcases hp with rfl | rfl | rfl | rfl <;> rfl⟩ hvw4 hn4 hg4
end Go.Proofs.YtcfmffmcammbjaaDoor.Gen

/- counter's Add by a thread of no world, main alone. -/
set_option linter.unusedSimpArgs false
set_option linter.unusedVariables false
namespace Go.Proofs.YtcfmffmcammbjaaDoor.Gen
open Go Go.Lift Go.Conc Go.RowKit

/-- One cell is written, and there is more memory. -/
structure Ftg (cb : Nat) (y : Int) (v v' : World) : Prop where
  cel : v'.heap[cb]? = some (.cells #[I 0, I y] 149 (0, 0))
  old : ∀ b, b < v.heap.size → b ≠ cb → v'.heap[b]? = v.heap[b]?
  size : v.heap.size ≤ v'.heap.size
  os : v'.os = v.os
  out : v'.output = v.output
section
variable {Ch : Nat → Prop} {Stop : Goroutine → World → Prop} {main : Bool} {v w : World} {tb c cb sb s i : Nat} {kb : List Nat} {x : Int}
theorem Fm.grows {v' : World} (m : Fm tb cb x v) (g : Grows v v') : Fm tb cb x v' := ⟨gx_cell g m.thr, m.ne, by
  have hlt : cb < v.heap.size := (Array.getElem?_eq_some_iff.1 m.cel).1
  rw [g.old cb hlt]; exact m.cel⟩

set_option maxHeartbeats 2000000 in
set_option maxRecDepth 100000 in
theorem fadd_try {n : Int} (hF : R1.Flds v) {a : Act} (hA : Fl 32 [(0, Pt c 0), (1, Pt tb 0), (2, I n), (6, Pt cb 0)] a) (cs : List Frame) (hvw : Rel zn v w) (hn : NoRow Ch v) (m0 : Fm tb cb x v)
    (hk : ∀ a v' w', Fl 32 [(0, Pt c 0), (1, Pt tb 0), (2, I n), (6, Pt cb 0)] a → Rel zn v' w' → NoRow Ch v' → Ftg cb (R1.addI x n) v v' → GoesI Tryd.prog main (DT (ScZ zn) Ch) Stop (G (aTried a (.bool true)) cs) w') :
    GoesI Tryd.prog main (DT (ScZ zn) Ch) Stop (G (aSeen a (I x)) cs) w := by
  have e3 : effCas x (R1.addI x n) x = ((x, R1.addI x n), R1.addI x n, .bool true) := by unfold effCas; rw [if_pos rfl]
  have HM : Hid (Fm tb cb x v) := ⟨m0⟩
  clear m0
  unfold aTried ops552 B55 L55 Tryd.f55 seq1 seq2 blockC loopC opsOf at hk
  simp only [Option.getD_some] at hk
  obtain ⟨hsz, hd, hpp⟩ := hA
  obtain ⟨u, rfl, hg⟩ := litN hsz hd
  have u0 := (hg 0).symm.trans (hpp (0, Pt c 0) (by simp))
  have u1 := (hg 1).symm.trans (hpp (1, Pt tb 0) (by simp))
  have u2 := (hg 2).symm.trans (hpp (2, I n) (by simp))
  have u6 := (hg 6).symm.trans (hpp (6, Pt cb 0) (by simp))
  clear hg hpp hsz hd
  unfold aSeen ops551 B55 L55 Tryd.f55 seq2 seq1 blockC loopC opsOf
  simp only [Option.getD_some, lits, Nat.reduceAdd, u0, u1, u2, u6]
  clear u0 u1 u2 u6
  walk_nrm
  iterate 1
    (refine goesI_oper rfl rfl (by decide) (fun d K hK => ?_)
     go_simp
     refine hK _ _ ⟨dt_reads (fun e he => ?_), GoesI.at ?_ d⟩
     · have hm := mem_listed he
       simp [go_sem, *] at hm
       try exact ⟨_, _, hm⟩
     clear hK K)
  refine goesI_regionEnd (dt_idle _ _) ?_
  refine goesI_seq (dt_idle _ _) ?_
  refine goesI_region (dt_idle _ _) ?_
  simp only [List.size_toArray, List.length_cons, List.length_nil, Nat.reduceAdd, Nat.zero_add, List.range, List.range.loop]
  iterate 5
    (refine goesI_oper rfl rfl (by decide) (fun d K hK => ?_)
     go_simp
     refine hK _ _ ⟨dt_reads (fun e he => ?_), GoesI.at ?_ d⟩
     · have hm := mem_listed he
       simp [go_sem, *] at hm
       try exact ⟨_, _, hm⟩
     clear hK K)
  refine goesI_call (f := 87) (fn := Tryd.f87) (args := #[I x, I n]) hE fineT rfl rfl (by decide) rfl (by simp [Act.eval]) Tryd.func87 (by kernel_rfl) rfl (fineFn_body fineT (by simp [LT, plainFs]) Tryd.func87 rfl) (fun tmps => ⟨_, fun w => results_tmp rfl _ _ _, fun w => by simp [results, go_sem, Tryd.f87]⟩) hvw hn
    (R := fun r v4 => r = I (R1.addI x n) ∧ Grows v v4) (fun τ => ?_) (fun r v4 w4 hR hvw4 hn4 => ?_)
  · exact wp_mono (R1.added_any x n (onTape v τ 0) (fits_flds hF rfl) _ rfl) (bp_mono fun r u hq => ⟨hq.1, ⟨(blw_grows hq.2).size, (blw_grows hq.2).old, hq.2.os, hq.2.output⟩⟩)
  obtain ⟨rfl, hg4⟩ := hR
  walk_nrm
  refine goesI_into (f := 66) (fn := Tryd.f66) (args := #[Pt cb 0, Pt tb 0, I x, I (R1.addI x n)]) (dt_idle _ _) rfl rfl (by decide) rfl (by simp [Act.eval]) Tryd.func66 (by decide) rfl ?_
  refine free14 x (R1.addI x n) x _ rfl hvw4 hn4 (HM.out.grows hg4) (fun v2 w2 r2 n2 h2 => ?_) _ rfl
  rw [e3] at h2 ⊢
  exact hk _ v2 w2 ⟨rfl, rfl, by
    intro p hp
    simp only [List.mem_cons, List.not_mem_nil, or_false] at hp
    rcases hp with rfl | rfl | rfl | rfl <;> rfl⟩ r2 n2 ⟨h2.fm.cel, fun b hb hne => by rw [h2.old b hne, hg4.old b hb], by rw [h2.size]; exact hg4.size, h2.os.trans hg4.os, h2.out.trans hg4.output⟩

set_option maxHeartbeats 2000000 in
set_option maxRecDepth 100000 in
theorem fadd_look {n : Int} {a : Act} (hA : Fl 32 [(0, Pt c 0), (1, Pt tb 0), (2, I n), (6, Pt cb 0)] a) (cs : List Frame) (hvw : Rel zn v w) (hn : NoRow Ch v) (m0 : Fm tb cb x v)
    (hk : ∀ a v' w', Fl 32 [(0, Pt c 0), (1, Pt tb 0), (2, I n), (6, Pt cb 0)] a → Rel zn v' w' → NoRow Ch v' → v'.heap = v.heap → v'.os = v.os → v'.output = v.output → GoesI Tryd.prog main (DT (ScZ zn) Ch) Stop (G (aSeen a (I x)) cs) w') :
    GoesI Tryd.prog main (DT (ScZ zn) Ch) Stop (G (aFr a) cs) w := by
  have HM : Hid (Fm tb cb x v) := ⟨m0⟩
  clear m0
  unfold aSeen ops551 B55 L55 Tryd.f55 seq1 seq2 blockC loopC opsOf at hk
  simp only [Option.getD_some] at hk
  obtain ⟨hsz, hd, hpp⟩ := hA
  obtain ⟨u, rfl, hg⟩ := litN hsz hd
  have u0 := (hg 0).symm.trans (hpp (0, Pt c 0) (by simp))
  have u1 := (hg 1).symm.trans (hpp (1, Pt tb 0) (by simp))
  have u2 := (hg 2).symm.trans (hpp (2, I n) (by simp))
  have u6 := (hg 6).symm.trans (hpp (6, Pt cb 0) (by simp))
  clear hg hpp hsz hd
  unfold aFr L55 Tryd.f55 seq2 blockC loopC
  simp only [Option.getD_some, lits, Nat.reduceAdd, u0, u1, u2, u6]
  clear u0 u1 u2 u6
  refine goesI_block (dt_idle _ _) ?_
  refine goesI_seq (dt_idle _ _) ?_
  refine goesI_region (dt_idle _ _) ?_
  simp only [List.size_toArray, List.length_cons, List.length_nil, Nat.reduceAdd, Nat.zero_add, List.range, List.range.loop]
  iterate 2
    (refine goesI_oper rfl rfl (by decide) (fun d K hK => ?_)
     go_simp
     refine hK _ _ ⟨dt_reads (fun e he => ?_), GoesI.at ?_ d⟩
     · have hm := mem_listed he
       simp [go_sem, *] at hm
       try exact ⟨_, _, hm⟩
     clear hK K)
  refine goesI_into (f := 64) (fn := Tryd.f64) (args := #[Pt cb 0, Pt tb 0]) (dt_idle _ _) rfl rfl (by decide) rfl (by simp [Act.eval]) Tryd.func64 (by decide) rfl ?_
  refine free17 x _ rfl hvw hn HM.out (fun v2 w2 r2 n2 h2 => ?_) _ rfl
  exact hk _ v2 w2 ⟨rfl, rfl, by
    intro p hp
    simp only [List.mem_cons, List.not_mem_nil, or_false] at hp
    rcases hp with rfl | rfl | rfl | rfl <;> rfl⟩ r2 n2 (h2.stay HM.out) h2.os h2.out

/-- Add. -/
theorem fadd (n : Int) {cs : List Frame} {bc : Frame} {ac : Act} {ops : Array Oper} {q : Nat} {rest : List Nat} {oc : Oper} {k : List Item} (hoc : ops[q]? = some oc)
    (hvw : Rel zn v w) (hn : NoRow Ch v) (hC : Ctr v c sb s kb) (h1 : v.cell? ⟨tb, 1, none⟩ = some (I i)) (hcb : kb[i % s]? = some cb) (hF : R1.Flds v) (m0 : Fm tb cb x v)
    (hk : ∀ v' w', Rel zn v' w' → NoRow Ch v' → Ftg cb (R1.addI x n) v v' → GoesI Tryd.prog main (DT (ScZ zn) Ch) Stop (G (bc.at (ac.put oc.dst (.tuple #[])) (.inRegion ops rest :: k)) cs) w') (code : Code) (hc : Tryd.f55.body = some code) :
    GoesI Tryd.prog main (DT (ScZ zn) Ch) Stop (G ((base 55).at { tmps := #[Pt c 0, Pt tb 0, I n] ++ Array.replicate 29 undef, defers := [] } [.code code]) (bc.at ac (.inRegion ops (q :: rest) :: k) :: cs)) w := by
  refine add_in n hC h1 hcb _ hvw hn (fun a v1 w1 hA r1 n1 a1 b1 c1 => ?_) code hc
  refine fadd_look hA _ r1 n1 (m0.same a1) (fun a v2 w2 hA r2 n2 a2 b2 c2 => ?_)
  refine fadd_try (fits_flds hF (a2.trans a1)) hA _ r2 n2 (m0.same (a2.trans a1)) (fun a v3 w3 hA r3 n3 h3 => ?_)
  refine add_won hA _ hoc r3 n3 (fun w4 r4 => hk v3 w4 r4 n3 ⟨h3.cel, fun b hb hne => ?_, ?_, h3.os.trans (b2.trans b1), h3.out.trans (c2.trans c1)⟩)
  · rw [h3.old b (by rw [a2, a1]; exact hb) hne, a2, a1]
  · have := h3.size; rw [a2, a1] at this; exact this
end
end Go.Proofs.YtcfmffmcammbjaaDoor.Gen

/- counter's Sum by a thread of no world, main alone; a counter of no world in memory. -/
set_option linter.unusedSimpArgs false
set_option linter.unusedVariables false
namespace Go.Proofs.YtcfmffmcammbjaaDoor.Gen
open Go Go.Lift Go.Conc Go.RowKit

/-- A counter of no world: its shards hold xs. -/
structure Fcs (v : World) (c sb s : Nat) (kb : List Nat) (xs : List Int) : Prop where
  ctr : Ctr v c sb s kb
  len : xs.length = s
  klen : kb.length = s
  cel : ∀ (j cb : Nat) (x : Int), kb[j]? = some cb → xs[j]? = some x → v.heap[cb]? = some (.cells #[I 0, I x] 149 (0, 0))
  nd : kb.Nodup
  csb : c ≠ sb
  ckb : ∀ cb ∈ kb, cb ≠ c ∧ cb ≠ sb
/-- The blocks below B are as they were. -/
structure Bl (B : Nat) (v v' : World) : Prop where
  old : ∀ b, b < B → v'.heap[b]? = v.heap[b]?
  size : v.heap.size ≤ v'.heap.size
  os : v'.os = v.os
  out : v'.output = v.output
section
variable {B c sb s tb : Nat} {kb : List Nat} {xs : List Int} {v v' v'' : World}
theorem Bl.trans (h : Bl B v v') (g : Bl B v' v'') : Bl B v v'' := ⟨fun b hb => by rw [g.old b hb, h.old b hb], Nat.le_trans h.size g.size, g.os.trans h.os, g.out.trans h.out⟩
theorem Bl.refl : Bl B v v := ⟨fun _ _ => rfl, Nat.le_refl _, rfl, rfl⟩
theorem Bl.same (h : Bl B v v') (e1 : v''.heap = v'.heap) (e2 : v''.os = v'.os) (e3 : v''.output = v'.output) : Bl B v v'' := ⟨fun b hb => by rw [e1]; exact h.old b hb, by rw [e1]; exact h.size, e2.trans h.os, e3.trans h.out⟩
theorem Bl.grows (h : Bl v.heap.size v v') : Grows v v' := ⟨h.size, h.old, h.os, h.out⟩
theorem Bl.cell (h : Bl B v v') {b j : Nat} {x : Value} (hb : b < B) (hx : v.cell? ⟨b, j, none⟩ = some x) : v'.cell? ⟨b, j, none⟩ = some x := by
  rw [World.cell?_of_block (w := v) (w' := v') (h.old b hb)]; exact hx
theorem Grows.bl (h : Grows v v') (hB : B ≤ v.heap.size) : Bl B v v' := ⟨fun b hb => h.old b (by omega), h.size, h.os, h.output⟩
theorem Fcs.lt (h : Fcs v c sb s kb xs) : c < v.heap.size ∧ sb < v.heap.size ∧ ∀ cb ∈ kb, cb < v.heap.size := by
  refine ⟨World.block_lt_of_cell? _ _ h.ctr.row, ?_, fun cb hcb => ?_⟩
  · obtain ⟨cb, _, e⟩ := h.ctr.cel 0 h.ctr.s0
    exact World.block_lt_of_cell? _ _ e
  · obtain ⟨j, hj, e⟩ := List.getElem_of_mem hcb
    obtain ⟨x, hx⟩ : ∃ x, xs[j]? = some x := ⟨_, List.getElem?_eq_getElem (by rw [h.len, ← h.klen]; exact hj)⟩
    exact (Array.getElem?_eq_some_iff.1 (h.cel j cb x (by rw [List.getElem?_eq_getElem hj, e]) hx)).1
theorem Fcs.bl (h : Fcs v c sb s kb xs) (g : Bl v.heap.size v v') : Fcs v' c sb s kb xs := by
  obtain ⟨l1, l2, l3⟩ := h.lt
  refine ⟨⟨g.cell l1 h.ctr.row, fun j hj => ?_, h.ctr.s0, h.ctr.s1⟩, h.len, h.klen, fun j cb x hc hx => ?_, h.nd, h.csb, h.ckb⟩
  · obtain ⟨cb, e1, e2⟩ := h.ctr.cel j hj
    exact ⟨cb, e1, g.cell l2 e2⟩
  · rw [g.old cb (l3 cb (List.mem_of_getElem? hc))]; exact h.cel j cb x hc hx
theorem Fcs.fm (h : Fcs v c sb s kb xs) {j cb : Nat} {x : Int} (h1 : kb[j]? = some cb) (h2 : xs[j]? = some x) (ht : v.cell? ⟨tb, 0, none⟩ = some (.pointer none)) : Fm tb cb x v := ⟨ht, fun e => by
  have := h.cel j cb x h1 h2
  rw [e, World.cell?, this] at ht
  simp at ht, h.cel j cb x h1 h2⟩
end

section
variable {Ch : Nat → Prop} {Stop : Goroutine → World → Prop} {main : Bool} {v w : World} {tb c cb sb s i nb fb k : Nat} {kb : List Nat} {xs : List Int} {x : Int}
set_option maxHeartbeats 2000000 in
set_option maxRecDepth 100000 in
/-- It looks at shard k. -/
theorem fcoll_look (hks : k < s) (hcb : v.cell? ⟨sb, k, none⟩ = some (Pt cb 0)) {a : Act} (hA : Fl 25 [(0, Pt c 0), (1, Pt tb 0), (2, .slice (some ⟨nb, 0, none⟩) s s), (11, .slice (some ⟨sb, 0, none⟩) s s), (12, I s), (13, I k)] a) (cs : List Frame) (hvw : Rel zn v w) (hn : NoRow Ch v) (m0 : Fm tb cb x v)
    (hk : ∀ a v' w', Fl 25 [(0, Pt c 0), (1, Pt tb 0), (2, .slice (some ⟨nb, 0, none⟩) s s), (11, .slice (some ⟨sb, 0, none⟩) s s), (12, I s), (13, I k)] a → Fl 25 [(18, .slice (some ⟨nb, 0, none⟩) s s), (19, I k)] a → Rel zn v' w' → NoRow Ch v' → v'.heap = v.heap → v'.os = v.os → v'.output = v.output → GoesI Tryd.prog main (DT (ScZ zn) Ch) Stop (G (kSeen a (I x)) cs) w') :
    GoesI Tryd.prog main (DT (ScZ zn) Ch) Stop (G (kFr a) cs) w := by
  have e0 : w.cell? ⟨sb, k, none⟩ = some (Pt cb 0) := by rw [hvw.cell?]; exact hcb
  have hks' : (k : Int) < (s : Int) := by omega
  have HM : Hid (Fm tb cb x v) := ⟨m0⟩
  clear m0
  unfold kSeen ops883 r884 B88 L88 Tryd.f88 seq1 seq2 blockC loopC opsOf at hk
  simp only [Option.getD_some] at hk
  obtain ⟨hsz, hd, hpp⟩ := hA
  obtain ⟨u, rfl, hg⟩ := litN hsz hd
  have u0 := (hg 0).symm.trans (hpp (0, Pt c 0) (by simp))
  have u1 := (hg 1).symm.trans (hpp (1, Pt tb 0) (by simp))
  have u2 := (hg 2).symm.trans (hpp (2, .slice (some ⟨nb, 0, none⟩) s s) (by simp))
  have u11 := (hg 11).symm.trans (hpp (11, .slice (some ⟨sb, 0, none⟩) s s) (by simp))
  have u12 := (hg 12).symm.trans (hpp (12, I s) (by simp))
  have u13 := (hg 13).symm.trans (hpp (13, I k) (by simp))
  clear hg hpp hsz hd
  unfold kFr L88 Tryd.f88 seq2 blockC loopC
  simp only [Option.getD_some, lits, Nat.reduceAdd, u0, u1, u2, u11, u12, u13]
  clear u0 u1 u2 u11 u12 u13
  refine goesI_seq (dt_idle _ _) ?_
  refine goesI_region (dt_idle _ _) ?_
  simp only [List.size_toArray, List.length_cons, List.length_nil, Nat.reduceAdd, Nat.zero_add, List.range, List.range.loop]
  iterate 1
    (refine goesI_oper rfl rfl (by decide) (fun d K hK => ?_)
     go_simp
     refine hK _ _ ⟨dt_reads (fun e he => ?_), GoesI.at ?_ d⟩
     · have hm := mem_listed he
       simp [go_sem, *] at hm
       try exact ⟨_, _, hm⟩
     clear hK K)
  refine goesI_regionEnd (dt_idle _ _) ?_
  refine goesI_seq (dt_idle _ _) ?_
  refine goesI_cond (dt_idle _ _) (t := true) (by simp [Act.eval, hks]) ?_
  simp only [if_true, if_false, Bool.false_eq_true]
  refine goesI_skip (dt_idle _ _) ?_
  refine goesI_seq (dt_idle _ _) ?_
  refine goesI_block (dt_idle _ _) ?_
  refine goesI_seq (dt_idle _ _) ?_
  refine goesI_region (dt_idle _ _) ?_
  simp only [List.size_toArray, List.length_cons, List.length_nil, Nat.reduceAdd, Nat.zero_add, List.range, List.range.loop]
  iterate 5
    (refine goesI_oper rfl rfl (by decide) (fun d K hK => ?_)
     go_simp
     refine hK _ _ ⟨dt_reads (fun e he => ?_), GoesI.at ?_ d⟩
     · have hm := mem_listed he
       simp [go_sem, *] at hm
       try exact ⟨_, _, hm⟩
     clear hK K)
  refine goesI_regionEnd (dt_idle _ _) ?_
  refine goesI_region (dt_idle _ _) ?_
  simp only [List.size_toArray, List.length_cons, List.length_nil, Nat.reduceAdd, Nat.zero_add, List.range, List.range.loop]
  iterate 4
    (refine goesI_oper rfl rfl (by decide) (fun d K hK => ?_)
     go_simp
     refine hK _ _ ⟨dt_reads (fun e he => ?_), GoesI.at ?_ d⟩
     · have hm := mem_listed he
       simp [go_sem, *] at hm
       try exact ⟨_, _, hm⟩
     clear hK K)
  refine goesI_into (f := 64) (fn := Tryd.f64) (args := #[Pt cb 0, Pt tb 0]) (dt_idle _ _) rfl rfl (by decide) rfl (by simp [Act.eval]) Tryd.func64 (by decide) rfl ?_
  refine free17 x _ rfl hvw hn HM.out (fun v2 w2 r2 n2 h2 => ?_) _ rfl
  exact hk _ v2 w2 ⟨rfl, rfl, by
    intro p hp
    simp only [List.mem_cons, List.not_mem_nil, or_false] at hp
    rcases hp with rfl | rfl | rfl | rfl | rfl | rfl <;> rfl⟩ ⟨rfl, rfl, by
    intro p hp
    simp only [List.mem_cons, List.not_mem_nil, or_false] at hp
    rcases hp with rfl | rfl <;> rfl⟩ r2 n2 (h2.stay HM.out) h2.os h2.out

/-- All of them. -/
theorem fcoll_loop {u0 : World} (hC : Fcs u0 c sb s kb xs) (ht : u0.cell? ⟨tb, 0, none⟩ = some (.pointer none)) (hnb : u0.heap.size ≤ nb) (hfb : u0.heap.size ≤ fb) (hne : nb ≠ fb) (m : List Int) {cs : List Frame} {bc : Frame} {ac : Act} {ops : Array Oper} {q : Nat} {rest : List Nat} {oc : Oper} {kk : List Item} (hoc : ops[q]? = some oc)
    (hk : ∀ v' w', Rel zn v' w' → NoRow Ch v' → Bl u0.heap.size u0 v' → v'.heap[nb]? = some (rowI xs) → v'.heap[fb]? = some (rowI m) → GoesI Tryd.prog main (DT (ScZ zn) Ch) Stop (G (bc.at (ac.put oc.dst (.tuple #[])) (.inRegion ops rest :: kk)) cs) w') :
    ∀ d k, s - k = d → k ≤ s → ∀ (l : List Int) (a : Act) (v w : World), Fl 25 [(0, Pt c 0), (1, Pt tb 0), (2, .slice (some ⟨nb, 0, none⟩) s s), (11, .slice (some ⟨sb, 0, none⟩) s s), (12, I s), (13, I k)] a → Rel zn v w → NoRow Ch v → Bl u0.heap.size u0 v → v.heap[nb]? = some (rowI l) → l.length = s → (∀ j, j < k → l[j]? = xs[j]?) → v.heap[fb]? = some (rowI m) → GoesI Tryd.prog main (DT (ScZ zn) Ch) Stop (G (kFr a) (bc.at ac (.inRegion ops (q :: rest) :: kk) :: cs)) w := by
  intro d
  induction d with
  | zero =>
    intro k hd hks l a v w hA hvw hn hb h1 hl hj h2
    have e : k = s := by omega
    have el : l = xs := List.ext_getElem? fun j => by
      by_cases h : j < k
      · exact hj j h
      · rw [List.getElem?_eq_none (by omega), List.getElem?_eq_none (by rw [hC.len]; omega)]
    subst el
    exact coll_done (v := v) e hA _ hoc hvw hn (fun w1 r1 => hk v w1 r1 hn hb h1 h2)
  | succ d ih =>
    intro k hd hks l a v w hA hvw hn hb h1 hl hj h2
    have hlt : k < s := by omega
    obtain ⟨cb, e1, e2⟩ := hC.ctr.cel k hlt
    obtain ⟨x, hx⟩ : ∃ x, xs[k]? = some x := ⟨_, List.getElem?_eq_getElem (by rw [hC.len]; exact hlt)⟩
    obtain ⟨y, hy⟩ : ∃ y, l[k]? = some y := ⟨_, List.getElem?_eq_getElem (by rw [hl]; exact hlt)⟩
    have htl : tb < u0.heap.size := World.block_lt_of_cell? _ _ ht
    refine fcoll_look hlt (hb.cell hC.lt.2.1 e2) hA _ hvw hn ((hC.bl hb).fm e1 hx (hb.cell htl ht)) (fun a2 v2 w2 hA2 hB2 r2 n2 q1 q2 q3 => ?_)
    have h1' : v2.heap[nb]? = some (rowI l) := by rw [q1]; exact h1
    refine coll_put x y hlt hC.ctr.s1 (rowI_cell h1' hy) (rowI_froz h1' k) hA2 hB2 _ r2 n2 (fun a3 w3 hA3 r3 n3 => ?_)
    have oth : ∀ b, b ≠ nb → (v2.setCell ⟨nb, k, none⟩ (I x)).heap[b]? = v2.heap[b]? := fun b hb => Below.heap_setCell _ _ _ _ hb
    refine ih (k + 1) (by omega) (by omega) (l.set k x) a3 _ w3 hA3 r3 n3 ((hb.same q1 q2 q3).trans ⟨fun b hb' => oth b (by omega), by simp [World.setCell], rfl, rfl⟩) (rowI_set h1' k x) (by rw [List.length_set]; exact hl) (fun j hj2 => ?_) (by rw [oth fb (fun e => hne e.symm), q1]; exact h2)
    rw [List.getElem?_set]
    by_cases e : k = j
    · subst e
      rw [if_pos rfl, if_pos (by rw [hl]; exact hlt), hx]
    · rw [if_neg e]; exact hj j (by omega)

/-- Sum. -/
theorem fsum {cs : List Frame} {bc : Frame} {ac : Act} {ops : Array Oper} {q : Nat} {rest : List Nat} {oc : Oper} {k : List Item} (hoc : ops[q]? = some oc)
    (hvw : Rel zn v w) (hn : NoRow Ch v) (hC : Fcs v c sb s kb xs) (ht : v.cell? ⟨tb, 0, none⟩ = some (.pointer none)) (hF : R1.Flds v)
    (hk : ∀ v' w', Rel zn v' w' → NoRow Ch v' → Grows v v' → GoesI Tryd.prog main (DT (ScZ zn) Ch) Stop (G (bc.at (ac.put oc.dst (I (R1.totI xs))) (.inRegion ops rest :: k)) cs) w') (code : Code) (hc : Tryd.f57.body = some code) :
    GoesI Tryd.prog main (DT (ScZ zn) Ch) Stop (G ((base 57).at { tmps := #[Pt c 0, Pt tb 0] ++ Array.replicate 33 undef, defers := [] } [.code code]) (bc.at ac (.inRegion ops (q :: rest) :: k) :: cs)) w := by
  refine sum_in hC.ctr.s1 hC.ctr.row _ hvw hn (fun a v1 w1 nb fb hA hnf r1 n1 a1 b1 c1 => ?_) code hc
  have hnb : v.heap.size ≤ nb := by omega
  have hfb : v.heap.size ≤ fb := by omega
  have hne : nb ≠ fb := by omega
  have g1 : Bl v.heap.size v v1 := ⟨fun b hb => by
    rw [a1]
    simp only [Array.getElem?_push, Array.size_push]
    repeat rw [if_neg (by omega)], by rw [a1]; simp; omega, b1, c1⟩
  have hrows : v1.heap[nb]? = some (rowI (List.replicate s 0)) ∧ v1.heap[fb]? = some (rowI (List.replicate s 0)) := by
    rw [a1]
    simp only [Array.getElem?_push, Array.size_push]
    rcases hnf with ⟨rfl, rfl⟩ | ⟨rfl, rfl⟩
    · simp
    · simp
  refine sum_first (v := v1) (sb := sb) hA _ (fun a2 hA2 code2 hc2 => ?_)
  refine coll_in (v := v1) (sb := sb) (s := s) (nb := nb) (g1.cell hC.lt.1 hC.ctr.row) _ r1 n1 (fun ak v2 w2 hK r2 n2 a2' b2 c2 => ?_) code2 hc2
  refine fcoll_loop hC ht hnb hfb hne (List.replicate s 0) (bc := base 57) (ac := a2) (ops := ops572) (q := 3) (rest := []) (oc := ops572.getD 3 default) (kk := [.code (seq2 B57), .inBlock 1, .inLoop L57, .inBlock 0]) (by rfl) (fun v3 w3 r3 n3 g3 h3 h3' => ?_) s 0 (by omega) (by omega) (List.replicate s 0) ak v2 w2 hK r2 n2 (g1.same a2' b2 c2) (by rw [a2']; exact hrows.1) (by simp) (fun j hj => by omega) (by rw [a2']; exact hrows.2)
  refine sum_mid (sb := sb) (nb := nb) (fb := fb) (v := v3) hA2 xs (List.replicate s 0) hC.len (by simp) h3 h3' _ r3 n3 (fun a4 w4 hA4 r4 n4 code4 hc4 => ?_)
  have oth : ∀ b, b ≠ fb → (v3.setRow fb (xs.map I).toArray).heap[b]? = v3.heap[b]? := fun b hb => setRow_other v3 fb b _ hb
  have g4 : Bl v.heap.size v (v3.setRow fb (xs.map I).toArray) := g3.trans ⟨fun b hb => oth b (by omega), by simp [World.setRow], rfl, rfl⟩
  refine coll_in (sb := sb) (s := s) (nb := nb) (g4.cell hC.lt.1 hC.ctr.row) _ r4 n4 (fun ak v5 w5 hK r5 n5 a5 b5 c5 => ?_) code4 hc4
  refine fcoll_loop hC ht hnb hfb hne xs (bc := base 57) (ac := a4) (ops := ops574) (q := 3) (rest := []) (oc := ops574.getD 3 default) (kk := [.code (seq2 (seq2 (seq2 B57))), .inBlock 1, .inLoop L57, .inBlock 0]) (by rfl) (fun v6 w6 r6 n6 g6 h6 h6' => ?_) s 0 (by omega) (by omega) xs ak v5 w5 hK r5 n5 (g4.same a5 b5 c5) (by rw [a5, oth nb hne]; exact h3) hC.len (fun j hj => by omega) (by rw [a5]; exact setRow_rowI h3' xs)
  refine sum_end (sb := sb) (nb := nb) (fb := fb) (v := v6) hA4 xs xs hC.ctr.s1 hC.len hC.len (hF.of fun a x ha => gx_cell g6.grows ha) h6 h6' _ hoc r6 n6 (fun _ v7 w7 r7 n7 g7 => hk v7 w7 r7 n7 (gx_trans g6.grows g7)) (fun hne _ _ _ _ _ _ _ => absurd rfl hne)
end
end Go.Proofs.YtcfmffmcammbjaaDoor.Gen
