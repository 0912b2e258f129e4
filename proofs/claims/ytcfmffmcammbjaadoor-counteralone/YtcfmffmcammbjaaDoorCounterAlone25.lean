/- CounterAlone, whatever the shards, the numbers and the ids: a counter of no world, added to by free threads; behind each Add its Sum is the sum of the shards' amounts, each within 32 bits with a sign; the law answers true and its input reads as it did. Part 25 of 34. (Joined, by program, of: CtS, CtT, CtF.) -/
import Derived.Test.YtcfmffmcammbjaaDoorCounterAlone23
import Derived.Test.YtcfmffmcammbjaaDoorCounterAlone24
import Derived.RegionTactic
import Derived.Laws.CopyRow

/- counter's collect (88), in company, in pieces: it looks at one shard behind the other; what it saw is written down. (Made by wip/tools/mkcts.py.) -/
set_option linter.unusedSimpArgs false
set_option linter.unusedVariables false
namespace Go.Proofs.YtcfmffmcammbjaaDoor.Gen
open Go Go.Lift Go.Conc Go.RowKit

noncomputable def a88 : Code := seq1 (Tryd.f88.body.getD .skip)
noncomputable def L88 : Code := loopC (blockC (seq2 (Tryd.f88.body.getD .skip)))
noncomputable def B88 : Code := blockC (seq1 (seq2 (seq2 L88)))
noncomputable def ops883 : Array Oper := opsOf (seq2 B88)
noncomputable def r884 : Code := seq2 (seq2 (seq2 L88))
theorem fine_a88 : fineCode Tryd.prog true LT a88 := fineCode_ask callT extT (by kernel_rfl)
/-- The frame at the loop's head; where it has seen. -/
noncomputable def kFr (a : Act) : Frame := (base 88).at a [.code L88, .inLoop L88, .inBlock 0]
noncomputable def kSeen (a : Act) (r : Value) : Frame := (base 88).at (a.put (some 22) r) [.inRegion ops883 [5, 6], .inBlock 1, .code r884, .inLoop L88, .inBlock 0]

set_option maxHeartbeats 2000000 in
set_option maxRecDepth 100000 in
theorem a88_wp (v : World) (c sb s nb tb : Nat) (h0 : v.cell? ⟨c, 0, none⟩ = some (.slice (some ⟨sb, 0, none⟩) s s)) :
    a88.wp Tryd.prog (fun e a w' => e = .normal ∧ Fl 25 [(0, Pt c 0), (1, Pt tb 0), (2, .slice (some ⟨nb, 0, none⟩) s s), (11, .slice (some ⟨sb, 0, none⟩) s s), (12, I s), (13, I 0)] a ∧ w'.heap = v.heap ∧ w'.os = v.os ∧ w'.output = v.output) { tmps := #[Pt c 0, Pt tb 0, .slice (some ⟨nb, 0, none⟩) s s] ++ Array.replicate 22 undef, defers := [] } v := by
  unfold a88 Tryd.f88 seq1
  simp only [Option.getD_some, Array.replicate_succ, Array.replicate_zero, List.push_toArray, List.append_toArray, List.nil_append, List.cons_append]
  go_wp2_with fail
  first
    | exact ⟨rfl, ⟨rfl, rfl, by
      intro p hp
      simp only [List.mem_cons, List.not_mem_nil, or_false] at hp
      rcases hp with rfl | rfl | rfl | rfl | rfl | rfl <;> rfl⟩, rfl, rfl, rfl⟩
    | exact ⟨rfl, rfl, by
      intro p hp
      simp only [List.mem_cons, List.not_mem_nil, or_false] at hp
      rcases hp with rfl | rfl | rfl | rfl | rfl | rfl <;> rfl⟩
/-- It has been entered. -/
theorem coll_in {z : Nat → Option Nat} {Ch : Nat → Prop} {Stop : Goroutine → World → Prop} {main : Bool} {v w : World} {c sb s nb tb : Nat} (h0 : v.cell? ⟨c, 0, none⟩ = some (.slice (some ⟨sb, 0, none⟩) s s)) (cs : List Frame) (hvw : Rel z v w) (hn : NoRow Ch v)
    (hk : ∀ a v' w', Fl 25 [(0, Pt c 0), (1, Pt tb 0), (2, .slice (some ⟨nb, 0, none⟩) s s), (11, .slice (some ⟨sb, 0, none⟩) s s), (12, I s), (13, I 0)] a → Rel z v' w' → NoRow Ch v' → v'.heap = v.heap → v'.os = v.os → v'.output = v.output → GoesI Tryd.prog main (DT (ScZ z) Ch) Stop (G (kFr a) cs) w') (code : Code) (hc : Tryd.f88.body = some code) :
    GoesI Tryd.prog main (DT (ScZ z) Ch) Stop (G ((base 88).at { tmps := #[Pt c 0, Pt tb 0, .slice (some ⟨nb, 0, none⟩) s s] ++ Array.replicate 22 undef, defers := [] } [.code code]) cs) w := by
  have hw0 : code = .seq a88 (.block 0 (.loop L88)) := by
    rw [show code = Tryd.f88.body.getD .skip by rw [hc]; rfl]; rfl
  subst hw0
  clear hc
  refine goesI_seq (dt_idle _ _) ?_
  refine goesI_plain (z := z) (wr := true) (L := LT) (I := NoRow Ch) hE fineT noRow_keeps (fun v v' w w' es hi hr ho he => dt_of_z v v' w w' es hi hr ho he) hvw fine_a88 rfl (by simp [base]) hn
    (Q := fun a w' => Fl 25 [(0, Pt c 0), (1, Pt tb 0), (2, .slice (some ⟨nb, 0, none⟩) s s), (11, .slice (some ⟨sb, 0, none⟩) s s), (12, I s), (13, I 0)] a ∧ w'.heap = v.heap ∧ w'.os = v.os ∧ w'.output = v.output) (fun τ => a88_wp (onTape v τ 0) c sb s nb tb h0) ?_
  rintro a' v' w' ⟨hA, q1, q2, q3⟩ hr' hn' -
  refine goesI_block (dt_idle _ _) ?_
  refine goesI_loop (dt_idle _ _) ?_
  exact hk a' v' w' hA hr' hn' q1 q2 q3

set_option maxHeartbeats 2000000 in
set_option maxRecDepth 100000 in
/-- It looks at shard k. -/
theorem coll_look {z : Nat → Option Nat} {Ch : Nat → Prop} {Stop : Goroutine → World → Prop} {h : Nat} {cont : Addr → Value} {S : TS} {K : List (Nat × Int)} {v w : World} {i k cb c sb s nb : Nat} {t : Thr} (x : Int) (hks : k < s) (hcb : v.cell? ⟨sb, k, none⟩ = some (Pt cb 0)) {a : Act} (hA : Fl 25 [(0, Pt c 0), (1, Pt t.tb 0), (2, .slice (some ⟨nb, 0, none⟩) s s), (11, .slice (some ⟨sb, 0, none⟩) s s), (12, I s), (13, I k)] a) (cs : List Frame) (Hm : Goroutine → Prop)
    (hH : ∀ g, (∃ a, Fl 25 [(0, Pt c 0), (1, Pt t.tb 0), (2, .slice (some ⟨nb, 0, none⟩) s s), (11, .slice (some ⟨sb, 0, none⟩) s s), (12, I s), (13, I k)] a ∧ Fl 25 [(18, .slice (some ⟨nb, 0, none⟩) s s), (19, I k)] a ∧ OpBack (h == 0) i k cb t.tb 1 effLoad (fun r => G (kSeen a r) cs) g) → Hm g)
    (hvw : Rel z v w) (hn : NoRow Ch v) (hm : Mem z S K v) (ht : S.thr[i]? = some t) (hK : K[k]? = some (cb, x)) (hz : z t.tb = some 2) (hcont : cont ⟨t.tb, 2, none⟩ = .chan (some t.gc))
    (hstop : ∀ g w', GiveT z cont h S.bk t.gc Hm (Then z Ch S K v (waiting S i t 1 1 k) K) g w' → Stop g w') :
    GoesI Tryd.prog (h == 0) (DT (ScZ z) Ch) Stop (G (kFr a) cs) w := by
  have e0 : w.cell? ⟨sb, k, none⟩ = some (Pt cb 0) := by rw [hvw.cell?]; exact hcb
  have hks' : (k : Int) < (s : Int) := by omega
  have HM : Hid (Mem z S K v) := ⟨hm⟩
  clear hm
  unfold kSeen ops883 r884 B88 L88 Tryd.f88 seq1 seq2 blockC loopC opsOf at hH
  simp only [Option.getD_some] at hH
  obtain ⟨hsz, hd, hpp⟩ := hA
  obtain ⟨u, rfl, hg⟩ := litN hsz hd
  have u0 := (hg 0).symm.trans (hpp (0, Pt c 0) (by simp))
  have u1 := (hg 1).symm.trans (hpp (1, Pt t.tb 0) (by simp))
  have u2 := (hg 2).symm.trans (hpp (2, .slice (some ⟨nb, 0, none⟩) s s) (by simp))
  have u11 := (hg 11).symm.trans (hpp (11, .slice (some ⟨sb, 0, none⟩) s s) (by simp))
  have u12 := (hg 12).symm.trans (hpp (12, I s) (by simp))
  have u13 := (hg 13).symm.trans (hpp (13, I k) (by simp))
  clear hg hpp hsz hd
  unfold kFr L88 Tryd.f88 seq2 blockC loopC
  simp only [Option.getD_some, lits, Nat.reduceAdd, u0, u1, u2, u11, u12, u13]
  clear u0 u1 u2 u11 u12 u13
  refine goesI_seq (dt_idle _ _) ?_
  refine goesI_region (dt_idle _ _) ?_
  simp only [List.size_toArray, List.length_cons, List.length_nil, Nat.reduceAdd, Nat.zero_add, List.range, List.range.loop]
  iterate 1
    (refine goesI_oper rfl rfl (by decide) (fun d K hK => ?_)
     go_simp
     refine hK _ _ ⟨dt_reads (fun e he => ?_), GoesI.at ?_ d⟩
     · have hm := mem_listed he
       simp [go_sem, *] at hm
       try exact ⟨_, _, hm⟩
     clear hK K)
  refine goesI_regionEnd (dt_idle _ _) ?_
  refine goesI_seq (dt_idle _ _) ?_
  refine goesI_cond (dt_idle _ _) (t := true) (by simp [Act.eval, hks]) ?_
  simp only [if_true, if_false, Bool.false_eq_true]
  refine goesI_skip (dt_idle _ _) ?_
  refine goesI_seq (dt_idle _ _) ?_
  refine goesI_block (dt_idle _ _) ?_
  refine goesI_seq (dt_idle _ _) ?_
  refine goesI_region (dt_idle _ _) ?_
  simp only [List.size_toArray, List.length_cons, List.length_nil, Nat.reduceAdd, Nat.zero_add, List.range, List.range.loop]
  iterate 5
    (refine goesI_oper rfl rfl (by decide) (fun d K hK => ?_)
     go_simp
     refine hK _ _ ⟨dt_reads (fun e he => ?_), GoesI.at ?_ d⟩
     · have hm := mem_listed he
       simp [go_sem, *] at hm
       try exact ⟨_, _, hm⟩
     clear hK K)
  refine goesI_regionEnd (dt_idle _ _) ?_
  refine goesI_region (dt_idle _ _) ?_
  simp only [List.size_toArray, List.length_cons, List.length_nil, Nat.reduceAdd, Nat.zero_add, List.range, List.range.loop]
  iterate 4
    (refine goesI_oper rfl rfl (by decide) (fun d K hK => ?_)
     go_simp
     refine hK _ _ ⟨dt_reads (fun e he => ?_), GoesI.at ?_ d⟩
     · have hm := mem_listed he
       simp [go_sem, *] at hm
       try exact ⟨_, _, hm⟩
     clear hK K)
  refine goesI_into (f := 64) (fn := Tryd.f64) (args := #[Pt cb 0, Pt t.tb 0]) (dt_idle _ _) rfl rfl (by decide) rfl (by simp [Act.eval]) Tryd.func64 (by decide) rfl ?_
  exact load_goes x _ Hm rfl (fun g hg => hH g ⟨_, ⟨rfl, rfl, by
    intro p hp
    simp only [List.mem_cons, List.not_mem_nil, or_false] at hp
    rcases hp with rfl | rfl | rfl | rfl | rfl | rfl <;> rfl⟩, ⟨rfl, rfl, by
    intro p hp
    simp only [List.mem_cons, List.not_mem_nil, or_false] at hp
    rcases hp with rfl | rfl <;> rfl⟩, hg⟩) hvw hn HM.out ht hK hz hcont hstop _ rfl

set_option maxHeartbeats 2000000 in
set_option maxRecDepth 100000 in
/-- What it saw is written down. -/
theorem coll_put {z : Nat → Option Nat} {Ch : Nat → Prop} {Stop : Goroutine → World → Prop} {main : Bool} {v w : World} {k c sb s nb tb : Nat} (x y : Int) (hks : k < s) (hs1 : s ≤ 16) (hy : v.cell? ⟨nb, k, none⟩ = some (I y)) (hf : v.frozen? ⟨nb, k, none⟩ = false) {a : Act} (hA : Fl 25 [(0, Pt c 0), (1, Pt tb 0), (2, .slice (some ⟨nb, 0, none⟩) s s), (11, .slice (some ⟨sb, 0, none⟩) s s), (12, I s), (13, I k)] a) (hA2 : Fl 25 [(18, .slice (some ⟨nb, 0, none⟩) s s), (19, I k)] a) (cs : List Frame) (hvw : Rel z v w) (hn : NoRow Ch v)
    (hk : ∀ a w', Fl 25 [(0, Pt c 0), (1, Pt tb 0), (2, .slice (some ⟨nb, 0, none⟩) s s), (11, .slice (some ⟨sb, 0, none⟩) s s), (12, I s), (13, I ((k + 1 : Nat) : Int))] a → Rel z (v.setCell ⟨nb, k, none⟩ (I x)) w' → NoRow Ch (v.setCell ⟨nb, k, none⟩ (I x)) → GoesI Tryd.prog main (DT (ScZ z) Ch) Stop (G (kFr a) cs) w') :
    GoesI Tryd.prog main (DT (ScZ z) Ch) Stop (G (kSeen a (I x)) cs) w := by
  have hks' : (k : Int) < (s : Int) := by omega
  have e18 := hA2.2.2 (18, .slice (some ⟨nb, 0, none⟩) s s) (by simp)
  have e19 := hA2.2.2 (19, I k) (by simp)
  clear hA2
  obtain ⟨hsz, hd, hpp⟩ := hA
  obtain ⟨u, rfl, hg⟩ := litN hsz hd
  have u0 := (hg 0).symm.trans (hpp (0, Pt c 0) (by simp))
  have u1 := (hg 1).symm.trans (hpp (1, Pt tb 0) (by simp))
  have u2 := (hg 2).symm.trans (hpp (2, .slice (some ⟨nb, 0, none⟩) s s) (by simp))
  have u11 := (hg 11).symm.trans (hpp (11, .slice (some ⟨sb, 0, none⟩) s s) (by simp))
  have u12 := (hg 12).symm.trans (hpp (12, I s) (by simp))
  have u13 := (hg 13).symm.trans (hpp (13, I k) (by simp))
  have u18 := (hg 18).symm.trans e18
  have u19 := (hg 19).symm.trans e19
  clear hg hpp hsz hd e18 e19
  unfold kFr L88 Tryd.f88 seq2 blockC loopC at hk
  simp only [Option.getD_some] at hk
  unfold kSeen ops883 r884 B88 L88 Tryd.f88 seq1 seq2 blockC loopC opsOf
  simp only [Option.getD_some, lits, Nat.reduceAdd, u0, u1, u2, u11, u12, u13, u18, u19]
  clear u0 u1 u2 u11 u12 u13 u18 u19
  walk_nrm
  refine goesI_opZ (L := LT) rfl rfl (by decide) (fineOp_ask callT extT (by kernel_rfl)) hvw hn (x := .pointer (some ⟨nb, k, none⟩)) (v' := v) (by go_simp) rfl (fun w1 hvw1 _ => ?_)
  refine goesI_doZ (L := LT) rfl rfl (by decide) (fineOp_ask callT extT (by kernel_rfl)) hvw1 hn (v' := v.setCell ⟨nb, k, none⟩ (I x)) (by go_simp) rfl (fun w2 hvw2 hn2 => ?_)
  walk_nrm
  refine goesI_regionEnd (dt_idle _ _) ?_
  refine goesI_inBlock (dt_idle _ _) ?_
  refine goesI_region (dt_idle _ _) ?_
  simp only [List.size_toArray, List.length_cons, List.length_nil, Nat.reduceAdd, Nat.zero_add, List.range, List.range.loop]
  iterate 2
    (refine goesI_oper rfl rfl (by decide) (fun d K hK => ?_)
     go_simp
     refine hK _ _ ⟨dt_reads (fun e he => ?_), GoesI.at ?_ d⟩
     · have hm := mem_listed he
       simp [go_sem, *] at hm
       try exact ⟨_, _, hm⟩
     clear hK K)
  refine goesI_regionEnd (dt_idle _ _) ?_
  refine goesI_inLoop (dt_idle _ _) ?_
  have hw1 : IntKind.i64.wrap ((k : Int) + 1) = ((k + 1 : Nat) : Int) := by rw [IntKind.wrap_i64]; omega
  rw [hw1]
  refine hk _ _ ?_ hvw2 hn2
  exact ⟨rfl, rfl, by
    intro p hp
    simp only [List.mem_cons, List.not_mem_nil, or_false] at hp
    rcases hp with rfl | rfl | rfl | rfl | rfl | rfl <;> rfl⟩

set_option maxHeartbeats 2000000 in
set_option maxRecDepth 100000 in
/-- It has seen all. -/
theorem coll_done {z : Nat → Option Nat} {Ch : Nat → Prop} {Stop : Goroutine → World → Prop} {main : Bool} {v w : World} {k c sb s nb tb : Nat} (hks : k = s) {a : Act} (hA : Fl 25 [(0, Pt c 0), (1, Pt tb 0), (2, .slice (some ⟨nb, 0, none⟩) s s), (11, .slice (some ⟨sb, 0, none⟩) s s), (12, I s), (13, I k)] a) (cs : List Frame) {bc : Frame} {ac : Act} {ops : Array Oper} {q : Nat} {rest : List Nat} {oc : Oper} {kk : List Item} (hoc : ops[q]? = some oc) (hvw : Rel z v w) (hn : NoRow Ch v)
    (hk : ∀ w', Rel z v w' → GoesI Tryd.prog main (DT (ScZ z) Ch) Stop (G (bc.at (ac.put oc.dst (.tuple #[])) (.inRegion ops rest :: kk)) cs) w') :
    GoesI Tryd.prog main (DT (ScZ z) Ch) Stop (G (kFr a) (bc.at ac (.inRegion ops (q :: rest) :: kk) :: cs)) w := by
  subst hks
  obtain ⟨hsz, hd, hpp⟩ := hA
  obtain ⟨u, rfl, hg⟩ := litN hsz hd
  have u0 := (hg 0).symm.trans (hpp (0, Pt c 0) (by simp))
  have u1 := (hg 1).symm.trans (hpp (1, Pt tb 0) (by simp))
  have u2 := (hg 2).symm.trans (hpp (2, .slice (some ⟨nb, 0, none⟩) k k) (by simp))
  have u11 := (hg 11).symm.trans (hpp (11, .slice (some ⟨sb, 0, none⟩) k k) (by simp))
  have u12 := (hg 12).symm.trans (hpp (12, I k) (by simp))
  have u13 := (hg 13).symm.trans (hpp (13, I k) (by simp))
  clear hg hpp hsz hd
  unfold kFr L88 Tryd.f88 seq2 blockC loopC
  simp only [Option.getD_some, lits, Nat.reduceAdd, u0, u1, u2, u11, u12, u13]
  clear u0 u1 u2 u11 u12 u13
  refine goesI_seq (dt_idle _ _) ?_
  refine goesI_region (dt_idle _ _) ?_
  simp only [List.size_toArray, List.length_cons, List.length_nil, Nat.reduceAdd, Nat.zero_add, List.range, List.range.loop]
  iterate 1
    (refine goesI_oper rfl rfl (by decide) (fun d K hK => ?_)
     go_simp
     refine hK _ _ ⟨dt_reads (fun e he => ?_), GoesI.at ?_ d⟩
     · have hm := mem_listed he
       simp [go_sem, *] at hm
       try exact ⟨_, _, hm⟩
     clear hK K)
  refine goesI_regionEnd (dt_idle _ _) ?_
  refine goesI_seq (dt_idle _ _) ?_
  refine goesI_cond (dt_idle _ _) (t := false) (by simp [Act.eval]) ?_
  simp only [if_true, if_false, Bool.false_eq_true]
  refine goesI_exit (dt_idle _ _) (k' := []) rfl ?_
  refine goesI_end (dt_idle _ _) ?_
  exact goesI_leaveZ (f := 88) (fn := Tryd.f88) (x := .tuple #[]) hvw hn Tryd.func88 rfl hoc (by simp [results, go_sem, Tryd.f88]) (fun w' r' => hk w' r')
end Go.Proofs.YtcfmffmcammbjaaDoor.Gen

/- counter's Sum (57), in company, in pieces: around its two collects. (Made by wip/tools/mkctt.py.) -/
set_option linter.unusedSimpArgs false
set_option linter.unusedVariables false
namespace Go.Proofs.YtcfmffmcammbjaaDoor.Gen
open Go Go.Lift Go.Conc Go.RowKit

theorem info3 : (Tryd.prog.info? 3).map (fun i => (i.zero, i.size, i.bytes)) = some (some (I 0), 1, 8) := by kernel_rfl
theorem make_nums (n : Nat) (hn : n ≤ 1048576) (w : World) :
    (Instr.makeSlice 22 (.int .i64 (n : Int)) (.int .i64 (n : Int))).run Tryd.prog w = .ok (.slice (some ⟨w.heap.size, 0, none⟩) n n) (w.alloc (.cells (madeCells #[I 0] n) 3)) := by
  cases hq : Tryd.prog.info? 3 with
  | none => have := info3; rw [hq] at this; cases this
  | some i =>
    have hi := info3
    rw [hq] at hi
    simp only [Option.map_some, Option.some.injEq, Prod.mk.injEq] at hi
    obtain ⟨hz, hs, hb⟩ := hi
    have := run_make (P := Tryd.prog) w 22 3 i _ Tryd.underlying22 hq hz .i64 .i64 (n : Int) (n : Int) (by omega) (by omega) (by rw [hb]; omega) (by omega)
    rw [hs] at this
    rw [this]
    simp [Value.cells]
/-- A row of ints. -/
def rowI (l : List Int) : Obj := .cells (l.map I).toArray 3 (0, 0)
theorem rowI_cell {v : World} {b : Nat} {l : List Int} (h : v.heap[b]? = some (rowI l)) {k : Nat} {x : Int} (hk : l[k]? = some x) : v.cell? ⟨b, k, none⟩ = some (I x) := by
  simp only [World.cell?, h, rowI]
  simp [hk]
theorem rowI_froz {v : World} {b : Nat} {l : List Int} (h : v.heap[b]? = some (rowI l)) (k : Nat) : v.frozen? ⟨b, k, none⟩ = false := by
  simp only [World.frozen?, h, rowI]
  simp
theorem made_rowI (s : Nat) : (.cells (madeCells #[I 0] s) 3 : Obj) = rowI (List.replicate s 0) := by
  unfold rowI
  congr 1
  apply Array.ext_getElem?
  intro i
  by_cases h : i < s
  · simp [madeCells, h, Nat.mod_one]
  · simp [madeCells, h]
theorem rowI_set {v : World} {b : Nat} {l : List Int} (h : v.heap[b]? = some (rowI l)) (k : Nat) (x : Int) : (v.setCell ⟨b, k, none⟩ (I x)).heap[b]? = some (rowI (l.set k x)) := by
  have := heap_setCell_same (o := k) (show v.heap[b]? = some (.cells (l.map I).toArray 3 (0, 0)) from h) (I x)
  rw [this]
  unfold rowI
  congr 2
  apply Array.ext_getElem?
  intro i
  simp [List.map_set]
theorem setRow_rowI {v : World} {b : Nat} {m : List Int} (h : v.heap[b]? = some (rowI m)) (l : List Int) : (v.setRow b (l.map I).toArray).heap[b]? = some (rowI l) := setRow_heap v b (m.map I).toArray _ 3 (0, 0) h

noncomputable def a57 : Code := seq1 (seq2 (Tryd.f57.body.getD .skip))
noncomputable def L57 : Code := loopC (blockC (seq2 (seq2 (Tryd.f57.body.getD .skip))))
noncomputable def B57 : Code := blockC L57
noncomputable def ops572 : Array Oper := opsOf (seq1 B57)
noncomputable def ops574 : Array Oper := opsOf (seq1 (seq2 (seq2 B57)))
theorem fine_a57 : fineCode Tryd.prog true LT a57 := fineCode_ask callT extT (by kernel_rfl)
/-- The frame at the loop's head; behind the first collect; behind the second. -/
noncomputable def sFr (a : Act) : Frame := (base 57).at a [.code L57, .inLoop L57, .inBlock 0]
noncomputable def sOne (a : Act) : Frame := (base 57).at a [.inRegion ops572 [3], .code (seq2 B57), .inBlock 1, .inLoop L57, .inBlock 0]
noncomputable def sOneB (a : Act) : Frame := (base 57).at (a.put (some 22) (.tuple #[])) [.inRegion ops572 [], .code (seq2 B57), .inBlock 1, .inLoop L57, .inBlock 0]
noncomputable def sTwo (a : Act) : Frame := (base 57).at a [.inRegion ops574 [3], .code (seq2 (seq2 (seq2 B57))), .inBlock 1, .inLoop L57, .inBlock 0]
noncomputable def sTwoB (a : Act) : Frame := (base 57).at (a.put (some 29) (.tuple #[])) [.inRegion ops574 [], .code (seq2 (seq2 (seq2 B57))), .inBlock 1, .inLoop L57, .inBlock 0]

set_option maxHeartbeats 2000000 in
set_option maxRecDepth 100000 in
theorem a57_wp (v : World) (c sb s tb : Nat) (hs1 : s ≤ 16) (h0 : v.cell? ⟨c, 0, none⟩ = some (.slice (some ⟨sb, 0, none⟩) s s)) (u : Nat → Value) :
    a57.wp Tryd.prog (fun e a w' => e = .normal ∧ ∃ nb fb, Fl 35 [(0, Pt c 0), (1, Pt tb 0), (5, .slice (some ⟨nb, 0, none⟩) s s), (6, .slice (some ⟨fb, 0, none⟩) s s)] a ∧ ((nb = v.heap.size ∧ fb = v.heap.size + 1) ∨ (nb = v.heap.size + 1 ∧ fb = v.heap.size)) ∧ w'.heap = (v.heap.push (rowI (List.replicate s 0))).push (rowI (List.replicate s 0)) ∧ w'.os = v.os ∧ w'.output = v.output) { tmps := #[Pt c 0, Pt tb 0, u 2, u 3, u 4, u 5, u 6, u 7, u 8, u 9, u 10, u 11, u 12, u 13, u 14, u 15, u 16, u 17, u 18, u 19, u 20, u 21, u 22, u 23, u 24, u 25, u 26, u 27, u 28, u 29, u 30, u 31, u 32, u 33, u 34], defers := [] } v := by
  have hmk := make_nums s (by omega)
  have hc : c < v.heap.size := World.block_lt_of_cell? _ _ h0
  rw [← made_rowI]
  unfold a57 Tryd.f57 seq1 seq2
  simp only [Option.getD_some]
  go_wp2_with fail
  go_region
  · exact ⟨rfl, _, _, ⟨rfl, rfl, by
    intro p hp
    simp only [List.mem_cons, List.not_mem_nil, or_false] at hp
    rcases hp with rfl | rfl | rfl | rfl <;> rfl⟩, .inl ⟨rfl, rfl⟩, rfl, rfl, rfl⟩
  · exact ⟨rfl, _, _, ⟨rfl, rfl, by
    intro p hp
    simp only [List.mem_cons, List.not_mem_nil, or_false] at hp
    rcases hp with rfl | rfl | rfl | rfl <;> rfl⟩, .inr ⟨rfl, rfl⟩, rfl, rfl, rfl⟩
set_option maxHeartbeats 2000000 in
set_option maxRecDepth 100000 in
/-- It has been entered. -/
theorem sum_in {z : Nat → Option Nat} {Ch : Nat → Prop} {Stop : Goroutine → World → Prop} {main : Bool} {v w : World} {c sb s tb : Nat} (hs1 : s ≤ 16) (h0 : v.cell? ⟨c, 0, none⟩ = some (.slice (some ⟨sb, 0, none⟩) s s)) (cs : List Frame) (hvw : Rel z v w) (hn : NoRow Ch v)
    (hk : ∀ a v' w' nb fb, Fl 35 [(0, Pt c 0), (1, Pt tb 0), (5, .slice (some ⟨nb, 0, none⟩) s s), (6, .slice (some ⟨fb, 0, none⟩) s s)] a → ((nb = v.heap.size ∧ fb = v.heap.size + 1) ∨ (nb = v.heap.size + 1 ∧ fb = v.heap.size)) → Rel z v' w' → NoRow Ch v' → v'.heap = (v.heap.push (rowI (List.replicate s 0))).push (rowI (List.replicate s 0)) → v'.os = v.os → v'.output = v.output → GoesI Tryd.prog main (DT (ScZ z) Ch) Stop (G (sFr a) cs) w') (code : Code) (hc : Tryd.f57.body = some code) :
    GoesI Tryd.prog main (DT (ScZ z) Ch) Stop (G ((base 57).at { tmps := #[Pt c 0, Pt tb 0] ++ Array.replicate 33 undef, defers := [] } [.code code]) cs) w := by
  have hw0 : code = .seq (seq1 (Tryd.f57.body.getD .skip)) (.seq a57 (.block 0 (.loop L57))) := by
    rw [show code = Tryd.f57.body.getD .skip by rw [hc]; rfl]; rfl
  subst hw0
  clear hc
  simp only [Array.replicate_succ, Array.replicate_zero, List.push_toArray, List.append_toArray, List.nil_append, List.cons_append]
  refine goesI_seq (dt_idle _ _) ?_
  generalize hT : Code.seq a57 (.block 0 (.loop L57)) = T
  unfold Tryd.f57 seq1
  simp only [Option.getD_some]
  refine goesI_region (dt_idle _ _) ?_
  simp only [List.size_toArray, List.length_cons, List.length_nil, Nat.reduceAdd, Nat.zero_add, List.range, List.range.loop]
  iterate 1
    (refine goesI_oper rfl rfl (by decide) (fun d K hK => ?_)
     go_simp
     refine hK _ _ ⟨dt_reads (fun e he => ?_), GoesI.at ?_ d⟩
     · have hm := mem_listed he
       simp [go_sem, *] at hm
       try exact ⟨_, _, hm⟩
     clear hK K)
  refine goesI_regionEnd (dt_idle _ _) ?_
  subst hT
  refine goesI_seq (dt_idle _ _) ?_
  refine goesI_plain (z := z) (wr := true) (L := LT) (I := NoRow Ch) hE fineT noRow_keeps (fun v v' w w' es hi hr ho he => dt_of_z v v' w w' es hi hr ho he) hvw fine_a57 rfl (by simp [base]) hn
    (Q := fun a w' => ∃ nb fb, Fl 35 [(0, Pt c 0), (1, Pt tb 0), (5, .slice (some ⟨nb, 0, none⟩) s s), (6, .slice (some ⟨fb, 0, none⟩) s s)] a ∧ ((nb = v.heap.size ∧ fb = v.heap.size + 1) ∨ (nb = v.heap.size + 1 ∧ fb = v.heap.size)) ∧ w'.heap = (v.heap.push (rowI (List.replicate s 0))).push (rowI (List.replicate s 0)) ∧ w'.os = v.os ∧ w'.output = v.output) (fun τ => a57_wp (onTape v τ 0) c sb s tb hs1 h0 (fun m => match m with | 4 => I 0 | m => undef)) ?_
  rintro a' v' w' ⟨nb, fb, hA, hb, q1, q2, q3⟩ hr' hn' -
  refine goesI_block (dt_idle _ _) ?_
  refine goesI_loop (dt_idle _ _) ?_
  exact hk a' v' w' nb fb hA hb hr' hn' q1 q2 q3

set_option maxHeartbeats 2000000 in
set_option maxRecDepth 100000 in
/-- It goes to collect. -/
theorem sum_first {z : Nat → Option Nat} {Ch : Nat → Prop} {Stop : Goroutine → World → Prop} {main : Bool} {v w : World} {c sb s nb fb tb : Nat} {a : Act} (hA : Fl 35 [(0, Pt c 0), (1, Pt tb 0), (5, .slice (some ⟨nb, 0, none⟩) s s), (6, .slice (some ⟨fb, 0, none⟩) s s)] a) (cs : List Frame)
    (hk : ∀ a, Fl 35 [(0, Pt c 0), (1, Pt tb 0), (5, .slice (some ⟨nb, 0, none⟩) s s), (6, .slice (some ⟨fb, 0, none⟩) s s)] a → ∀ code, Tryd.f88.body = some code → GoesI Tryd.prog main (DT (ScZ z) Ch) Stop (G ((base 88).at { tmps := #[Pt c 0, Pt tb 0, .slice (some ⟨nb, 0, none⟩) s s] ++ Array.replicate 22 undef, defers := [] } [.code code]) (sOne a :: cs)) w) :
    GoesI Tryd.prog main (DT (ScZ z) Ch) Stop (G (sFr a) cs) w := by
  unfold sOne ops572 B57 L57 Tryd.f57 seq1 seq2 blockC loopC opsOf at hk
  simp only [Option.getD_some] at hk
  obtain ⟨hsz, hd, hpp⟩ := hA
  obtain ⟨u, rfl, hg⟩ := litN hsz hd
  have u0 := (hg 0).symm.trans (hpp (0, Pt c 0) (by simp))
  have u1 := (hg 1).symm.trans (hpp (1, Pt tb 0) (by simp))
  have u5 := (hg 5).symm.trans (hpp (5, .slice (some ⟨nb, 0, none⟩) s s) (by simp))
  have u6 := (hg 6).symm.trans (hpp (6, .slice (some ⟨fb, 0, none⟩) s s) (by simp))
  clear hg hpp hsz hd
  unfold sFr L57 Tryd.f57 seq2 blockC loopC
  simp only [Option.getD_some, lits, Nat.reduceAdd, u0, u1, u5, u6]
  clear u0 u1 u5 u6
  refine goesI_block (dt_idle _ _) ?_
  refine goesI_seq (dt_idle _ _) ?_
  refine goesI_region (dt_idle _ _) ?_
  simp only [List.size_toArray, List.length_cons, List.length_nil, Nat.reduceAdd, Nat.zero_add, List.range, List.range.loop]
  iterate 3
    (refine goesI_oper rfl rfl (by decide) (fun d K hK => ?_)
     go_simp
     refine hK _ _ ⟨dt_reads (fun e he => ?_), GoesI.at ?_ d⟩
     · have hm := mem_listed he
       simp [go_sem, *] at hm
       try exact ⟨_, _, hm⟩
     clear hK K)
  refine goesI_into (f := 88) (fn := Tryd.f88) (args := #[Pt c 0, Pt tb 0, .slice (some ⟨nb, 0, none⟩) s s]) (dt_idle _ _) rfl rfl (by decide) rfl (by simp [Act.eval]) Tryd.func88 (by decide) rfl ?_
  exact hk _ ⟨rfl, rfl, by
    intro p hp
    simp only [List.mem_cons, List.not_mem_nil, or_false] at hp
    rcases hp with rfl | rfl | rfl | rfl <;> rfl⟩ _ rfl

theorem gx_cell {v v' : World} (g : Grows v v') {a : Addr} {x : Value} (h : v.cell? a = some x) : v'.cell? a = some x := by rw [World.cell?_of_block (w := v) (w' := v') (g.old _ (World.block_lt_of_cell? _ _ h))]; exact h
theorem gx_trans {v v' v2 : World} (a : Grows v v') (b : Grows v' v2) : Grows v v2 := ⟨Nat.le_trans a.size b.size, fun q hq => by rw [b.old q (Nat.lt_of_lt_of_le hq a.size), a.old q hq], b.os.trans a.os, b.output.trans a.output⟩
theorem size3 : (Tryd.prog.info? 3).map (·.size) = some 1 := by kernel_rfl
theorem run_copyI (v : World) (ty : TypeId) (nb fb s : Nat) (l m : List Int) (hl : l.length = s) (hm : m.length = s) (h1 : v.heap[nb]? = some (rowI l)) (h2 : v.heap[fb]? = some (rowI m)) :
    (Builtin.copy_ #[22, 22] ty #[.slice (some ⟨fb, 0, none⟩) s s, .slice (some ⟨nb, 0, none⟩) s s]).run Tryd.prog v = .ok (goInt s) (v.setRow fb (l.map I).toArray) := by
  have := run_copy_row (P := Tryd.prog) v 22 22 ty 3 fb 0 s s ⟨nb, 0, none⟩ s s (m.map I).toArray 3 (l.map I) Tryd.underlying22 size3 h2 (by simp [hl]) (fun j u hj => by
    rw [List.getElem?_map] at hj
    cases hx : l[j]? with
    | none => rw [hx] at hj; cases hj
    | some x =>
      rw [hx] at hj
      cases hj
      have := rowI_cell h1 hx
      rw [show (⟨nb, 0, none⟩ : Addr).add j = ⟨nb, j, none⟩ by unfold Addr.add; split <;> simp_all]
      exact this) (by simp [hl, hm]) (fun u hu => by
    obtain ⟨x, _, rfl⟩ := List.mem_map.1 hu
    rfl)
  rw [this]
  have hd : (m.map I).drop s = [] := List.drop_eq_nil_iff.2 (by rw [List.length_map, hm]; exact Nat.le_refl _)
  simp [hl, hd]
set_option maxHeartbeats 2000000 in
set_option maxRecDepth 100000 in
/-- What was collected is copied; it goes to collect again. -/
theorem sum_mid {z : Nat → Option Nat} {Ch : Nat → Prop} {Stop : Goroutine → World → Prop} {main : Bool} {v w : World} {c sb s nb fb tb : Nat} {a : Act} (hA : Fl 35 [(0, Pt c 0), (1, Pt tb 0), (5, .slice (some ⟨nb, 0, none⟩) s s), (6, .slice (some ⟨fb, 0, none⟩) s s)] a) (l m : List Int) (hl : l.length = s) (hm : m.length = s) (h1 : v.heap[nb]? = some (rowI l)) (h2 : v.heap[fb]? = some (rowI m)) (cs : List Frame) (hvw : Rel z v w) (hn : NoRow Ch v)
    (hk : ∀ a w', Fl 35 [(0, Pt c 0), (1, Pt tb 0), (5, .slice (some ⟨nb, 0, none⟩) s s), (6, .slice (some ⟨fb, 0, none⟩) s s)] a → Rel z (v.setRow fb (l.map I).toArray) w' → NoRow Ch (v.setRow fb (l.map I).toArray) → ∀ code, Tryd.f88.body = some code → GoesI Tryd.prog main (DT (ScZ z) Ch) Stop (G ((base 88).at { tmps := #[Pt c 0, Pt tb 0, .slice (some ⟨nb, 0, none⟩) s s] ++ Array.replicate 22 undef, defers := [] } [.code code]) (sTwo a :: cs)) w') :
    GoesI Tryd.prog main (DT (ScZ z) Ch) Stop (G (sOneB a) cs) w := by
  have hcp := run_copyI v 3 nb fb s l m hl hm h1 h2
  unfold sTwo ops574 B57 L57 Tryd.f57 seq1 seq2 blockC loopC opsOf at hk
  simp only [Option.getD_some] at hk
  obtain ⟨hsz, hd, hpp⟩ := hA
  obtain ⟨u, rfl, hg⟩ := litN hsz hd
  have u0 := (hg 0).symm.trans (hpp (0, Pt c 0) (by simp))
  have u1 := (hg 1).symm.trans (hpp (1, Pt tb 0) (by simp))
  have u5 := (hg 5).symm.trans (hpp (5, .slice (some ⟨nb, 0, none⟩) s s) (by simp))
  have u6 := (hg 6).symm.trans (hpp (6, .slice (some ⟨fb, 0, none⟩) s s) (by simp))
  clear hg hpp hsz hd
  unfold sOneB ops572 B57 L57 Tryd.f57 seq2 seq1 blockC loopC opsOf
  simp only [Option.getD_some, lits, Nat.reduceAdd, u0, u1, u5, u6]
  clear u0 u1 u5 u6
  walk_nrm
  refine goesI_regionEnd (dt_idle _ _) ?_
  refine goesI_seq (dt_idle _ _) ?_
  refine goesI_region (dt_idle _ _) ?_
  simp only [List.size_toArray, List.length_cons, List.length_nil, Nat.reduceAdd, Nat.zero_add, List.range, List.range.loop]
  iterate 2
    (refine goesI_oper rfl rfl (by decide) (fun d K hK => ?_)
     go_simp
     refine hK _ _ ⟨dt_reads (fun e he => ?_), GoesI.at ?_ d⟩
     · have hm := mem_listed he
       simp [go_sem, *] at hm
       try exact ⟨_, _, hm⟩
     clear hK K)
  refine goesI_opZ (L := LT) rfl rfl (by decide) (fineOp_ask callT extT (by kernel_rfl)) hvw hn (x := goInt s) (v' := v.setRow fb (l.map I).toArray) (by simp [execOp, resolve, Act.eval, hcp, go_sem]) rfl (fun w1 hvw1 hn1 => ?_)
  walk_nrm
  refine goesI_regionEnd (dt_idle _ _) ?_
  refine goesI_seq (dt_idle _ _) ?_
  refine goesI_region (dt_idle _ _) ?_
  simp only [List.size_toArray, List.length_cons, List.length_nil, Nat.reduceAdd, Nat.zero_add, List.range, List.range.loop]
  iterate 3
    (refine goesI_oper rfl rfl (by decide) (fun d K hK => ?_)
     go_simp
     refine hK _ _ ⟨dt_reads (fun e he => ?_), GoesI.at ?_ d⟩
     · have hm := mem_listed he
       simp [go_sem, *] at hm
       try exact ⟨_, _, hm⟩
     clear hK K)
  refine goesI_into (f := 88) (fn := Tryd.f88) (args := #[Pt c 0, Pt tb 0, .slice (some ⟨nb, 0, none⟩) s s]) (dt_idle _ _) rfl rfl (by decide) rfl (by simp [Act.eval]) Tryd.func88 (by decide) rfl ?_
  exact hk _ _ ⟨rfl, rfl, by
    intro p hp
    simp only [List.mem_cons, List.not_mem_nil, or_false] at hp
    rcases hp with rfl | rfl | rfl | rfl <;> rfl⟩ hvw1 hn1 _ rfl

noncomputable def yes57 : Code := condA (seq2 (seq2 (seq2 (seq2 B57))))
theorem fine_yes57 : fineCode Tryd.prog true LT yes57 := fineCode_ask callT extT (by kernel_rfl)
set_option maxHeartbeats 2000000 in
set_option maxRecDepth 100000 in
/-- It has seen the same twice: the sum; else it begins again. -/
theorem sum_end {z : Nat → Option Nat} {Ch : Nat → Prop} {Stop : Goroutine → World → Prop} {main : Bool} {v w : World} {c sb s nb fb tb : Nat} {a : Act} (hA : Fl 35 [(0, Pt c 0), (1, Pt tb 0), (5, .slice (some ⟨nb, 0, none⟩) s s), (6, .slice (some ⟨fb, 0, none⟩) s s)] a) (l m : List Int) (hs1 : s ≤ 16) (hl : l.length = s) (hm : m.length = s) (hF : R1.Flds v) (h1 : v.heap[nb]? = some (rowI l)) (h2 : v.heap[fb]? = some (rowI m)) (cs : List Frame) {bc : Frame} {ac : Act} {ops : Array Oper} {q : Nat} {rest : List Nat} {oc : Oper} {k : List Item} (hoc : ops[q]? = some oc) (hvw : Rel z v w) (hn : NoRow Ch v)
    (hyes : m = l → ∀ v' w', Rel z v' w' → NoRow Ch v' → Grows v v' → GoesI Tryd.prog main (DT (ScZ z) Ch) Stop (G (bc.at (ac.put oc.dst (I (R1.totI l))) (.inRegion ops rest :: k)) cs) w')
    (hno : m ≠ l → ∀ a v' w', Fl 35 [(0, Pt c 0), (1, Pt tb 0), (5, .slice (some ⟨nb, 0, none⟩) s s), (6, .slice (some ⟨fb, 0, none⟩) s s)] a → Rel z v' w' → NoRow Ch v' → Grows v v' → GoesI Tryd.prog main (DT (ScZ z) Ch) Stop (G (sFr a) (bc.at ac (.inRegion ops (q :: rest) :: k) :: cs)) w') :
    GoesI Tryd.prog main (DT (ScZ z) Ch) Stop (G (sTwoB a) (bc.at ac (.inRegion ops (q :: rest) :: k) :: cs)) w := by
  unfold sFr L57 Tryd.f57 seq2 blockC loopC at hno
  simp only [Option.getD_some] at hno
  obtain ⟨hsz, hd, hpp⟩ := hA
  obtain ⟨u, rfl, hg⟩ := litN hsz hd
  have u0 := (hg 0).symm.trans (hpp (0, Pt c 0) (by simp))
  have u1 := (hg 1).symm.trans (hpp (1, Pt tb 0) (by simp))
  have u5 := (hg 5).symm.trans (hpp (5, .slice (some ⟨nb, 0, none⟩) s s) (by simp))
  have u6 := (hg 6).symm.trans (hpp (6, .slice (some ⟨fb, 0, none⟩) s s) (by simp))
  clear hg hpp hsz hd
  unfold sTwoB ops574 B57 L57 Tryd.f57 seq2 seq1 blockC loopC opsOf
  simp only [Option.getD_some, lits, Nat.reduceAdd, u0, u1, u5, u6]
  clear u0 u1 u5 u6
  walk_nrm
  refine goesI_regionEnd (dt_idle _ _) ?_
  refine goesI_seq (dt_idle _ _) ?_
  refine goesI_region (dt_idle _ _) ?_
  simp only [List.size_toArray, List.length_cons, List.length_nil, Nat.reduceAdd, Nat.zero_add, List.range, List.range.loop]
  iterate 2
    (refine goesI_oper rfl rfl (by decide) (fun d K hK => ?_)
     go_simp
     refine hK _ _ ⟨dt_reads (fun e he => ?_), GoesI.at ?_ d⟩
     · have hm := mem_listed he
       simp [go_sem, *] at hm
       try exact ⟨_, _, hm⟩
     clear hK K)
  refine goesI_call (f := 89) (fn := Tryd.f89) (args := #[.slice (some ⟨fb, 0, none⟩) s s, .slice (some ⟨nb, 0, none⟩) s s]) hE fineT rfl rfl (by decide) rfl (by simp [Act.eval]) Tryd.func89 (by kernel_rfl) rfl (fineFn_body fineT (by simp [LT, plainFs]) Tryd.func89 rfl) (fun tmps => ⟨_, fun w => results_tmp rfl _ _ _, fun w => by simp [results, go_sem, Tryd.f89]⟩) hvw hn
    (R := fun r v4 => r = .bool (decide (m = l)) ∧ Grows v v4) (fun τ => ?_) (fun r v4 w4 hR hvw4 hn4 => ?_)
  · have := R1.equal_any m l fb nb s s (onTape v τ 0) (by omega) (by omega) (fun k x hk => rowI_cell (v := onTape v τ 0) h2 hk) (fun k x hk => rowI_cell (v := onTape v τ 0) h1 hk) _ rfl
    rw [hl, hm] at this
    exact wp_mono this (bp_mono fun r u hq => ⟨hq.1, ⟨(blw_grows hq.2).size, (blw_grows hq.2).old, hq.2.os, hq.2.output⟩⟩)
  obtain ⟨rfl, hg4⟩ := hR
  walk_nrm
  refine goesI_regionEnd (dt_idle _ _) ?_
  by_cases hml : m = l
  · subst hml
    refine goesI_cond (dt_idle _ _) (t := true) (by simp [Act.eval]) ?_
    simp only [if_true, if_false, Bool.false_eq_true]
    refine goesI_outZ (c := yes57) (f := 57) (fn := Tryd.f57) (L := LT) hE fineT hvw4 hn4 Tryd.func57 fine_yes57 rfl hoc (R := fun r w' => r = I (R1.totI m) ∧ Grows v4 w') (fun τ => ?_) (fun r v' w' hR hr' hn' => ?_)
    · have HT : Hid (Body Tryd.f90 #[.slice (some ⟨nb, 0, none⟩) m.length s] (onTape v4 τ 0) _) := ⟨R1.total_any m nb s (onTape v4 τ 0) (by omega) (hF.of fun a x ha => by
        have := gx_cell hg4 ha
        exact this) (fun k x hk => by
        have := gx_cell hg4 (rowI_cell h1 hk)
        exact this)⟩
      rw [hm] at HT
      show Code.wp Tryd.prog (condA (seq2 (seq2 (seq2 (seq2 (blockC (loopC (blockC (seq2 (seq2 (Tryd.f57.body.getD .skip)))))))))) ) _ _ _
      unfold Tryd.f57 condA seq2 blockC loopC
      simp only [Option.getD_some]
      go_wp2_with (first
        | (go_at_call 90; refine (HT.out.calls Tryd.func90 rfl).mono ?_; rintro e w1 ⟨_, rfl, rfl, hb⟩))
      exact ⟨_, results_tmp rfl _ _ _, rfl, ⟨hb.size, fun b hbb => hb.block b hbb, hb.os, hb.output⟩⟩
    · obtain ⟨rfl, hg5⟩ := hR
      exact hyes rfl v' w' hr' hn' (gx_trans hg4 hg5)
  · refine goesI_cond (dt_idle _ _) (t := false) (by simp [Act.eval, hml]) ?_
    simp only [if_true, if_false, Bool.false_eq_true]
    refine goesI_skip (dt_idle _ _) ?_
    refine goesI_inBlock (dt_idle _ _) ?_
    refine goesI_inLoop (dt_idle _ _) ?_
    exact hno hml _ _ _ ⟨rfl, rfl, by
      intro p hp
      simp only [List.mem_cons, List.not_mem_nil, or_false] at hp
      rcases hp with rfl | rfl | rfl | rfl <;> rfl⟩ hvw4 hn4 hg4
end Go.Proofs.YtcfmffmcammbjaaDoor.Gen

/- counter's Add by a thread of no world, main alone. -/
set_option linter.unusedSimpArgs false
set_option linter.unusedVariables false
namespace Go.Proofs.YtcfmffmcammbjaaDoor.Gen
open Go Go.Lift Go.Conc Go.RowKit

/-- One cell is written, and there is more memory. -/
structure Ftg (cb : Nat) (y : Int) (v v' : World) : Prop where
  cel : v'.heap[cb]? = some (.cells #[I 0, I y] 149 (0, 0))
  old : ∀ b, b < v.heap.size → b ≠ cb → v'.heap[b]? = v.heap[b]?
  size : v.heap.size ≤ v'.heap.size
  os : v'.os = v.os
  out : v'.output = v.output
section
variable {Ch : Nat → Prop} {Stop : Goroutine → World → Prop} {main : Bool} {v w : World} {tb c cb sb s i : Nat} {kb : List Nat} {x : Int}
theorem Fm.grows {v' : World} (m : Fm tb cb x v) (g : Grows v v') : Fm tb cb x v' := ⟨gx_cell g m.thr, m.ne, by
  have hlt : cb < v.heap.size := (Array.getElem?_eq_some_iff.1 m.cel).1
  rw [g.old cb hlt]; exact m.cel⟩

set_option maxHeartbeats 2000000 in
set_option maxRecDepth 100000 in
theorem fadd_try {n : Int} (hF : R1.Flds v) {a : Act} (hA : Fl 32 [(0, Pt c 0), (1, Pt tb 0), (2, I n), (6, Pt cb 0)] a) (cs : List Frame) (hvw : Rel zn v w) (hn : NoRow Ch v) (m0 : Fm tb cb x v)
    (hk : ∀ a v' w', Fl 32 [(0, Pt c 0), (1, Pt tb 0), (2, I n), (6, Pt cb 0)] a → Rel zn v' w' → NoRow Ch v' → Ftg cb (R1.addI x n) v v' → GoesI Tryd.prog main (DT (ScZ zn) Ch) Stop (G (aTried a (.bool true)) cs) w') :
    GoesI Tryd.prog main (DT (ScZ zn) Ch) Stop (G (aSeen a (I x)) cs) w := by
  have e3 : effCas x (R1.addI x n) x = ((x, R1.addI x n), R1.addI x n, .bool true) := by unfold effCas; rw [if_pos rfl]
  have HM : Hid (Fm tb cb x v) := ⟨m0⟩
  clear m0
  unfold aTried ops552 B55 L55 Tryd.f55 seq1 seq2 blockC loopC opsOf at hk
  simp only [Option.getD_some] at hk
  obtain ⟨hsz, hd, hpp⟩ := hA
  obtain ⟨u, rfl, hg⟩ := litN hsz hd
  have u0 := (hg 0).symm.trans (hpp (0, Pt c 0) (by simp))
  have u1 := (hg 1).symm.trans (hpp (1, Pt tb 0) (by simp))
  have u2 := (hg 2).symm.trans (hpp (2, I n) (by simp))
  have u6 := (hg 6).symm.trans (hpp (6, Pt cb 0) (by simp))
  clear hg hpp hsz hd
  unfold aSeen ops551 B55 L55 Tryd.f55 seq2 seq1 blockC loopC opsOf
  simp only [Option.getD_some, lits, Nat.reduceAdd, u0, u1, u2, u6]
  clear u0 u1 u2 u6
  walk_nrm
  iterate 1
    (refine goesI_oper rfl rfl (by decide) (fun d K hK => ?_)
     go_simp
     refine hK _ _ ⟨dt_reads (fun e he => ?_), GoesI.at ?_ d⟩
     · have hm := mem_listed he
       simp [go_sem, *] at hm
       try exact ⟨_, _, hm⟩
     clear hK K)
  refine goesI_regionEnd (dt_idle _ _) ?_
  refine goesI_seq (dt_idle _ _) ?_
  refine goesI_region (dt_idle _ _) ?_
  simp only [List.size_toArray, List.length_cons, List.length_nil, Nat.reduceAdd, Nat.zero_add, List.range, List.range.loop]
  iterate 5
    (refine goesI_oper rfl rfl (by decide) (fun d K hK => ?_)
     go_simp
     refine hK _ _ ⟨dt_reads (fun e he => ?_), GoesI.at ?_ d⟩
     · have hm := mem_listed he
       simp [go_sem, *] at hm
       try exact ⟨_, _, hm⟩
     clear hK K)
  refine goesI_call (f := 87) (fn := Tryd.f87) (args := #[I x, I n]) hE fineT rfl rfl (by decide) rfl (by simp [Act.eval]) Tryd.func87 (by kernel_rfl) rfl (fineFn_body fineT (by simp [LT, plainFs]) Tryd.func87 rfl) (fun tmps => ⟨_, fun w => results_tmp rfl _ _ _, fun w => by simp [results, go_sem, Tryd.f87]⟩) hvw hn
    (R := fun r v4 => r = I (R1.addI x n) ∧ Grows v v4) (fun τ => ?_) (fun r v4 w4 hR hvw4 hn4 => ?_)
  · exact wp_mono (R1.added_any x n (onTape v τ 0) (fits_flds hF rfl) _ rfl) (bp_mono fun r u hq => ⟨hq.1, ⟨(blw_grows hq.2).size, (blw_grows hq.2).old, hq.2.os, hq.2.output⟩⟩)
  obtain ⟨rfl, hg4⟩ := hR
  walk_nrm
  refine goesI_into (f := 66) (fn := Tryd.f66) (args := #[Pt cb 0, Pt tb 0, I x, I (R1.addI x n)]) (dt_idle _ _) rfl rfl (by decide) rfl (by simp [Act.eval]) Tryd.func66 (by decide) rfl ?_
  refine free14 x (R1.addI x n) x _ rfl hvw4 hn4 (HM.out.grows hg4) (fun v2 w2 r2 n2 h2 => ?_) _ rfl
  rw [e3] at h2 ⊢
  exact hk _ v2 w2 ⟨rfl, rfl, by
    intro p hp
    simp only [List.mem_cons, List.not_mem_nil, or_false] at hp
    rcases hp with rfl | rfl | rfl | rfl <;> rfl⟩ r2 n2 ⟨h2.fm.cel, fun b hb hne => by rw [h2.old b hne, hg4.old b hb], by rw [h2.size]; exact hg4.size, h2.os.trans hg4.os, h2.out.trans hg4.output⟩

set_option maxHeartbeats 2000000 in
set_option maxRecDepth 100000 in
theorem fadd_look {n : Int} {a : Act} (hA : Fl 32 [(0, Pt c 0), (1, Pt tb 0), (2, I n), (6, Pt cb 0)] a) (cs : List Frame) (hvw : Rel zn v w) (hn : NoRow Ch v) (m0 : Fm tb cb x v)
    (hk : ∀ a v' w', Fl 32 [(0, Pt c 0), (1, Pt tb 0), (2, I n), (6, Pt cb 0)] a → Rel zn v' w' → NoRow Ch v' → v'.heap = v.heap → v'.os = v.os → v'.output = v.output → GoesI Tryd.prog main (DT (ScZ zn) Ch) Stop (G (aSeen a (I x)) cs) w') :
    GoesI Tryd.prog main (DT (ScZ zn) Ch) Stop (G (aFr a) cs) w := by
  have HM : Hid (Fm tb cb x v) := ⟨m0⟩
  clear m0
  unfold aSeen ops551 B55 L55 Tryd.f55 seq1 seq2 blockC loopC opsOf at hk
  simp only [Option.getD_some] at hk
  obtain ⟨hsz, hd, hpp⟩ := hA
  obtain ⟨u, rfl, hg⟩ := litN hsz hd
  have u0 := (hg 0).symm.trans (hpp (0, Pt c 0) (by simp))
  have u1 := (hg 1).symm.trans (hpp (1, Pt tb 0) (by simp))
  have u2 := (hg 2).symm.trans (hpp (2, I n) (by simp))
  have u6 := (hg 6).symm.trans (hpp (6, Pt cb 0) (by simp))
  clear hg hpp hsz hd
  unfold aFr L55 Tryd.f55 seq2 blockC loopC
  simp only [Option.getD_some, lits, Nat.reduceAdd, u0, u1, u2, u6]
  clear u0 u1 u2 u6
  refine goesI_block (dt_idle _ _) ?_
  refine goesI_seq (dt_idle _ _) ?_
  refine goesI_region (dt_idle _ _) ?_
  simp only [List.size_toArray, List.length_cons, List.length_nil, Nat.reduceAdd, Nat.zero_add, List.range, List.range.loop]
  iterate 2
    (refine goesI_oper rfl rfl (by decide) (fun d K hK => ?_)
     go_simp
     refine hK _ _ ⟨dt_reads (fun e he => ?_), GoesI.at ?_ d⟩
     · have hm := mem_listed he
       simp [go_sem, *] at hm
       try exact ⟨_, _, hm⟩
     clear hK K)
  refine goesI_into (f := 64) (fn := Tryd.f64) (args := #[Pt cb 0, Pt tb 0]) (dt_idle _ _) rfl rfl (by decide) rfl (by simp [Act.eval]) Tryd.func64 (by decide) rfl ?_
  refine free17 x _ rfl hvw hn HM.out (fun v2 w2 r2 n2 h2 => ?_) _ rfl
  exact hk _ v2 w2 ⟨rfl, rfl, by
    intro p hp
    simp only [List.mem_cons, List.not_mem_nil, or_false] at hp
    rcases hp with rfl | rfl | rfl | rfl <;> rfl⟩ r2 n2 (h2.stay HM.out) h2.os h2.out

/-- Add. -/
theorem fadd (n : Int) {cs : List Frame} {bc : Frame} {ac : Act} {ops : Array Oper} {q : Nat} {rest : List Nat} {oc : Oper} {k : List Item} (hoc : ops[q]? = some oc)
    (hvw : Rel zn v w) (hn : NoRow Ch v) (hC : Ctr v c sb s kb) (h1 : v.cell? ⟨tb, 1, none⟩ = some (I i)) (hcb : kb[i % s]? = some cb) (hF : R1.Flds v) (m0 : Fm tb cb x v)
    (hk : ∀ v' w', Rel zn v' w' → NoRow Ch v' → Ftg cb (R1.addI x n) v v' → GoesI Tryd.prog main (DT (ScZ zn) Ch) Stop (G (bc.at (ac.put oc.dst (.tuple #[])) (.inRegion ops rest :: k)) cs) w') (code : Code) (hc : Tryd.f55.body = some code) :
    GoesI Tryd.prog main (DT (ScZ zn) Ch) Stop (G ((base 55).at { tmps := #[Pt c 0, Pt tb 0, I n] ++ Array.replicate 29 undef, defers := [] } [.code code]) (bc.at ac (.inRegion ops (q :: rest) :: k) :: cs)) w := by
  refine add_in n hC h1 hcb _ hvw hn (fun a v1 w1 hA r1 n1 a1 b1 c1 => ?_) code hc
  refine fadd_look hA _ r1 n1 (m0.same a1) (fun a v2 w2 hA r2 n2 a2 b2 c2 => ?_)
  refine fadd_try (fits_flds hF (a2.trans a1)) hA _ r2 n2 (m0.same (a2.trans a1)) (fun a v3 w3 hA r3 n3 h3 => ?_)
  refine add_won hA _ hoc r3 n3 (fun w4 r4 => hk v3 w4 r4 n3 ⟨h3.cel, fun b hb hne => ?_, ?_, h3.os.trans (b2.trans b1), h3.out.trans (c2.trans c1)⟩)
  · rw [h3.old b (by rw [a2, a1]; exact hb) hne, a2, a1]
  · have := h3.size; rw [a2, a1] at this; exact this
end
end Go.Proofs.YtcfmffmcammbjaaDoor.Gen
