/- LatchAlone is true of the program at this commit: by one free thread alone, of a latch of no world, Down and Wait answer as a number says that is counted down, whatever the number and the calls; no conditions. Part 27 of 35. (Joined, by program, of: GFree, Until2, LatW.) -/
import Derived.Test.YtehingmdmijedaaLatchAlone10
import Derived.Test.YtehingmdmijedaaLatchAlone11
import Derived.Test.YtehingmdmijedaaLatchAlone15
import Derived.Test.YtehingmdmijedaaLatchAlone22
import Derived.Test.YtehingmdmijedaaLatchAlone26

/- A thread of no world (turn.Free), cells of no world, and what such a thread does to them: main alone. -/
set_option linter.unusedSimpArgs false
set_option linter.unusedVariables false
namespace Go.Proofs.Ytehingmdmijedaa.Gen
open Go Go.Lift Go.Conc Go.RowKit


/-- A free thread, and a cell of no world. -/
structure Fm (tb cb : Nat) (x : Int) (v : World) : Prop where
  thr : v.heap[tb]? = some (.cells #[.pointer none, I 0, .chan none, I 0, I 0, I 0, I 0] 94 (0, 0))
  cel : v.heap[cb]? = some (.cells #[I 0, I x] 91 (0, 0))
structure Fto (tb cb : Nat) (x : Int) (v v' : World) : Prop where
  fm : Fm tb cb x v'
  old : ∀ b, b ≠ cb → v'.heap[b]? = v.heap[b]?
  size : v'.heap.size = v.heap.size
  os : v'.os = v.os
  out : v'.output = v.output
section
variable {tb cb : Nat} {x y : Int} {v v' v'' : World}
theorem Fm.cells (h : Fm tb cb x v) : v.cell? ⟨tb, 0, none⟩ = some (.pointer none) ∧ v.cell? ⟨cb, 0, none⟩ = some (I 0) ∧ v.cell? ⟨cb, 1, none⟩ = some (I x) ∧ v.frozen? ⟨cb, 1, none⟩ = false := by
  refine ⟨?_, ?_, ?_, ?_⟩
  · unfold World.cell?; rw [show v.heap[tb]? = _ from h.thr]; rfl
  · unfold World.cell?; rw [show v.heap[cb]? = _ from h.cel]; rfl
  · unfold World.cell?; rw [show v.heap[cb]? = _ from h.cel]; rfl
  · unfold World.frozen?; rw [show v.heap[cb]? = _ from h.cel]; rfl
theorem Fm.ne (h : Fm tb cb x v) : tb ≠ cb := fun e => by
  have h1 := h.thr
  rw [e, h.cel] at h1
  simp at h1
theorem Fto.refl (h : Fm tb cb x v) : Fto tb cb x v v := ⟨h, fun _ _ => rfl, rfl, rfl, rfl⟩
theorem Fto.same (h : Fto tb cb x v v') (e1 : v''.heap = v'.heap) (e2 : v''.os = v'.os) (e3 : v''.output = v'.output) : Fto tb cb x v v'' :=
  ⟨⟨by rw [e1]; exact h.fm.thr, by rw [e1]; exact h.fm.cel⟩, fun b hb => by rw [e1]; exact h.old b hb, by rw [e1]; exact h.size, e2.trans h.os, e3.trans h.out⟩
theorem Fto.set (h : Fm tb cb x v) (y : Int) : Fto tb cb y v (v.setCell ⟨cb, 1, none⟩ (I y)) :=
  ⟨⟨by rw [Below.heap_setCell _ _ _ _ h.ne]; exact h.thr, heap_setCell_same h.cel _⟩, fun b hb => Below.heap_setCell _ _ _ _ hb, by simp [World.setCell], rfl, rfl⟩
theorem Fto.base (h : Fto tb cb x v v') (e1 : v.heap = v''.heap) (e2 : v.os = v''.os) (e3 : v.output = v''.output) : Fto tb cb x v'' v' :=
  ⟨h.fm, fun b hb => by rw [← e1]; exact h.old b hb, by rw [← e1]; exact h.size, h.os.trans e2, h.out.trans e3⟩
theorem Fm.same (h : Fm tb cb x v) (e : v'.heap = v.heap) : Fm tb cb x v' := ⟨by rw [e]; exact h.thr, by rw [e]; exact h.cel⟩

theorem body27f (tb : Nat) (b a : Int) (v : World) (h : v.cell? ⟨tb, 0, none⟩ = some (.pointer none)) : Body Try.f56 #[Pt tb 0, I b, I a] v (fun r v' => r = .tuple #[] ∧ v' = v) := by
  intro code hb
  obtain rfl := Option.some.inj hb
  clear hb
  simp only [Try.ntmps56, List.size_toArray, List.length_cons, List.length_nil, Nat.reduceAdd, Nat.reduceSub, Array.replicate_succ, Array.replicate_zero, List.push_toArray, List.append_toArray, List.nil_append, List.cons_append]
  go_wp2_with fail
  exact ⟨rfl, _, results_none rfl _ _ _, _, rfl, rfl, rfl⟩
end

set_option maxHeartbeats 1000000 in
set_option maxRecDepth 100000 in
theorem free26 {Ch : Nat → Prop} {Stop : Goroutine → World → Prop} {main : Bool} {v w : World} (tb : Nat) (c o : Int) (ht : v.cell? ⟨tb, 0, none⟩ = some (.pointer none)) (cs : List Frame) {bc : Frame} {ac : Act} {ops : Array Oper} {q : Nat} {rest : List Nat} {oc : Oper} {k : List Item} (hoc : ops[q]? = some oc) (hvw : Rel zn v w) (hn : NoRow Ch v)
    (hk : ∀ w', Rel zn v w' → GoesI Try.prog main (DT (ScZ zn) Ch) Stop (G (bc.at (ac.put oc.dst (.tuple #[])) (.inRegion ops rest :: k)) cs) w') (code : Code) (hc : Try.f55.body = some code) :
    GoesI Try.prog main (DT (ScZ zn) Ch) Stop (G ((base 55).at { tmps := #[Pt tb 0, I c, I o] ++ Array.replicate 12 undef, defers := [] } [.code code]) (bc.at ac (.inRegion ops (q :: rest) :: k) :: cs)) w := by
  obtain rfl := Option.some.inj hc
  clear hc
  have e0 : w.cell? ⟨tb, 0, none⟩ = some (.pointer none) := by rw [hvw.cell?]; exact ht
  simp only [Array.replicate_succ, Array.replicate_zero, List.push_toArray, List.append_toArray, List.nil_append, List.cons_append]
  refine goesI_seq (dt_idle _ _) ?_
  refine goesI_region (dt_idle _ _) ?_
  simp only [List.size_toArray, List.length_cons, List.length_nil, Nat.reduceAdd, Nat.zero_add, List.range, List.range.loop]
  iterate 4
    (refine goesI_oper rfl rfl (by decide) (fun d K hK => ?_)
     go_simp
     refine hK _ _ ⟨dt_reads (fun e he => ?_), GoesI.at ?_ d⟩
     · have hm := mem_listed he
       simp [go_sem, *] at hm
       try exact ⟨_, _, hm⟩
     clear hK K)
  refine goesI_opZ (L := LT) rfl rfl (by decide) (fineOp_ask callT extT (by kernel_rfl)) hvw hn (v' := v) (x := .bool false) (by go_simp) rfl (fun w2 hr2 hn2 => ?_)
  refine goesI_regionEnd (dt_idle _ _) ?_
  refine goesI_cond (dt_idle _ _) (t := false) rfl ?_
  refine goesI_skip (dt_idle _ _) ?_
  refine goesI_end (dt_idle _ _) ?_
  exact goesI_leave (b := base 55) (fn := Try.f55) rfl rfl Try.func55 (res26 _) (ev26 _) hoc (dt_idle _ _) (hk w2 hr2)
set_option maxHeartbeats 1000000 in
set_option maxRecDepth 100000 in
theorem tailF15 {v : World} {tb cb : Nat} {x : Int} {n : Int} (hm : Fm tb cb x v) (a8 a9 a10 a11 a12 a13 : Value) :
    rest15.wp Try.prog (bodyPost Try.prog Try.f24 (fun e w' => ∃ r, e = .returned r ∧ (r = (effAdd n x).2.2 ∧ Fto tb cb (effAdd n x).2.1 v w')))
      { tmps := #[Pt cb 0, Pt tb 0, I n, undef, undef, undef, I 0, undef, a8, a9, a10, a11, a12, a13, undef, undef, undef, undef, undef, undef, undef, undef, undef, undef, undef, undef], defers := [] } v := by
  obtain ⟨c0, _, c1, f1⟩ := hm.cells
  have HM : Hid (Fm tb cb x v) := ⟨hm⟩
  have HT : Hid ((v.setCell ⟨cb, 1, none⟩ (I (wrap64 (x + n)))).cell? ⟨tb, 0, none⟩ = some (.pointer none)) := ⟨by rw [World.cell?_of_block (Below.heap_setCell _ _ _ _ hm.ne)]; exact c0⟩
  clear hm
  show Code.wp Try.prog (seq2 (seq2 (Try.f24.body.getD .skip))) _ _ _
  unfold Try.f24 seq2
  simp only [Option.getD_some]
  go_wp2_with (first
    | (go_at_call 59; refine ((body30 cb x n _ c1 f1).calls Try.func59 rfl).mono ?_; rintro e w1 ⟨_, rfl, rfl, rfl⟩)
    | (go_at_call 56; refine ((body27f tb (wrap64 (wrap64 (x + n) - n)) (wrap64 (x + n)) _ HT.out).calls Try.func56 rfl).mono ?_; rintro e w2 ⟨_, rfl, rfl, rfl⟩))
  go_ret
  exact ⟨_, rfl, rfl, Fto.set HM.out _⟩

set_option maxHeartbeats 1000000 in
set_option maxRecDepth 100000 in
theorem free15 {Ch : Nat → Prop} {Stop : Goroutine → World → Prop} {main : Bool} {v w : World} {tb cb : Nat} (n : Int) (x : Int) (cs : List Frame) {bc : Frame} {ac : Act} {ops : Array Oper} {q : Nat} {rest : List Nat} {oc : Oper} {k : List Item} (hoc : ops[q]? = some oc)
    (hvw : Rel zn v w) (hn : NoRow Ch v) (hm : Fm tb cb x v)
    (hk : ∀ v' w', Rel zn v' w' → NoRow Ch v' → Fto tb cb (effAdd n x).2.1 v v' → GoesI Try.prog main (DT (ScZ zn) Ch) Stop (G (bc.at (ac.put oc.dst (effAdd n x).2.2) (.inRegion ops rest :: k)) cs) w') (code : Code) (hc : Try.f24.body = some code) :
    GoesI Try.prog main (DT (ScZ zn) Ch) Stop (G ((base 24).at { tmps := #[Pt cb 0, Pt tb 0, I n] ++ Array.replicate 23 undef, defers := [] } [.code code]) (bc.at ac (.inRegion ops (q :: rest) :: k) :: cs)) w := by
  obtain rfl := Option.some.inj hc
  clear hc
  have e0 : w.cell? ⟨cb, 0, none⟩ = some (I 0) := by rw [hvw.cell?]; exact hm.cells.2.1
  simp only [Array.replicate_succ, Array.replicate_zero, List.push_toArray, List.append_toArray, List.nil_append, List.cons_append]
  have HM : Hid (Fm tb cb x v) := ⟨hm⟩
  clear hm
  refine goesI_seq (dt_idle _ _) ?_
  refine goesI_region (dt_idle _ _) ?_
  simp only [List.size_toArray, List.length_cons, List.length_nil, Nat.reduceAdd, Nat.zero_add, List.range, List.range.loop]
  (refine goesI_oper rfl rfl (by decide) (fun d K hK => ?_)
   go_simp
   refine hK _ _ ⟨dt_reads (fun e he => ?_), GoesI.at ?_ d⟩
   · have hm := mem_listed he
     simp [go_sem, *] at hm
   clear hK K)
  refine goesI_regionEnd (dt_idle _ _) ?_
  refine goesI_seq (dt_idle _ _) ?_
  refine goesI_region (dt_idle _ _) ?_
  simp only [List.size_toArray, List.length_cons, List.length_nil, Nat.reduceAdd, Nat.zero_add, List.range, List.range.loop]
  iterate 5
    (refine goesI_oper rfl rfl (by decide) (fun d K hK => ?_)
     go_simp
     refine hK _ _ ⟨dt_reads (fun e he => ?_), GoesI.at ?_ d⟩
     · have hm := mem_listed he
       simp [go_sem, *] at hm
       try exact ⟨_, _, hm⟩
     clear hK K)
  refine goesI_into (f := 55) (fn := Try.f55) (args := #[Pt tb 0, I 0, I 5]) (dt_idle _ _) rfl rfl (by decide) rfl (by simp [Act.eval]) Try.func55 (by decide) rfl ?_
  refine free26 tb 0 5 HM.out.cells.1 _ rfl hvw hn (fun w1 hr1 => ?_) _ rfl
  clear e0 hvw
  refine goesI_regionEnd (dt_idle _ _) ?_
  refine goesI_rest (f := 24) (fn := Try.f24) (c := rest15) hE fineT hr1 hn Try.func24 fine15 rfl hoc res15 (fun τ => ?_) (fun r v' w' hR hr' hn' => ?_) (R := fun r w' => r = (effAdd n x).2.2 ∧ Fto tb cb (effAdd n x).2.1 v w')
  · exact wp_mono (tailF15 (HM.out.same (v' := onTape v τ 0) rfl) _ _ _ _ _ _) (bp_mono fun r u hq => ⟨hq.1, hq.2.base rfl rfl rfl⟩)
  · obtain ⟨rfl, he⟩ := hR
    exact hk v' w' hr' hn' he

set_option maxHeartbeats 1000000 in
set_option maxRecDepth 100000 in
theorem tailF17 {v : World} {tb cb : Nat} {x : Int} (hm : Fm tb cb x v) (a6 a7 a8 a9 a10 a11 : Value) :
    rest17.wp Try.prog (bodyPost Try.prog Try.f26 (fun e w' => ∃ r, e = .returned r ∧ (r = (effLoad x).2.2 ∧ Fto tb cb (effLoad x).2.1 v w')))
      { tmps := #[Pt cb 0, Pt tb 0, undef, undef, I 0, undef, a6, a7, a8, a9, a10, a11, undef, undef, undef, undef, undef, undef, undef, undef, undef], defers := [] } v := by
  obtain ⟨c0, _, c1, f1⟩ := hm.cells
  have HM : Hid (Fm tb cb x v) := ⟨hm⟩
  have HT : Hid (v.cell? ⟨tb, 0, none⟩ = some (.pointer none)) := ⟨by exact c0⟩
  clear hm
  show Code.wp Try.prog (seq2 (seq2 (Try.f26.body.getD .skip))) _ _ _
  unfold Try.f26 seq2
  simp only [Option.getD_some]
  go_wp2_with (first
    | (go_at_call 58; refine ((body29 cb x _ c1).calls Try.func58 rfl).mono ?_; rintro e w1 ⟨_, rfl, rfl, rfl⟩)
    | (go_at_call 56; refine ((body27f tb x x _ HT.out).calls Try.func56 rfl).mono ?_; rintro e w2 ⟨_, rfl, rfl, rfl⟩))
  go_ret
  exact ⟨_, rfl, rfl, Fto.refl HM.out⟩

set_option maxHeartbeats 1000000 in
set_option maxRecDepth 100000 in
theorem free17 {Ch : Nat → Prop} {Stop : Goroutine → World → Prop} {main : Bool} {v w : World} {tb cb : Nat} (x : Int) (cs : List Frame) {bc : Frame} {ac : Act} {ops : Array Oper} {q : Nat} {rest : List Nat} {oc : Oper} {k : List Item} (hoc : ops[q]? = some oc)
    (hvw : Rel zn v w) (hn : NoRow Ch v) (hm : Fm tb cb x v)
    (hk : ∀ v' w', Rel zn v' w' → NoRow Ch v' → Fto tb cb (effLoad x).2.1 v v' → GoesI Try.prog main (DT (ScZ zn) Ch) Stop (G (bc.at (ac.put oc.dst (effLoad x).2.2) (.inRegion ops rest :: k)) cs) w') (code : Code) (hc : Try.f26.body = some code) :
    GoesI Try.prog main (DT (ScZ zn) Ch) Stop (G ((base 26).at { tmps := #[Pt cb 0, Pt tb 0] ++ Array.replicate 19 undef, defers := [] } [.code code]) (bc.at ac (.inRegion ops (q :: rest) :: k) :: cs)) w := by
  obtain rfl := Option.some.inj hc
  clear hc
  have e0 : w.cell? ⟨cb, 0, none⟩ = some (I 0) := by rw [hvw.cell?]; exact hm.cells.2.1
  simp only [Array.replicate_succ, Array.replicate_zero, List.push_toArray, List.append_toArray, List.nil_append, List.cons_append]
  have HM : Hid (Fm tb cb x v) := ⟨hm⟩
  clear hm
  refine goesI_seq (dt_idle _ _) ?_
  refine goesI_region (dt_idle _ _) ?_
  simp only [List.size_toArray, List.length_cons, List.length_nil, Nat.reduceAdd, Nat.zero_add, List.range, List.range.loop]
  (refine goesI_oper rfl rfl (by decide) (fun d K hK => ?_)
   go_simp
   refine hK _ _ ⟨dt_reads (fun e he => ?_), GoesI.at ?_ d⟩
   · have hm := mem_listed he
     simp [go_sem, *] at hm
   clear hK K)
  refine goesI_regionEnd (dt_idle _ _) ?_
  refine goesI_seq (dt_idle _ _) ?_
  refine goesI_region (dt_idle _ _) ?_
  simp only [List.size_toArray, List.length_cons, List.length_nil, Nat.reduceAdd, Nat.zero_add, List.range, List.range.loop]
  iterate 5
    (refine goesI_oper rfl rfl (by decide) (fun d K hK => ?_)
     go_simp
     refine hK _ _ ⟨dt_reads (fun e he => ?_), GoesI.at ?_ d⟩
     · have hm := mem_listed he
       simp [go_sem, *] at hm
       try exact ⟨_, _, hm⟩
     clear hK K)
  refine goesI_into (f := 55) (fn := Try.f55) (args := #[Pt tb 0, I 0, I 1]) (dt_idle _ _) rfl rfl (by decide) rfl (by simp [Act.eval]) Try.func55 (by decide) rfl ?_
  refine free26 tb 0 1 HM.out.cells.1 _ rfl hvw hn (fun w1 hr1 => ?_) _ rfl
  clear e0 hvw
  refine goesI_regionEnd (dt_idle _ _) ?_
  refine goesI_rest (f := 26) (fn := Try.f26) (c := rest17) hE fineT hr1 hn Try.func26 fine17 rfl hoc res17 (fun τ => ?_) (fun r v' w' hR hr' hn' => ?_) (R := fun r w' => r = (effLoad x).2.2 ∧ Fto tb cb (effLoad x).2.1 v w')
  · exact wp_mono (tailF17 (HM.out.same (v' := onTape v τ 0) rfl) _ _ _ _ _ _) (bp_mono fun r u hq => ⟨hq.1, hq.2.base rfl rfl rfl⟩)
  · obtain ⟨rfl, he⟩ := hR
    exact hk v' w' hr' hn' he

set_option maxHeartbeats 1000000 in
set_option maxRecDepth 100000 in
theorem tailF14 {v : World} {tb cb : Nat} {x : Int} {a y : Int} (hm : Fm tb cb x v) (a10 a11 a12 a13 a14 a15 : Value) :
    rest14.wp Try.prog (bodyPost Try.prog Try.f23 (fun e w' => ∃ r, e = .returned r ∧ (r = (effCas a y x).2.2 ∧ Fto tb cb (effCas a y x).2.1 v w')))
      { tmps := #[Pt cb 0, Pt tb 0, I a, I y, undef, undef, undef, undef, .bool false, undef, a10, a11, a12, a13, a14, a15, undef, undef, undef, undef, undef, undef, undef, undef, undef, undef, undef, undef, undef, undef, undef, undef, undef, undef], defers := [] } v := by
  obtain ⟨c0, _, c1, f1⟩ := hm.cells
  have HM : Hid (Fm tb cb x v) := ⟨hm⟩
  by_cases hx : x = a
  · subst hx
    have HT : Hid ((v.setCell ⟨cb, 1, none⟩ (I y)).cell? ⟨tb, 0, none⟩ = some (.pointer none)) := ⟨by rw [World.cell?_of_block (Below.heap_setCell _ _ _ _ hm.ne)]; exact c0⟩
    have HQ : Hid (effCas x y x = ((x, y), y, .bool true)) := ⟨by simp [effCas]⟩
    rw [HQ.out]
    clear hm
    show Code.wp Try.prog (seq2 (seq2 (Try.f23.body.getD .skip))) _ _ _
    unfold Try.f23 seq2
    simp only [Option.getD_some]
    go_wp2_with (first
      | (go_at_call 57; refine ((body28 cb x y _ c1 f1).calls Try.func57 rfl).mono ?_; rintro e w1 ⟨_, rfl, rfl, rfl⟩)
      | (go_at_call 56; refine ((body27f tb x y _ HT.out).calls Try.func56 rfl).mono ?_; rintro e w2 ⟨_, rfl, rfl, rfl⟩))
    go_ret
    exact ⟨_, rfl, rfl, Fto.set HM.out _⟩
  have HT : Hid (v.cell? ⟨tb, 0, none⟩ = some (.pointer none)) := ⟨by exact c0⟩
  have HQ : Hid (effCas a y x = ((x, x), x, .bool false)) := ⟨by simp [effCas, hx]⟩
  rw [HQ.out]
  clear hm
  show Code.wp Try.prog (seq2 (seq2 (Try.f23.body.getD .skip))) _ _ _
  unfold Try.f23 seq2
  simp only [Option.getD_some]
  go_wp2_with (first
    | (go_at_call 57; refine ((body28n cb x a y _ c1 f1 hx).calls Try.func57 rfl).mono ?_; rintro e w1 ⟨_, rfl, rfl, rfl⟩)
    | (go_at_call 58; refine ((body29 cb x _ c1).calls Try.func58 rfl).mono ?_; rintro e w1 ⟨_, rfl, rfl, rfl⟩)
    | (go_at_call 56; refine ((body27f tb x x _ HT.out).calls Try.func56 rfl).mono ?_; rintro e w2 ⟨_, rfl, rfl, rfl⟩))
  go_ret
  exact ⟨_, rfl, rfl, Fto.refl HM.out⟩

set_option maxHeartbeats 1000000 in
set_option maxRecDepth 100000 in
theorem free14 {Ch : Nat → Prop} {Stop : Goroutine → World → Prop} {main : Bool} {v w : World} {tb cb : Nat} (a y : Int) (x : Int) (cs : List Frame) {bc : Frame} {ac : Act} {ops : Array Oper} {q : Nat} {rest : List Nat} {oc : Oper} {k : List Item} (hoc : ops[q]? = some oc)
    (hvw : Rel zn v w) (hn : NoRow Ch v) (hm : Fm tb cb x v)
    (hk : ∀ v' w', Rel zn v' w' → NoRow Ch v' → Fto tb cb (effCas a y x).2.1 v v' → GoesI Try.prog main (DT (ScZ zn) Ch) Stop (G (bc.at (ac.put oc.dst (effCas a y x).2.2) (.inRegion ops rest :: k)) cs) w') (code : Code) (hc : Try.f23.body = some code) :
    GoesI Try.prog main (DT (ScZ zn) Ch) Stop (G ((base 23).at { tmps := #[Pt cb 0, Pt tb 0, I a, I y] ++ Array.replicate 30 undef, defers := [] } [.code code]) (bc.at ac (.inRegion ops (q :: rest) :: k) :: cs)) w := by
  obtain rfl := Option.some.inj hc
  clear hc
  have e0 : w.cell? ⟨cb, 0, none⟩ = some (I 0) := by rw [hvw.cell?]; exact hm.cells.2.1
  simp only [Array.replicate_succ, Array.replicate_zero, List.push_toArray, List.append_toArray, List.nil_append, List.cons_append]
  have HM : Hid (Fm tb cb x v) := ⟨hm⟩
  clear hm
  refine goesI_seq (dt_idle _ _) ?_
  refine goesI_region (dt_idle _ _) ?_
  simp only [List.size_toArray, List.length_cons, List.length_nil, Nat.reduceAdd, Nat.zero_add, List.range, List.range.loop]
  (refine goesI_oper rfl rfl (by decide) (fun d K hK => ?_)
   go_simp
   refine hK _ _ ⟨dt_reads (fun e he => ?_), GoesI.at ?_ d⟩
   · have hm := mem_listed he
     simp [go_sem, *] at hm
   clear hK K)
  refine goesI_regionEnd (dt_idle _ _) ?_
  refine goesI_seq (dt_idle _ _) ?_
  refine goesI_region (dt_idle _ _) ?_
  simp only [List.size_toArray, List.length_cons, List.length_nil, Nat.reduceAdd, Nat.zero_add, List.range, List.range.loop]
  iterate 5
    (refine goesI_oper rfl rfl (by decide) (fun d K hK => ?_)
     go_simp
     refine hK _ _ ⟨dt_reads (fun e he => ?_), GoesI.at ?_ d⟩
     · have hm := mem_listed he
       simp [go_sem, *] at hm
       try exact ⟨_, _, hm⟩
     clear hK K)
  refine goesI_into (f := 55) (fn := Try.f55) (args := #[Pt tb 0, I 0, I 4]) (dt_idle _ _) rfl rfl (by decide) rfl (by simp [Act.eval]) Try.func55 (by decide) rfl ?_
  refine free26 tb 0 4 HM.out.cells.1 _ rfl hvw hn (fun w1 hr1 => ?_) _ rfl
  clear e0 hvw
  refine goesI_regionEnd (dt_idle _ _) ?_
  refine goesI_rest (f := 23) (fn := Try.f23) (c := rest14) hE fineT hr1 hn Try.func23 fine14 rfl hoc res14 (fun τ => ?_) (fun r v' w' hR hr' hn' => ?_) (R := fun r w' => r = (effCas a y x).2.2 ∧ Fto tb cb (effCas a y x).2.1 v w')
  · exact wp_mono (tailF14 (HM.out.same (v' := onTape v τ 0) rfl) _ _ _ _ _ _) (bp_mono fun r u hq => ⟨hq.1, hq.2.base rfl rfl rfl⟩)
  · obtain ⟨rfl, he⟩ := hR
    exact hk v' w' hr' hn' he


theorem body24n (v : World) : Body Try.f53 #[.pointer none] v (fun r v' => r = I 0 ∧ v' = v) := by
  intro code hb
  obtain rfl := Option.some.inj hb
  clear hb
  simp only [Try.ntmps53, List.size_toArray, List.length_cons, List.length_nil, Nat.reduceAdd, Nat.reduceSub, Array.replicate_succ, Array.replicate_zero, List.push_toArray, List.append_toArray, List.nil_append, List.cons_append]
  go_wp2_with fail
  go_ret
  exact ⟨_, rfl, rfl, rfl⟩
set_option maxHeartbeats 2000000 in
set_option maxRecDepth 100000 in
theorem body10n (v : World) (x : Int) : Body Try.f19 #[.pointer none, I x] v (fun r v' => r = Pt v.heap.size 0 ∧ v'.heap = v.heap.push (.cells #[I 0, I x] 91) ∧ v'.os = v.os ∧ v'.output = v.output) := by
  intro code hb
  obtain rfl := Option.some.inj hb
  clear hb
  simp only [Try.ntmps19, List.size_toArray, List.length_cons, List.length_nil, Nat.reduceAdd, Nat.reduceSub, Array.replicate_succ, Array.replicate_zero, List.push_toArray, List.append_toArray, List.nil_append, List.cons_append]
  go_wp2_with (first
    | (go_at_call 53; refine ((body24n v).calls Try.func53 rfl).mono ?_; rintro e w1 ⟨r1, rfl, rfl, rfl⟩)
    | (go_at_call 54
       have hb : (w1.alloc (.cells #[I 0, I 0] 91)).heap[w1.heap.size]? = some (.cells #[I 0, I 0] 91) := Array.getElem?_push_size
       refine ((body25 w1.heap.size 0 x _ (by unfold World.cell?; rw [hb]; rfl) (by unfold World.frozen?; rw [hb]; rfl)).calls Try.func54 rfl).mono ?_; rintro e w2 ⟨r2, rfl, rfl, rfl⟩))
  go_ret
  exact ⟨_, rfl, rfl, rfl, rfl, rfl⟩
set_option maxHeartbeats 2000000 in
set_option maxRecDepth 100000 in
theorem body11 (v : World) : Body Try.f20 #[I 0] v (fun r v' => r = Pt v.heap.size 0 ∧ v'.heap = v.heap.push (.cells #[.pointer none, I 0, .chan none, I 0, I 0, I 0, I 0] 94) ∧ v'.os = v.os ∧ v'.output = v.output) := by
  intro code hb
  obtain rfl := Option.some.inj hb
  clear hb
  simp only [Try.ntmps20, List.size_toArray, List.length_cons, List.length_nil, Nat.reduceAdd, Nat.reduceSub, Array.replicate_succ, Array.replicate_zero, List.push_toArray, List.append_toArray, List.nil_append, List.cons_append]
  go_wp2_with fail
  go_ret
  exact ⟨_, rfl, rfl, rfl, rfl, rfl⟩
theorem body18 (v : World) (cb : Nat) (h : v.cell? ⟨cb, 0, none⟩ = some (I 0)) : Body Try.f27 #[Pt cb 0] v (fun r v' => r = I 0 ∧ v' = v) := by
  intro code hb
  obtain rfl := Option.some.inj hb
  clear hb
  simp only [Try.ntmps27, List.size_toArray, List.length_cons, List.length_nil, Nat.reduceAdd, Nat.reduceSub, Array.replicate_succ, Array.replicate_zero, List.push_toArray, List.append_toArray, List.nil_append, List.cons_append]
  go_wp2_with fail
  go_ret
  exact ⟨_, rfl, rfl, rfl⟩
end Go.Proofs.Ytehingmdmijedaa.Gen

/- Until of a cell (16), in company, further pieces: it has seen what stands there; it was woken, or is stuck. -/
set_option linter.unusedSimpArgs false
set_option linter.unusedVariables false
namespace Go.Proofs.Ytehingmdmijedaa
open Go Go.Lift Go.Conc Go.RowKit

theorem res16 (tmps : Array Value) : ∃ v, (∀ w, (results Try.f25 tmps).run Try.prog w = .ok v w) ∧ ∀ w, (results Try.f25 tmps).events Try.prog w #[] = #[] :=
  ⟨_, fun w => results_tmp rfl _ _ _, fun w => by simp [results, go_sem]⟩

/-- The frame where it was woken, or is stuck. -/
noncomputable def uWoke (cb tb : Nat) (n : Int) (cid : Int) (u : Nat → Value) (r : Value) : Frame :=
  (base 25).at ((⟨#[Pt cb 0, Pt tb 0, I n, undef, undef, undef, .bool false, u 7, u 8, u 9, u 10, u 11, u 12, u 13, u 14, u 15, u 16, u 17, u 18], []⟩ : Act).put (some 17) r) [.inRegion ops162 [6], .code (seq2 (blockC (seq2 L16))), .inBlock 1, .inLoop L16, .inBlock 0, .code T16]

set_option maxHeartbeats 1000000 in
set_option maxRecDepth 100000 in
/-- Something else stands there: it answers true. -/
theorem until_diff {z : Nat → Option Nat} {Ch : Nat → Prop} {Stop : Goroutine → World → Prop} {main : Bool} {v w : World} {cb tb : Nat} (n x : Int) (hx : x ≠ n) (u : Nat → Value) (cs : List Frame) {bc : Frame} {ac : Act} {ops : Array Oper} {q : Nat} {rest : List Nat} {oc : Oper} {k : List Item} (hoc : ops[q]? = some oc)
    (hvw : Rel z v w) (hn : NoRow Ch v)
    (hk : ∀ v' w', Rel z v' w' → NoRow Ch v' → v'.heap = v.heap → v'.os = v.os → v'.output = v.output → GoesI Try.prog main (DT (ScZ z) Ch) Stop (G (bc.at (ac.put oc.dst (.bool true)) (.inRegion ops rest :: k)) cs) w') :
    GoesI Try.prog main (DT (ScZ z) Ch) Stop (G (uSeen cb tb n u (I x)) (bc.at ac (.inRegion ops (q :: rest) :: k) :: cs)) w := by
  unfold uSeen ops161 L16 T16 Try.f25 seq2 seq1 blockC loopC opsOf
  simp only [Option.getD_some]
  walk_nrm
  (refine goesI_oper rfl rfl (by decide) (fun d K hK => ?_)
   go_simp
   refine hK _ _ ⟨dt_reads (fun e he => ?_), GoesI.at ?_ d⟩
   · have hm := mem_listed he
     simp [go_sem, *] at hm
   clear hK K)
  (refine goesI_oper rfl rfl (by decide) (fun d K hK => ?_)
   go_simp
   refine hK _ _ ⟨dt_reads (fun e he => ?_), GoesI.at ?_ d⟩
   · have hm := mem_listed he
     simp [go_sem, *] at hm
   clear hK K)
  refine goesI_regionEnd (dt_idle _ _) ?_
  refine goesI_cond (dt_idle _ _) (t := false) (by simp [Act.eval, hx]) ?_
  simp only [if_true, if_false, Bool.false_eq_true]
  refine goesI_exit (dt_idle _ _) rfl ?_
  refine goesI_rest (f := 25) (fn := Try.f25) (c := T16) hE fineT hvw hn Try.func25 fineT16 rfl hoc res16 (fun τ => ?_) (fun r v' w' hR hr' hn' => ?_) (R := fun r w' => r = .bool true ∧ w'.heap = v.heap ∧ w'.os = v.os ∧ w'.output = v.output)
  · show Code.wp Try.prog (seq2 (seq2 (Try.f25.body.getD .skip))) _ _ _
    unfold Try.f25 seq2
    simp only [Option.getD_some]
    go_wp2_with fail
    go_ret
    exact ⟨_, rfl, rfl, rfl, rfl, rfl⟩
  · obtain ⟨rfl, h1, h2, h3⟩ := hR
    exact hk v' w' hr' hn' h1 h2 h3
/-- What it holds there. -/
def uVal (cb tb : Nat) (n : Int) (j : Nat) (u : Nat → Value) : Nat → Value
  | 7 => Pt cb 0
  | 8 => Pt tb 0
  | 9 => I n
  | 10 => I n
  | 11 => .bool true
  | 12 => Pt tb 0
  | 13 => Pt cb 0
  | 14 => Pt cb 0
  | 15 => Pt cb 0
  | 16 => I j
  | k => u k

set_option maxHeartbeats 1000000 in
set_option maxRecDepth 100000 in
/-- The number still stands there: it awaits a change. -/
theorem until_same {z : Nat → Option Nat} {Ch : Nat → Prop} {Stop : Goroutine → World → Prop} {h : Nat} {cont : Addr → Value} {S : TS} {K : List (Nat × Int)} {v w : World} {i j cb : Nat} {t : Thr} (n x : Int) (u : Nat → Value) (cs : List Frame) (Hm : Goroutine → Prop)
    (hH : ∀ g, WakeBack (h == 0) i t.tb j (fun r => G (uWoke cb t.tb n j (uVal cb t.tb n j u) r) cs) g → Hm g)
    (hvw : Rel z v w) (hn : NoRow Ch v) (hm : Mem z S K v) (hs : S.stk = false) (ht : S.thr[i]? = some t) (hK : K[j]? = some (cb, x)) (hz : z t.tb = some 2) (hcont : cont ⟨t.tb, 2, none⟩ = .chan (some t.gc))
    (hstop : ∀ g w', GiveT z cont h S.bk t.gc Hm (Then z Ch S K v (waiting S i t 2 6 j) K) g w' → Stop g w') :
    GoesI Try.prog (h == 0) (DT (ScZ z) Ch) Stop (G (uSeen cb t.tb n u (I n)) cs) w := by
  have e0 : w.cell? ⟨cb, 0, none⟩ = some (I j) := by rw [hvw.cell?]; exact (hm.cells hK).1
  have HM : Hid (Mem z S K v) := ⟨hm⟩
  clear hm
  unfold uSeen ops161 L16 T16 Try.f25 seq2 seq1 blockC loopC opsOf
  simp only [Option.getD_some]
  walk_nrm
  (refine goesI_oper rfl rfl (by decide) (fun d K hK => ?_)
   go_simp
   refine hK _ _ ⟨dt_reads (fun e he => ?_), GoesI.at ?_ d⟩
   · have hm := mem_listed he
     simp [go_sem, *] at hm
   clear hK K)
  (refine goesI_oper rfl rfl (by decide) (fun d K hK => ?_)
   go_simp
   refine hK _ _ ⟨dt_reads (fun e he => ?_), GoesI.at ?_ d⟩
   · have hm := mem_listed he
     simp [go_sem, *] at hm
   clear hK K)
  refine goesI_regionEnd (dt_idle _ _) ?_
  refine goesI_cond (dt_idle _ _) (t := true) (by simp [Act.eval]) ?_
  simp only [if_true, if_false, Bool.false_eq_true]
  refine goesI_skip (dt_idle _ _) ?_
  refine goesI_block (dt_idle _ _) ?_
  refine goesI_seq (dt_idle _ _) ?_
  refine goesI_region (dt_idle _ _) ?_
  simp only [List.size_toArray, List.length_cons, List.length_nil, Nat.reduceAdd, Nat.zero_add, List.range, List.range.loop]
  iterate 5
    (refine goesI_oper rfl rfl (by decide) (fun d K hK => ?_)
     go_simp
     refine hK _ _ ⟨dt_reads (fun e he => ?_), GoesI.at ?_ d⟩
     · have hm := mem_listed he
       simp [go_sem, *] at hm
       try exact ⟨_, _, hm⟩
     clear hK K)
  refine goesI_into (f := 60) (fn := Try.f60) (args := #[Pt t.tb 0, I j]) (dt_idle _ _) rfl rfl (by decide) rfl (by simp [Act.eval]) Try.func60 (by decide) rfl ?_
  exact await_goes j _ Hm rfl (fun g hg => hH g hg) hvw hn HM.out hs ht hz hcont hstop _ rfl

set_option maxHeartbeats 1000000 in
set_option maxRecDepth 100000 in
/-- The number still stands there, and the world is stuck. -/
theorem until_stuck {z : Nat → Option Nat} {Ch : Nat → Prop} {Stop : Goroutine → World → Prop} {main : Bool} {S : TS} {K : List (Nat × Int)} {v w : World} {i j cb : Nat} {t : Thr} (n x : Int) (u : Nat → Value) (cs : List Frame)
    (hvw : Rel z v w) (hn : NoRow Ch v) (hm : Mem z S K v) (hs : S.stk = true) (ht : S.thr[i]? = some t) (hK : K[j]? = some (cb, x))
    (hk : ∀ v' w', Rel z v' w' → NoRow Ch v' → Evo z S K v S K v' → GoesI Try.prog main (DT (ScZ z) Ch) Stop (G (uWoke cb t.tb n j (uVal cb t.tb n j u) (.bool false)) cs) w') :
    GoesI Try.prog main (DT (ScZ z) Ch) Stop (G (uSeen cb t.tb n u (I n)) cs) w := by
  have e0 : w.cell? ⟨cb, 0, none⟩ = some (I j) := by rw [hvw.cell?]; exact (hm.cells hK).1
  have HM : Hid (Mem z S K v) := ⟨hm⟩
  clear hm
  unfold uSeen ops161 L16 T16 Try.f25 seq2 seq1 blockC loopC opsOf
  simp only [Option.getD_some]
  walk_nrm
  (refine goesI_oper rfl rfl (by decide) (fun d K hK => ?_)
   go_simp
   refine hK _ _ ⟨dt_reads (fun e he => ?_), GoesI.at ?_ d⟩
   · have hm := mem_listed he
     simp [go_sem, *] at hm
   clear hK K)
  (refine goesI_oper rfl rfl (by decide) (fun d K hK => ?_)
   go_simp
   refine hK _ _ ⟨dt_reads (fun e he => ?_), GoesI.at ?_ d⟩
   · have hm := mem_listed he
     simp [go_sem, *] at hm
   clear hK K)
  refine goesI_regionEnd (dt_idle _ _) ?_
  refine goesI_cond (dt_idle _ _) (t := true) (by simp [Act.eval]) ?_
  simp only [if_true, if_false, Bool.false_eq_true]
  refine goesI_skip (dt_idle _ _) ?_
  refine goesI_block (dt_idle _ _) ?_
  refine goesI_seq (dt_idle _ _) ?_
  refine goesI_region (dt_idle _ _) ?_
  simp only [List.size_toArray, List.length_cons, List.length_nil, Nat.reduceAdd, Nat.zero_add, List.range, List.range.loop]
  iterate 5
    (refine goesI_oper rfl rfl (by decide) (fun d K hK => ?_)
     go_simp
     refine hK _ _ ⟨dt_reads (fun e he => ?_), GoesI.at ?_ d⟩
     · have hm := mem_listed he
       simp [go_sem, *] at hm
       try exact ⟨_, _, hm⟩
     clear hK K)
  refine goesI_into (f := 60) (fn := Try.f60) (args := #[Pt t.tb 0, I j]) (dt_idle _ _) rfl rfl (by decide) rfl (by simp [Act.eval]) Try.func60 (by decide) rfl ?_
  exact await_no j _ rfl hvw hn HM.out hs ht (fun v' w' h1 h2 h3 => hk v' w' h1 h2 h3) _ rfl

set_option maxHeartbeats 1000000 in
set_option maxRecDepth 100000 in
/-- Woken, it looks again. -/
theorem until_again {z : Nat → Option Nat} {Ch : Nat → Prop} {Stop : Goroutine → World → Prop} {main : Bool} {w : World} {cb tb : Nat} (n cid : Int) (u : Nat → Value) (cs : List Frame)
    (hk : ∀ u, GoesI Try.prog main (DT (ScZ z) Ch) Stop (G (uFr cb tb n u) cs) w) :
    GoesI Try.prog main (DT (ScZ z) Ch) Stop (G (uWoke cb tb n cid u (.bool true)) cs) w := by
  unfold uFr L16 T16 Try.f25 seq2 seq1 blockC loopC at hk
  simp only [Option.getD_some] at hk
  unfold uWoke ops162 L16 T16 Try.f25 seq2 seq1 blockC loopC opsOf
  simp only [Option.getD_some]
  walk_nrm
  (refine goesI_oper rfl rfl (by decide) (fun d K hK => ?_)
   go_simp
   refine hK _ _ ⟨dt_reads (fun e he => ?_), GoesI.at ?_ d⟩
   · have hm := mem_listed he
     simp [go_sem, *] at hm
   clear hK K)
  refine goesI_regionEnd (dt_idle _ _) ?_
  refine goesI_cond (dt_idle _ _) (t := false) rfl ?_
  simp only [if_true, if_false, Bool.false_eq_true]
  refine goesI_skip (dt_idle _ _) ?_
  refine goesI_inBlock (dt_idle _ _) ?_
  refine goesI_inLoop (dt_idle _ _) ?_
  exact hk (fun m => match m with | 17 => .bool true | 18 => .bool false | m => u m)

noncomputable def no16 : Code := condA (seq2 (blockC (seq2 L16)))
theorem fineNo16 : fineCode Try.prog true LT no16 := fineCode_ask callT extT (by kernel_rfl)
set_option maxHeartbeats 1000000 in
set_option maxRecDepth 100000 in
/-- Stuck, it answers false. -/
theorem until_no {z : Nat → Option Nat} {Ch : Nat → Prop} {Stop : Goroutine → World → Prop} {main : Bool} {v w : World} {cb tb : Nat} (n cid : Int) (u : Nat → Value) (cs : List Frame) {bc : Frame} {ac : Act} {ops : Array Oper} {q : Nat} {rest : List Nat} {oc : Oper} {k : List Item} (hoc : ops[q]? = some oc)
    (hvw : Rel z v w) (hn : NoRow Ch v)
    (hk : ∀ v' w', Rel z v' w' → NoRow Ch v' → v'.heap = v.heap → v'.os = v.os → v'.output = v.output → GoesI Try.prog main (DT (ScZ z) Ch) Stop (G (bc.at (ac.put oc.dst (.bool false)) (.inRegion ops rest :: k)) cs) w') :
    GoesI Try.prog main (DT (ScZ z) Ch) Stop (G (uWoke cb tb n cid u (.bool false)) (bc.at ac (.inRegion ops (q :: rest) :: k) :: cs)) w := by
  unfold uWoke ops162 L16 T16 Try.f25 seq2 seq1 blockC loopC opsOf
  simp only [Option.getD_some]
  walk_nrm
  (refine goesI_oper rfl rfl (by decide) (fun d K hK => ?_)
   go_simp
   refine hK _ _ ⟨dt_reads (fun e he => ?_), GoesI.at ?_ d⟩
   · have hm := mem_listed he
     simp [go_sem, *] at hm
   clear hK K)
  refine goesI_regionEnd (dt_idle _ _) ?_
  refine goesI_cond (dt_idle _ _) (t := true) rfl ?_
  simp only [if_true, if_false, Bool.false_eq_true]
  refine goesI_outZ (c := no16) (f := 25) (fn := Try.f25) (L := LT) hE fineT hvw hn Try.func25 fineNo16 rfl hoc (R := fun r w' => r = .bool false ∧ w'.heap = v.heap ∧ w'.os = v.os ∧ w'.output = v.output) (fun τ => ?_) (fun r v' w' hR hr' hn' => ?_)
  · show Code.wp Try.prog (condA (seq2 (blockC (seq2 (loopC (blockC (seq1 (seq2 (Try.f25.body.getD .skip))))))))) _ _ _
    unfold Try.f25 condA seq2 seq1 blockC loopC
    simp only [Option.getD_some]
    go_wp2_with fail
    exact ⟨_, results_tmp rfl _ _ _, rfl, rfl, rfl, rfl⟩
  · obtain ⟨rfl, h1, h2, h3⟩ := hR
    exact hk v' w' hr' hn' h1 h2 h3
end Go.Proofs.Ytehingmdmijedaa

/- latch's Wait (43), in company, in pieces: it looks at the cell; it has seen what stands there; it awaits; it was woken, or is stuck. -/
set_option linter.unusedSimpArgs false
set_option linter.unusedVariables false
namespace Go.Proofs.Ytehingmdmijedaa.Gen
open Go Go.Lift Go.Conc Go.RowKit

/-- What is plain: package turn's and cell's, and Id. -/
def plainG : List FuncId := [51, 54, 56, 57, 58, 59, 80, 95, 103, 27]
def LG (f : FuncId) : Prop := f ∈ plainG
theorem callG : ∀ f ∈ plainG, Callable Try.prog LG f := by
  intro f hf
  have hf' := hf
  simp only [plainG, List.mem_cons, List.not_mem_nil, or_false] at hf
  rcases hf with rfl | rfl | rfl | rfl | rfl | rfl | rfl | rfl | rfl | rfl
  · exact ⟨hf', Try.f51, Try.func51, by kernel_rfl, by kernel_rfl⟩
  · exact ⟨hf', Try.f54, Try.func54, by kernel_rfl, by kernel_rfl⟩
  · exact ⟨hf', Try.f56, Try.func56, by kernel_rfl, by kernel_rfl⟩
  · exact ⟨hf', Try.f57, Try.func57, by kernel_rfl, by kernel_rfl⟩
  · exact ⟨hf', Try.f58, Try.func58, by kernel_rfl, by kernel_rfl⟩
  · exact ⟨hf', Try.f59, Try.func59, by kernel_rfl, by kernel_rfl⟩
  · exact ⟨hf', Try.f80, Try.func80, by kernel_rfl, by kernel_rfl⟩
  · exact ⟨hf', Try.f95, Try.func95, by kernel_rfl, by kernel_rfl⟩
  · exact ⟨hf', Try.f103, Try.func103, by kernel_rfl, by kernel_rfl⟩
  · exact ⟨hf', Try.f27, Try.func27, by kernel_rfl, by kernel_rfl⟩
theorem fineG : ∀ f, LG f → fineFn Try.prog true LG f := by
  intro f hf
  simp only [LG, plainG, List.mem_cons, List.not_mem_nil, or_false] at hf
  rcases hf with rfl | rfl | rfl | rfl | rfl | rfl | rfl | rfl | rfl | rfl
  · exact fineFn_ask callG extT Try.func51 (c := Try.f51.body.getD .skip) (by rfl) (by kernel_rfl)
  · exact fineFn_ask callG extT Try.func54 (c := Try.f54.body.getD .skip) (by rfl) (by kernel_rfl)
  · exact fineFn_ask callG extT Try.func56 (c := Try.f56.body.getD .skip) (by rfl) (by kernel_rfl)
  · exact fineFn_ask callG extT Try.func57 (c := Try.f57.body.getD .skip) (by rfl) (by kernel_rfl)
  · exact fineFn_ask callG extT Try.func58 (c := Try.f58.body.getD .skip) (by rfl) (by kernel_rfl)
  · exact fineFn_ask callG extT Try.func59 (c := Try.f59.body.getD .skip) (by rfl) (by kernel_rfl)
  · exact fineFn_ask callG extT Try.func80 (c := Try.f80.body.getD .skip) (by rfl) (by kernel_rfl)
  · exact fineFn_ask callG extT Try.func95 (c := Try.f95.body.getD .skip) (by rfl) (by kernel_rfl)
  · exact fineFn_ask callG extT Try.func103 (c := Try.f103.body.getD .skip) (by rfl) (by kernel_rfl)
  · exact fineFn_ask callG extT Try.func27 (c := Try.f27.body.getD .skip) (by rfl) (by kernel_rfl)

noncomputable def L43 : Code := loopC (blockC (seq1 (seq2 (Try.f43.body.getD .skip))))
noncomputable def T43 : Code := seq2 (seq2 (Try.f43.body.getD .skip))
noncomputable def ops431 : Array Oper := opsOf (seq1 (seq1 L43))
noncomputable def ops432 : Array Oper := opsOf (seq1 (blockC (seq2 L43)))
theorem fineT43 : fineCode Try.prog true LT T43 := fineCode_ask callT extT (by kernel_rfl)

/-- The frame where it looks. -/
noncomputable def wFr (lb tb : Nat) (u : Nat → Value) : Frame :=
  (base 43).at ⟨#[Pt lb 0, Pt tb 0, undef, undef, .bool false, u 5, u 6, u 7, u 8, u 9, u 10, u 11, u 12, u 13, u 14, u 15, u 16, u 17, u 18, u 19], []⟩ [.code L43, .inLoop L43, .inBlock 0, .code T43]
/-- The frame where it has seen what stands there. -/
noncomputable def wSeen (lb cb tb : Nat) (u : Nat → Value) (r : Value) : Frame :=
  (base 43).at ((⟨#[Pt lb 0, Pt tb 0, undef, undef, .bool false, Pt lb 0, Pt lb 0, Pt lb 0, Pt cb 0, Pt tb 0, u 10, u 11, u 12, u 13, u 14, u 15, u 16, u 17, u 18, u 19], []⟩ : Act).put (some 10) r) [.inRegion ops431 [6], .code (seq2 (seq1 L43)), .code (seq2 L43), .inLoop L43, .inBlock 0, .code T43]
/-- The frame where it was woken, or is stuck. -/
noncomputable def wWoke (lb tb : Nat) (u : Nat → Value) (r : Value) : Frame :=
  (base 43).at ((⟨#[Pt lb 0, Pt tb 0, undef, undef, .bool false, u 5, u 6, u 7, u 8, u 9, u 10, u 11, u 12, u 13, u 14, u 15, u 16, u 17, u 18, u 19], []⟩ : Act).put (some 18) r) [.inRegion ops432 [7], .code (seq2 (blockC (seq2 L43))), .inBlock 1, .inLoop L43, .inBlock 0, .code T43]

set_option maxHeartbeats 1000000 in
set_option maxRecDepth 100000 in
theorem wait_loop {z : Nat → Option Nat} {Ch : Nat → Prop} {Stop : Goroutine → World → Prop} {h : Nat} {cont : Addr → Value} {S : TS} {K : List (Nat × Int)} {v w : World} {i j cb lb : Nat} {t : Thr} (x : Int) (u : Nat → Value) (cs : List Frame) (Hm : Goroutine → Prop)
    (hH : ∀ g, OpBack (h == 0) i j cb t.tb 1 effLoad (fun r => G (wSeen lb cb t.tb u r) cs) g → Hm g) (hlb : v.cell? ⟨lb, 0, none⟩ = some (Pt cb 0))
    (hvw : Rel z v w) (hn : NoRow Ch v) (hm : Mem z S K v) (ht : S.thr[i]? = some t) (hK : K[j]? = some (cb, x)) (hz : z t.tb = some 2) (hcont : cont ⟨t.tb, 2, none⟩ = .chan (some t.gc))
    (hstop : ∀ g w', GiveT z cont h S.bk t.gc Hm (Then z Ch S K v (waiting S i t 1 1 j) K) g w' → Stop g w') :
    GoesI Try.prog (h == 0) (DT (ScZ z) Ch) Stop (G (wFr lb t.tb u) cs) w := by
  have e0 : w.cell? ⟨lb, 0, none⟩ = some (Pt cb 0) := by rw [hvw.cell?]; exact hlb
  have HM : Hid (Mem z S K v) := ⟨hm⟩
  clear hm
  unfold wFr L43 T43 Try.f43 seq2 seq1 blockC loopC
  simp only [Option.getD_some]
  refine goesI_seq (dt_idle _ _) ?_
  refine goesI_seq (dt_idle _ _) ?_
  refine goesI_region (dt_idle _ _) ?_
  simp only [List.size_toArray, List.length_cons, List.length_nil, Nat.reduceAdd, Nat.zero_add, List.range, List.range.loop]
  iterate 5
    (refine goesI_oper rfl rfl (by decide) (fun d K hK => ?_)
     go_simp
     refine hK _ _ ⟨dt_reads (fun e he => ?_), GoesI.at ?_ d⟩
     · have hm := mem_listed he
       simp [go_sem, *] at hm
       try exact ⟨_, _, hm⟩
     clear hK K)
  refine goesI_into (f := 26) (fn := Try.f26) (args := #[Pt cb 0, Pt t.tb 0]) (dt_idle _ _) rfl rfl (by decide) rfl (by simp [Act.eval]) Try.func26 (by decide) rfl ?_
  exact load_goes x _ Hm rfl (fun g hg => hH g hg) hvw hn HM.out ht hK hz hcont hstop _ rfl

/-- It has been entered. -/
theorem wait_in {z : Nat → Option Nat} {Ch : Nat → Prop} {Stop : Goroutine → World → Prop} {main : Bool} {w : World} {lb tb : Nat} (cs : List Frame)
    (hk : ∀ u, GoesI Try.prog main (DT (ScZ z) Ch) Stop (G (wFr lb tb u) cs) w) (code : Code) (hc : Try.f43.body = some code) :
    GoesI Try.prog main (DT (ScZ z) Ch) Stop (G ((base 43).at { tmps := #[Pt lb 0, Pt tb 0] ++ Array.replicate 18 undef, defers := [] } [.code code]) cs) w := by
  obtain rfl := Option.some.inj hc
  clear hc
  simp only [Array.replicate_succ, Array.replicate_zero, List.push_toArray, List.append_toArray, List.nil_append, List.cons_append]
  refine goesI_seq (dt_idle _ _) ?_
  refine goesI_region (dt_idle _ _) ?_
  simp only [List.size_toArray, List.length_cons, List.length_nil, Nat.reduceAdd, Nat.zero_add, List.range, List.range.loop]
  (refine goesI_oper rfl rfl (by decide) (fun d K hK => ?_)
   go_simp
   refine hK _ _ ⟨dt_reads (fun e he => ?_), GoesI.at ?_ d⟩
   · have hm := mem_listed he
     simp [go_sem, *] at hm
   clear hK K)
  refine goesI_regionEnd (dt_idle _ _) ?_
  refine goesI_seq (dt_idle _ _) ?_
  refine goesI_block (dt_idle _ _) ?_
  refine goesI_loop (dt_idle _ _) ?_
  exact hk (fun _ => undef)
end Go.Proofs.Ytehingmdmijedaa.Gen
