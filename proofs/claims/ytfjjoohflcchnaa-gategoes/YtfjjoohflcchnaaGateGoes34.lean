/- GateGoes: for every schedule and all rows of numbers, the Play of scripts in which each Enter has a Leave of its own behind it, ahead of the next Shut, leaves nobody stuck and nobody in; no conditions. Part 34 of 37. (Joined, by program, of: GFree, GFto, GatF.) -/
import Derived.Test.YtfjjoohflcchnaaGateGoes08
import Derived.Test.YtfjjoohflcchnaaGateGoes22
import Derived.Test.YtfjjoohflcchnaaGateGoes26
import Derived.Test.YtfjjoohflcchnaaGateGoes27
set_option linter.unusedSimpArgs false
set_option linter.unusedVariables false
namespace Go.Proofs.Ytfjjoohflcchnaa.Gen
open Go Go.Lift Go.Conc Go.RowKit


/-- A free thread, and a cell of no world. -/
structure Fm (tb cb : Nat) (x : Int) (v : World) : Prop where
  thr : v.heap[tb]? = some (.cells #[.pointer none, I 0, .chan none, I 0, I 0, I 0, I 0] 97 (0, 0))
  cel : v.heap[cb]? = some (.cells #[I 0, I x] 94 (0, 0))
structure Fto (tb cb : Nat) (x : Int) (v v' : World) : Prop where
  fm : Fm tb cb x v'
  old : ∀ b, b ≠ cb → v'.heap[b]? = v.heap[b]?
  size : v'.heap.size = v.heap.size
  os : v'.os = v.os
  out : v'.output = v.output
section
variable {tb cb : Nat} {x y : Int} {v v' v'' : World}
theorem Fm.cells (h : Fm tb cb x v) : v.cell? ⟨tb, 0, none⟩ = some (.pointer none) ∧ v.cell? ⟨cb, 0, none⟩ = some (I 0) ∧ v.cell? ⟨cb, 1, none⟩ = some (I x) ∧ v.frozen? ⟨cb, 1, none⟩ = false := by
  refine ⟨?_, ?_, ?_, ?_⟩
  · unfold World.cell?; rw [show v.heap[tb]? = _ from h.thr]; rfl
  · unfold World.cell?; rw [show v.heap[cb]? = _ from h.cel]; rfl
  · unfold World.cell?; rw [show v.heap[cb]? = _ from h.cel]; rfl
  · unfold World.frozen?; rw [show v.heap[cb]? = _ from h.cel]; rfl
theorem Fm.ne (h : Fm tb cb x v) : tb ≠ cb := fun e => by
  have h1 := h.thr
  rw [e, h.cel] at h1
  simp at h1
theorem Fto.refl (h : Fm tb cb x v) : Fto tb cb x v v := ⟨h, fun _ _ => rfl, rfl, rfl, rfl⟩
theorem Fto.same (h : Fto tb cb x v v') (e1 : v''.heap = v'.heap) (e2 : v''.os = v'.os) (e3 : v''.output = v'.output) : Fto tb cb x v v'' :=
  ⟨⟨by rw [e1]; exact h.fm.thr, by rw [e1]; exact h.fm.cel⟩, fun b hb => by rw [e1]; exact h.old b hb, by rw [e1]; exact h.size, e2.trans h.os, e3.trans h.out⟩
theorem Fto.set (h : Fm tb cb x v) (y : Int) : Fto tb cb y v (v.setCell ⟨cb, 1, none⟩ (I y)) :=
  ⟨⟨by rw [Below.heap_setCell _ _ _ _ h.ne]; exact h.thr, heap_setCell_same h.cel _⟩, fun b hb => Below.heap_setCell _ _ _ _ hb, by simp [World.setCell], rfl, rfl⟩
theorem Fto.base (h : Fto tb cb x v v') (e1 : v.heap = v''.heap) (e2 : v.os = v''.os) (e3 : v.output = v''.output) : Fto tb cb x v'' v' :=
  ⟨h.fm, fun b hb => by rw [← e1]; exact h.old b hb, by rw [← e1]; exact h.size, h.os.trans e2, h.out.trans e3⟩
theorem Fm.same (h : Fm tb cb x v) (e : v'.heap = v.heap) : Fm tb cb x v' := ⟨by rw [e]; exact h.thr, by rw [e]; exact h.cel⟩

theorem body27f (tb : Nat) (b a : Int) (v : World) (h : v.cell? ⟨tb, 0, none⟩ = some (.pointer none)) : Body Try.f61 #[Pt tb 0, I b, I a] v (fun r v' => r = .tuple #[] ∧ v' = v) := by
  intro code hb
  obtain rfl := Option.some.inj hb
  clear hb
  simp only [Try.ntmps61, List.size_toArray, List.length_cons, List.length_nil, Nat.reduceAdd, Nat.reduceSub, Array.replicate_succ, Array.replicate_zero, List.push_toArray, List.append_toArray, List.nil_append, List.cons_append]
  go_wp2_with fail
  exact ⟨rfl, _, results_none rfl _ _ _, _, rfl, rfl, rfl⟩
end

set_option maxHeartbeats 1000000 in
set_option maxRecDepth 100000 in
theorem free26 {Ch : Nat → Prop} {Stop : Goroutine → World → Prop} {main : Bool} {v w : World} (tb : Nat) (c o : Int) (ht : v.cell? ⟨tb, 0, none⟩ = some (.pointer none)) (cs : List Frame) {bc : Frame} {ac : Act} {ops : Array Oper} {q : Nat} {rest : List Nat} {oc : Oper} {k : List Item} (hoc : ops[q]? = some oc) (hvw : Rel zn v w) (hn : NoRow Ch v)
    (hk : ∀ w', Rel zn v w' → GoesI Try.prog main (DT (ScZ zn) Ch) Stop (G (bc.at (ac.put oc.dst (.tuple #[])) (.inRegion ops rest :: k)) cs) w') (code : Code) (hc : Try.f60.body = some code) :
    GoesI Try.prog main (DT (ScZ zn) Ch) Stop (G ((base 60).at { tmps := #[Pt tb 0, I c, I o] ++ Array.replicate 12 undef, defers := [] } [.code code]) (bc.at ac (.inRegion ops (q :: rest) :: k) :: cs)) w := by
  obtain rfl := Option.some.inj hc
  clear hc
  have e0 : w.cell? ⟨tb, 0, none⟩ = some (.pointer none) := by rw [hvw.cell?]; exact ht
  simp only [Array.replicate_succ, Array.replicate_zero, List.push_toArray, List.append_toArray, List.nil_append, List.cons_append]
  refine goesI_seq (dt_idle _ _) ?_
  refine goesI_region (dt_idle _ _) ?_
  simp only [List.size_toArray, List.length_cons, List.length_nil, Nat.reduceAdd, Nat.zero_add, List.range, List.range.loop]
  iterate 4
    (refine goesI_oper rfl rfl (by decide) (fun d K hK => ?_)
     go_simp
     refine hK _ _ ⟨dt_reads (fun e he => ?_), GoesI.at ?_ d⟩
     · have hm := mem_listed he
       simp [go_sem, *] at hm
       try exact ⟨_, _, hm⟩
     clear hK K)
  refine goesI_opZ (L := LT) rfl rfl (by decide) (fineOp_ask callT extT (by kernel_rfl)) hvw hn (v' := v) (x := .bool false) (by go_simp) rfl (fun w2 hr2 hn2 => ?_)
  refine goesI_regionEnd (dt_idle _ _) ?_
  refine goesI_cond (dt_idle _ _) (t := false) rfl ?_
  refine goesI_skip (dt_idle _ _) ?_
  refine goesI_end (dt_idle _ _) ?_
  exact goesI_leave (b := base 60) (fn := Try.f60) rfl rfl Try.func60 (res26 _) (ev26 _) hoc (dt_idle _ _) (hk w2 hr2)
set_option maxHeartbeats 1000000 in
set_option maxRecDepth 100000 in
theorem tailF17 {v : World} {tb cb : Nat} {x : Int} (hm : Fm tb cb x v) (a6 a7 a8 a9 a10 a11 : Value) :
    rest17.wp Try.prog (bodyPost Try.prog Try.f28 (fun e w' => ∃ r, e = .returned r ∧ (r = (effLoad x).2.2 ∧ Fto tb cb (effLoad x).2.1 v w')))
      { tmps := #[Pt cb 0, Pt tb 0, undef, undef, I 0, undef, a6, a7, a8, a9, a10, a11, undef, undef, undef, undef, undef, undef, undef, undef, undef], defers := [] } v := by
  obtain ⟨c0, _, c1, f1⟩ := hm.cells
  have HM : Hid (Fm tb cb x v) := ⟨hm⟩
  have HT : Hid (v.cell? ⟨tb, 0, none⟩ = some (.pointer none)) := ⟨by exact c0⟩
  clear hm
  show Code.wp Try.prog (seq2 (seq2 (Try.f28.body.getD .skip))) _ _ _
  unfold Try.f28 seq2
  simp only [Option.getD_some]
  go_wp2_with (first
    | (go_at_call 63; refine ((body29 cb x _ c1).calls Try.func63 rfl).mono ?_; rintro e w1 ⟨_, rfl, rfl, rfl⟩)
    | (go_at_call 61; refine ((body27f tb x x _ HT.out).calls Try.func61 rfl).mono ?_; rintro e w2 ⟨_, rfl, rfl, rfl⟩))
  go_ret
  exact ⟨_, rfl, rfl, Fto.refl HM.out⟩

set_option maxHeartbeats 1000000 in
set_option maxRecDepth 100000 in
theorem free17 {Ch : Nat → Prop} {Stop : Goroutine → World → Prop} {main : Bool} {v w : World} {tb cb : Nat} (x : Int) (cs : List Frame) {bc : Frame} {ac : Act} {ops : Array Oper} {q : Nat} {rest : List Nat} {oc : Oper} {k : List Item} (hoc : ops[q]? = some oc)
    (hvw : Rel zn v w) (hn : NoRow Ch v) (hm : Fm tb cb x v)
    (hk : ∀ v' w', Rel zn v' w' → NoRow Ch v' → Fto tb cb (effLoad x).2.1 v v' → GoesI Try.prog main (DT (ScZ zn) Ch) Stop (G (bc.at (ac.put oc.dst (effLoad x).2.2) (.inRegion ops rest :: k)) cs) w') (code : Code) (hc : Try.f28.body = some code) :
    GoesI Try.prog main (DT (ScZ zn) Ch) Stop (G ((base 28).at { tmps := #[Pt cb 0, Pt tb 0] ++ Array.replicate 19 undef, defers := [] } [.code code]) (bc.at ac (.inRegion ops (q :: rest) :: k) :: cs)) w := by
  obtain rfl := Option.some.inj hc
  clear hc
  have e0 : w.cell? ⟨cb, 0, none⟩ = some (I 0) := by rw [hvw.cell?]; exact hm.cells.2.1
  simp only [Array.replicate_succ, Array.replicate_zero, List.push_toArray, List.append_toArray, List.nil_append, List.cons_append]
  have HM : Hid (Fm tb cb x v) := ⟨hm⟩
  clear hm
  refine goesI_seq (dt_idle _ _) ?_
  refine goesI_region (dt_idle _ _) ?_
  simp only [List.size_toArray, List.length_cons, List.length_nil, Nat.reduceAdd, Nat.zero_add, List.range, List.range.loop]
  (refine goesI_oper rfl rfl (by decide) (fun d K hK => ?_)
   go_simp
   refine hK _ _ ⟨dt_reads (fun e he => ?_), GoesI.at ?_ d⟩
   · have hm := mem_listed he
     simp [go_sem, *] at hm
   clear hK K)
  refine goesI_regionEnd (dt_idle _ _) ?_
  refine goesI_seq (dt_idle _ _) ?_
  refine goesI_region (dt_idle _ _) ?_
  simp only [List.size_toArray, List.length_cons, List.length_nil, Nat.reduceAdd, Nat.zero_add, List.range, List.range.loop]
  iterate 5
    (refine goesI_oper rfl rfl (by decide) (fun d K hK => ?_)
     go_simp
     refine hK _ _ ⟨dt_reads (fun e he => ?_), GoesI.at ?_ d⟩
     · have hm := mem_listed he
       simp [go_sem, *] at hm
       try exact ⟨_, _, hm⟩
     clear hK K)
  refine goesI_into (f := 60) (fn := Try.f60) (args := #[Pt tb 0, I 0, I 1]) (dt_idle _ _) rfl rfl (by decide) rfl (by simp [Act.eval]) Try.func60 (by decide) rfl ?_
  refine free26 tb 0 1 HM.out.cells.1 _ rfl hvw hn (fun w1 hr1 => ?_) _ rfl
  clear e0 hvw
  refine goesI_regionEnd (dt_idle _ _) ?_
  refine goesI_rest (f := 28) (fn := Try.f28) (c := rest17) hE fineT hr1 hn Try.func28 fine17 rfl hoc res17 (fun τ => ?_) (fun r v' w' hR hr' hn' => ?_) (R := fun r w' => r = (effLoad x).2.2 ∧ Fto tb cb (effLoad x).2.1 v w')
  · exact wp_mono (tailF17 (HM.out.same (v' := onTape v τ 0) rfl) _ _ _ _ _ _) (bp_mono fun r u hq => ⟨hq.1, hq.2.base rfl rfl rfl⟩)
  · obtain ⟨rfl, he⟩ := hR
    exact hk v' w' hr' hn' he

set_option maxHeartbeats 1000000 in
set_option maxRecDepth 100000 in
theorem tailF14 {v : World} {tb cb : Nat} {x : Int} {a y : Int} (hm : Fm tb cb x v) (a10 a11 a12 a13 a14 a15 : Value) :
    rest14.wp Try.prog (bodyPost Try.prog Try.f25 (fun e w' => ∃ r, e = .returned r ∧ (r = (effCas a y x).2.2 ∧ Fto tb cb (effCas a y x).2.1 v w')))
      { tmps := #[Pt cb 0, Pt tb 0, I a, I y, undef, undef, undef, undef, .bool false, undef, a10, a11, a12, a13, a14, a15, undef, undef, undef, undef, undef, undef, undef, undef, undef, undef, undef, undef, undef, undef, undef, undef, undef, undef], defers := [] } v := by
  obtain ⟨c0, _, c1, f1⟩ := hm.cells
  have HM : Hid (Fm tb cb x v) := ⟨hm⟩
  by_cases hx : x = a
  · subst hx
    have HT : Hid ((v.setCell ⟨cb, 1, none⟩ (I y)).cell? ⟨tb, 0, none⟩ = some (.pointer none)) := ⟨by rw [World.cell?_of_block (Below.heap_setCell _ _ _ _ hm.ne)]; exact c0⟩
    have HQ : Hid (effCas x y x = ((x, y), y, .bool true)) := ⟨by simp [effCas]⟩
    rw [HQ.out]
    clear hm
    show Code.wp Try.prog (seq2 (seq2 (Try.f25.body.getD .skip))) _ _ _
    unfold Try.f25 seq2
    simp only [Option.getD_some]
    go_wp2_with (first
      | (go_at_call 62; refine ((body28 cb x y _ c1 f1).calls Try.func62 rfl).mono ?_; rintro e w1 ⟨_, rfl, rfl, rfl⟩)
      | (go_at_call 61; refine ((body27f tb x y _ HT.out).calls Try.func61 rfl).mono ?_; rintro e w2 ⟨_, rfl, rfl, rfl⟩))
    go_ret
    exact ⟨_, rfl, rfl, Fto.set HM.out _⟩
  have HT : Hid (v.cell? ⟨tb, 0, none⟩ = some (.pointer none)) := ⟨by exact c0⟩
  have HQ : Hid (effCas a y x = ((x, x), x, .bool false)) := ⟨by simp [effCas, hx]⟩
  rw [HQ.out]
  clear hm
  show Code.wp Try.prog (seq2 (seq2 (Try.f25.body.getD .skip))) _ _ _
  unfold Try.f25 seq2
  simp only [Option.getD_some]
  go_wp2_with (first
    | (go_at_call 62; refine ((body28n cb x a y _ c1 f1 hx).calls Try.func62 rfl).mono ?_; rintro e w1 ⟨_, rfl, rfl, rfl⟩)
    | (go_at_call 63; refine ((body29 cb x _ c1).calls Try.func63 rfl).mono ?_; rintro e w1 ⟨_, rfl, rfl, rfl⟩)
    | (go_at_call 61; refine ((body27f tb x x _ HT.out).calls Try.func61 rfl).mono ?_; rintro e w2 ⟨_, rfl, rfl, rfl⟩))
  go_ret
  exact ⟨_, rfl, rfl, Fto.refl HM.out⟩

set_option maxHeartbeats 1000000 in
set_option maxRecDepth 100000 in
theorem free14 {Ch : Nat → Prop} {Stop : Goroutine → World → Prop} {main : Bool} {v w : World} {tb cb : Nat} (a y : Int) (x : Int) (cs : List Frame) {bc : Frame} {ac : Act} {ops : Array Oper} {q : Nat} {rest : List Nat} {oc : Oper} {k : List Item} (hoc : ops[q]? = some oc)
    (hvw : Rel zn v w) (hn : NoRow Ch v) (hm : Fm tb cb x v)
    (hk : ∀ v' w', Rel zn v' w' → NoRow Ch v' → Fto tb cb (effCas a y x).2.1 v v' → GoesI Try.prog main (DT (ScZ zn) Ch) Stop (G (bc.at (ac.put oc.dst (effCas a y x).2.2) (.inRegion ops rest :: k)) cs) w') (code : Code) (hc : Try.f25.body = some code) :
    GoesI Try.prog main (DT (ScZ zn) Ch) Stop (G ((base 25).at { tmps := #[Pt cb 0, Pt tb 0, I a, I y] ++ Array.replicate 30 undef, defers := [] } [.code code]) (bc.at ac (.inRegion ops (q :: rest) :: k) :: cs)) w := by
  obtain rfl := Option.some.inj hc
  clear hc
  have e0 : w.cell? ⟨cb, 0, none⟩ = some (I 0) := by rw [hvw.cell?]; exact hm.cells.2.1
  simp only [Array.replicate_succ, Array.replicate_zero, List.push_toArray, List.append_toArray, List.nil_append, List.cons_append]
  have HM : Hid (Fm tb cb x v) := ⟨hm⟩
  clear hm
  refine goesI_seq (dt_idle _ _) ?_
  refine goesI_region (dt_idle _ _) ?_
  simp only [List.size_toArray, List.length_cons, List.length_nil, Nat.reduceAdd, Nat.zero_add, List.range, List.range.loop]
  (refine goesI_oper rfl rfl (by decide) (fun d K hK => ?_)
   go_simp
   refine hK _ _ ⟨dt_reads (fun e he => ?_), GoesI.at ?_ d⟩
   · have hm := mem_listed he
     simp [go_sem, *] at hm
   clear hK K)
  refine goesI_regionEnd (dt_idle _ _) ?_
  refine goesI_seq (dt_idle _ _) ?_
  refine goesI_region (dt_idle _ _) ?_
  simp only [List.size_toArray, List.length_cons, List.length_nil, Nat.reduceAdd, Nat.zero_add, List.range, List.range.loop]
  iterate 5
    (refine goesI_oper rfl rfl (by decide) (fun d K hK => ?_)
     go_simp
     refine hK _ _ ⟨dt_reads (fun e he => ?_), GoesI.at ?_ d⟩
     · have hm := mem_listed he
       simp [go_sem, *] at hm
       try exact ⟨_, _, hm⟩
     clear hK K)
  refine goesI_into (f := 60) (fn := Try.f60) (args := #[Pt tb 0, I 0, I 4]) (dt_idle _ _) rfl rfl (by decide) rfl (by simp [Act.eval]) Try.func60 (by decide) rfl ?_
  refine free26 tb 0 4 HM.out.cells.1 _ rfl hvw hn (fun w1 hr1 => ?_) _ rfl
  clear e0 hvw
  refine goesI_regionEnd (dt_idle _ _) ?_
  refine goesI_rest (f := 25) (fn := Try.f25) (c := rest14) hE fineT hr1 hn Try.func25 fine14 rfl hoc res14 (fun τ => ?_) (fun r v' w' hR hr' hn' => ?_) (R := fun r w' => r = (effCas a y x).2.2 ∧ Fto tb cb (effCas a y x).2.1 v w')
  · exact wp_mono (tailF14 (HM.out.same (v' := onTape v τ 0) rfl) _ _ _ _ _ _) (bp_mono fun r u hq => ⟨hq.1, hq.2.base rfl rfl rfl⟩)
  · obtain ⟨rfl, he⟩ := hR
    exact hk v' w' hr' hn' he


theorem body24n (v : World) : Body Try.f58 #[.pointer none] v (fun r v' => r = I 0 ∧ v' = v) := by
  intro code hb
  obtain rfl := Option.some.inj hb
  clear hb
  simp only [Try.ntmps58, List.size_toArray, List.length_cons, List.length_nil, Nat.reduceAdd, Nat.reduceSub, Array.replicate_succ, Array.replicate_zero, List.push_toArray, List.append_toArray, List.nil_append, List.cons_append]
  go_wp2_with fail
  go_ret
  exact ⟨_, rfl, rfl, rfl⟩
set_option maxHeartbeats 2000000 in
set_option maxRecDepth 100000 in
theorem body10n (v : World) (x : Int) : Body Try.f21 #[.pointer none, I x] v (fun r v' => r = Pt v.heap.size 0 ∧ v'.heap = v.heap.push (.cells #[I 0, I x] 94) ∧ v'.os = v.os ∧ v'.output = v.output) := by
  intro code hb
  obtain rfl := Option.some.inj hb
  clear hb
  simp only [Try.ntmps21, List.size_toArray, List.length_cons, List.length_nil, Nat.reduceAdd, Nat.reduceSub, Array.replicate_succ, Array.replicate_zero, List.push_toArray, List.append_toArray, List.nil_append, List.cons_append]
  go_wp2_with (first
    | (go_at_call 58; refine ((body24n v).calls Try.func58 rfl).mono ?_; rintro e w1 ⟨r1, rfl, rfl, rfl⟩)
    | (go_at_call 59
       have hb : (w1.alloc (.cells #[I 0, I 0] 94)).heap[w1.heap.size]? = some (.cells #[I 0, I 0] 94) := Array.getElem?_push_size
       refine ((body25 w1.heap.size 0 x _ (by unfold World.cell?; rw [hb]; rfl) (by unfold World.frozen?; rw [hb]; rfl)).calls Try.func59 rfl).mono ?_; rintro e w2 ⟨r2, rfl, rfl, rfl⟩))
  go_ret
  exact ⟨_, rfl, rfl, rfl, rfl, rfl⟩
end Go.Proofs.Ytfjjoohflcchnaa.Gen

namespace Go.Proofs.Ytfjjoohflcchnaa.Gen
open Go Go.Lift Go.Conc Go.RowKit

section
variable {tb c c' : Nat} {x y : Int} {v v' v'' : World}
theorem Fto.stay (h : Fto tb c x v v') (m : Fm tb c x v) : v'.heap = v.heap := by
  apply Array.ext_getElem?
  intro b
  by_cases e : b = c
  · rw [e, h.fm.cel, m.cel]
  · exact h.old b e
theorem Fto.other (h : Fto tb c x v v') (m : Fm tb c' y v) (hne : c' ≠ c) : Fm tb c' y v' := ⟨h.fm.thr, by rw [h.old c' hne]; exact m.cel⟩
theorem Fto.cell (h : Fto tb c x v v') {b j : Nat} {u : Value} (hb : b ≠ c) (hc : v.cell? ⟨b, j, none⟩ = some u) : v'.cell? ⟨b, j, none⟩ = some u := by
  rw [World.cell?_of_block (w := v) (w' := v') (h.old b hb)]; exact hc
theorem Fto.then (h : Fto tb c x v v') (k : Fto tb c' y v' v'') (m : Fm tb c' y v') : Fto tb c x v v'' := h.same (k.stay m) k.os k.out
end
end Go.Proofs.Ytfjjoohflcchnaa.Gen

namespace Go.Proofs.Ytfjjoohflcchnaa.Gen
open Go Go.Lift Go.Conc Go.RowKit

section
variable {Ch : Nat → Prop} {Stop : Goroutine → World → Prop} {main : Bool} {v w : World} {tb lb cb : Nat} {x : Int}
set_option maxHeartbeats 1000000 in
set_option maxRecDepth 100000 in
theorem fenter_seen (u : Nat → Value) {cs : List Frame} {bc : Frame} {ac : Act} {ops : Array Oper} {q : Nat} {rest : List Nat} {oc : Oper} {k : List Item} (hoc : ops[q]? = some oc)
    (hvw : Rel zn v w) (hn : NoRow Ch v) (h0 : v.cell? ⟨lb, 0, none⟩ = some (Pt cb 0)) (m0 : Fm tb cb x v) (hx : bits .and .i64 x 1 = 0)
    (hk : ∀ v' w', Rel zn v' w' → NoRow Ch v' → Fto tb cb (wrap64 (x + 2)) v v' → GoesI Try.prog main (DT (ScZ zn) Ch) Stop (G (bc.at (ac.put oc.dst (I 0)) (.inRegion ops rest :: k)) cs) w') :
    GoesI Try.prog main (DT (ScZ zn) Ch) Stop (G (eSeen lb cb tb u (I x)) (bc.at ac (.inRegion ops (q :: rest) :: k) :: cs)) w := by
  have e0 : w.cell? ⟨lb, 0, none⟩ = some (Pt cb 0) := by rw [hvw.cell?]; exact h0
  have hd : ∀ v2 w2, Rel zn v2 w2 → NoRow Ch v2 → Fto tb cb (wrap64 (x + 2)) v v2 → GoesI Try.prog main (DT (ScZ zn) Ch) Stop (G (eTried lb tb (eVal lb cb tb x u) (.bool true)) (bc.at ac (.inRegion ops (q :: rest) :: k) :: cs)) w2 := fun v2 w2 r2 n2 f2 => enter_won _ cs hoc r2 n2 (fun v3 w3 r3 n3 a' b' c' => hk v3 w3 r3 n3 (f2.same a' b' c'))
  have e3 : effCas x (wrap64 (x + 2)) x = ((x, wrap64 (x + 2)), wrap64 (x + 2), .bool true) := by unfold effCas; rw [if_pos rfl]
  unfold eTried ops694 B69 L69 Try.f74 seq2 seq1 blockC loopC opsOf at hd
  simp only [Option.getD_some] at hd
  unfold eSeen ops691 B69 L69 Try.f74 seq2 seq1 blockC loopC opsOf
  simp only [Option.getD_some]
  walk_nrm
  iterate 1
    (refine goesI_oper rfl rfl (by decide) (fun d K hK => ?_)
     go_simp
     refine hK _ _ ⟨dt_reads (fun e he => ?_), GoesI.at ?_ d⟩
     · have hm := mem_listed he
       simp [go_sem, *] at hm
       try exact ⟨_, _, hm⟩
     clear hK K)
  refine goesI_regionEnd (dt_idle _ _) ?_
  refine goesI_seq (dt_idle _ _) ?_
  refine goesI_seq (dt_idle _ _) ?_
  refine goesI_region (dt_idle _ _) ?_
  simp only [List.size_toArray, List.length_cons, List.length_nil, Nat.reduceAdd, Nat.zero_add, List.range, List.range.loop]
  iterate 3
    (refine goesI_oper rfl rfl (by decide) (fun d K hK => ?_)
     go_simp
     refine hK _ _ ⟨dt_reads (fun e he => ?_), GoesI.at ?_ d⟩
     · have hm := mem_listed he
       simp [go_sem, *] at hm
       try exact ⟨_, _, hm⟩
     clear hK K)
  refine goesI_regionEnd (dt_idle _ _) ?_
  refine goesI_cond (dt_idle _ _) (t := false) (by simp [Act.eval, hx]) ?_
  simp only [if_true, if_false, Bool.false_eq_true]
  refine goesI_skip (dt_idle _ _) ?_
  refine goesI_seq (dt_idle _ _) ?_
  refine goesI_region (dt_idle _ _) ?_
  simp only [List.size_toArray, List.length_cons, List.length_nil, Nat.reduceAdd, Nat.zero_add, List.range, List.range.loop]
  iterate 8
    (refine goesI_oper rfl rfl (by decide) (fun d K hK => ?_)
     go_simp
     refine hK _ _ ⟨dt_reads (fun e he => ?_), GoesI.at ?_ d⟩
     · have hm := mem_listed he
       simp [go_sem, *] at hm
       try exact ⟨_, _, hm⟩
     clear hK K)
  rw [show IntKind.wrap .i64 (x + 2) = wrap64 (x + 2) from Go.IntWalk.i64_left _]
  refine goesI_into (f := 25) (fn := Try.f25) (args := #[Pt cb 0, Pt tb 0, I x, I (wrap64 (x + 2))]) (dt_idle _ _) rfl rfl (by decide) rfl (by simp [Act.eval]) Try.func25 (by decide) rfl ?_
  refine free14 x (wrap64 (x + 2)) x _ rfl hvw hn m0 (fun v2 w2 r2 n2 h2 => ?_) _ rfl
  rw [e3] at h2 ⊢
  exact hd v2 w2 r2 n2 h2

set_option maxHeartbeats 1000000 in
set_option maxRecDepth 100000 in
/-- It is refused. -/
theorem fenter_low {cs : List Frame} {bc : Frame} {ac : Act} {ops : Array Oper} {q : Nat} {rest : List Nat} {oc : Oper} {k : List Item} (hoc : ops[q]? = some oc)
    (hvw : Rel zn v w) (hn : NoRow Ch v) (h0 : v.cell? ⟨lb, 0, none⟩ = some (Pt cb 0)) (m0 : Fm tb cb x v) (hx : bits .and .i64 x 1 ≠ 0)
    (hk : ∀ v' w', Rel zn v' w' → NoRow Ch v' → Fto tb cb x v v' → GoesI Try.prog main (DT (ScZ zn) Ch) Stop (G (bc.at (ac.put oc.dst (I 60)) (.inRegion ops rest :: k)) cs) w') (code : Code) (hc : Try.f74.body = some code) :
    GoesI Try.prog main (DT (ScZ zn) Ch) Stop (G ((base 74).at { tmps := #[Pt lb 0, Pt tb 0] ++ Array.replicate 22 undef, defers := [] } [.code code]) (bc.at ac (.inRegion ops (q :: rest) :: k) :: cs)) w := by
  refine enter_in _ (fun u => ?_) code hc
  have e0 : w.cell? ⟨lb, 0, none⟩ = some (Pt cb 0) := by rw [hvw.cell?]; exact h0
  have hd : ∀ v2 w2, Rel zn v2 w2 → NoRow Ch v2 → Fto tb cb x v v2 → GoesI Try.prog main (DT (ScZ zn) Ch) Stop (G (eSeen lb cb tb u (I x)) (bc.at ac (.inRegion ops (q :: rest) :: k) :: cs)) w2 := fun v2 w2 r2 n2 f2 =>
    enter_low x hx u cs hoc r2 n2 (fun v3 w3 r3 n3 a' b' c' => hk v3 w3 r3 n3 (f2.same a' b' c'))
  unfold eSeen ops691 B69 L69 Try.f74 seq2 seq1 blockC loopC opsOf at hd
  simp only [Option.getD_some] at hd
  unfold eFr L69 Try.f74 seq2 blockC loopC
  simp only [Option.getD_some]
  refine goesI_block (dt_idle _ _) ?_
  refine goesI_seq (dt_idle _ _) ?_
  refine goesI_region (dt_idle _ _) ?_
  simp only [List.size_toArray, List.length_cons, List.length_nil, Nat.reduceAdd, Nat.zero_add, List.range, List.range.loop]
  iterate 5
    (refine goesI_oper rfl rfl (by decide) (fun d K hK => ?_)
     go_simp
     refine hK _ _ ⟨dt_reads (fun e he => ?_), GoesI.at ?_ d⟩
     · have hm := mem_listed he
       simp [go_sem, *] at hm
       try exact ⟨_, _, hm⟩
     clear hK K)
  refine goesI_into (f := 28) (fn := Try.f28) (args := #[Pt cb 0, Pt tb 0]) (dt_idle _ _) rfl rfl (by decide) rfl (by simp [Act.eval]) Try.func28 (by decide) rfl ?_
  refine free17 x _ rfl hvw hn m0 (fun v2 w2 r2 n2 h2 => ?_) _ rfl
  exact hd v2 w2 r2 n2 h2
set_option maxHeartbeats 1000000 in
set_option maxRecDepth 100000 in
/-- It does it. -/
theorem fenter {cs : List Frame} {bc : Frame} {ac : Act} {ops : Array Oper} {q : Nat} {rest : List Nat} {oc : Oper} {k : List Item} (hoc : ops[q]? = some oc)
    (hvw : Rel zn v w) (hn : NoRow Ch v) (h0 : v.cell? ⟨lb, 0, none⟩ = some (Pt cb 0)) (m0 : Fm tb cb x v) (hx : bits .and .i64 x 1 = 0)
    (hk : ∀ v' w', Rel zn v' w' → NoRow Ch v' → Fto tb cb (wrap64 (x + 2)) v v' → GoesI Try.prog main (DT (ScZ zn) Ch) Stop (G (bc.at (ac.put oc.dst (I 0)) (.inRegion ops rest :: k)) cs) w') (code : Code) (hc : Try.f74.body = some code) :
    GoesI Try.prog main (DT (ScZ zn) Ch) Stop (G ((base 74).at { tmps := #[Pt lb 0, Pt tb 0] ++ Array.replicate 22 undef, defers := [] } [.code code]) (bc.at ac (.inRegion ops (q :: rest) :: k) :: cs)) w := by
  refine enter_in _ (fun u => ?_) code hc
  have e0 : w.cell? ⟨lb, 0, none⟩ = some (Pt cb 0) := by rw [hvw.cell?]; exact h0
  have hd : ∀ v2 w2, Rel zn v2 w2 → NoRow Ch v2 → Fto tb cb x v v2 → GoesI Try.prog main (DT (ScZ zn) Ch) Stop (G (eSeen lb cb tb u (I x)) (bc.at ac (.inRegion ops (q :: rest) :: k) :: cs)) w2 := fun v2 w2 r2 n2 f2 => by
    have hne : lb ≠ cb := fun e => by
      rw [e] at h0
      have := m0.cells.2.1
      rw [this] at h0
      simp at h0
    exact fenter_seen u hoc r2 n2 (f2.cell hne h0) f2.fm hx (fun v3 w3 r3 n3 f3 => hk v3 w3 r3 n3 ⟨f3.fm, fun b hb => by rw [f3.old b hb, f2.old b hb], f3.size.trans f2.size, f3.os.trans f2.os, f3.out.trans f2.out⟩)
  unfold eSeen ops691 B69 L69 Try.f74 seq2 seq1 blockC loopC opsOf at hd
  simp only [Option.getD_some] at hd
  unfold eFr L69 Try.f74 seq2 blockC loopC
  simp only [Option.getD_some]
  refine goesI_block (dt_idle _ _) ?_
  refine goesI_seq (dt_idle _ _) ?_
  refine goesI_region (dt_idle _ _) ?_
  simp only [List.size_toArray, List.length_cons, List.length_nil, Nat.reduceAdd, Nat.zero_add, List.range, List.range.loop]
  iterate 5
    (refine goesI_oper rfl rfl (by decide) (fun d K hK => ?_)
     go_simp
     refine hK _ _ ⟨dt_reads (fun e he => ?_), GoesI.at ?_ d⟩
     · have hm := mem_listed he
       simp [go_sem, *] at hm
       try exact ⟨_, _, hm⟩
     clear hK K)
  refine goesI_into (f := 28) (fn := Try.f28) (args := #[Pt cb 0, Pt tb 0]) (dt_idle _ _) rfl rfl (by decide) rfl (by simp [Act.eval]) Try.func28 (by decide) rfl ?_
  refine free17 x _ rfl hvw hn m0 (fun v2 w2 r2 n2 h2 => ?_) _ rfl
  exact hd v2 w2 r2 n2 h2
set_option maxHeartbeats 1000000 in
set_option maxRecDepth 100000 in
theorem fleave_seen (u : Nat → Value) {cs : List Frame} {bc : Frame} {ac : Act} {ops : Array Oper} {q : Nat} {rest : List Nat} {oc : Oper} {k : List Item} (hoc : ops[q]? = some oc)
    (hvw : Rel zn v w) (hn : NoRow Ch v) (h0 : v.cell? ⟨lb, 0, none⟩ = some (Pt cb 0)) (m0 : Fm tb cb x v) (hx : ¬ (x < 2))
    (hk : ∀ v' w', Rel zn v' w' → NoRow Ch v' → Fto tb cb (wrap64 (x - 2)) v v' → GoesI Try.prog main (DT (ScZ zn) Ch) Stop (G (bc.at (ac.put oc.dst (I 0)) (.inRegion ops rest :: k)) cs) w') :
    GoesI Try.prog main (DT (ScZ zn) Ch) Stop (G (lSeen lb cb tb u (I x)) (bc.at ac (.inRegion ops (q :: rest) :: k) :: cs)) w := by
  have e0 : w.cell? ⟨lb, 0, none⟩ = some (Pt cb 0) := by rw [hvw.cell?]; exact h0
  have hd : ∀ v2 w2, Rel zn v2 w2 → NoRow Ch v2 → Fto tb cb (wrap64 (x - 2)) v v2 → GoesI Try.prog main (DT (ScZ zn) Ch) Stop (G (lTried lb tb (lVal lb cb tb x u) (.bool true)) (bc.at ac (.inRegion ops (q :: rest) :: k) :: cs)) w2 := fun v2 w2 r2 n2 f2 => leave_won _ cs hoc r2 n2 (fun v3 w3 r3 n3 a' b' c' => hk v3 w3 r3 n3 (f2.same a' b' c'))
  have e3 : effCas x (wrap64 (x - 2)) x = ((x, wrap64 (x - 2)), wrap64 (x - 2), .bool true) := by unfold effCas; rw [if_pos rfl]
  unfold lTried ops704 B70 L70 Try.f75 seq2 seq1 blockC loopC opsOf at hd
  simp only [Option.getD_some] at hd
  unfold lSeen ops701 B70 L70 Try.f75 seq2 seq1 blockC loopC opsOf
  simp only [Option.getD_some]
  walk_nrm
  iterate 1
    (refine goesI_oper rfl rfl (by decide) (fun d K hK => ?_)
     go_simp
     refine hK _ _ ⟨dt_reads (fun e he => ?_), GoesI.at ?_ d⟩
     · have hm := mem_listed he
       simp [go_sem, *] at hm
       try exact ⟨_, _, hm⟩
     clear hK K)
  refine goesI_regionEnd (dt_idle _ _) ?_
  refine goesI_seq (dt_idle _ _) ?_
  refine goesI_seq (dt_idle _ _) ?_
  refine goesI_region (dt_idle _ _) ?_
  simp only [List.size_toArray, List.length_cons, List.length_nil, Nat.reduceAdd, Nat.zero_add, List.range, List.range.loop]
  iterate 2
    (refine goesI_oper rfl rfl (by decide) (fun d K hK => ?_)
     go_simp
     refine hK _ _ ⟨dt_reads (fun e he => ?_), GoesI.at ?_ d⟩
     · have hm := mem_listed he
       simp [go_sem, *] at hm
       try exact ⟨_, _, hm⟩
     clear hK K)
  refine goesI_regionEnd (dt_idle _ _) ?_
  refine goesI_cond (dt_idle _ _) (t := false) (by simp [Act.eval, hx]) ?_
  simp only [if_true, if_false, Bool.false_eq_true]
  refine goesI_skip (dt_idle _ _) ?_
  refine goesI_seq (dt_idle _ _) ?_
  refine goesI_region (dt_idle _ _) ?_
  simp only [List.size_toArray, List.length_cons, List.length_nil, Nat.reduceAdd, Nat.zero_add, List.range, List.range.loop]
  iterate 8
    (refine goesI_oper rfl rfl (by decide) (fun d K hK => ?_)
     go_simp
     refine hK _ _ ⟨dt_reads (fun e he => ?_), GoesI.at ?_ d⟩
     · have hm := mem_listed he
       simp [go_sem, *] at hm
       try exact ⟨_, _, hm⟩
     clear hK K)
  rw [show IntKind.wrap .i64 (x - 2) = wrap64 (x - 2) from Go.IntWalk.i64_left _]
  refine goesI_into (f := 25) (fn := Try.f25) (args := #[Pt cb 0, Pt tb 0, I x, I (wrap64 (x - 2))]) (dt_idle _ _) rfl rfl (by decide) rfl (by simp [Act.eval]) Try.func25 (by decide) rfl ?_
  refine free14 x (wrap64 (x - 2)) x _ rfl hvw hn m0 (fun v2 w2 r2 n2 h2 => ?_) _ rfl
  rw [e3] at h2 ⊢
  exact hd v2 w2 r2 n2 h2

set_option maxHeartbeats 1000000 in
set_option maxRecDepth 100000 in
/-- It is refused. -/
theorem fleave_low {cs : List Frame} {bc : Frame} {ac : Act} {ops : Array Oper} {q : Nat} {rest : List Nat} {oc : Oper} {k : List Item} (hoc : ops[q]? = some oc)
    (hvw : Rel zn v w) (hn : NoRow Ch v) (h0 : v.cell? ⟨lb, 0, none⟩ = some (Pt cb 0)) (m0 : Fm tb cb x v) (hx : x < 2)
    (hk : ∀ v' w', Rel zn v' w' → NoRow Ch v' → Fto tb cb x v v' → GoesI Try.prog main (DT (ScZ zn) Ch) Stop (G (bc.at (ac.put oc.dst (I 61)) (.inRegion ops rest :: k)) cs) w') (code : Code) (hc : Try.f75.body = some code) :
    GoesI Try.prog main (DT (ScZ zn) Ch) Stop (G ((base 75).at { tmps := #[Pt lb 0, Pt tb 0] ++ Array.replicate 21 undef, defers := [] } [.code code]) (bc.at ac (.inRegion ops (q :: rest) :: k) :: cs)) w := by
  refine leave_in _ (fun u => ?_) code hc
  have e0 : w.cell? ⟨lb, 0, none⟩ = some (Pt cb 0) := by rw [hvw.cell?]; exact h0
  have hd : ∀ v2 w2, Rel zn v2 w2 → NoRow Ch v2 → Fto tb cb x v v2 → GoesI Try.prog main (DT (ScZ zn) Ch) Stop (G (lSeen lb cb tb u (I x)) (bc.at ac (.inRegion ops (q :: rest) :: k) :: cs)) w2 := fun v2 w2 r2 n2 f2 =>
    leave_low x hx u cs hoc r2 n2 (fun v3 w3 r3 n3 a' b' c' => hk v3 w3 r3 n3 (f2.same a' b' c'))
  unfold lSeen ops701 B70 L70 Try.f75 seq2 seq1 blockC loopC opsOf at hd
  simp only [Option.getD_some] at hd
  unfold lFr L70 Try.f75 seq2 blockC loopC
  simp only [Option.getD_some]
  refine goesI_block (dt_idle _ _) ?_
  refine goesI_seq (dt_idle _ _) ?_
  refine goesI_region (dt_idle _ _) ?_
  simp only [List.size_toArray, List.length_cons, List.length_nil, Nat.reduceAdd, Nat.zero_add, List.range, List.range.loop]
  iterate 5
    (refine goesI_oper rfl rfl (by decide) (fun d K hK => ?_)
     go_simp
     refine hK _ _ ⟨dt_reads (fun e he => ?_), GoesI.at ?_ d⟩
     · have hm := mem_listed he
       simp [go_sem, *] at hm
       try exact ⟨_, _, hm⟩
     clear hK K)
  refine goesI_into (f := 28) (fn := Try.f28) (args := #[Pt cb 0, Pt tb 0]) (dt_idle _ _) rfl rfl (by decide) rfl (by simp [Act.eval]) Try.func28 (by decide) rfl ?_
  refine free17 x _ rfl hvw hn m0 (fun v2 w2 r2 n2 h2 => ?_) _ rfl
  exact hd v2 w2 r2 n2 h2
set_option maxHeartbeats 1000000 in
set_option maxRecDepth 100000 in
/-- It does it. -/
theorem fleave {cs : List Frame} {bc : Frame} {ac : Act} {ops : Array Oper} {q : Nat} {rest : List Nat} {oc : Oper} {k : List Item} (hoc : ops[q]? = some oc)
    (hvw : Rel zn v w) (hn : NoRow Ch v) (h0 : v.cell? ⟨lb, 0, none⟩ = some (Pt cb 0)) (m0 : Fm tb cb x v) (hx : ¬ (x < 2))
    (hk : ∀ v' w', Rel zn v' w' → NoRow Ch v' → Fto tb cb (wrap64 (x - 2)) v v' → GoesI Try.prog main (DT (ScZ zn) Ch) Stop (G (bc.at (ac.put oc.dst (I 0)) (.inRegion ops rest :: k)) cs) w') (code : Code) (hc : Try.f75.body = some code) :
    GoesI Try.prog main (DT (ScZ zn) Ch) Stop (G ((base 75).at { tmps := #[Pt lb 0, Pt tb 0] ++ Array.replicate 21 undef, defers := [] } [.code code]) (bc.at ac (.inRegion ops (q :: rest) :: k) :: cs)) w := by
  refine leave_in _ (fun u => ?_) code hc
  have e0 : w.cell? ⟨lb, 0, none⟩ = some (Pt cb 0) := by rw [hvw.cell?]; exact h0
  have hd : ∀ v2 w2, Rel zn v2 w2 → NoRow Ch v2 → Fto tb cb x v v2 → GoesI Try.prog main (DT (ScZ zn) Ch) Stop (G (lSeen lb cb tb u (I x)) (bc.at ac (.inRegion ops (q :: rest) :: k) :: cs)) w2 := fun v2 w2 r2 n2 f2 => by
    have hne : lb ≠ cb := fun e => by
      rw [e] at h0
      have := m0.cells.2.1
      rw [this] at h0
      simp at h0
    exact fleave_seen u hoc r2 n2 (f2.cell hne h0) f2.fm hx (fun v3 w3 r3 n3 f3 => hk v3 w3 r3 n3 ⟨f3.fm, fun b hb => by rw [f3.old b hb, f2.old b hb], f3.size.trans f2.size, f3.os.trans f2.os, f3.out.trans f2.out⟩)
  unfold lSeen ops701 B70 L70 Try.f75 seq2 seq1 blockC loopC opsOf at hd
  simp only [Option.getD_some] at hd
  unfold lFr L70 Try.f75 seq2 blockC loopC
  simp only [Option.getD_some]
  refine goesI_block (dt_idle _ _) ?_
  refine goesI_seq (dt_idle _ _) ?_
  refine goesI_region (dt_idle _ _) ?_
  simp only [List.size_toArray, List.length_cons, List.length_nil, Nat.reduceAdd, Nat.zero_add, List.range, List.range.loop]
  iterate 5
    (refine goesI_oper rfl rfl (by decide) (fun d K hK => ?_)
     go_simp
     refine hK _ _ ⟨dt_reads (fun e he => ?_), GoesI.at ?_ d⟩
     · have hm := mem_listed he
       simp [go_sem, *] at hm
       try exact ⟨_, _, hm⟩
     clear hK K)
  refine goesI_into (f := 28) (fn := Try.f28) (args := #[Pt cb 0, Pt tb 0]) (dt_idle _ _) rfl rfl (by decide) rfl (by simp [Act.eval]) Try.func28 (by decide) rfl ?_
  refine free17 x _ rfl hvw hn m0 (fun v2 w2 r2 n2 h2 => ?_) _ rfl
  exact hd v2 w2 r2 n2 h2
set_option maxHeartbeats 1000000 in
set_option maxRecDepth 100000 in
theorem fbar_seen (u : Nat → Value) {cs : List Frame} {bc : Frame} {ac : Act} {ops : Array Oper} {q : Nat} {rest : List Nat} {oc : Oper} {k : List Item} (hoc : ops[q]? = some oc)
    (hvw : Rel zn v w) (hn : NoRow Ch v) (h0 : v.cell? ⟨lb, 0, none⟩ = some (Pt cb 0)) (m0 : Fm tb cb x v) (hx : bits .and .i64 x 1 = 0)
    (hk : ∀ v' w', Rel zn v' w' → NoRow Ch v' → Fto tb cb (wrap64 (x + 1)) v v' → GoesI Try.prog main (DT (ScZ zn) Ch) Stop (G (bc.at (ac.put oc.dst (.bool true)) (.inRegion ops rest :: k)) cs) w') :
    GoesI Try.prog main (DT (ScZ zn) Ch) Stop (G (bSeen lb cb tb u (I x)) (bc.at ac (.inRegion ops (q :: rest) :: k) :: cs)) w := by
  have e0 : w.cell? ⟨lb, 0, none⟩ = some (Pt cb 0) := by rw [hvw.cell?]; exact h0
  have hd : ∀ v2 w2, Rel zn v2 w2 → NoRow Ch v2 → Fto tb cb (wrap64 (x + 1)) v v2 → GoesI Try.prog main (DT (ScZ zn) Ch) Stop (G (bTried lb tb (bVal lb cb tb x u) (.bool true)) (bc.at ac (.inRegion ops (q :: rest) :: k) :: cs)) w2 := fun v2 w2 r2 n2 f2 => bar_won _ cs hoc r2 n2 (fun v3 w3 r3 n3 a' b' c' => hk v3 w3 r3 n3 (f2.same a' b' c'))
  have e3 : effCas x (wrap64 (x + 1)) x = ((x, wrap64 (x + 1)), wrap64 (x + 1), .bool true) := by unfold effCas; rw [if_pos rfl]
  unfold bTried ops904 B90 L90 Try.f99 seq2 seq1 blockC loopC opsOf at hd
  simp only [Option.getD_some] at hd
  unfold bSeen ops901 B90 L90 Try.f99 seq2 seq1 blockC loopC opsOf
  simp only [Option.getD_some]
  walk_nrm
  iterate 1
    (refine goesI_oper rfl rfl (by decide) (fun d K hK => ?_)
     go_simp
     refine hK _ _ ⟨dt_reads (fun e he => ?_), GoesI.at ?_ d⟩
     · have hm := mem_listed he
       simp [go_sem, *] at hm
       try exact ⟨_, _, hm⟩
     clear hK K)
  refine goesI_regionEnd (dt_idle _ _) ?_
  refine goesI_seq (dt_idle _ _) ?_
  refine goesI_seq (dt_idle _ _) ?_
  refine goesI_region (dt_idle _ _) ?_
  simp only [List.size_toArray, List.length_cons, List.length_nil, Nat.reduceAdd, Nat.zero_add, List.range, List.range.loop]
  iterate 3
    (refine goesI_oper rfl rfl (by decide) (fun d K hK => ?_)
     go_simp
     refine hK _ _ ⟨dt_reads (fun e he => ?_), GoesI.at ?_ d⟩
     · have hm := mem_listed he
       simp [go_sem, *] at hm
       try exact ⟨_, _, hm⟩
     clear hK K)
  refine goesI_regionEnd (dt_idle _ _) ?_
  refine goesI_cond (dt_idle _ _) (t := false) (by simp [Act.eval, hx]) ?_
  simp only [if_true, if_false, Bool.false_eq_true]
  refine goesI_skip (dt_idle _ _) ?_
  refine goesI_seq (dt_idle _ _) ?_
  refine goesI_region (dt_idle _ _) ?_
  simp only [List.size_toArray, List.length_cons, List.length_nil, Nat.reduceAdd, Nat.zero_add, List.range, List.range.loop]
  iterate 8
    (refine goesI_oper rfl rfl (by decide) (fun d K hK => ?_)
     go_simp
     refine hK _ _ ⟨dt_reads (fun e he => ?_), GoesI.at ?_ d⟩
     · have hm := mem_listed he
       simp [go_sem, *] at hm
       try exact ⟨_, _, hm⟩
     clear hK K)
  rw [show IntKind.wrap .i64 (x + 1) = wrap64 (x + 1) from Go.IntWalk.i64_left _]
  refine goesI_into (f := 25) (fn := Try.f25) (args := #[Pt cb 0, Pt tb 0, I x, I (wrap64 (x + 1))]) (dt_idle _ _) rfl rfl (by decide) rfl (by simp [Act.eval]) Try.func25 (by decide) rfl ?_
  refine free14 x (wrap64 (x + 1)) x _ rfl hvw hn m0 (fun v2 w2 r2 n2 h2 => ?_) _ rfl
  rw [e3] at h2 ⊢
  exact hd v2 w2 r2 n2 h2

set_option maxHeartbeats 1000000 in
set_option maxRecDepth 100000 in
/-- It does it. -/
theorem fbar {cs : List Frame} {bc : Frame} {ac : Act} {ops : Array Oper} {q : Nat} {rest : List Nat} {oc : Oper} {k : List Item} (hoc : ops[q]? = some oc)
    (hvw : Rel zn v w) (hn : NoRow Ch v) (h0 : v.cell? ⟨lb, 0, none⟩ = some (Pt cb 0)) (m0 : Fm tb cb x v) (hx : bits .and .i64 x 1 = 0)
    (hk : ∀ v' w', Rel zn v' w' → NoRow Ch v' → Fto tb cb (wrap64 (x + 1)) v v' → GoesI Try.prog main (DT (ScZ zn) Ch) Stop (G (bc.at (ac.put oc.dst (.bool true)) (.inRegion ops rest :: k)) cs) w') (code : Code) (hc : Try.f99.body = some code) :
    GoesI Try.prog main (DT (ScZ zn) Ch) Stop (G ((base 99).at { tmps := #[Pt lb 0, Pt tb 0] ++ Array.replicate 22 undef, defers := [] } [.code code]) (bc.at ac (.inRegion ops (q :: rest) :: k) :: cs)) w := by
  refine bar_in _ (fun u => ?_) code hc
  have e0 : w.cell? ⟨lb, 0, none⟩ = some (Pt cb 0) := by rw [hvw.cell?]; exact h0
  have hd : ∀ v2 w2, Rel zn v2 w2 → NoRow Ch v2 → Fto tb cb x v v2 → GoesI Try.prog main (DT (ScZ zn) Ch) Stop (G (bSeen lb cb tb u (I x)) (bc.at ac (.inRegion ops (q :: rest) :: k) :: cs)) w2 := fun v2 w2 r2 n2 f2 => by
    have hne : lb ≠ cb := fun e => by
      rw [e] at h0
      have := m0.cells.2.1
      rw [this] at h0
      simp at h0
    exact fbar_seen u hoc r2 n2 (f2.cell hne h0) f2.fm hx (fun v3 w3 r3 n3 f3 => hk v3 w3 r3 n3 ⟨f3.fm, fun b hb => by rw [f3.old b hb, f2.old b hb], f3.size.trans f2.size, f3.os.trans f2.os, f3.out.trans f2.out⟩)
  unfold bSeen ops901 B90 L90 Try.f99 seq2 seq1 blockC loopC opsOf at hd
  simp only [Option.getD_some] at hd
  unfold bFr L90 Try.f99 seq2 blockC loopC
  simp only [Option.getD_some]
  refine goesI_block (dt_idle _ _) ?_
  refine goesI_seq (dt_idle _ _) ?_
  refine goesI_region (dt_idle _ _) ?_
  simp only [List.size_toArray, List.length_cons, List.length_nil, Nat.reduceAdd, Nat.zero_add, List.range, List.range.loop]
  iterate 5
    (refine goesI_oper rfl rfl (by decide) (fun d K hK => ?_)
     go_simp
     refine hK _ _ ⟨dt_reads (fun e he => ?_), GoesI.at ?_ d⟩
     · have hm := mem_listed he
       simp [go_sem, *] at hm
       try exact ⟨_, _, hm⟩
     clear hK K)
  refine goesI_into (f := 28) (fn := Try.f28) (args := #[Pt cb 0, Pt tb 0]) (dt_idle _ _) rfl rfl (by decide) rfl (by simp [Act.eval]) Try.func28 (by decide) rfl ?_
  refine free17 x _ rfl hvw hn m0 (fun v2 w2 r2 n2 h2 => ?_) _ rfl
  exact hd v2 w2 r2 n2 h2
set_option maxHeartbeats 1000000 in
set_option maxRecDepth 100000 in
theorem fshut_loop {cs : List Frame} {bc : Frame} {ac : Act} {ops : Array Oper} {q : Nat} {rest : List Nat} {oc : Oper} {k : List Item} (hoc : ops[q]? = some oc)
    (hvw : Rel zn v w) (hn : NoRow Ch v) (h0 : v.cell? ⟨lb, 0, none⟩ = some (Pt cb 0)) (m0 : Fm tb cb 1 v) (fi : Bool) (u : Nat → Value)
    (hk : ∀ v' w', Rel zn v' w' → NoRow Ch v' → v'.heap = v.heap → v'.os = v.os → v'.output = v.output → GoesI Try.prog main (DT (ScZ zn) Ch) Stop (G (bc.at (ac.put oc.dst (.tuple #[.bool fi, I 0])) (.inRegion ops rest :: k)) cs) w') :
    GoesI Try.prog main (DT (ScZ zn) Ch) Stop (G (sFr fi lb tb u) (bc.at ac (.inRegion ops (q :: rest) :: k) :: cs)) w := by
  have e0 : w.cell? ⟨lb, 0, none⟩ = some (Pt cb 0) := by rw [hvw.cell?]; exact h0
  have hd : ∀ v2 w2, Rel zn v2 w2 → NoRow Ch v2 → v2.heap = v.heap → v2.os = v.os → v2.output = v.output → GoesI Try.prog main (DT (ScZ zn) Ch) Stop (G (sSeen fi lb cb tb u (I 1)) (bc.at ac (.inRegion ops (q :: rest) :: k) :: cs)) w2 := fun v2 w2 r2 n2 a b c => shut_done u cs hoc r2 n2 (fun v3 w3 r3 n3 a' b' c' => hk v3 w3 r3 n3 (a'.trans a) (b'.trans b) (c'.trans c))
  unfold sSeen ops712 L71 T71 R71 Try.f76 seq2 seq1 blockC loopC opsOf at hd
  simp only [Option.getD_some] at hd
  unfold sFr L71 T71 R71 Try.f76 seq2 seq1 blockC loopC
  simp only [Option.getD_some]
  refine goesI_seq (dt_idle _ _) ?_
  refine goesI_seq (dt_idle _ _) ?_
  refine goesI_region (dt_idle _ _) ?_
  simp only [List.size_toArray, List.length_cons, List.length_nil, Nat.reduceAdd, Nat.zero_add, List.range, List.range.loop]
  iterate 5
    (refine goesI_oper rfl rfl (by decide) (fun d K hK => ?_)
     go_simp
     refine hK _ _ ⟨dt_reads (fun e he => ?_), GoesI.at ?_ d⟩
     · have hm := mem_listed he
       simp [go_sem, *] at hm
       try exact ⟨_, _, hm⟩
     clear hK K)
  refine goesI_into (f := 28) (fn := Try.f28) (args := #[Pt cb 0, Pt tb 0]) (dt_idle _ _) rfl rfl (by decide) rfl (by simp [Act.eval]) Try.func28 (by decide) rfl ?_
  refine free17 1 _ rfl hvw hn m0 (fun v2 w2 r2 n2 h2 => ?_) _ rfl
  exact hd v2 w2 r2 n2 (h2.stay m0) h2.os h2.out


/-- Shut where nobody is in: it is the first. -/
theorem fshut {cs : List Frame} {bc : Frame} {ac : Act} {ops : Array Oper} {q : Nat} {rest : List Nat} {oc : Oper} {k : List Item} (hoc : ops[q]? = some oc)
    (hvw : Rel zn v w) (hn : NoRow Ch v) (h0 : v.cell? ⟨lb, 0, none⟩ = some (Pt cb 0)) (m0 : Fm tb cb 0 v)
    (hk : ∀ v' w', Rel zn v' w' → NoRow Ch v' → Fto tb cb 1 v v' → GoesI Try.prog main (DT (ScZ zn) Ch) Stop (G (bc.at (ac.put oc.dst (.tuple #[.bool true, I 0])) (.inRegion ops rest :: k)) cs) w') (code : Code) (hc : Try.f76.body = some code) :
    GoesI Try.prog main (DT (ScZ zn) Ch) Stop (G ((base 76).at { tmps := #[Pt lb 0, Pt tb 0] ++ Array.replicate 24 undef, defers := [] } [.code code]) (bc.at ac (.inRegion ops (q :: rest) :: k) :: cs)) w := by
  have hne : lb ≠ cb := fun e => by
    rw [e] at h0
    have := m0.cells.2.1
    rw [this] at h0
    simp at h0
  refine shut_in _ (fun bd ad od qd rd oe kd hoe hfr code2 hcode2 => ?_) code hc
  refine fbar (x := 0) hoe hvw hn h0 m0 (by decide) (fun v2 w2 r2 n2 f2 => ?_) code2 hcode2
  rw [hfr]
  have e1 : wrap64 ((0 : Int) + 1) = 1 := by unfold wrap64; omega
  have f2' : Fto tb cb 1 v v2 := by rw [e1] at f2; exact f2
  exact shut_bar _ _ (fun u => fshut_loop hoc r2 n2 (f2'.cell hne h0) f2'.fm true u (fun v3 w3 r3 n3 a b c => hk v3 w3 r3 n3 (f2'.same a b c)))
end
end Go.Proofs.Ytfjjoohflcchnaa.Gen
