/- OnceAlone holds, as a card tied to the program's text: a once of no world, asked by one free thread with any list of acts, carries out the first one alone and tells all of them what it came to; no condition besides the sizes that the statement itself names. Part 20 of 35. (Joined, by program, of: GFree, Cas, GFree2, GReg.) -/
import Derived.Test.YtaofjdoielmobaaDoorOnceAlone08
import Derived.Test.YtaofjdoielmobaaDoorOnceAlone09
import Derived.Test.YtaofjdoielmobaaDoorOnceAlone19

/- A thread of no world (turn.Free), cells of no world, and what such a thread does to them: main alone. -/
set_option linter.unusedSimpArgs false
set_option linter.unusedVariables false
namespace Go.Proofs.YtaofjdoielmobaaDoor.Gen
open Go Go.Lift Go.Conc Go.RowKit


/-- A free thread, and a cell of no world. -/
structure Fm (tb cb : Nat) (x : Int) (v : World) : Prop where
  thr : v.cell? ⟨tb, 0, none⟩ = some (.pointer none)
  ne : tb ≠ cb
  cel : v.heap[cb]? = some (.cells #[I 0, I x] 149 (0, 0))
structure Fto (tb cb : Nat) (x : Int) (v v' : World) : Prop where
  fm : Fm tb cb x v'
  old : ∀ b, b ≠ cb → v'.heap[b]? = v.heap[b]?
  size : v'.heap.size = v.heap.size
  os : v'.os = v.os
  out : v'.output = v.output
section
variable {tb cb : Nat} {x y : Int} {v v' v'' : World}
theorem Fm.cells (h : Fm tb cb x v) : v.cell? ⟨tb, 0, none⟩ = some (.pointer none) ∧ v.cell? ⟨cb, 0, none⟩ = some (I 0) ∧ v.cell? ⟨cb, 1, none⟩ = some (I x) ∧ v.frozen? ⟨cb, 1, none⟩ = false := by
  refine ⟨h.thr, ?_, ?_, ?_⟩
  · unfold World.cell?; rw [show v.heap[cb]? = _ from h.cel]; rfl
  · unfold World.cell?; rw [show v.heap[cb]? = _ from h.cel]; rfl
  · unfold World.frozen?; rw [show v.heap[cb]? = _ from h.cel]; rfl
theorem Fm.same (h : Fm tb cb x v) (e : v'.heap = v.heap) : Fm tb cb x v' := ⟨by rw [World.cell?_of_block (w := v) (by rw [e])]; exact h.thr, h.ne, by rw [e]; exact h.cel⟩
theorem Fto.refl (h : Fm tb cb x v) : Fto tb cb x v v := ⟨h, fun _ _ => rfl, rfl, rfl, rfl⟩
theorem Fto.same (h : Fto tb cb x v v') (e1 : v''.heap = v'.heap) (e2 : v''.os = v'.os) (e3 : v''.output = v'.output) : Fto tb cb x v v'' :=
  ⟨h.fm.same e1, fun b hb => by rw [e1]; exact h.old b hb, by rw [e1]; exact h.size, e2.trans h.os, e3.trans h.out⟩
theorem Fto.set (h : Fm tb cb x v) (y : Int) : Fto tb cb y v (v.setCell ⟨cb, 1, none⟩ (I y)) :=
  ⟨⟨by rw [World.cell?_of_block (Below.heap_setCell _ _ _ _ h.ne)]; exact h.thr, h.ne, heap_setCell_same h.cel _⟩, fun b hb => Below.heap_setCell _ _ _ _ hb, by simp [World.setCell], rfl, rfl⟩
theorem Fto.base (h : Fto tb cb x v v') (e1 : v.heap = v''.heap) (e2 : v.os = v''.os) (e3 : v.output = v''.output) : Fto tb cb x v'' v' :=
  ⟨h.fm, fun b hb => by rw [← e1]; exact h.old b hb, by rw [← e1]; exact h.size, h.os.trans e2, h.out.trans e3⟩

theorem body27f (tb : Nat) (b a : Int) (v : World) (h : v.cell? ⟨tb, 0, none⟩ = some (.pointer none)) : Body Tryd.f74 #[Pt tb 0, I b, I a] v (fun r v' => r = .tuple #[] ∧ v' = v) := by
  intro code hb
  obtain rfl := Option.some.inj hb
  clear hb
  simp only [Tryd.ntmps74, List.size_toArray, List.length_cons, List.length_nil, Nat.reduceAdd, Nat.reduceSub, Array.replicate_succ, Array.replicate_zero, List.push_toArray, List.append_toArray, List.nil_append, List.cons_append]
  go_wp2_with fail
  exact ⟨rfl, _, results_none rfl _ _ _, _, rfl, rfl, rfl⟩
end

set_option maxHeartbeats 1000000 in
set_option maxRecDepth 100000 in
theorem free26 {Ch : Nat → Prop} {Stop : Goroutine → World → Prop} {main : Bool} {v w : World} (tb : Nat) (c o : Int) (ht : v.cell? ⟨tb, 0, none⟩ = some (.pointer none)) (cs : List Frame) {bc : Frame} {ac : Act} {ops : Array Oper} {q : Nat} {rest : List Nat} {oc : Oper} {k : List Item} (hoc : ops[q]? = some oc) (hvw : Rel zn v w) (hn : NoRow Ch v)
    (hk : ∀ w', Rel zn v w' → GoesI Tryd.prog main (DT (ScZ zn) Ch) Stop (G (bc.at (ac.put oc.dst (.tuple #[])) (.inRegion ops rest :: k)) cs) w') (code : Code) (hc : Tryd.f72.body = some code) :
    GoesI Tryd.prog main (DT (ScZ zn) Ch) Stop (G ((base 72).at { tmps := #[Pt tb 0, I c, I o] ++ Array.replicate 12 undef, defers := [] } [.code code]) (bc.at ac (.inRegion ops (q :: rest) :: k) :: cs)) w := by
  obtain rfl := Option.some.inj hc
  clear hc
  have e0 : w.cell? ⟨tb, 0, none⟩ = some (.pointer none) := by rw [hvw.cell?]; exact ht
  simp only [Array.replicate_succ, Array.replicate_zero, List.push_toArray, List.append_toArray, List.nil_append, List.cons_append]
  refine goesI_seq (dt_idle _ _) ?_
  refine goesI_region (dt_idle _ _) ?_
  simp only [List.size_toArray, List.length_cons, List.length_nil, Nat.reduceAdd, Nat.zero_add, List.range, List.range.loop]
  iterate 4
    (refine goesI_oper rfl rfl (by decide) (fun d K hK => ?_)
     go_simp
     refine hK _ _ ⟨dt_reads (fun e he => ?_), GoesI.at ?_ d⟩
     · have hm := mem_listed he
       simp [go_sem, *] at hm
       try exact ⟨_, _, hm⟩
     clear hK K)
  refine goesI_opZ (L := LT) rfl rfl (by decide) (fineOp_ask callT extT (by kernel_rfl)) hvw hn (v' := v) (x := .bool false) (by go_simp) rfl (fun w2 hr2 hn2 => ?_)
  refine goesI_regionEnd (dt_idle _ _) ?_
  refine goesI_cond (dt_idle _ _) (t := false) rfl ?_
  refine goesI_skip (dt_idle _ _) ?_
  refine goesI_end (dt_idle _ _) ?_
  exact goesI_leave (b := base 72) (fn := Tryd.f72) rfl rfl Tryd.func72 (res26 _) (ev26 _) hoc (dt_idle _ _) (hk w2 hr2)
set_option maxHeartbeats 1000000 in
set_option maxRecDepth 100000 in
theorem tailF17 {v : World} {tb cb : Nat} {x : Int} (hm : Fm tb cb x v) (a6 a7 a8 a9 a10 a11 : Value) :
    rest17.wp Tryd.prog (bodyPost Tryd.prog Tryd.f44 (fun e w' => ∃ r, e = .returned r ∧ (r = (effLoad x).2.2 ∧ Fto tb cb (effLoad x).2.1 v w')))
      { tmps := #[Pt cb 0, Pt tb 0, undef, undef, I 0, undef, a6, a7, a8, a9, a10, a11, undef, undef, undef, undef, undef, undef, undef, undef, undef], defers := [] } v := by
  obtain ⟨c0, _, c1, f1⟩ := hm.cells
  have HM : Hid (Fm tb cb x v) := ⟨hm⟩
  have HT : Hid (v.cell? ⟨tb, 0, none⟩ = some (.pointer none)) := ⟨by exact c0⟩
  clear hm
  show Code.wp Tryd.prog (seq2 (seq2 (Tryd.f44.body.getD .skip))) _ _ _
  unfold Tryd.f44 seq2
  simp only [Option.getD_some]
  go_wp2_with (first
    | (go_at_call 73; refine ((body29 cb x _ c1).calls Tryd.func73 rfl).mono ?_; rintro e w1 ⟨_, rfl, rfl, rfl⟩)
    | (go_at_call 74; refine ((body27f tb x x _ HT.out).calls Tryd.func74 rfl).mono ?_; rintro e w2 ⟨_, rfl, rfl, rfl⟩))
  go_ret
  exact ⟨_, rfl, rfl, Fto.refl HM.out⟩

set_option maxHeartbeats 1000000 in
set_option maxRecDepth 100000 in
theorem free17 {Ch : Nat → Prop} {Stop : Goroutine → World → Prop} {main : Bool} {v w : World} {tb cb : Nat} (x : Int) (cs : List Frame) {bc : Frame} {ac : Act} {ops : Array Oper} {q : Nat} {rest : List Nat} {oc : Oper} {k : List Item} (hoc : ops[q]? = some oc)
    (hvw : Rel zn v w) (hn : NoRow Ch v) (hm : Fm tb cb x v)
    (hk : ∀ v' w', Rel zn v' w' → NoRow Ch v' → Fto tb cb (effLoad x).2.1 v v' → GoesI Tryd.prog main (DT (ScZ zn) Ch) Stop (G (bc.at (ac.put oc.dst (effLoad x).2.2) (.inRegion ops rest :: k)) cs) w') (code : Code) (hc : Tryd.f44.body = some code) :
    GoesI Tryd.prog main (DT (ScZ zn) Ch) Stop (G ((base 44).at { tmps := #[Pt cb 0, Pt tb 0] ++ Array.replicate 19 undef, defers := [] } [.code code]) (bc.at ac (.inRegion ops (q :: rest) :: k) :: cs)) w := by
  obtain rfl := Option.some.inj hc
  clear hc
  have e0 : w.cell? ⟨cb, 0, none⟩ = some (I 0) := by rw [hvw.cell?]; exact hm.cells.2.1
  simp only [Array.replicate_succ, Array.replicate_zero, List.push_toArray, List.append_toArray, List.nil_append, List.cons_append]
  have HM : Hid (Fm tb cb x v) := ⟨hm⟩
  clear hm
  refine goesI_seq (dt_idle _ _) ?_
  refine goesI_region (dt_idle _ _) ?_
  simp only [List.size_toArray, List.length_cons, List.length_nil, Nat.reduceAdd, Nat.zero_add, List.range, List.range.loop]
  (refine goesI_oper rfl rfl (by decide) (fun d K hK => ?_)
   go_simp
   refine hK _ _ ⟨dt_reads (fun e he => ?_), GoesI.at ?_ d⟩
   · have hm := mem_listed he
     simp [go_sem, *] at hm
   clear hK K)
  refine goesI_regionEnd (dt_idle _ _) ?_
  refine goesI_seq (dt_idle _ _) ?_
  refine goesI_region (dt_idle _ _) ?_
  simp only [List.size_toArray, List.length_cons, List.length_nil, Nat.reduceAdd, Nat.zero_add, List.range, List.range.loop]
  iterate 5
    (refine goesI_oper rfl rfl (by decide) (fun d K hK => ?_)
     go_simp
     refine hK _ _ ⟨dt_reads (fun e he => ?_), GoesI.at ?_ d⟩
     · have hm := mem_listed he
       simp [go_sem, *] at hm
       try exact ⟨_, _, hm⟩
     clear hK K)
  refine goesI_into (f := 72) (fn := Tryd.f72) (args := #[Pt tb 0, I 0, I 1]) (dt_idle _ _) rfl rfl (by decide) rfl (by simp [Act.eval]) Tryd.func72 (by decide) rfl ?_
  refine free26 tb 0 1 HM.out.cells.1 _ rfl hvw hn (fun w1 hr1 => ?_) _ rfl
  clear e0 hvw
  refine goesI_regionEnd (dt_idle _ _) ?_
  refine goesI_rest (f := 44) (fn := Tryd.f44) (c := rest17) hE fineT hr1 hn Tryd.func44 fine17 rfl hoc res17 (fun τ => ?_) (fun r v' w' hR hr' hn' => ?_) (R := fun r w' => r = (effLoad x).2.2 ∧ Fto tb cb (effLoad x).2.1 v w')
  · exact wp_mono (tailF17 (HM.out.same (v' := onTape v τ 0) rfl) _ _ _ _ _ _) (bp_mono fun r u hq => ⟨hq.1, hq.2.base rfl rfl rfl⟩)
  · obtain ⟨rfl, he⟩ := hR
    exact hk v' w' hr' hn' he

theorem body24n (v : World) : Body Tryd.f70 #[.pointer none] v (fun r v' => r = I 0 ∧ v' = v) := by
  intro code hb
  obtain rfl := Option.some.inj hb
  clear hb
  simp only [Tryd.ntmps70, List.size_toArray, List.length_cons, List.length_nil, Nat.reduceAdd, Nat.reduceSub, Array.replicate_succ, Array.replicate_zero, List.push_toArray, List.append_toArray, List.nil_append, List.cons_append]
  go_wp2_with fail
  go_ret
  exact ⟨_, rfl, rfl, rfl⟩
set_option maxHeartbeats 2000000 in
set_option maxRecDepth 100000 in
theorem body10n (v : World) (x : Int) : Body Tryd.f43 #[.pointer none, I x] v (fun r v' => r = Pt v.heap.size 0 ∧ v'.heap = v.heap.push (.cells #[I 0, I x] 149) ∧ v'.os = v.os ∧ v'.output = v.output) := by
  intro code hb
  obtain rfl := Option.some.inj hb
  clear hb
  simp only [Tryd.ntmps43, List.size_toArray, List.length_cons, List.length_nil, Nat.reduceAdd, Nat.reduceSub, Array.replicate_succ, Array.replicate_zero, List.push_toArray, List.append_toArray, List.nil_append, List.cons_append]
  go_wp2_with (first
    | (go_at_call 70; refine ((body24n v).calls Tryd.func70 rfl).mono ?_; rintro e w1 ⟨r1, rfl, rfl, rfl⟩)
    | (go_at_call 71
       have hb : (w1.alloc (.cells #[I 0, I 0] 149)).heap[w1.heap.size]? = some (.cells #[I 0, I 0] 149) := Array.getElem?_push_size
       refine ((body25 w1.heap.size 0 x _ (by unfold World.cell?; rw [hb]; rfl) (by unfold World.frozen?; rw [hb]; rfl)).calls Tryd.func71 rfl).mono ?_; rintro e w2 ⟨r2, rfl, rfl, rfl⟩))
  go_ret
  exact ⟨_, rfl, rfl, rfl, rfl, rfl⟩
set_option maxHeartbeats 2000000 in
set_option maxRecDepth 100000 in
theorem body11 (v : World) (i : Int) : Body Tryd.f17 #[I i] v (fun r v' => r = Pt v.heap.size 0 ∧ v'.heap = v.heap.push (.cells #[.pointer none, I i, .chan none, I 0, I 0, I 0, I 0] 81) ∧ v'.os = v.os ∧ v'.output = v.output) := by
  intro code hb
  obtain rfl := Option.some.inj hb
  clear hb
  simp only [Tryd.ntmps17, List.size_toArray, List.length_cons, List.length_nil, Nat.reduceAdd, Nat.reduceSub, Array.replicate_succ, Array.replicate_zero, List.push_toArray, List.append_toArray, List.nil_append, List.cons_append]
  go_wp2_with fail
  go_ret
  exact ⟨_, rfl, rfl, rfl, rfl, rfl⟩
section
variable {tb c c' : Nat} {x y : Int} {v v' v'' : World}
theorem Fto.stay (h : Fto tb c x v v') (m : Fm tb c x v) : v'.heap = v.heap := by
  apply Array.ext_getElem?
  intro b
  by_cases e : b = c
  · rw [e, h.fm.cel, m.cel]
  · exact h.old b e
theorem Fto.other (h : Fto tb c x v v') (m : Fm tb c' y v) (hne : c' ≠ c) : Fm tb c' y v' := ⟨h.fm.thr, m.ne, by rw [h.old c' hne]; exact m.cel⟩
theorem Fto.cell (h : Fto tb c x v v') {b j : Nat} {u : Value} (hb : b ≠ c) (hc : v.cell? ⟨b, j, none⟩ = some u) : v'.cell? ⟨b, j, none⟩ = some u := by
  rw [World.cell?_of_block (w := v) (w' := v') (h.old b hb)]; exact hc
theorem Fto.then (h : Fto tb c x v v') (k : Fto tb c' y v' v'') (m : Fm tb c' y v') : Fto tb c x v v'' := h.same (k.stay m) k.os k.out
end
end Go.Proofs.YtaofjdoielmobaaDoor.Gen

/- A thread of a world puts another number into a cell, if one stands there (cell.Cas), in company. (Made by wip/tools/genops.py.) -/
set_option linter.unusedSimpArgs false
set_option linter.unusedVariables false
namespace Go.Proofs.YtaofjdoielmobaaDoor
open Go Go.Lift Go.Conc Go.RowKit

def effCas (a y x : Int) : (Int × Int) × Int × Value := if x = a then ((a, y), y, .bool true) else ((x, x), x, .bool false)
noncomputable def rest14 : Code := seq2 (seq2 (Tryd.f46.body.getD .skip))
theorem fine14 : fineCode Tryd.prog true LT rest14 := fineCode_ask callT extT (by kernel_rfl)

set_option maxHeartbeats 1000000 in
set_option maxRecDepth 100000 in
theorem tail14 {z : Nat → Option Nat} {S : TS} {K : List (Nat × Int)} {v : World} {i j cb : Nat} {t : Thr} {x : Int} {a y : Int} (hm : Mem z S K v) (ht : S.thr[i]? = some t) (hK : K[j]? = some (cb, x)) (hn : (S.n + 1) * 40 ≤ 140737488355328) (a10 a11 a12 a13 a14 a15 : Value) :
    rest14.wp Tryd.prog (bodyPost Tryd.prog Tryd.f46 (fun e w' => ∃ r, e = .returned r ∧ (r = (effCas a y x).2.2 ∧ ∃ tv, Evo z S K v (didS S tv i t (effCas a y x).1.1 (effCas a y x).1.2) (K.set j (cb, (effCas a y x).2.1)) w')))
      { tmps := #[Pt cb 0, Pt t.tb 0, I a, I y, undef, undef, undef, undef, .bool false, undef, a10, a11, a12, a13, a14, a15, undef, undef, undef, undef, undef, undef, undef, undef, undef, undef, undef, undef, undef, undef, undef, undef, undef, undef], defers := [] } v := by
  obtain ⟨_, c1, f1⟩ := hm.cells hK
  have HM : Hid (Mem z S K v) := ⟨hm⟩
  by_cases hx : x = a
  · subst hx
    have HW : Hid (Evo z S K v S (K.set j (cb, y)) (v.setCell ⟨cb, 1, none⟩ (I y))) := ⟨Evo.write hm hK _⟩
    have HQ : Hid (effCas x y x = ((x, y), y, .bool true)) := ⟨by simp [effCas]⟩
    rw [HQ.out]
    clear hm hK
    simp only at c1 f1
    show Code.wp Tryd.prog (seq2 (seq2 (Tryd.f46.body.getD .skip))) _ _ _
    unfold Tryd.f46 seq2
    simp only [Option.getD_some]
    go_wp2_with (first
      | (go_at_call 77; refine ((body28 cb x y _ c1 f1).calls Tryd.func77 rfl).mono ?_; rintro e w1 ⟨_, rfl, rfl, rfl⟩)
      | (go_at_call 74; refine ((body27 HW.out.mem.rep ht x y hn).calls Tryd.func74 rfl).mono ?_; rintro e w2 ⟨_, rfl, rfl, tv, hev⟩))
    go_ret
    exact ⟨_, rfl, rfl, tv, HW.out.did hev⟩
  have HW : Hid (Evo z S K v S (K.set j (cb, x)) v) := ⟨by rw [set_same hK]; exact Evo.refl hm⟩
  have HQ : Hid (effCas a y x = ((x, x), x, .bool false)) := ⟨by simp [effCas, hx]⟩
  rw [HQ.out]
  clear hm hK
  simp only at c1 f1
  show Code.wp Tryd.prog (seq2 (seq2 (Tryd.f46.body.getD .skip))) _ _ _
  unfold Tryd.f46 seq2
  simp only [Option.getD_some]
  go_wp2_with (first
    | (go_at_call 77; refine ((body28n cb x a y _ c1 f1 hx).calls Tryd.func77 rfl).mono ?_; rintro e w1 ⟨_, rfl, rfl, rfl⟩)
    | (go_at_call 73; refine ((body29 cb x _ c1).calls Tryd.func73 rfl).mono ?_; rintro e w1 ⟨_, rfl, rfl, rfl⟩)
    | (go_at_call 74; refine ((body27 HW.out.mem.rep ht x x hn).calls Tryd.func74 rfl).mono ?_; rintro e w2 ⟨_, rfl, rfl, tv, hev⟩))
  go_ret
  exact ⟨_, rfl, rfl, tv, HW.out.did hev⟩

theorem res14 (tmps : Array Value) : ∃ v, (∀ w, (results Tryd.f46 tmps).run Tryd.prog w = .ok v w) ∧ ∀ w, (results Tryd.f46 tmps).events Tryd.prog w #[] = #[] :=
  ⟨_, fun _ => results_tmp rfl _ _ _, fun _ => by simp [results, go_sem]⟩

set_option maxHeartbeats 1000000 in
set_option maxRecDepth 100000 in
theorem cas_goes {z : Nat → Option Nat} {Ch : Nat → Prop} {Stop : Goroutine → World → Prop} {h : Nat} {cont : Addr → Value} {S : TS} {K : List (Nat × Int)} {v w : World} {i j cb : Nat} {t : Thr} (a y : Int) (x : Int) (cs : List Frame) (Hm : Goroutine → Prop) {bc : Frame} {ac : Act} {ops : Array Oper} {q : Nat} {rest : List Nat} {oc : Oper} {k : List Item} (hoc : ops[q]? = some oc)
    (hH : ∀ g, OpBack (h == 0) i j cb t.tb 4 (effCas a y) (fun r => G (bc.at (ac.put oc.dst r) (.inRegion ops rest :: k)) cs) g → Hm g)
    (hvw : Rel z v w) (hn : NoRow Ch v) (hm : Mem z S K v) (ht : S.thr[i]? = some t) (hK : K[j]? = some (cb, x)) (hz : z t.tb = some 2) (hcont : cont ⟨t.tb, 2, none⟩ = .chan (some t.gc))
    (hstop : ∀ g w', GiveT z cont h S.bk t.gc Hm (Then z Ch S K v (waiting S i t 1 4 j) K) g w' → Stop g w') (code : Code) (hc : Tryd.f46.body = some code) :
    GoesI Tryd.prog (h == 0) (DT (ScZ z) Ch) Stop (G ((base 46).at { tmps := #[Pt cb 0, Pt t.tb 0, I a, I y] ++ Array.replicate 30 undef, defers := [] } [.code code]) (bc.at ac (.inRegion ops (q :: rest) :: k) :: cs)) w := by
  obtain rfl := Option.some.inj hc
  clear hc
  have e0 : w.cell? ⟨cb, 0, none⟩ = some (I j) := by rw [hvw.cell?]; exact (hm.cells hK).1
  simp only [Array.replicate_succ, Array.replicate_zero, List.push_toArray, List.append_toArray, List.nil_append, List.cons_append]
  have HM : Hid (Mem z S K v) := ⟨hm⟩
  clear hm
  refine goesI_seq (dt_idle _ _) ?_
  refine goesI_region (dt_idle _ _) ?_
  simp only [List.size_toArray, List.length_cons, List.length_nil, Nat.reduceAdd, Nat.zero_add, List.range, List.range.loop]
  (refine goesI_oper rfl rfl (by decide) (fun d K hK => ?_)
   go_simp
   refine hK _ _ ⟨dt_reads (fun e he => ?_), GoesI.at ?_ d⟩
   · have hm := mem_listed he
     simp [go_sem, *] at hm
   clear hK K)
  refine goesI_regionEnd (dt_idle _ _) ?_
  refine goesI_seq (dt_idle _ _) ?_
  refine goesI_region (dt_idle _ _) ?_
  simp only [List.size_toArray, List.length_cons, List.length_nil, Nat.reduceAdd, Nat.zero_add, List.range, List.range.loop]
  iterate 5
    (refine goesI_oper rfl rfl (by decide) (fun d K hK => ?_)
     go_simp
     refine hK _ _ ⟨dt_reads (fun e he => ?_), GoesI.at ?_ d⟩
     · have hm := mem_listed he
       simp [go_sem, *] at hm
       try exact ⟨_, _, hm⟩
     clear hK K)
  refine goesI_into (f := 72) (fn := Tryd.f72) (args := #[Pt t.tb 0, I j, I 4]) (dt_idle _ _) rfl rfl (by decide) rfl (by simp [Act.eval]) Tryd.func72 (by decide) rfl ?_
  refine turn_mem 4 j _ Hm rfl (fun g hg => hH g ?_) hvw hn HM.out ht hz hcont hstop _ rfl
  intro z1 Ch1 St yy w1 v1 S1 K1 t1 x1 r1 n1 m1 h1 htb hop hce hK1 hn1 hk
  refine hg _ St yy w1 (dt_idle _ _) ?_
  refine goesI_regionEnd (dt_idle _ _) ?_
  rw [← htb]
  refine goesI_rest (f := 46) (fn := Tryd.f46) (c := rest14) hE fineT r1 n1 Tryd.func46 fine14 rfl hoc res14 (fun τ => ?_) (fun r v' w' hR hr' hn' => ?_) (R := fun r w' => r = (effCas a y x1).2.2 ∧ ∃ tv, Evo z1 S1 K1 v1 (didS S1 tv i t1 (effCas a y x1).1.1 (effCas a y x1).1.2) (K1.set j (cb, (effCas a y x1).2.1)) w')
  · refine wp_mono (tail14 (m1.same (v' := onTape v1 τ 0) rfl) h1 hK1 hn1 _ _ _ _ _ _) (bp_mono fun r u hq => ⟨hq.1, hq.2.choose, hq.2.choose_spec.base rfl rfl rfl⟩)
  · obtain ⟨rfl, tv, he⟩ := hR
    exact hk v' w' tv hr' hn' he
end Go.Proofs.YtaofjdoielmobaaDoor

/- What a free thread does to a cell of no world: Store, Cas; main alone. (Made by wip/tools/mko_f3.py.) -/
set_option linter.unusedSimpArgs false
set_option linter.unusedVariables false
namespace Go.Proofs.YtaofjdoielmobaaDoor.Gen
open Go Go.Lift Go.Conc Go.RowKit

set_option maxHeartbeats 1000000 in
set_option maxRecDepth 100000 in
theorem tailF12 {v : World} {tb cb : Nat} {x : Int} {y : Int} (hm : Fm tb cb x v) (a7 a8 a9 a10 a11 a12 : Value) :
    rest12.wp Tryd.prog (bodyPost Tryd.prog Tryd.f79 (fun e w' => ∃ r, e = .returned r ∧ (r = (effStore y x).2.2 ∧ Fto tb cb (effStore y x).2.1 v w')))
      { tmps := #[Pt cb 0, Pt tb 0, I y, undef, undef, undef, undef, a7, a8, a9, a10, a11, a12, undef, undef, undef, undef, undef, undef, undef, undef, undef], defers := [] } v := by
  obtain ⟨c0, _, c1, f1⟩ := hm.cells
  have HM : Hid (Fm tb cb x v) := ⟨hm⟩
  have HT : Hid ((v.setCell ⟨cb, 1, none⟩ (I y)).cell? ⟨tb, 0, none⟩ = some (.pointer none)) := ⟨by rw [World.cell?_of_block (Below.heap_setCell _ _ _ _ hm.ne)]; exact c0⟩
  clear hm
  show Code.wp Tryd.prog (seq2 (Tryd.f79.body.getD .skip)) _ _ _
  unfold Tryd.f79 seq2
  simp only [Option.getD_some]
  go_wp2_with (first
    | (go_at_call 71; refine ((body25 cb x y _ c1 f1).calls Tryd.func71 rfl).mono ?_; rintro e w1 ⟨_, rfl, rfl, rfl⟩)
    | (go_at_call 74; refine ((body27f tb x y _ HT.out).calls Tryd.func74 rfl).mono ?_; rintro e w2 ⟨_, rfl, rfl, rfl⟩))
  exact ⟨rfl, _, results_none rfl _ _ _, _, rfl, rfl, Fto.set HM.out _⟩

set_option maxHeartbeats 1000000 in
set_option maxRecDepth 100000 in
theorem free12 {Ch : Nat → Prop} {Stop : Goroutine → World → Prop} {main : Bool} {v w : World} {tb cb : Nat} (y : Int) (x : Int) (cs : List Frame) {bc : Frame} {ac : Act} {ops : Array Oper} {q : Nat} {rest : List Nat} {oc : Oper} {k : List Item} (hoc : ops[q]? = some oc)
    (hvw : Rel zn v w) (hn : NoRow Ch v) (hm : Fm tb cb x v)
    (hk : ∀ v' w', Rel zn v' w' → NoRow Ch v' → Fto tb cb (effStore y x).2.1 v v' → GoesI Tryd.prog main (DT (ScZ zn) Ch) Stop (G (bc.at (ac.put oc.dst (effStore y x).2.2) (.inRegion ops rest :: k)) cs) w') (code : Code) (hc : Tryd.f79.body = some code) :
    GoesI Tryd.prog main (DT (ScZ zn) Ch) Stop (G ((base 79).at { tmps := #[Pt cb 0, Pt tb 0, I y] ++ Array.replicate 19 undef, defers := [] } [.code code]) (bc.at ac (.inRegion ops (q :: rest) :: k) :: cs)) w := by
  obtain rfl := Option.some.inj hc
  clear hc
  have e0 : w.cell? ⟨cb, 0, none⟩ = some (I 0) := by rw [hvw.cell?]; exact hm.cells.2.1
  simp only [Array.replicate_succ, Array.replicate_zero, List.push_toArray, List.append_toArray, List.nil_append, List.cons_append]
  have HM : Hid (Fm tb cb x v) := ⟨hm⟩
  clear hm
  refine goesI_seq (dt_idle _ _) ?_
  refine goesI_region (dt_idle _ _) ?_
  simp only [List.size_toArray, List.length_cons, List.length_nil, Nat.reduceAdd, Nat.zero_add, List.range, List.range.loop]
  iterate 5
    (refine goesI_oper rfl rfl (by decide) (fun d K hK => ?_)
     go_simp
     refine hK _ _ ⟨dt_reads (fun e he => ?_), GoesI.at ?_ d⟩
     · have hm := mem_listed he
       simp [go_sem, *] at hm
       try exact ⟨_, _, hm⟩
     clear hK K)
  refine goesI_into (f := 72) (fn := Tryd.f72) (args := #[Pt tb 0, I 0, I 2]) (dt_idle _ _) rfl rfl (by decide) rfl (by simp [Act.eval]) Tryd.func72 (by decide) rfl ?_
  refine free26 tb 0 2 HM.out.cells.1 _ rfl hvw hn (fun w1 hr1 => ?_) _ rfl
  clear e0 hvw
  refine goesI_regionEnd (dt_idle _ _) ?_
  refine goesI_rest (f := 79) (fn := Tryd.f79) (c := rest12) hE fineT hr1 hn Tryd.func79 fine12 rfl hoc res12 (fun τ => ?_) (fun r v' w' hR hr' hn' => ?_) (R := fun r w' => r = (effStore y x).2.2 ∧ Fto tb cb (effStore y x).2.1 v w')
  · exact wp_mono (tailF12 (HM.out.same (v' := onTape v τ 0) rfl) _ _ _ _ _ _) (bp_mono fun r u hq => ⟨hq.1, hq.2.base rfl rfl rfl⟩)
  · obtain ⟨rfl, he⟩ := hR
    exact hk v' w' hr' hn' he

set_option maxHeartbeats 1000000 in
set_option maxRecDepth 100000 in
theorem tailF14 {v : World} {tb cb : Nat} {x : Int} {a y : Int} (hm : Fm tb cb x v) (a10 a11 a12 a13 a14 a15 : Value) :
    rest14.wp Tryd.prog (bodyPost Tryd.prog Tryd.f46 (fun e w' => ∃ r, e = .returned r ∧ (r = (effCas a y x).2.2 ∧ Fto tb cb (effCas a y x).2.1 v w')))
      { tmps := #[Pt cb 0, Pt tb 0, I a, I y, undef, undef, undef, undef, .bool false, undef, a10, a11, a12, a13, a14, a15, undef, undef, undef, undef, undef, undef, undef, undef, undef, undef, undef, undef, undef, undef, undef, undef, undef, undef], defers := [] } v := by
  obtain ⟨c0, _, c1, f1⟩ := hm.cells
  have HM : Hid (Fm tb cb x v) := ⟨hm⟩
  by_cases hx : x = a
  · subst hx
    have HT : Hid ((v.setCell ⟨cb, 1, none⟩ (I y)).cell? ⟨tb, 0, none⟩ = some (.pointer none)) := ⟨by rw [World.cell?_of_block (Below.heap_setCell _ _ _ _ hm.ne)]; exact c0⟩
    have HQ : Hid (effCas x y x = ((x, y), y, .bool true)) := ⟨by simp [effCas]⟩
    rw [HQ.out]
    clear hm
    show Code.wp Tryd.prog (seq2 (seq2 (Tryd.f46.body.getD .skip))) _ _ _
    unfold Tryd.f46 seq2
    simp only [Option.getD_some]
    go_wp2_with (first
      | (go_at_call 77; refine ((body28 cb x y _ c1 f1).calls Tryd.func77 rfl).mono ?_; rintro e w1 ⟨_, rfl, rfl, rfl⟩)
      | (go_at_call 74; refine ((body27f tb x y _ HT.out).calls Tryd.func74 rfl).mono ?_; rintro e w2 ⟨_, rfl, rfl, rfl⟩))
    go_ret
    exact ⟨_, rfl, rfl, Fto.set HM.out _⟩
  have HT : Hid (v.cell? ⟨tb, 0, none⟩ = some (.pointer none)) := ⟨by exact c0⟩
  have HQ : Hid (effCas a y x = ((x, x), x, .bool false)) := ⟨by simp [effCas, hx]⟩
  rw [HQ.out]
  clear hm
  show Code.wp Tryd.prog (seq2 (seq2 (Tryd.f46.body.getD .skip))) _ _ _
  unfold Tryd.f46 seq2
  simp only [Option.getD_some]
  go_wp2_with (first
    | (go_at_call 77; refine ((body28n cb x a y _ c1 f1 hx).calls Tryd.func77 rfl).mono ?_; rintro e w1 ⟨_, rfl, rfl, rfl⟩)
    | (go_at_call 73; refine ((body29 cb x _ c1).calls Tryd.func73 rfl).mono ?_; rintro e w1 ⟨_, rfl, rfl, rfl⟩)
    | (go_at_call 74; refine ((body27f tb x x _ HT.out).calls Tryd.func74 rfl).mono ?_; rintro e w2 ⟨_, rfl, rfl, rfl⟩))
  go_ret
  exact ⟨_, rfl, rfl, Fto.refl HM.out⟩

set_option maxHeartbeats 1000000 in
set_option maxRecDepth 100000 in
theorem free14 {Ch : Nat → Prop} {Stop : Goroutine → World → Prop} {main : Bool} {v w : World} {tb cb : Nat} (a y : Int) (x : Int) (cs : List Frame) {bc : Frame} {ac : Act} {ops : Array Oper} {q : Nat} {rest : List Nat} {oc : Oper} {k : List Item} (hoc : ops[q]? = some oc)
    (hvw : Rel zn v w) (hn : NoRow Ch v) (hm : Fm tb cb x v)
    (hk : ∀ v' w', Rel zn v' w' → NoRow Ch v' → Fto tb cb (effCas a y x).2.1 v v' → GoesI Tryd.prog main (DT (ScZ zn) Ch) Stop (G (bc.at (ac.put oc.dst (effCas a y x).2.2) (.inRegion ops rest :: k)) cs) w') (code : Code) (hc : Tryd.f46.body = some code) :
    GoesI Tryd.prog main (DT (ScZ zn) Ch) Stop (G ((base 46).at { tmps := #[Pt cb 0, Pt tb 0, I a, I y] ++ Array.replicate 30 undef, defers := [] } [.code code]) (bc.at ac (.inRegion ops (q :: rest) :: k) :: cs)) w := by
  obtain rfl := Option.some.inj hc
  clear hc
  have e0 : w.cell? ⟨cb, 0, none⟩ = some (I 0) := by rw [hvw.cell?]; exact hm.cells.2.1
  simp only [Array.replicate_succ, Array.replicate_zero, List.push_toArray, List.append_toArray, List.nil_append, List.cons_append]
  have HM : Hid (Fm tb cb x v) := ⟨hm⟩
  clear hm
  refine goesI_seq (dt_idle _ _) ?_
  refine goesI_region (dt_idle _ _) ?_
  simp only [List.size_toArray, List.length_cons, List.length_nil, Nat.reduceAdd, Nat.zero_add, List.range, List.range.loop]
  (refine goesI_oper rfl rfl (by decide) (fun d K hK => ?_)
   go_simp
   refine hK _ _ ⟨dt_reads (fun e he => ?_), GoesI.at ?_ d⟩
   · have hm := mem_listed he
     simp [go_sem, *] at hm
   clear hK K)
  refine goesI_regionEnd (dt_idle _ _) ?_
  refine goesI_seq (dt_idle _ _) ?_
  refine goesI_region (dt_idle _ _) ?_
  simp only [List.size_toArray, List.length_cons, List.length_nil, Nat.reduceAdd, Nat.zero_add, List.range, List.range.loop]
  iterate 5
    (refine goesI_oper rfl rfl (by decide) (fun d K hK => ?_)
     go_simp
     refine hK _ _ ⟨dt_reads (fun e he => ?_), GoesI.at ?_ d⟩
     · have hm := mem_listed he
       simp [go_sem, *] at hm
       try exact ⟨_, _, hm⟩
     clear hK K)
  refine goesI_into (f := 72) (fn := Tryd.f72) (args := #[Pt tb 0, I 0, I 4]) (dt_idle _ _) rfl rfl (by decide) rfl (by simp [Act.eval]) Tryd.func72 (by decide) rfl ?_
  refine free26 tb 0 4 HM.out.cells.1 _ rfl hvw hn (fun w1 hr1 => ?_) _ rfl
  clear e0 hvw
  refine goesI_regionEnd (dt_idle _ _) ?_
  refine goesI_rest (f := 46) (fn := Tryd.f46) (c := rest14) hE fineT hr1 hn Tryd.func46 fine14 rfl hoc res14 (fun τ => ?_) (fun r v' w' hR hr' hn' => ?_) (R := fun r w' => r = (effCas a y x).2.2 ∧ Fto tb cb (effCas a y x).2.1 v w')
  · exact wp_mono (tailF14 (HM.out.same (v' := onTape v τ 0) rfl) _ _ _ _ _ _) (bp_mono fun r u hq => ⟨hq.1, hq.2.base rfl rfl rfl⟩)
  · obtain ⟨rfl, he⟩ := hR
    exact hk v' w' hr' hn' he

end Go.Proofs.YtaofjdoielmobaaDoor.Gen

/- A region that draws its order and holds a call that waits: what comes ahead of the call, over a frame of which only some slots are known. -/
set_option linter.unusedSimpArgs false
set_option linter.unusedVariables false
namespace Go.Proofs.YtaofjdoielmobaaDoor.Gen
open Go Go.Lift Go.Conc Go.RowKit

/-- Slots from d on are written, one behind the other. -/
def putN (a : Act) (d : Nat) (val : Nat → Value) : Nat → Act
  | 0 => a
  | n + 1 => (putN a d val n).put (some (d + n)) (val n)
theorem putN_defers (a : Act) (d : Nat) (val : Nat → Value) : ∀ n, (putN a d val n).defers = a.defers
  | 0 => rfl
  | n + 1 => putN_defers a d val n
theorem putN_size (a : Act) (d : Nat) (val : Nat → Value) : ∀ n, (putN a d val n).tmps.size = a.tmps.size
  | 0 => rfl
  | n + 1 => by
    show ((putN a d val n).tmps.setIfInBounds (d + n) (val n)).size = _
    rw [Array.size_setIfInBounds, putN_size a d val n]
theorem putN_get (a : Act) (d : Nat) (val : Nat → Value) (t : Nat) : ∀ n, d + n ≤ a.tmps.size → (putN a d val n).tmps[t]? = if d ≤ t ∧ t < d + n then some (val (t - d)) else a.tmps[t]?
  | 0, _ => by rw [if_neg (by omega)]; rfl
  | n + 1, h => by
    show ((putN a d val n).tmps.setIfInBounds (d + n) (val n))[t]? = _
    have hs : d + n < (putN a d val n).tmps.size := by rw [putN_size]; omega
    rw [Array.getElem?_setIfInBounds]
    by_cases e : d + n = t
    · subst e
      rw [if_pos rfl, if_pos hs, if_pos (by omega)]
      rw [show d + n - d = n by omega]
    · rw [if_neg e, putN_get a d val t n (by omega)]
      by_cases h1 : d ≤ t ∧ t < d + n
      · rw [if_pos h1, if_pos (by omega)]
      · rw [if_neg h1, if_neg (by omega)]

/-- From number n on only one operation can come next. -/
def oneWay (md : Region.Mode) (ops : Array Oper) (n : Nat) : Bool := (List.range ops.size).all fun m => decide (m < n) || (Region.ready md ops (listedN ops.size m) == [m])
theorem listedN_set {s n : Nat} : (listedN s n).setIfInBounds n true = listedN s (n + 1) := by
  apply Array.ext_getElem?
  intro j
  rw [Array.getElem?_setIfInBounds]
  have hsz : (listedN s n).size = s := by simp [listedN]
  by_cases hj : j < s
  · rw [listedN_get hj, listedN_get hj]
    by_cases e : n = j
    · subst e
      rw [if_pos rfl, if_pos (by omega)]
      simp
    · rw [if_neg e]
      congr 1
      simp only [decide_eq_decide]
      omega
  · have h1 : (listedN s (n + 1))[j]? = none := Array.getElem?_eq_none (by have : (listedN s (n + 1)).size = s := by simp [listedN]
                                                                           omega)
    have h2 : (listedN s n)[j]? = none := Array.getElem?_eq_none (by omega)
    rw [h1, h2]
    split
    · rename_i e
      rw [if_neg (by omega)]
    · rfl
theorem one_way {md : Region.Mode} {ops : Array Oper} : ∀ (k n t : Nat), oneWay md ops n = true → n + k = ops.size → Region.linearise.go md ops k t (listedN ops.size n) [] = List.range' n k
  | 0, n, t, _, _ => rfl
  | k + 1, n, t, h, hk => by
    have hr : Region.ready md ops (listedN ops.size n) = [n] := by
      unfold oneWay at h
      rw [List.all_eq_true] at h
      have := h n (List.mem_range.2 (by omega))
      simpa using this
    have h' : oneWay md ops (n + 1) = true := by
      unfold oneWay at h ⊢
      rw [List.all_eq_true] at h ⊢
      intro m hm
      have := h m hm
      simp only [Bool.or_eq_true, decide_eq_true_eq] at this ⊢
      rcases this with h1 | h1
      · left; omega
      · exact .inr h1
    simp only [Region.linearise.go]
    change (match (Region.ready md ops (listedN ops.size n))[t % (Region.ready md ops (listedN ops.size n)).length]? with
      | some i => Region.linearise.go md ops k (t / (Region.ready md ops (listedN ops.size n)).length) ((listedN ops.size n).setIfInBounds i true) [i]
      | none => [].reverse) = _
    rw [hr]
    simp only [List.length_cons, List.length_nil, Nat.zero_add, Nat.mod_one, List.getElem?_cons_zero]
    rw [linearise_go_acc, List.reverse_singleton, List.singleton_append, listedN_set, one_way k (n + 1) _ h' (by omega)]
    rfl

/-- Operation i is behind operation j. -/
def depOn (ops : Array Oper) (i j : Nat) : Bool := ((ops[i]?).map (fun o => o.after.toList.any fun e => e.on == j && Region.binds .any e)) == some true
/-- A region whose first n operations come ahead of number n, whatever is drawn, and write the slots from d on. -/
def regOk (ops : Array Oper) (n d : Nat) : Bool :=
  leadsOn .any ops n && inText .any ops n && oneWay .any ops n && decide (n < ops.size) && ((List.range n).all fun i => (ops[i]?).map (·.dst) == some (some (d + i))) && ((List.range (n + 1)).all fun i => (ops[i]?).map (·.guard.isNone) == some true)

section
variable {z : Nat → Option Nat} {Ch : Nat → Prop} {Stop : Goroutine → World → Prop} {main : Bool} {b : Frame} {k : List Item} {cs : List Frame} {ops : Array Oper} {n d id : Nat} {val : Nat → Value} {a0 : Act} {v w : World}
theorem grefl (v : World) : Grows v v := ⟨Nat.le_refl _, fun _ _ => rfl, rfl, rfl⟩
theorem gtrans {v v' v'' : World} (h : Grows v v') (k : Grows v' v'') : Grows v v'' := ⟨Nat.le_trans h.size k.size, fun b hb => (k.old b (Nat.lt_of_lt_of_le hb h.size)).trans (h.old b hb), k.os.trans h.os, k.output.trans h.output⟩
/-- What comes ahead of the call. -/
theorem region_in (hreg : regOk ops n d = true) (hsz : d + n ≤ a0.tmps.size) (hvw : Rel z v w) (hn : NoRow Ch v)
    (hop : ∀ (i : Nat) (o : Oper) (rest : List Nat) (a : Act) (v1 w1 : World), i < n → ops[i]? = some o → Region.wanted o (yielded ops a.tmps) = true → (∀ j, j < n → depOn ops i j = true → a.eval (.tmp (d + j)) = val j) → (∀ t, t < d → a.eval (.tmp t) = a0.eval (.tmp t)) → Rel z v1 w1 → NoRow Ch v1 → Grows v v1 →
      (∀ v2 w2, Rel z v2 w2 → NoRow Ch v2 → Grows v1 v2 → GoesI Tryd.prog main (DT (ScZ z) Ch) Stop (G (b.at (a.put o.dst (val i)) (.inRegion ops rest :: k)) cs) w2) →
      GoesI Tryd.prog main (DT (ScZ z) Ch) Stop (G (b.at a (.inRegion ops (i :: rest) :: k)) cs) w1)
    (hN : ∀ v1 w1 o, ops[n]? = some o → (∀ y, Region.wanted o y = true) → Rel z v1 w1 → NoRow Ch v1 → Grows v v1 → GoesI Tryd.prog main (DT (ScZ z) Ch) Stop (G (b.at (putN a0 d val n) (.inRegion ops (List.range' n (ops.size - n)) :: k)) cs) w1) :
    GoesI Tryd.prog main (DT (ScZ z) Ch) Stop (G (b.at a0 (.code (.region id ops true) :: k)) cs) w := by
  unfold regOk at hreg
  simp only [Bool.and_eq_true, decide_eq_true_eq] at hreg
  obtain ⟨⟨⟨⟨⟨h1, h2⟩, h3⟩, h4⟩, h5⟩, h6⟩ := hreg
  have hdst : ∀ (i : Nat), i < n → ∀ o, ops[i]? = some o → o.dst = some (d + i) := fun i hi o ho => by
    have := (List.all_eq_true.1 h5) i (List.mem_range.2 hi)
    rw [ho] at this
    simpa using this
  have hgd : ∀ (i : Nat), i < n + 1 → ∀ o, ops[i]? = some o → o.guard = none := fun i hi o ho => by
    have := (List.all_eq_true.1 h6) i (List.mem_range.2 hi)
    rw [ho] at this
    simpa using this
  refine goesI_region_quiet (n := n) (val := val) (J := fun w => ∃ v1, Rel z v1 w ∧ NoRow Ch v1 ∧ Grows v v1) mix21 (fun w d ⟨v1, hJ, hJ2⟩ => ⟨v1, hJ.re rfl rfl rfl rfl rfl rfl, hJ2⟩) (fun w => dt_draw _ _ w) h1 h2 (on := ops[n]'h4) (Array.getElem?_eq_getElem h4) ?_ ?_ ?_ (putN a0 d val n) ?_ ?_ ⟨v, hvw, hn, grefl v⟩
  · intro i j oi oj t hi hj hoi hoj hti htj
    rw [hdst i hi oi hoi] at hti
    rw [hdst j hj oj hoj] at htj
    have e : d + i = d + j := (Option.some.inj hti).trans (Option.some.inj htj).symm
    omega
  · intro i o t hi ho ht
    rw [hdst i hi o ho] at ht
    have e : d + i = t := Option.some.inj ht
    subst e
    show d + i < a0.tmps.size
    omega
  · intro i o rest listed a w1 hi ho hdep hagr ⟨v1, r1, n1, g1⟩ hgo
    refine hop i o rest a v1 w1 hi ho (by simp [Region.wanted, hgd i (by omega) o ho]) (fun j hj hd => ?_) (fun t ht => ?_) r1 n1 g1 (fun v2 w2 r2 n2 g2 => hgo w2 ⟨v2, r2, n2, gtrans g1 g2⟩)
    · have hjs : j < ops.size := by omega
      refine hagr.eval hj (o := ops[j]) (Array.getElem?_eq_getElem hjs) ?_ (hdst j hj _ (Array.getElem?_eq_getElem hjs))
      unfold depOn at hd
      rw [ho] at hd
      simp only [Option.map_some, beq_iff_eq, Option.some.injEq, List.any_eq_true, Bool.and_eq_true] at hd
      obtain ⟨e, he, e1, e2⟩ := hd
      rw [← e1]
      exact hdep e he e2
    · refine hagr.eval0 (fun j o hj ho e => ?_)
      rw [hdst j hj o ho] at e
      have : d + j = t := Option.some.inj e
      subst this
      exact absurd ht (by show ¬ d + j < d; omega)
  · refine ⟨putN_defers a0 d val n, putN_size a0 d val n, fun j o t hj ho _ ht => ?_, fun t ht => ?_⟩
    · rw [hdst j hj o ho] at ht
      have e : d + j = t := Option.some.inj ht
      subst e
      rw [putN_get a0 d val _ n hsz, if_pos (by omega), show d + j - d = j by omega]
    · rw [putN_get a0 d val _ n hsz, if_neg]
      rintro ⟨q1, q2⟩
      obtain ⟨t, rfl⟩ : ∃ t' : Nat, t' = t := ⟨t, rfl⟩
      have hjs : t - d < ops.size := by omega
      refine ht (t - d) (ops[t - d]) (by omega) (Array.getElem?_eq_getElem hjs) ?_ ?_
      · rw [Array.getD_eq_getD_getElem?, listedN_get hjs]
        simp
        omega
      · rw [hdst (t - d) (by omega) _ (Array.getElem?_eq_getElem hjs)]
        exact congrArg some (show d + (t - d) = t by omega)
  · rintro t w1 ⟨v1, r1, n1, g1⟩
    rw [one_way (ops.size - n) n t h3 (by omega)]
    exact hN v1 w1 (ops[n]'h4) (Array.getElem?_eq_getElem h4) (fun y => by simp [Region.wanted, hgd n (by omega) _ (Array.getElem?_eq_getElem h4)]) r1 n1 g1

theorem fine_ops {m : Nat} (h : ((ops.extract 0 m).all fun o => plainOp Tryd.prog true o.op || askCall plainFs plainXs o.op) = true) {i : Nat} (hi : i < m) {o : Oper} (ho : ops[i]? = some o) : fineOp Tryd.prog true LT o := by
  refine fineOp_ask callT extT ((Array.all_eq_true_iff_forall_mem.1 h) o ?_)
  have : (ops.extract 0 m)[i]? = some o := by
    have hs := (Array.getElem?_eq_some_iff.1 ho).1
    rw [Array.getElem?_extract, if_pos (by omega)]
    simpa using ho
  exact Array.mem_of_getElem? this
theorem op_at {i : Nat} {o : Oper} {p : Op} (h : (ops[i]?).map (·.op) = some p) (ho : ops[i]? = some o) : o.op = p := by
  rw [ho] at h
  exact Option.some.inj h
theorem dst_at {i : Nat} {o : Oper} {p : Option Tmp} (h : (ops[i]?).map (·.dst) = some p) (ho : ops[i]? = some o) : o.dst = p := by
  rw [ho] at h
  exact Option.some.inj h
/-- An operation that reads, ahead of the call. -/
theorem op_reads {i : Nat} {o : Oper} {rest : List Nat} {a : Act} {v1 w1 : World} (ho : ops[i]? = some o) (hw : Region.wanted o (yielded ops a.tmps) = true) (hk : b.kind ≠ .early) {p : Op} (hp : (ops[i]?).map (·.op) = some p) (hf : fineOp Tryd.prog true LT o) (hr : Rel z v1 w1) (hn : NoRow Ch v1) {x : Value} (hx : val i = x)
    (hrun : ∀ o' : Oper, o'.op = p → (execOp a.eval o').run Tryd.prog v1 = .ok (.value x) v1)
    (hk2 : ∀ v2 w2, Rel z v2 w2 → NoRow Ch v2 → Grows v1 v2 → GoesI Tryd.prog main (DT (ScZ z) Ch) Stop (G (b.at (a.put o.dst (val i)) (.inRegion ops rest :: k)) cs) w2) :
    GoesI Tryd.prog main (DT (ScZ z) Ch) Stop (G (b.at a (.inRegion ops (i :: rest) :: k)) cs) w1 := by
  have e : o.op = p := by
    rw [ho] at hp
    exact Option.some.inj hp
  refine goesI_opZ ho hw hk hf hr hn (hrun o e) rfl (fun w2 hr2 hn2 => ?_)
  rw [← hx]
  exact hk2 v1 w2 hr2 hn2 (grefl v1)
/-- A call that does not wait, ahead of it. -/
theorem op_calls {i : Nat} {o : Oper} {rest : List Nat} {a : Act} {v1 w1 : World} {f : FuncId} {fn : Func} {c : Code} {xs : Array Operand} {ats : Array TypeId} {args : Array Value} (ho : ops[i]? = some o) (hw : Region.wanted o (yielded ops a.tmps) = true) (hk : b.kind ≠ .early) (hp : (ops[i]?).map (·.op) = some (.call { callee := .value (.func f), args := xs, argTypes := ats })) (ha : xs.map a.eval = args)
    (hf : Tryd.prog.funcs[f]? = some fn) (hname : (fn.name == "runtime.NumGoroutine") = false) (hb : fn.body = some c) (hc : fineCode Tryd.prog true LT c)
    (hres : ∀ tmps, ∃ v, (∀ w, (results fn tmps).run Tryd.prog w = .ok v w) ∧ ∀ w, (results fn tmps).events Tryd.prog w #[] = #[])
    (hr : Rel z v1 w1) (hn : NoRow Ch v1) {x : Value} (hx : val i = x)
    (hwp : ∀ τ, c.wp Tryd.prog (bodyPost Tryd.prog fn (fun e w' => ∃ v, e = .returned v ∧ v = x ∧ Grows v1 w')) { tmps := args ++ Array.replicate (fn.ntmps - args.size) undef, defers := [] } (onTape v1 τ 0))
    (hk2 : ∀ v2 w2, Rel z v2 w2 → NoRow Ch v2 → Grows v1 v2 → GoesI Tryd.prog main (DT (ScZ z) Ch) Stop (G (b.at (a.put o.dst (val i)) (.inRegion ops rest :: k)) cs) w2) :
    GoesI Tryd.prog main (DT (ScZ z) Ch) Stop (G (b.at a (.inRegion ops (i :: rest) :: k)) cs) w1 := by
  have e : o.op = .call { callee := .value (.func f), args := xs, argTypes := ats } := by
    rw [ho] at hp
    exact Option.some.inj hp
  refine goesI_call (f := f) (fn := fn) (args := args) hE fineT ho hw hk e ha hf hname hb hc hres hr hn (R := fun r u => r = x ∧ Grows v1 u) hwp (fun r u w2 hR hr2 hn2 => ?_)
  rw [hR.1, ← hx]
  exact hk2 u w2 hr2 hn2 hR.2
end
end Go.Proofs.YtaofjdoielmobaaDoor.Gen
