/- LatchAlone is true of the program at this commit: by one free thread alone, of a latch of no world, Down and Wait answer as a number says that is counted down, whatever the number and the calls; no conditions. Part 11 of 35. (Joined, by program, of: Load, Cas, Lift25, Notes, Call5, Freeze.) -/
import Derived.Test.YtehingmdmijedaaLatchAlone10

/- A thread of a world loads what stands in a cell (cell.Load), in company. (Made by wip/tools/genops.py.) -/
set_option linter.unusedSimpArgs false
set_option linter.unusedVariables false
namespace Go.Proofs.Ytehingmdmijedaa
open Go Go.Lift Go.Conc Go.RowKit

theorem set_same {α : Type} {l : List α} {j : Nat} {c : α} (h : l[j]? = some c) : l.set j c = l := by
  apply List.ext_getElem?
  intro i
  rw [List.getElem?_set]
  by_cases e : j = i
  · subst e; rw [if_pos rfl, if_pos (List.getElem?_eq_some_iff.1 h).1, h]
  · rw [if_neg e]
def effLoad (x : Int) : (Int × Int) × Int × Value := ((x, x), x, I x)
noncomputable def rest17 : Code := seq2 (seq2 (Try.f26.body.getD .skip))
theorem fine17 : fineCode Try.prog true LT rest17 := fineCode_ask callT extT (by kernel_rfl)

set_option maxHeartbeats 1000000 in
set_option maxRecDepth 100000 in
theorem tail17 {z : Nat → Option Nat} {S : TS} {K : List (Nat × Int)} {v : World} {i j cb : Nat} {t : Thr} {x : Int} (hm : Mem z S K v) (ht : S.thr[i]? = some t) (hK : K[j]? = some (cb, x)) (hn : (S.n + 1) * 40 ≤ 140737488355328) (a6 a7 a8 a9 a10 a11 : Value) :
    rest17.wp Try.prog (bodyPost Try.prog Try.f26 (fun e w' => ∃ r, e = .returned r ∧ (r = (effLoad x).2.2 ∧ ∃ tv, Evo z S K v (didS S tv i t (effLoad x).1.1 (effLoad x).1.2) (K.set j (cb, (effLoad x).2.1)) w')))
      { tmps := #[Pt cb 0, Pt t.tb 0, undef, undef, I 0, undef, a6, a7, a8, a9, a10, a11, undef, undef, undef, undef, undef, undef, undef, undef, undef], defers := [] } v := by
  obtain ⟨_, c1, f1⟩ := hm.cells hK
  have HM : Hid (Mem z S K v) := ⟨hm⟩
  have HW : Hid (Evo z S K v S (K.set j (cb, x)) v) := ⟨by rw [set_same hK]; exact Evo.refl hm⟩
  clear hm hK
  simp only at c1 f1
  show Code.wp Try.prog (seq2 (seq2 (Try.f26.body.getD .skip))) _ _ _
  unfold Try.f26 seq2
  simp only [Option.getD_some]
  go_wp2_with (first
    | (go_at_call 58; refine ((body29 cb x _ c1).calls Try.func58 rfl).mono ?_; rintro e w1 ⟨_, rfl, rfl, rfl⟩)
    | (go_at_call 56; refine ((body27 HW.out.mem.rep ht x x hn).calls Try.func56 rfl).mono ?_; rintro e w2 ⟨_, rfl, rfl, tv, hev⟩))
  go_ret
  exact ⟨_, rfl, rfl, tv, HW.out.did hev⟩

theorem res17 (tmps : Array Value) : ∃ v, (∀ w, (results Try.f26 tmps).run Try.prog w = .ok v w) ∧ ∀ w, (results Try.f26 tmps).events Try.prog w #[] = #[] :=
  ⟨_, fun _ => results_tmp rfl _ _ _, fun _ => by simp [results, go_sem]⟩

set_option maxHeartbeats 1000000 in
set_option maxRecDepth 100000 in
theorem load_goes {z : Nat → Option Nat} {Ch : Nat → Prop} {Stop : Goroutine → World → Prop} {h : Nat} {cont : Addr → Value} {S : TS} {K : List (Nat × Int)} {v w : World} {i j cb : Nat} {t : Thr} (x : Int) (cs : List Frame) (Hm : Goroutine → Prop) {bc : Frame} {ac : Act} {ops : Array Oper} {q : Nat} {rest : List Nat} {oc : Oper} {k : List Item} (hoc : ops[q]? = some oc)
    (hH : ∀ g, OpBack (h == 0) i j cb t.tb 1 effLoad (fun r => G (bc.at (ac.put oc.dst r) (.inRegion ops rest :: k)) cs) g → Hm g)
    (hvw : Rel z v w) (hn : NoRow Ch v) (hm : Mem z S K v) (ht : S.thr[i]? = some t) (hK : K[j]? = some (cb, x)) (hz : z t.tb = some 2) (hcont : cont ⟨t.tb, 2, none⟩ = .chan (some t.gc))
    (hstop : ∀ g w', GiveT z cont h S.bk t.gc Hm (Then z Ch S K v (waiting S i t 1 1 j) K) g w' → Stop g w') (code : Code) (hc : Try.f26.body = some code) :
    GoesI Try.prog (h == 0) (DT (ScZ z) Ch) Stop (G ((base 26).at { tmps := #[Pt cb 0, Pt t.tb 0] ++ Array.replicate 19 undef, defers := [] } [.code code]) (bc.at ac (.inRegion ops (q :: rest) :: k) :: cs)) w := by
  obtain rfl := Option.some.inj hc
  clear hc
  have e0 : w.cell? ⟨cb, 0, none⟩ = some (I j) := by rw [hvw.cell?]; exact (hm.cells hK).1
  simp only [Array.replicate_succ, Array.replicate_zero, List.push_toArray, List.append_toArray, List.nil_append, List.cons_append]
  have HM : Hid (Mem z S K v) := ⟨hm⟩
  clear hm
  refine goesI_seq (dt_idle _ _) ?_
  refine goesI_region (dt_idle _ _) ?_
  simp only [List.size_toArray, List.length_cons, List.length_nil, Nat.reduceAdd, Nat.zero_add, List.range, List.range.loop]
  (refine goesI_oper rfl rfl (by decide) (fun d K hK => ?_)
   go_simp
   refine hK _ _ ⟨dt_reads (fun e he => ?_), GoesI.at ?_ d⟩
   · have hm := mem_listed he
     simp [go_sem, *] at hm
   clear hK K)
  refine goesI_regionEnd (dt_idle _ _) ?_
  refine goesI_seq (dt_idle _ _) ?_
  refine goesI_region (dt_idle _ _) ?_
  simp only [List.size_toArray, List.length_cons, List.length_nil, Nat.reduceAdd, Nat.zero_add, List.range, List.range.loop]
  iterate 5
    (refine goesI_oper rfl rfl (by decide) (fun d K hK => ?_)
     go_simp
     refine hK _ _ ⟨dt_reads (fun e he => ?_), GoesI.at ?_ d⟩
     · have hm := mem_listed he
       simp [go_sem, *] at hm
       try exact ⟨_, _, hm⟩
     clear hK K)
  refine goesI_into (f := 55) (fn := Try.f55) (args := #[Pt t.tb 0, I j, I 1]) (dt_idle _ _) rfl rfl (by decide) rfl (by simp [Act.eval]) Try.func55 (by decide) rfl ?_
  refine turn_mem 1 j _ Hm rfl (fun g hg => hH g ?_) hvw hn HM.out ht hz hcont hstop _ rfl
  intro z1 Ch1 St yy w1 v1 S1 K1 t1 x1 r1 n1 m1 h1 htb hop hce hK1 hn1 hk
  refine hg _ St yy w1 (dt_idle _ _) ?_
  refine goesI_regionEnd (dt_idle _ _) ?_
  rw [← htb]
  refine goesI_rest (f := 26) (fn := Try.f26) (c := rest17) hE fineT r1 n1 Try.func26 fine17 rfl hoc res17 (fun τ => ?_) (fun r v' w' hR hr' hn' => ?_) (R := fun r w' => r = (effLoad x1).2.2 ∧ ∃ tv, Evo z1 S1 K1 v1 (didS S1 tv i t1 (effLoad x1).1.1 (effLoad x1).1.2) (K1.set j (cb, (effLoad x1).2.1)) w')
  · refine wp_mono (tail17 (m1.same (v' := onTape v1 τ 0) rfl) h1 hK1 hn1 _ _ _ _ _ _) (bp_mono fun r u hq => ⟨hq.1, hq.2.choose, hq.2.choose_spec.base rfl rfl rfl⟩)
  · obtain ⟨rfl, tv, he⟩ := hR
    exact hk v' w' tv hr' hn' he
end Go.Proofs.Ytehingmdmijedaa

/- A thread of a world puts another number into a cell, if one stands there (cell.Cas), in company. (Made by wip/tools/genops.py.) -/
set_option linter.unusedSimpArgs false
set_option linter.unusedVariables false
namespace Go.Proofs.Ytehingmdmijedaa
open Go Go.Lift Go.Conc Go.RowKit

def effCas (a y x : Int) : (Int × Int) × Int × Value := if x = a then ((a, y), y, .bool true) else ((x, x), x, .bool false)
noncomputable def rest14 : Code := seq2 (seq2 (Try.f23.body.getD .skip))
theorem fine14 : fineCode Try.prog true LT rest14 := fineCode_ask callT extT (by kernel_rfl)

set_option maxHeartbeats 1000000 in
set_option maxRecDepth 100000 in
theorem tail14 {z : Nat → Option Nat} {S : TS} {K : List (Nat × Int)} {v : World} {i j cb : Nat} {t : Thr} {x : Int} {a y : Int} (hm : Mem z S K v) (ht : S.thr[i]? = some t) (hK : K[j]? = some (cb, x)) (hn : (S.n + 1) * 40 ≤ 140737488355328) (a10 a11 a12 a13 a14 a15 : Value) :
    rest14.wp Try.prog (bodyPost Try.prog Try.f23 (fun e w' => ∃ r, e = .returned r ∧ (r = (effCas a y x).2.2 ∧ ∃ tv, Evo z S K v (didS S tv i t (effCas a y x).1.1 (effCas a y x).1.2) (K.set j (cb, (effCas a y x).2.1)) w')))
      { tmps := #[Pt cb 0, Pt t.tb 0, I a, I y, undef, undef, undef, undef, .bool false, undef, a10, a11, a12, a13, a14, a15, undef, undef, undef, undef, undef, undef, undef, undef, undef, undef, undef, undef, undef, undef, undef, undef, undef, undef], defers := [] } v := by
  obtain ⟨_, c1, f1⟩ := hm.cells hK
  have HM : Hid (Mem z S K v) := ⟨hm⟩
  by_cases hx : x = a
  · subst hx
    have HW : Hid (Evo z S K v S (K.set j (cb, y)) (v.setCell ⟨cb, 1, none⟩ (I y))) := ⟨Evo.write hm hK _⟩
    have HQ : Hid (effCas x y x = ((x, y), y, .bool true)) := ⟨by simp [effCas]⟩
    rw [HQ.out]
    clear hm hK
    simp only at c1 f1
    show Code.wp Try.prog (seq2 (seq2 (Try.f23.body.getD .skip))) _ _ _
    unfold Try.f23 seq2
    simp only [Option.getD_some]
    go_wp2_with (first
      | (go_at_call 57; refine ((body28 cb x y _ c1 f1).calls Try.func57 rfl).mono ?_; rintro e w1 ⟨_, rfl, rfl, rfl⟩)
      | (go_at_call 56; refine ((body27 HW.out.mem.rep ht x y hn).calls Try.func56 rfl).mono ?_; rintro e w2 ⟨_, rfl, rfl, tv, hev⟩))
    go_ret
    exact ⟨_, rfl, rfl, tv, HW.out.did hev⟩
  have HW : Hid (Evo z S K v S (K.set j (cb, x)) v) := ⟨by rw [set_same hK]; exact Evo.refl hm⟩
  have HQ : Hid (effCas a y x = ((x, x), x, .bool false)) := ⟨by simp [effCas, hx]⟩
  rw [HQ.out]
  clear hm hK
  simp only at c1 f1
  show Code.wp Try.prog (seq2 (seq2 (Try.f23.body.getD .skip))) _ _ _
  unfold Try.f23 seq2
  simp only [Option.getD_some]
  go_wp2_with (first
    | (go_at_call 57; refine ((body28n cb x a y _ c1 f1 hx).calls Try.func57 rfl).mono ?_; rintro e w1 ⟨_, rfl, rfl, rfl⟩)
    | (go_at_call 58; refine ((body29 cb x _ c1).calls Try.func58 rfl).mono ?_; rintro e w1 ⟨_, rfl, rfl, rfl⟩)
    | (go_at_call 56; refine ((body27 HW.out.mem.rep ht x x hn).calls Try.func56 rfl).mono ?_; rintro e w2 ⟨_, rfl, rfl, tv, hev⟩))
  go_ret
  exact ⟨_, rfl, rfl, tv, HW.out.did hev⟩

theorem res14 (tmps : Array Value) : ∃ v, (∀ w, (results Try.f23 tmps).run Try.prog w = .ok v w) ∧ ∀ w, (results Try.f23 tmps).events Try.prog w #[] = #[] :=
  ⟨_, fun _ => results_tmp rfl _ _ _, fun _ => by simp [results, go_sem]⟩

set_option maxHeartbeats 1000000 in
set_option maxRecDepth 100000 in
theorem cas_goes {z : Nat → Option Nat} {Ch : Nat → Prop} {Stop : Goroutine → World → Prop} {h : Nat} {cont : Addr → Value} {S : TS} {K : List (Nat × Int)} {v w : World} {i j cb : Nat} {t : Thr} (a y : Int) (x : Int) (cs : List Frame) (Hm : Goroutine → Prop) {bc : Frame} {ac : Act} {ops : Array Oper} {q : Nat} {rest : List Nat} {oc : Oper} {k : List Item} (hoc : ops[q]? = some oc)
    (hH : ∀ g, OpBack (h == 0) i j cb t.tb 4 (effCas a y) (fun r => G (bc.at (ac.put oc.dst r) (.inRegion ops rest :: k)) cs) g → Hm g)
    (hvw : Rel z v w) (hn : NoRow Ch v) (hm : Mem z S K v) (ht : S.thr[i]? = some t) (hK : K[j]? = some (cb, x)) (hz : z t.tb = some 2) (hcont : cont ⟨t.tb, 2, none⟩ = .chan (some t.gc))
    (hstop : ∀ g w', GiveT z cont h S.bk t.gc Hm (Then z Ch S K v (waiting S i t 1 4 j) K) g w' → Stop g w') (code : Code) (hc : Try.f23.body = some code) :
    GoesI Try.prog (h == 0) (DT (ScZ z) Ch) Stop (G ((base 23).at { tmps := #[Pt cb 0, Pt t.tb 0, I a, I y] ++ Array.replicate 30 undef, defers := [] } [.code code]) (bc.at ac (.inRegion ops (q :: rest) :: k) :: cs)) w := by
  obtain rfl := Option.some.inj hc
  clear hc
  have e0 : w.cell? ⟨cb, 0, none⟩ = some (I j) := by rw [hvw.cell?]; exact (hm.cells hK).1
  simp only [Array.replicate_succ, Array.replicate_zero, List.push_toArray, List.append_toArray, List.nil_append, List.cons_append]
  have HM : Hid (Mem z S K v) := ⟨hm⟩
  clear hm
  refine goesI_seq (dt_idle _ _) ?_
  refine goesI_region (dt_idle _ _) ?_
  simp only [List.size_toArray, List.length_cons, List.length_nil, Nat.reduceAdd, Nat.zero_add, List.range, List.range.loop]
  (refine goesI_oper rfl rfl (by decide) (fun d K hK => ?_)
   go_simp
   refine hK _ _ ⟨dt_reads (fun e he => ?_), GoesI.at ?_ d⟩
   · have hm := mem_listed he
     simp [go_sem, *] at hm
   clear hK K)
  refine goesI_regionEnd (dt_idle _ _) ?_
  refine goesI_seq (dt_idle _ _) ?_
  refine goesI_region (dt_idle _ _) ?_
  simp only [List.size_toArray, List.length_cons, List.length_nil, Nat.reduceAdd, Nat.zero_add, List.range, List.range.loop]
  iterate 5
    (refine goesI_oper rfl rfl (by decide) (fun d K hK => ?_)
     go_simp
     refine hK _ _ ⟨dt_reads (fun e he => ?_), GoesI.at ?_ d⟩
     · have hm := mem_listed he
       simp [go_sem, *] at hm
       try exact ⟨_, _, hm⟩
     clear hK K)
  refine goesI_into (f := 55) (fn := Try.f55) (args := #[Pt t.tb 0, I j, I 4]) (dt_idle _ _) rfl rfl (by decide) rfl (by simp [Act.eval]) Try.func55 (by decide) rfl ?_
  refine turn_mem 4 j _ Hm rfl (fun g hg => hH g ?_) hvw hn HM.out ht hz hcont hstop _ rfl
  intro z1 Ch1 St yy w1 v1 S1 K1 t1 x1 r1 n1 m1 h1 htb hop hce hK1 hn1 hk
  refine hg _ St yy w1 (dt_idle _ _) ?_
  refine goesI_regionEnd (dt_idle _ _) ?_
  rw [← htb]
  refine goesI_rest (f := 23) (fn := Try.f23) (c := rest14) hE fineT r1 n1 Try.func23 fine14 rfl hoc res14 (fun τ => ?_) (fun r v' w' hR hr' hn' => ?_) (R := fun r w' => r = (effCas a y x1).2.2 ∧ ∃ tv, Evo z1 S1 K1 v1 (didS S1 tv i t1 (effCas a y x1).1.1 (effCas a y x1).1.2) (K1.set j (cb, (effCas a y x1).2.1)) w')
  · refine wp_mono (tail14 (m1.same (v' := onTape v1 τ 0) rfl) h1 hK1 hn1 _ _ _ _ _ _) (bp_mono fun r u hq => ⟨hq.1, hq.2.choose, hq.2.choose_spec.base rfl rfl rfl⟩)
  · obtain ⟨rfl, tv, he⟩ := hR
    exact hk v' w' tv hr' hn' he
end Go.Proofs.Ytehingmdmijedaa

/- A return whose results lie in memory; a step that writes in one block that nobody sits by. -/
namespace Go.Lift
open Go.Conc
section
variable {P : Program} {main : Bool} {Stop : Goroutine → World → Prop} {k : List Item} {cs : List Frame} {w : World} {ops : Array Oper} {i : Nat} {rest : List Nat} {o : Oper}

/-- A return: what the results read in the lone world is what they read in company. -/
theorem goesI_leaveZ {z : Nat → Option Nat} {Ch : Nat → Prop} {f : FuncId} {fn : Func} {a : Act} {todo : List Item} {bc : Frame} {ac : Act} {x : Value} {v : World} (hvw : Rel z v w) (hn : NoRow Ch v) (hf : P.funcs[f]? = some fn) (ha : a.defers = []) (ho : ops[i]? = some o)
    (hx : (results fn a.tmps).run P v = .ok x v)
    (h : ∀ w', Rel z v w' → GoesI P main (DT (ScZ z) Ch) Stop (G (bc.at (ac.put o.dst x) (.inRegion ops rest :: k)) cs) w') :
    GoesI P main (DT (ScZ z) Ch) Stop (G { (base f).at a todo with mode := .returning } (bc.at ac (.inRegion ops (i :: rest) :: k) :: cs)) w := by
  have hT : (results fn a.tmps).runT P v #[] = (.ok x v, (results fn a.tmps).events P v #[]) := by
    have := runT_fst (P := P) (results fn a.tmps) v #[]
    rw [hx] at this
    exact Prod.ext this rfl
  have hfin : (bc.at ac (.inRegion ops (i :: rest) :: k)).finish x = bc.at (ac.put o.dst x) (.inRegion ops rest :: k) := by rw [Frame.finish_at, ho]; rfl
  have one : ∀ d, ∃ w', Out z true v v (w.at d) w' ∧ (∀ e ∈ seen P f ((results fn a.tmps).events P (w.at d) #[]), Okay true e ∧ Spares z w' e) ∧
      stepG P main (G { (base f).at a todo with mode := .returning } (bc.at ac (.inRegion ops (i :: rest) :: k) :: cs)) (w.at d) = .go (G (bc.at (ac.put o.dst x) (.inRegion ops rest :: k)) cs) w' (seen P f ((results fn a.tmps).events P (w.at d) #[])) := fun d => by
    obtain ⟨w', h1, h2, h3⟩ := sim z _ (calm_results (P := P) (wr := true) fn a.tmps) v (w.at d) #[] x v _ (hvw.re rfl rfl rfl rfl rfl rfl) hT (fun i hi => absurd hi (by omega))
    have e1 : (results fn a.tmps).run P (w.at d) = .ok x w' := by rw [← runT_fst (P := P) _ (w.at d) #[], h1]
    have e2 : (results fn a.tmps).events P (w.at d) #[] = (results fn a.tmps).events P v #[] := by
      show ((results fn a.tmps).runT P (w.at d) #[]).2 = _
      rw [h1]
    refine ⟨w', h2, fun e he => ?_, ?_⟩
    · rw [e2] at he
      rcases h3 e (mem_seen he) with h | h
      · simp at h
      · exact h
    · have := stepG_back (P := P) (main := main) (b := base f) (cs := cs) (todo := todo) (c := bc.at ac (.inRegion ops (i :: rest) :: k)) rfl ha hf e1
      rw [hfin] at this
      exact this
  exact .step rfl _ (fun d => (one d).choose) _ (fun d => (one d).choose_spec.2.2) (fun d => dt_of_z v v (w.at d) _ _ hn (hvw.re rfl rfl rfl rfl rfl rfl) (one d).choose_spec.1 (one d).choose_spec.2.1) (fun d => h _ (one d).choose_spec.1.rel)

/-- The rest of a function, by its lone walk, and back to its caller's operation, wherever its results lie. -/
theorem goesI_restZ {z : Nat → Option Nat} {Ch : Nat → Prop} {L : FuncId → Prop} (hE : ∀ fr cs dy g w, ∃ o w', early P fr cs dy g w = .ended o w') (hL : ∀ g, L g → fineFn P true L g)
    {f : FuncId} {fn : Func} {c : Code} {act : Act} {bc : Frame} {ac : Act} {R : Value → World → Prop} {v0 : World} (hvw : Rel z v0 w) (hn : NoRow Ch v0) (hf : P.funcs[f]? = some fn) (hc : fineCode P true L c) (ha : act.defers = []) (ho : ops[i]? = some o)
    (hwp : ∀ τ, c.wp P (bodyPost P fn (fun e w' => ∃ v, e = .returned v ∧ R v w')) act (onTape v0 τ 0))
    (h : ∀ v v' w', R v v' → Rel z v' w' → NoRow Ch v' → GoesI P main (DT (ScZ z) Ch) Stop (G (bc.at (ac.put o.dst v) (.inRegion ops rest :: k)) cs) w') :
    GoesI P main (DT (ScZ z) Ch) Stop (G ((base f).at act [.code c]) (bc.at ac (.inRegion ops (i :: rest) :: k) :: cs)) w := by
  refine (lift_code (P := P) (z := z) (wr := true) (L := L) (D := DT (ScZ z) Ch) (I := NoRow Ch) (main := main) (b := base f) (k := []) (cs := bc.at ac (.inRegion ops (i :: rest) :: k) :: cs) hE hL noRow_keeps
    (fun v v' w w' es hi hr ho he => dt_of_z v v' w w' es hi hr ho he) hvw hc ha (by simp [base]) hn hwp ?_).then ?_
  · intro e a w hq
    cases e with
    | normal => exact .inl rfl
    | ret => exact .inr rfl
    | panic ch => obtain ⟨_, v, hv, _⟩ := hq; cases hv
    | outgrown => obtain ⟨v, hv, _⟩ := hq; cases hv
    | _ => exact hq.elim
  · rintro g w' ⟨a', v', hr, hiv, hd, ⟨⟨_, x, hx, y, hy, hR⟩, rfl⟩ | ⟨⟨_, x, hx, y, hy, hR⟩, todo, rfl⟩⟩
    · cases hy
      refine goesI_end (dt_idle _ _) ?_
      exact goesI_leaveZ hr hiv hf hd ho hx (fun w'' hr'' => h x v' w'' hR hr'' hiv)
    · cases hy
      exact goesI_leaveZ hr hiv hf hd ho hx (fun w'' hr'' => h x v' w'' hR hr'' hiv)

/-- A step that touches one block alone, by which nobody sits. -/
theorem dt_block {Sc : Addr → Prop} {Ch : Nat → Prop} {w' : World} {es : Array Event} {B : Nat} (hB : ∀ a, Sc a → a.block ≠ B) (hC : ∀ c, Ch c → c ≠ B) (hw : ∀ b, b ≠ B → w'.heap[b]? = w.heap[b]?) (he : ∀ e ∈ es, ∃ a, e.loc = .cell a ∧ a.block = B) : DTw Sc Ch w w' es := by
  refine ⟨fun a x ha hx => ?_, fun c o hc ho => by rw [hw c (hC c hc)]; exact ho, fun e h => ?_⟩
  · rw [World.cell?_of_block (hw a.block (hB a ha))]; exact hx
  · obtain ⟨a, h1, h2⟩ := he e h
    exact ⟨.inl ⟨a, h1, fun h => nomatch h⟩, fun a' h3 _ hs => by rw [h1] at h3; cases h3; exact hB a hs h2⟩
end
end Go.Lift

/- Something that is no step is noted (turn.Note), walked alone; memory that only grows. -/
set_option linter.unusedSimpArgs false
namespace Go.Proofs.Ytehingmdmijedaa
open Go Go.Lift Go.Conc Go.RowKit

set_option maxHeartbeats 1000000 in
set_option maxRecDepth 100000 in
theorem body43 {z : Nat → Option Nat} {S : TS} {v : World} (h : Rep z S v) {i : Nat} {t : Thr} (ht : S.thr[i]? = some t) (op a b : Int) (hn : (S.n + 1) * 40 ≤ 140737488355328) :
    Body Try.f95 #[Pt t.tb 0, I op, I a, I b] v (fun r v' => r = .tuple #[] ∧ ∃ tv, Ev z S v (noted S tv i op (-1) a b) v') := by
  intro code hb
  obtain rfl := Option.some.inj hb
  clear hb
  simp only [Try.ntmps95, List.size_toArray, List.length_cons, List.length_nil, Nat.reduceAdd, Nat.reduceSub, Array.replicate_succ, Array.replicate_zero, List.push_toArray, List.append_toArray, List.nil_append, List.cons_append]
  obtain ⟨c0, _, _, _, _, _, _⟩ := h.cell ht
  have HR : Hid (Rep z S v) := ⟨h⟩
  clear h
  go_wp2_with (go_at_call 80; refine ((note_rep HR.out ht op (-1) a b hn).calls Try.func80 rfl).mono ?_; rintro e w1 ⟨_, rfl, rfl, tv, hev⟩)
  exact ⟨rfl, _, results_none rfl _ _ _, _, rfl, rfl, tv, hev⟩

section
variable {z : Nat → Option Nat} {S : TS} {K : List (Nat × Int)} {v v' : World}
/-- All that was there is as it was. -/
structure Grows (v v' : World) : Prop where
  size : v.heap.size ≤ v'.heap.size
  old : ∀ b, b < v.heap.size → v'.heap[b]? = v.heap[b]?
  os : v'.os = v.os
  output : v'.output = v.output
theorem Grows.cell {a : Addr} {x : Value} (h : Grows v v') (hc : v.cell? a = some x) : v'.cell? a = some x := by
  rw [World.cell?_of_block (h.old a.block (World.block_lt_of_cell? _ _ hc))]; exact hc
theorem Mem.grows (h : Mem z S K v) (g : Grows v v') : Evo z S K v S K v' := by
  have hst : ∀ b, Own S K b → v'.heap[b]? = v.heap[b]? := fun b hb => g.old b (h.lt hb)
  have hits : ∀ k b, blk S k = some b → v'.heap[b]? = v.heap[b]? := fun k b hk => hst b (.inl ⟨k, hk⟩)
  refine ⟨⟨⟨by rw [hits 0 S.wb rfl]; exact h.rep.wor, fun i t ht => by rw [hits (i + 5) t.tb (by simp [blk, ht])]; exact h.rep.thr i t ht, own_stay (fun b hb => hits 3 b hb) h.rep.own, own_stay (fun b hb => hits 1 b hb) h.rep.chg, own_stay (fun b hb => hits 2 b hb) h.rep.ths, own_stay (fun b hb => hits 4 b hb) h.rep.sch,
      Nat.le_trans h.rep.bs g.size, h.rep.apart, h.rep.kept⟩, fun j c hc => by rw [hst c.1 (.inr ⟨j, c, hc, rfl⟩)]; exact h.cel j c hc, h.far, h.inj, h.len⟩, rfl, ⟨g.os, g.output, g.size, fun b hb _ => g.old b hb⟩, fun b hb => .inl hb⟩
end
end Go.Proofs.Ytehingmdmijedaa

/- A call of a script that adds (cell.call with Op 5), in company. -/
set_option linter.unusedSimpArgs false
set_option linter.unusedVariables false
namespace Go.Proofs.Ytehingmdmijedaa
open Go Go.Lift Go.Conc Go.RowKit

/-- As Evo; besides, a thread's own memory may have been written. -/
structure EvoP (Pr : Nat → Prop) (z : Nat → Option Nat) (S : TS) (K : List (Nat × Int)) (v : World) (S' : TS) (K' : List (Nat × Int)) (v' : World) : Prop where
  mem : Mem z S' K' v'
  blks : K'.map (·.1) = K.map (·.1)
  fr : Fr (fun b => Own S K b ∨ Pr b) v v'
  new : ∀ b, Own S' K' b → Own S K b ∨ v.heap.size ≤ b

section
variable {Pr : Nat → Prop} {z : Nat → Option Nat} {S S' S'' : TS} {K K' K'' : List (Nat × Int)} {v v' v'' : World}
theorem Evo.toP (h : Evo z S K v S' K' v') : EvoP Pr z S K v S' K' v' := ⟨h.mem, h.blks, h.fr.mono (fun _ _ hx => .inl hx), h.new⟩
theorem EvoP.trans (h : EvoP Pr z S K v S' K' v') (k : EvoP Pr z S' K' v' S'' K'' v'') : EvoP Pr z S K v S'' K'' v'' := by
  refine ⟨k.mem, k.blks.trans h.blks, ⟨k.fr.os.trans h.fr.os, k.fr.output.trans h.fr.output, Nat.le_trans h.fr.size k.fr.size, fun x hx hs => ?_⟩, fun b hb => ?_⟩
  · rw [k.fr.block x (Nat.lt_of_lt_of_le hx h.fr.size) (fun hi => hi.elim (fun hi => (h.new x hi).elim (fun h => hs (.inl h)) (fun hle => by omega)) (fun hp => hs (.inr hp))), h.fr.block x hx hs]
  · rcases k.new b hb with h1 | h1
    · exact h.new b h1
    · exact .inr (Nat.le_trans h.fr.size h1)
theorem EvoP.base {u : World} (h : EvoP Pr z S K u S' K' v') (e1 : u.heap = v.heap) (e2 : u.os = v.os) (e3 : u.output = v.output) : EvoP Pr z S K v S' K' v' :=
  ⟨h.mem, h.blks, ⟨h.fr.os.trans e2, h.fr.output.trans e3, by rw [← e1]; exact h.fr.size, fun b hb hs => by rw [← e1]; exact h.fr.block b (by rw [e1]; exact hb) hs⟩, fun b hb => by rw [← e1]; exact h.new b hb⟩
theorem EvoP.wider {Pr' : Nat → Prop} (hp : ∀ b, b < v.heap.size → Pr b → Pr' b) (h : EvoP Pr z S K v S' K' v') : EvoP Pr' z S K v S' K' v' :=
  ⟨h.mem, h.blks, h.fr.mono (fun b hb hx => hx.imp id (hp b hb)), h.new⟩
/-- A block that is neither the world's nor a cell's is written. -/
theorem Mem.other (h : Mem z S K v) {B : Nat} (hB : ¬ Own S K B) (hw : ∀ b, b ≠ B → v'.heap[b]? = v.heap[b]?) (hs : v'.heap.size = v.heap.size) (ho : v'.os = v.os) (hu : v'.output = v.output) : EvoP (· = B) z S K v S K v' := by
  have hst : ∀ b, Own S K b → v'.heap[b]? = v.heap[b]? := fun b hb => hw b (fun e => hB (e ▸ hb))
  have hits : ∀ k b, blk S k = some b → v'.heap[b]? = v.heap[b]? := fun k b hk => hst b (.inl ⟨k, hk⟩)
  refine ⟨⟨⟨by rw [hits 0 S.wb rfl]; exact h.rep.wor, fun i t ht => by rw [hits (i + 5) t.tb (by simp [blk, ht])]; exact h.rep.thr i t ht, own_stay (fun b hb => hits 3 b hb) h.rep.own, own_stay (fun b hb => hits 1 b hb) h.rep.chg, own_stay (fun b hb => hits 2 b hb) h.rep.ths, own_stay (fun b hb => hits 4 b hb) h.rep.sch,
      by rw [hs]; exact h.rep.bs, h.rep.apart, h.rep.kept⟩, fun j c hc => by rw [hst c.1 (.inr ⟨j, c, hc, rfl⟩)]; exact h.cel j c hc, h.far, h.inj, h.len⟩, rfl, ⟨ho, hu, by omega, fun b _ hn => hw b (fun e => hn (.inr e))⟩, fun b hb => .inl hb⟩
/-- No kept cell lies elsewhere. -/
theorem Mem.noKept (h : Mem z S K v) {B : Nat} (hB : ¬ Own S K B) : ∀ a, ScZ z a → a.block ≠ B := fun a ha e => by
  rcases h.rep.kept _ _ ha.2 with ⟨h1, _⟩ | ⟨i, t, ht, h1, _⟩
  · exact hB (.inl ⟨0, by rw [← e, h1]; rfl⟩)
  · exact hB (.inl ⟨i + 5, by rw [← e, h1]; simp [blk, ht]⟩)
end

/-- Served at its turn, the call of a script does what it came for, lays its answer in memory of its own (ab), and comes back with it. -/
def CallBack (main : Bool) (i j cb tb ab : Nat) (opn : Int) (eff : Int → (Int × Int) × Int × Value) (ans : Value → Array Value) (cl : Value → Goroutine) (g : Goroutine) : Prop :=
  ∀ (z : Nat → Option Nat) (Ch : Nat → Prop) (Stop : Goroutine → World → Prop) (y : Value) (w v : World) (S : TS) (K : List (Nat × Int)) (t : Thr) (x : Int), Rel z v w → NoRow Ch v → Mem z S K v → S.thr[i]? = some t → t.tb = tb → t.op = opn → t.ce = (j : Int) → K[j]? = some (cb, x) → (S.n + 1) * 40 ≤ 140737488355328 →
    v.heap[ab]? = some (.cells #[I 0, I 0] 42 (0, 0)) → ¬ Own S K ab →
    (∀ v' w' tv, Rel z v' w' → NoRow Ch v' → EvoP (· = ab) z S K v (didS S tv i t (eff x).1.1 (eff x).1.2) (K.set j (cb, (eff x).2.1)) v' → GoesI Try.prog main (DT (ScZ z) Ch) Stop (cl (.agg (ans (eff x).2.2))) w') →
    GoesI Try.prog main (DT (ScZ z) Ch) Stop (Go.Conc.served g y) w

/-- Two rows are made: the call's, and its answer's. -/
noncomputable def call0 : Code := seq1 (Try.f52.body.getD .skip)
theorem fineCall0 : fineCode Try.prog true LT call0 := fineCode_ask callT extT (by kernel_rfl)

set_option maxHeartbeats 1000000 in
set_option maxRecDepth 100000 in
theorem call5_goes {z : Nat → Option Nat} {Ch : Nat → Prop} {Stop : Goroutine → World → Prop} {h : Nat} {cont : Addr → Value} {S : TS} {K : List (Nat × Int)} {v w : World} {i j cb : Nat} {t : Thr} (ca n cc x : Int) (cs : List Frame) (Hm : Nat → Goroutine → Prop) {bc : Frame} {ac : Act} {ops : Array Oper} {q : Nat} {rest : List Nat} {oc : Oper} {k : List Item} (hoc : ops[q]? = some oc)
    (hH : ∀ g, CallBack (h == 0) i j cb t.tb (v.heap.size + 1) 5 (effAdd n) (fun r => #[I 0, r]) (fun r => G (bc.at (ac.put oc.dst r) (.inRegion ops rest :: k)) cs) g → Hm (v.heap.size + 1) g)
    (hvw : Rel z v w) (hn : NoRow Ch v) (hm : Mem z S K v) (ht : S.thr[i]? = some t) (hK : K[j]? = some (cb, x)) (hz : z t.tb = some 2) (hcont : cont ⟨t.tb, 2, none⟩ = .chan (some t.gc))
    (hstop : ∀ v1 g w', Grows v v1 → v1.heap[v.heap.size + 1]? = some (.cells #[I 0, I 0] 42 (0, 0)) → GiveT z cont h S.bk t.gc (Hm (v.heap.size + 1)) (Then z Ch S K v1 (waiting S i t 1 5 j) K) g w' → Stop g w') (code : Code) (hc : Try.f52.body = some code) :
    GoesI Try.prog (h == 0) (DT (ScZ z) Ch) Stop (G ((base 52).at { tmps := #[Pt cb 0, Pt t.tb 0, .agg #[I 5, I ca, I n, I cc]] ++ Array.replicate 57 undef, defers := [] } [.code code]) (bc.at ac (.inRegion ops (q :: rest) :: k) :: cs)) w := by
  have hw0 : code = .seq call0 (seq2 (Try.f52.body.getD .skip)) := by
    rw [hc]; obtain rfl := Option.some.inj hc; rfl
  subst hw0
  clear hc
  refine goesI_seq (dt_idle _ _) ?_
  refine goesI_plain (z := z) (wr := true) (L := LT) (I := NoRow Ch) hE fineT noRow_keeps (fun v v' w w' es hi hr ho he => dt_of_z v v' w w' es hi hr ho he) hvw fineCall0 rfl (by simp [base]) hn
    (Q := fun a w' => a = { tmps := #[Pt cb 0, Pt t.tb 0, .agg #[I 5, I ca, I n, I cc], undef, undef, Pt v.heap.size 0, Pt (v.heap.size + 1) 0] ++ Array.replicate 53 undef, defers := [] } ∧
      w'.heap = (v.heap.push (.cells #[I 5, I ca, I n, I cc] 39)).push (.cells #[I 0, I 0] 42) ∧ w'.os = v.os ∧ w'.output = v.output) (fun τ => ?_) ?_
  · show Code.wp Try.prog (seq1 (Try.f52.body.getD .skip)) _ _ _
    unfold Try.f52 seq1
    simp only [Option.getD_some, Array.replicate_succ, Array.replicate_zero, List.push_toArray, List.append_toArray, List.nil_append, List.cons_append]
    go_wp2_with fail
    exact ⟨rfl, rfl, rfl, rfl⟩
  rintro a' v' w' ⟨rfl, hv1, hv2, hv3⟩ hr' hn' -
  have hsz : v'.heap.size = v.heap.size + 2 := by rw [hv1]; simp
  have hg : Grows v v' := ⟨by omega, fun b hb => by rw [hv1, Array.getElem?_push, if_neg (by simp; omega), Array.getElem?_push, if_neg (by omega)], hv2, hv3⟩
  have hbox : v'.heap[v.heap.size]? = some (.cells #[I 5, I ca, I n, I cc] 39) := by rw [hv1, Array.getElem?_push, if_neg (by simp)]; exact Array.getElem?_push_size
  have hans : v'.heap[v.heap.size + 1]? = some (.cells #[I 0, I 0] 42) := by rw [hv1, Array.getElem?_push, if_pos (by simp)]
  have b0 : w'.cell? ⟨v.heap.size, 0, none⟩ = some (I 5) := by rw [hr'.cell?]; simp [World.cell?, hbox]
  have b2 : w'.cell? ⟨v.heap.size, 2, none⟩ = some (I n) := by rw [hr'.cell?]; simp [World.cell?, hbox]
  have HV : Hid (Grows v v' ∧ v'.heap[v.heap.size + 1]? = some (.cells #[I 0, I 0] 42) ∧ Evo z S K v S K v' ∧ NoRow Ch v' ∧ Rel z v' w') := ⟨⟨hg, hans, hm.grows hg, hn', hr'⟩⟩
  clear hv1 hv2 hv3 hsz hg hbox hans hn' hm hvw hn hr'
  generalize hN : v.heap.size = N at b0 b2 HV hH hstop ⊢
  simp only [Array.replicate_succ, Array.replicate_zero, List.push_toArray, List.append_toArray, List.nil_append, List.cons_append]
  show GoesI Try.prog (h == 0) (DT (ScZ z) Ch) Stop (G ((base 52).at _ [.code (seq2 (Try.f52.body.getD .skip))]) _) w'
  unfold Try.f52 seq2
  simp only [Option.getD_some]
  refine goesI_seq (dt_idle _ _) ?_
  refine goesI_seq (dt_idle _ _) ?_
  refine goesI_region (dt_idle _ _) ?_
  simp only [List.size_toArray, List.length_cons, List.length_nil, Nat.reduceAdd, Nat.zero_add, List.range, List.range.loop]
  iterate 2
    (refine goesI_oper rfl rfl (by decide) (fun d K hK => ?_)
     go_simp
     refine hK _ _ ⟨dt_reads (fun e he => ?_), GoesI.at ?_ d⟩
     · have hm := mem_listed he
       simp [go_sem, *] at hm
       try exact ⟨_, _, hm⟩
     clear hK K)
  refine goesI_regionEnd (dt_idle _ _) ?_
  refine goesI_block (dt_idle _ _) ?_
  refine goesI_seq (dt_idle _ _) ?_
  refine goesI_region (dt_idle _ _) ?_
  simp only [List.size_toArray, List.length_cons, List.length_nil, Nat.reduceAdd, Nat.zero_add, List.range, List.range.loop]
  iterate 2
    (refine goesI_oper rfl rfl (by decide) (fun d K hK => ?_)
     go_simp
     refine hK _ _ ⟨dt_reads (fun e he => ?_), GoesI.at ?_ d⟩
     · have hm := mem_listed he
       simp [go_sem, *] at hm
       try exact ⟨_, _, hm⟩
     clear hK K)
  refine goesI_regionEnd (dt_idle _ _) ?_
  refine goesI_cond (dt_idle _ _) (t := false) rfl ?_
  simp only [if_true, if_false, Bool.false_eq_true]
  refine goesI_seq (dt_idle _ _) ?_
  refine goesI_region (dt_idle _ _) ?_
  simp only [List.size_toArray, List.length_cons, List.length_nil, Nat.reduceAdd, Nat.zero_add, List.range, List.range.loop]
  iterate 2
    (refine goesI_oper rfl rfl (by decide) (fun d K hK => ?_)
     go_simp
     refine hK _ _ ⟨dt_reads (fun e he => ?_), GoesI.at ?_ d⟩
     · have hm := mem_listed he
       simp [go_sem, *] at hm
       try exact ⟨_, _, hm⟩
     clear hK K)
  refine goesI_regionEnd (dt_idle _ _) ?_
  refine goesI_cond (dt_idle _ _) (t := false) rfl ?_
  simp only [if_true, if_false, Bool.false_eq_true]
  refine goesI_seq (dt_idle _ _) ?_
  refine goesI_region (dt_idle _ _) ?_
  simp only [List.size_toArray, List.length_cons, List.length_nil, Nat.reduceAdd, Nat.zero_add, List.range, List.range.loop]
  iterate 2
    (refine goesI_oper rfl rfl (by decide) (fun d K hK => ?_)
     go_simp
     refine hK _ _ ⟨dt_reads (fun e he => ?_), GoesI.at ?_ d⟩
     · have hm := mem_listed he
       simp [go_sem, *] at hm
       try exact ⟨_, _, hm⟩
     clear hK K)
  refine goesI_regionEnd (dt_idle _ _) ?_
  refine goesI_cond (dt_idle _ _) (t := false) rfl ?_
  simp only [if_true, if_false, Bool.false_eq_true]
  refine goesI_seq (dt_idle _ _) ?_
  refine goesI_region (dt_idle _ _) ?_
  simp only [List.size_toArray, List.length_cons, List.length_nil, Nat.reduceAdd, Nat.zero_add, List.range, List.range.loop]
  iterate 2
    (refine goesI_oper rfl rfl (by decide) (fun d K hK => ?_)
     go_simp
     refine hK _ _ ⟨dt_reads (fun e he => ?_), GoesI.at ?_ d⟩
     · have hm := mem_listed he
       simp [go_sem, *] at hm
       try exact ⟨_, _, hm⟩
     clear hK K)
  refine goesI_regionEnd (dt_idle _ _) ?_
  refine goesI_cond (dt_idle _ _) (t := false) rfl ?_
  simp only [if_true, if_false, Bool.false_eq_true]
  refine goesI_seq (dt_idle _ _) ?_
  refine goesI_region (dt_idle _ _) ?_
  simp only [List.size_toArray, List.length_cons, List.length_nil, Nat.reduceAdd, Nat.zero_add, List.range, List.range.loop]
  iterate 2
    (refine goesI_oper rfl rfl (by decide) (fun d K hK => ?_)
     go_simp
     refine hK _ _ ⟨dt_reads (fun e he => ?_), GoesI.at ?_ d⟩
     · have hm := mem_listed he
       simp [go_sem, *] at hm
       try exact ⟨_, _, hm⟩
     clear hK K)
  refine goesI_regionEnd (dt_idle _ _) ?_
  refine goesI_cond (dt_idle _ _) (t := true) rfl ?_
  simp only [if_true, if_false, Bool.false_eq_true]
  refine goesI_seq (dt_idle _ _) ?_
  refine goesI_region (dt_idle _ _) ?_
  simp only [List.size_toArray, List.length_cons, List.length_nil, Nat.reduceAdd, Nat.zero_add, List.range, List.range.loop]
  iterate 4
    (refine goesI_oper rfl rfl (by decide) (fun d K hK => ?_)
     go_simp
     refine hK _ _ ⟨dt_reads (fun e he => ?_), GoesI.at ?_ d⟩
     · have hm := mem_listed he
       simp [go_sem, *] at hm
       try exact ⟨_, _, hm⟩
     clear hK K)
  refine goesI_into (f := 24) (fn := Try.f24) (args := #[Pt cb 0, Pt t.tb 0, I n]) (dt_idle _ _) rfl rfl (by decide) rfl (by simp [Act.eval]) Try.func24 (by decide) rfl ?_
  refine add_goes n x _ (Hm (N + 1)) rfl (fun g hg => hH g ?_) HV.out.2.2.2.2 HV.out.2.2.2.1 HV.out.2.2.1.mem ht hK hz hcont (fun g w'' hg => hstop v' g w'' HV.out.1 HV.out.2.1 hg) _ rfl
  intro z1 Ch1 St y w1 v1 S1 K1 t1 x1 r1 n1 m1 h1 htb hop hce hK1 hn1 hab hown hk
  refine hg z1 Ch1 St y w1 v1 S1 K1 t1 x1 r1 n1 m1 h1 htb hop hce hK1 hn1 (fun v2 w2 tv r2 n2 ev => ?_)
  have hlt : N + 1 < v1.heap.size := (Array.getElem?_eq_some_iff.1 hab).1
  have hab2 : v2.heap[N + 1]? = some (.cells #[I 0, I 0] 42 (0, 0)) := by rw [ev.fr.block _ hlt hown]; exact hab
  have hown2 : ¬ Own (didS S1 tv i t1 (effAdd n x1).1.1 (effAdd n x1).1.2) (K1.set j (cb, (effAdd n x1).2.1)) (N + 1) := fun hO => (ev.new _ hO).elim hown (fun hle => by omega)
  have q0 : w2.cell? ⟨N + 1, 0, none⟩ = some (I 0) := by rw [r2.cell?]; simp [World.cell?, hab2]
  have q1 : w2.cell? ⟨N + 1, 1, none⟩ = some (I 0) := by rw [r2.cell?]; simp [World.cell?, hab2]
  have p0 : w2.frozen? ⟨N + 1, 0, none⟩ = false := r2.thawed (by simp [World.frozen?, hab2])
  have p1 : w2.frozen? ⟨N + 1, 1, none⟩ = false := r2.thawed (by simp [World.frozen?, hab2])
  have HK : Hid (∀ v' w' tv, Rel z1 v' w' → NoRow Ch1 v' → EvoP (· = N + 1) z1 S1 K1 v1 (didS S1 tv i t1 (effAdd n x1).1.1 (effAdd n x1).1.2) (K1.set j (cb, (effAdd n x1).2.1)) v' → GoesI Try.prog (h == 0) (DT (ScZ z1) Ch1) St (G (bc.at (ac.put oc.dst (.agg #[I 0, (effAdd n x1).2.2])) (.inRegion ops rest :: k)) cs) w') := ⟨hk⟩
  have HB : Hid (EvoP (· = N + 1) z1 S1 K1 v1 (didS S1 tv i t1 (effAdd n x1).1.1 (effAdd n x1).1.2) (K1.set j (cb, (effAdd n x1).2.1)) v2 ∧ Rel z1 v2 w2 ∧ NoRow Ch1 v2 ∧ v2.heap[N + 1]? = some (.cells #[I 0, I 0] 42 (0, 0))) := ⟨⟨ev.toP, r2, n2, hab2⟩⟩
  have HD : Hid ((∀ a, ScZ z1 a → a.block ≠ N + 1) ∧ ∀ c, Ch1 c → c ≠ N + 1) := ⟨⟨ev.mem.noKept hown2, fun c hc e => by
    obtain ⟨o, o1, o2⟩ := n2 c hc
    rw [e, hab2] at o1
    cases o1
    exact o2 _ _ _ rfl⟩⟩
  have HO : Hid (¬ Own (didS S1 tv i t1 (effAdd n x1).1.1 (effAdd n x1).1.2) (K1.set j (cb, (effAdd n x1).2.1)) (N + 1)) := ⟨hown2⟩
  show GoesI Try.prog (h == 0) (DT (ScZ z1) Ch1) St (G ((base 52).at (Act.put _ _ (I (wrap64 (x1 + n)))) _) _) w2
  clear hk ev r2 n2 hab2 hown2 hab hown hlt hH hstop hg HV b0 b2 r1 n1 m1 h1 htb hop hce hK1 hn1
  walk_nrm
  (refine goesI_oper rfl rfl (by decide) (fun d K hK => ?_)
   go_simp
   refine hK _ _ ⟨dt_reads (fun e he => ?_), GoesI.at ?_ d⟩
   · have hm := mem_listed he
     simp [go_sem, *] at hm
   clear hK K)
  refine goesI_oper rfl rfl (by decide) (fun d K hK => ?_)
  go_simp
  refine hK _ _ ⟨dt_block (B := N + 1) HD.out.1 HD.out.2 (fun b hb => ?_) (fun e he => ?_), ?_⟩
  · rw [Below.heap_setCell _ _ _ _ hb, Below.heap_setCell _ _ _ _ hb]
  · have hm := mem_listed he
    simp [go_sem, storedEv, *] at hm
    rcases hm with rfl | rfl <;> exact ⟨_, rfl, rfl⟩
  clear hK
  obtain ⟨ev, r2, n2, hab2⟩ := HB.out
  have r3 : Rel z1 ((v2.setCell ⟨N + 1, 0, none⟩ (I 0)).setCell ⟨N + 1, 1, none⟩ (I (wrap64 (x1 + n)))) (((w2.at d).setCell ⟨N + 1, 0, none⟩ (I 0)).setCell ⟨N + 1, 1, none⟩ (I (wrap64 (x1 + n)))) :=
    ((r2.re (w' := w2.at d) rfl rfl rfl rfl rfl rfl).setCell _ _).setCell _ _
  have hrow : ((v2.setCell ⟨N + 1, 0, none⟩ (I 0)).setCell ⟨N + 1, 1, none⟩ (I (wrap64 (x1 + n)))).heap[N + 1]? = some (.cells #[I 0, I (wrap64 (x1 + n))] 42 (0, 0)) := by
    have := heap_setCell_same (o := 1) (heap_setCell_same (o := 0) hab2 (I 0)) (I (wrap64 (x1 + n)))
    simpa using this
  have n3 : NoRow Ch1 ((v2.setCell ⟨N + 1, 0, none⟩ (I 0)).setCell ⟨N + 1, 1, none⟩ (I (wrap64 (x1 + n)))) := fun c hc => by
    rw [Below.heap_setCell _ _ _ _ (HD.out.2 c hc), Below.heap_setCell _ _ _ _ (HD.out.2 c hc)]
    exact n2 c hc
  have e3 := ev.trans (ev.mem.other (v' := (v2.setCell ⟨N + 1, 0, none⟩ (I 0)).setCell ⟨N + 1, 1, none⟩ (I (wrap64 (x1 + n)))) HO.out (fun b hb => by rw [Below.heap_setCell _ _ _ _ hb, Below.heap_setCell _ _ _ _ hb]) (by simp [World.setCell]) rfl rfl)
  refine goesI_regionEnd (dt_idle _ _) ?_
  refine GoesI.ctl rfl (fun _ => stepG_ret') (dt_idle _ _) ?_
  refine goesI_leaveZ (f := 52) (fn := Try.f52) (x := .agg #[I 0, I (wrap64 (x1 + n))]) r3 n3 Try.func52 rfl hoc ?_ (fun w' r' => HK.out _ w' tv r' n3 e3)
  generalize ((v2.setCell ⟨N + 1, 0, none⟩ (I 0)).setCell ⟨N + 1, 1, none⟩ (I (wrap64 (x1 + n)))) = V at hrow
  have k0 : V.cell? ⟨N + 1, 0, none⟩ = some (I 0) := by simp [World.cell?, hrow]
  have k1 : V.cell? ⟨N + 1, 1, none⟩ = some (I (wrap64 (x1 + n))) := by simp [World.cell?, hrow]
  simp [results, go_sem, Try.f52, *]
end Go.Proofs.Ytehingmdmijedaa

/- From the world in company to a lone world that keeps the still cells, and back. -/
set_option linter.unusedSimpArgs false
set_option linter.unusedVariables false
namespace Go.Proofs.Ytehingmdmijedaa
open Go Go.Lift Go.Conc Go.RowKit

/-- A row's cell is kept. -/
def chill : Option Nat → Obj → Obj
  | some n, .cells c e _ => .cells c e (n, n + 1)
  | _, o => o
theorem zap_chill (x : Option Nat) (o : Obj) (h : ∀ c e f, o = .cells c e f → x.isSome = true → f = (0, 0)) : zap x (chill x o) = o := by
  cases x with
  | none => cases o <;> rfl
  | some n =>
    cases o with
    | cells c e f =>
      have := h c e f rfl rfl
      subst this
      rfl
    | _ => rfl

/-- Of a world whose rows bear no mark at the kept blocks there is a lone world that keeps the cells. -/
theorem freeze_rel {z : Nat → Option Nat} {w : World} (h : ∀ r n, z r = some n → r < w.heap.size ∧ ∀ c e f, w.heap[r]? = some (.cells c e f) → f = (0, 0)) :
    ∃ v, Rel z v w ∧ (∀ r, v.heap[r]? = (w.heap[r]?).map (chill (z r))) ∧ v.heap.size = w.heap.size ∧ v.os = w.os ∧ v.output = w.output := by
  have hget : ∀ r : Nat, (w.heap.mapIdx fun r o => chill (z r) o)[r]? = (w.heap[r]?).map (chill (z r)) := fun r => by rw [Array.getElem?_mapIdx]
  refine ⟨{ w with heap := w.heap.mapIdx fun r o => chill (z r) o }, ⟨fun r => ?_, fun r n c e f hz hh => ?_, fun r n hz => ?_, rfl, rfl⟩, hget, by simp, rfl, rfl⟩
  · show w.heap[r]? = ((w.heap.mapIdx fun r o => chill (z r) o)[r]?).map (zap (z r))
    rw [hget]
    cases ho : w.heap[r]? with
    | none => rfl
    | some o =>
      simp only [Option.map_some, Option.some.injEq]
      exact (zap_chill _ _ fun c e f he hs => by
        cases hz : z r with
        | none => rw [hz] at hs; cases hs
        | some n => exact (h r n hz).2 c e f (by rw [ho, he])).symm
  · simp only at hh
    rw [hget, hz] at hh
    cases ho : w.heap[r]? with
    | none => rw [ho] at hh; cases hh
    | some o =>
      rw [ho] at hh
      cases o <;> simp only [Option.map_some, chill, Option.some.injEq, Obj.cells.injEq, reduceCtorEq] at hh
      exact hh.2.2.symm
  · simpa using (h r n hz).1

section
variable {z : Nat → Option Nat} {S : TS} {K : List (Nat × Int)} {v w : World}
/-- The world in company is such a world too. -/
theorem Mem.thaw (h : Mem z S K v) (hr : Rel z v w) : Mem zn S K w := by
  have hno : ∀ b : Nat, (∀ c e, v.heap[b]? ≠ some (Obj.cells c e (0, 0))) ∨ w.heap[b]? = v.heap[b]? := fun b => by
    cases hz : z b with
    | none => right; rw [hr.heap, hz]; cases v.heap[b]? <;> simp [zap_none]
    | some n =>
      left
      intro c e hh
      have := hr.kept b n c e _ hz hh
      simp at this
  have hrow : ∀ (b : Nat) (c : Array Value) (e : TypeId), v.heap[b]? = some (.cells c e (fz z b)) → w.heap[b]? = some (.cells c e (fz zn b)) := fun b c e hh => by
    rw [hr.heap, hh]
    unfold fz
    cases hz : z b <;> rfl
  have hown : ∀ {base : Nat} {e : TypeId} {size : Nat} {x : Value} {n : Nat} {xs : List Value}, v.ownsRow base e size x n xs → w.ownsRow base e size x n xs := fun {base e size x n xs} ho => by
    refine ⟨ho.1, ?_⟩
    rcases ho.2 with h2 | ⟨g, cap, cur, h1, h2, h3, h4⟩
    · exact .inl h2
    · refine .inr ⟨g, cap, cur, h1, h2, ?_, h4⟩
      rcases hno g with hn | hn
      · exact absurd h3 (hn _ _)
      · rw [hn]; exact h3
  refine ⟨⟨hrow _ _ _ h.rep.wor, fun i t ht => hrow _ _ _ (h.rep.thr i t ht), hown h.rep.own, hown h.rep.chg, hown h.rep.ths, hown h.rep.sch, by rw [hr.size]; exact h.rep.bs, h.rep.apart, fun b n hz => (nomatch hz)⟩, fun j c hc => ?_, h.far, h.inj, h.len⟩
  rcases hno c.1 with hn | hn
  · exact absurd (h.cel j c hc) (hn _ _)
  · rw [hn]; exact h.cel j c hc

/-- .. and the other way: what is kept are cells of the world's row and of threads' rows. -/
theorem Mem.freeze (h : Mem zn S K w) (hz : ∀ b n, z b = some n → (b = S.wb ∧ n = 8) ∨ ∃ (i : Nat) (t : Thr), S.thr[i]? = some t ∧ b = t.tb ∧ n = 2) : ∃ v, Rel z v w ∧ Mem z S K v ∧ v.os = w.os ∧ v.output = w.output := by
  have hits : ∀ b n, z b = some n → Its S b := fun b n hb => by
    rcases hz b n hb with ⟨rfl, _⟩ | ⟨i, t, ht, rfl, _⟩
    · exact ⟨0, rfl⟩
    · exact ⟨i + 5, by simp [blk, ht]⟩
  have hlo : ∀ r n, z r = some n → r < w.heap.size ∧ ∀ c e f, w.heap[r]? = some (.cells c e f) → f = (0, 0) := fun r n hb => by
    refine ⟨h.lt (.inl (hits r n hb)), fun c e f hh => ?_⟩
    rcases hz r n hb with ⟨rfl, _⟩ | ⟨i, t, ht, rfl, _⟩
    · rw [h.rep.wor] at hh; cases hh; rfl
    · rw [h.rep.thr i t ht] at hh; cases hh; rfl
  obtain ⟨v, hr, hget, hs, ho, hu⟩ := freeze_rel hlo
  have hrow : ∀ (b : Nat) (c : Array Value) (e : TypeId), w.heap[b]? = some (.cells c e (fz zn b)) → v.heap[b]? = some (.cells c e (fz z b)) := fun b c e hh => by
    rw [hget, hh]
    unfold fz
    cases hzb : z b <;> rfl
  have hoth : ∀ b, z b = none → v.heap[b]? = w.heap[b]? := fun b hb => by
    rw [hget, hb]
    cases w.heap[b]? with
    | none => rfl
    | some o => cases o <;> rfl
  have hzo : ∀ k b, blk S k = some b → k ≠ 0 → k < 5 → z b = none := fun k b hk h0 h5 => by
    cases hb : z b with
    | none => rfl
    | some n =>
      rcases hz b n hb with ⟨rfl, _⟩ | ⟨i, t, ht, rfl, _⟩
      · exact absurd (h.rep.apart k 0 _ hk rfl) h0
      · have := h.rep.apart k (i + 5) _ hk (by simp [blk, ht]); omega
  refine ⟨v, hr, ⟨⟨hrow _ _ _ h.rep.wor, fun i t ht => hrow _ _ _ (h.rep.thr i t ht), own_stay (fun b hb => hoth b (hzo 3 b hb (by omega) (by omega))) h.rep.own, own_stay (fun b hb => hoth b (hzo 1 b hb (by omega) (by omega))) h.rep.chg, own_stay (fun b hb => hoth b (hzo 2 b hb (by omega) (by omega))) h.rep.ths, own_stay (fun b hb => hoth b (hzo 4 b hb (by omega) (by omega))) h.rep.sch, by rw [hs]; exact h.rep.bs, h.rep.apart, hz⟩, fun j c hc => ?_, h.far, h.inj, h.len⟩, ho, hu⟩
  rw [hoth c.1 (by
    cases hb : z c.1 with
    | none => rfl
    | some n => exact absurd (hits _ n hb) (h.far j c hc))]
  exact h.cel j c hc
end
end Go.Proofs.Ytehingmdmijedaa
