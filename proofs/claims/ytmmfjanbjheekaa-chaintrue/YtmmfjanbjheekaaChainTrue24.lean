/- ChainTrue: who is told of a ring lies on one; no call takes longer than it may. Part 24 of 26. (Joined, by program, of: ChF, ChH, ChAw2, GRow.) -/
import Derived.Test.YtmmfjanbjheekaaChainTrue16
import Derived.Test.YtmmfjanbjheekaaChainTrue18
import Derived.Test.YtmmfjanbjheekaaChainTrue20
import Derived.Test.YtmmfjanbjheekaaChainTrue21
import Derived.Test.YtmmfjanbjheekaaChainTrue22
import Derived.Test.YtmmfjanbjheekaaChainTrue23
import Derived.Deep.RegionHeld3
import Derived.BigQuiet
import Derived.Conc.LeavingOf
import Derived.ProofKit
import Derived.OpenShut
import Derived.ChangeOld
import Derived.Lib.SmallJoins
import Derived.Deep.SlicePairs

/- A chain asked by a thread of no world, main alone. (Made by wip/tools/mkch.py.) -/
set_option linter.unusedSimpArgs false
set_option linter.unusedVariables false
namespace Go.Proofs.Ytmmfjanbjheekaa.Gen
open Go Go.Lift Go.Conc Go.RowKit

set_option maxHeartbeats 2000000 in
set_option maxRecDepth 100000 in
theorem tailF12 {v : World} {tb cb : Nat} {x : Int} (y : Int) (hm : Fm tb cb x v) (a7 a8 a9 a10 a11 a12 : Value) :
    rest12.wp Try.prog (bodyPost Try.prog Try.f19 (fun e w' => ∃ r, e = .returned r ∧ (r = .tuple #[] ∧ Fto tb cb y v w')))
      { tmps := #[Pt cb 0, Pt tb 0, I y, undef, undef, undef, undef, a7, a8, a9, a10, a11, a12, undef, undef, undef, undef, undef, undef, undef, undef, undef], defers := [] } v := by
  obtain ⟨c0, _, c1, f1⟩ := hm.cells
  have HF : Hid (Fto tb cb y v (v.setCell ⟨cb, 1, none⟩ (I y))) := ⟨Fto.set hm y⟩
  clear hm
  show Code.wp Try.prog (seq2 (Try.f19.body.getD .skip)) _ _ _
  unfold Try.f19 seq2
  simp only [Option.getD_some]
  go_wp2_with (first
    | (go_at_call 27; refine ((body25 cb x y _ c1 f1).calls Try.func27 rfl).mono ?_; rintro e w1 ⟨_, rfl, rfl, rfl⟩)
    | (go_at_call 29; refine ((body27f tb x y _ HF.out.fm.thr).calls Try.func29 rfl).mono ?_; rintro e w2 ⟨_, rfl, rfl, rfl⟩))
  exact ⟨rfl, _, results_none rfl _ _ _, _, rfl, rfl, HF.out⟩
set_option maxHeartbeats 2000000 in
set_option maxRecDepth 100000 in
/-- A free thread stores. -/
theorem free12 {Ch : Nat → Prop} {Stop : Goroutine → World → Prop} {main : Bool} {v w : World} {tb cb : Nat} (x y : Int) (cs : List Frame) {bc : Frame} {ac : Act} {ops : Array Oper} {q : Nat} {rest : List Nat} {oc : Oper} {k0 : List Item} (hoc : ops[q]? = some oc)
    (hvw : Rel zn v w) (hn : NoRow Ch v) (hm : Fm tb cb x v)
    (hk : ∀ v' w', Rel zn v' w' → NoRow Ch v' → Fto tb cb y v v' → GoesI Try.prog main (DT (ScZ zn) Ch) Stop (G (bc.at (ac.put oc.dst (.tuple #[])) (.inRegion ops rest :: k0)) cs) w') (code : Code) (hc : Try.f19.body = some code) :
    GoesI Try.prog main (DT (ScZ zn) Ch) Stop (G ((base 19).at { tmps := #[Pt cb 0, Pt tb 0, I y] ++ Array.replicate 19 undef, defers := [] } [.code code]) (bc.at ac (.inRegion ops (q :: rest) :: k0) :: cs)) w := by
  obtain rfl := Option.some.inj hc
  clear hc
  have e0 : w.cell? ⟨cb, 0, none⟩ = some (I 0) := by rw [hvw.cell?]; exact hm.cells.2.1
  simp only [Array.replicate_succ, Array.replicate_zero, List.push_toArray, List.append_toArray, List.nil_append, List.cons_append]
  have HM : Hid (Fm tb cb x v) := ⟨hm⟩
  clear hm
  refine goesI_seq (dt_idle _ _) ?_
  refine goesI_region (dt_idle _ _) ?_
  simp only [List.size_toArray, List.length_cons, List.length_nil, Nat.reduceAdd, Nat.zero_add, List.range, List.range.loop]
  iterate 5
    (refine goesI_oper rfl rfl (by decide) (fun d K hK => ?_)
     go_simp
     refine hK _ _ ⟨dt_reads (fun e he => ?_), GoesI.at ?_ d⟩
     · have hm := mem_listed he
       simp [go_sem, *] at hm
       try exact ⟨_, _, hm⟩
     clear hK K)
  refine goesI_into (f := 28) (fn := Try.f28) (args := #[Pt tb 0, I 0, I 2]) (dt_idle _ _) rfl rfl (by decide) rfl (by simp [Act.eval]) Try.func28 (by decide) rfl ?_
  refine free26 tb 0 2 HM.out.cells.1 _ rfl hvw hn (fun w1 hr1 => ?_) _ rfl
  clear e0 hvw
  refine goesI_regionEnd (dt_idle _ _) ?_
  refine goesI_rest (f := 19) (fn := Try.f19) (c := rest12) hE fineT hr1 hn Try.func19 fine12 rfl hoc res12 (fun τ => ?_) (fun r v' w' hR hr' hn' => ?_) (R := fun r w' => r = .tuple #[] ∧ Fto tb cb y v w')
  · exact wp_mono (tailF12 y (HM.out.same (v' := onTape v τ 0) rfl) _ _ _ _ _ _) (bp_mono fun r u hq => ⟨hq.1, hq.2.base rfl rfl rfl⟩)
  · obtain ⟨rfl, he⟩ := hR
    exact hk v' w' hr' hn' he

set_option maxHeartbeats 2000000 in
set_option maxRecDepth 100000 in
/-- Ask, by a free thread: it writes down. -/
theorem ask_inF {Ch : Nat → Prop} {Stop : Goroutine → World → Prop} {main : Bool} {v w : World} {tb cb c sb n fr to : Nat} (y : Int) (hf : fr < n) (hto : to < n) (hn1 : n ≤ 100) (h0 : v.cell? ⟨c, 0, none⟩ = some (.slice (some ⟨sb, 0, none⟩) n n)) (hcb : v.cell? ⟨sb, fr, none⟩ = some (Pt cb 0)) (hm : Fm tb cb y v) (cs : List Frame)
    (hvw : Rel zn v w) (hn : NoRow Ch v)
    (hk : ∀ a v' w', Fl 35 [(0, Pt c 0), (1, Pt tb 0), (2, I (fr : Nat)), (3, I (to : Nat))] a → Rel zn v' w' → NoRow Ch v' → Fto tb cb ((to : Int) + 1) v v' → GoesI Try.prog main (DT (ScZ zn) Ch) Stop (G (hkPut a (.tuple #[])) cs) w') (code : Code) (hc : Try.f13.body = some code) :
    GoesI Try.prog main (DT (ScZ zn) Ch) Stop (G ((base 13).at { tmps := #[Pt c 0, Pt tb 0, I (fr : Nat), I (to : Nat)] ++ Array.replicate 31 undef, defers := [] } [.code code]) cs) w := by
  have hw0 : code = .seq (seq1 hkB) (.seq hk1 (.seq (.region 3 hkO3 false) hkR)) := by
    rw [show code = hkB by unfold hkB; rw [hc]; rfl]; exact eHkB
  subst hw0
  clear hc
  have HM : Hid (Fm tb cb y v) := ⟨hm⟩
  clear hm
  simp only [Array.replicate_succ, Array.replicate_zero, List.push_toArray, List.append_toArray, List.nil_append, List.cons_append]
  refine goesI_seq (dt_idle _ _) ?_
  generalize hh1 : hk1 = C1
  generalize hhR : hkR = CR at hk ⊢
  generalize hh3 : hkO3 = O3 at hk ⊢
  unfold hkB Try.f13 seq1
  simp only [Option.getD_some]
  refine goesI_region (dt_idle _ _) ?_
  simp only [List.size_toArray, List.length_cons, List.length_nil, Nat.reduceAdd, Nat.zero_add, List.range, List.range.loop]
  iterate 1
    (refine goesI_oper rfl rfl (by decide) (fun d K hK => ?_)
     go_simp
     refine hK _ _ ⟨dt_reads (fun e he => ?_), GoesI.at ?_ d⟩
     · have hm := mem_listed he
       simp [go_sem, *] at hm
       try exact ⟨_, _, hm⟩
     clear hK K)
  refine goesI_regionEnd (dt_idle _ _) ?_
  refine goesI_seq (dt_idle _ _) ?_
  subst hh1
  refine goesI_plain (z := zn) (wr := true) (L := LT) (I := NoRow Ch) hE fineT noRow_keeps (fun v v' w w' es hi hr ho he => dt_of_z v v' w w' es hi hr ho he) hvw fine_hk1 rfl (by simp [base]) hn
    (Q := fun a w' => Fl 35 [(0, Pt c 0), (1, Pt tb 0), (2, I (fr : Nat)), (3, I (to : Nat))] a ∧ w'.heap = v.heap ∧ w'.os = v.os ∧ w'.output = v.output) (fun τ => hk1_wp (onTape v τ 0) c sb n tb fr to hf hto h0 ⟨rfl, rfl, by
      intro p hp
      simp only [List.mem_cons, List.not_mem_nil, or_false] at hp
      rcases hp with rfl | rfl | rfl | rfl <;> rfl⟩) ?_
  rintro a1 v1 w1 ⟨hA, q1, q2, q3⟩ hvw1 hn1' -
  have e0 : w1.cell? ⟨c, 0, none⟩ = some (.slice (some ⟨sb, 0, none⟩) n n) := by rw [hvw1.cell?, World.cell?_of_block (w := v) (by rw [q1])]; exact h0
  have e1 : w1.cell? ⟨sb, fr, none⟩ = some (Pt cb 0) := by rw [hvw1.cell?, World.cell?_of_block (w := v) (by rw [q1])]; exact hcb
  have hf' : (fr : Int) < (n : Int) := by omega
  have hw1 : IntKind.i64.wrap ((to : Int) + 1) = (to : Int) + 1 := by rw [IntKind.wrap_i64]; omega
  unfold hkPut at hk
  subst hhR hh3
  unfold hkO3 hkR hkB Try.f13 seq1 seq2 opsOf at hk
  simp only [Option.getD_some] at hk
  obtain ⟨hsz, hd, hpp⟩ := hA
  obtain ⟨u, rfl, hg⟩ := litN hsz hd
  have u0 := (hg 0).symm.trans (hpp (0, Pt c 0) (by simp))
  have u1 := (hg 1).symm.trans (hpp (1, Pt tb 0) (by simp))
  have u2 := (hg 2).symm.trans (hpp (2, I (fr : Nat)) (by simp))
  have u3 := (hg 3).symm.trans (hpp (3, I (to : Nat)) (by simp))
  clear hg hpp hsz hd
  unfold hkO3 hkR hkB Try.f13 seq1 seq2 opsOf
  simp only [Option.getD_some, lits, Nat.reduceAdd, u0, u1, u2, u3]
  clear u0 u1 u2 u3
  refine goesI_seq (dt_idle _ _) ?_
  refine goesI_region (dt_idle _ _) ?_
  simp only [List.size_toArray, List.length_cons, List.length_nil, Nat.reduceAdd, Nat.zero_add, List.range, List.range.loop]
  iterate 10
    (refine goesI_oper rfl rfl (by decide) (fun d K hK => ?_)
     go_simp
     refine hK _ _ ⟨dt_reads (fun e he => ?_), GoesI.at ?_ d⟩
     · have hm := mem_listed he
       simp [go_sem, *] at hm
       try exact ⟨_, _, hm⟩
     clear hK K)
  refine goesI_into (f := 19) (fn := Try.f19) (args := #[Pt cb 0, Pt tb 0, I ((to : Int) + 1)]) (dt_idle _ _) rfl rfl (by decide) rfl (by simp [Act.eval, hw1]) Try.func19 (by decide) rfl ?_
  exact free12 y ((to : Int) + 1) _ rfl hvw1 hn1' (HM.out.same q1) (fun v' w' r nn f => hk _ v' w' ⟨rfl, rfl, by
    intro p hp
    simp only [List.mem_cons, List.not_mem_nil, or_false] at hp
    rcases hp with rfl | rfl | rfl | rfl <;> rfl⟩ r nn (f.base q1 q2 q3)) _ rfl

set_option maxHeartbeats 2000000 in
set_option maxRecDepth 100000 in
theorem has_no (c sb n : Nat) (x : Int) (hx : ¬ (0 ≤ x ∧ x < n)) (w : World) (h0 : w.cell? ⟨c, 0, none⟩ = some (.slice (some ⟨sb, 0, none⟩) n n)) : Calls Try.prog 18 #[Pt c 0, I x] w fun e w' => e = .returned (.bool false) ∧ w' = w := by
  by_cases h1 : 0 ≤ x
  · have h2 : ¬ x < (n : Int) := fun h => hx ⟨h1, h⟩
    have h3 : decide (x ≥ 0) = true := decide_eq_true (by omega)
    have h4 : decide (x < (n : Int)) = false := decide_eq_false h2
    go_enter Try.func18, Try.ntmps18
    go_wp2_with fail
    go_ret
    exact ⟨by simp [h4], rfl⟩
  · have h3 : decide (x ≥ 0) = false := decide_eq_false (by omega)
    have h2 : ¬ x ≥ 0 := by omega
    go_enter Try.func18, Try.ntmps18
    go_wp2_with fail
    go_ret
    exact ⟨rfl, rfl⟩
set_option maxHeartbeats 2000000 in
set_option maxRecDepth 100000 in
theorem hk1_no (v : World) (c sb n tb fr : Nat) (to : Int) (hf : fr < n) (ht : ¬ (0 ≤ to ∧ to < n)) (h0 : v.cell? ⟨c, 0, none⟩ = some (.slice (some ⟨sb, 0, none⟩) n n)) {a : Act} (hA : Fl 35 [(0, Pt c 0), (1, Pt tb 0), (2, I (fr : Nat)), (3, I to)] a) :
    hk1.wp Try.prog (fun e a w' => e = .ret ∧ ∃ x, (results Try.f13 a.tmps).run Try.prog w' = .ok x w' ∧ x = .bool false ∧ w'.heap = v.heap ∧ w'.os = v.os ∧ w'.output = v.output) a v := by
  obtain ⟨hsz, hd, hpp⟩ := hA
  obtain ⟨u, rfl, hg⟩ := litN hsz hd
  have u0 := (hg 0).symm.trans (hpp (0, Pt c 0) (by simp))
  have u1 := (hg 1).symm.trans (hpp (1, Pt tb 0) (by simp))
  have u2 := (hg 2).symm.trans (hpp (2, I (fr : Nat)) (by simp))
  have u3 := (hg 3).symm.trans (hpp (3, I to) (by simp))
  clear hg hpp hsz hd
  unfold hk1 hkB Try.f13 seq1 seq2
  simp only [Option.getD_some, lits, Nat.reduceAdd, u0, u1, u2, u3]
  clear u0 u1 u2 u3
  have H1 : Hid (Calls Try.prog 18 #[Pt c 0, I (fr : Nat)] v _) := ⟨has_any c sb n fr hf v h0⟩
  have H2 : Hid (Calls Try.prog 18 #[Pt c 0, I to] v _) := ⟨has_no c sb n to ht v h0⟩
  clear hf ht h0
  go_wp2_with fail
  refine H1.out.mono ?_
  rintro e w1 ⟨rfl, rfl⟩
  go_wp2_with fail
  refine H2.out.mono ?_
  rintro e w1 ⟨rfl, rfl⟩
  go_wp2_with fail
  first
    | exact ⟨rfl, _, results_tmp (t := 8) rfl _ _ _, rfl, rfl, rfl, rfl⟩
    | exact ⟨_, results_tmp (t := 8) rfl _ _ _, rfl, rfl, rfl, rfl⟩
    | exact results_tmp (t := 8) rfl _ _ _
set_option maxHeartbeats 2000000 in
set_option maxRecDepth 100000 in
/-- Ask for what is no key. -/
theorem ask_no {Ch : Nat → Prop} {Stop : Goroutine → World → Prop} {main : Bool} {v w : World} {tb c sb n fr : Nat} {to : Int} (hf : fr < n) (hto : ¬ (0 ≤ to ∧ to < n)) (h0 : v.cell? ⟨c, 0, none⟩ = some (.slice (some ⟨sb, 0, none⟩) n n)) (cs : List Frame) {bc : Frame} {ac : Act} {ops : Array Oper} {q : Nat} {rest : List Nat} {oc : Oper} {k0 : List Item} (hoc : ops[q]? = some oc)
    (hvw : Rel zn v w) (hn : NoRow Ch v)
    (hk : ∀ v' w', Rel zn v' w' → NoRow Ch v' → v'.heap = v.heap → v'.os = v.os → v'.output = v.output → GoesI Try.prog main (DT (ScZ zn) Ch) Stop (G (bc.at (ac.put oc.dst (.bool false)) (.inRegion ops rest :: k0)) cs) w') (code : Code) (hc : Try.f13.body = some code) :
    GoesI Try.prog main (DT (ScZ zn) Ch) Stop (G ((base 13).at { tmps := #[Pt c 0, Pt tb 0, I (fr : Nat), I to] ++ Array.replicate 31 undef, defers := [] } [.code code]) (bc.at ac (.inRegion ops (q :: rest) :: k0) :: cs)) w := by
  have hw0 : code = .seq (seq1 hkB) (.seq hk1 (.seq (.region 3 hkO3 false) hkR)) := by
    rw [show code = hkB by unfold hkB; rw [hc]; rfl]; exact eHkB
  subst hw0
  clear hc
  simp only [Array.replicate_succ, Array.replicate_zero, List.push_toArray, List.append_toArray, List.nil_append, List.cons_append]
  refine goesI_seq (dt_idle _ _) ?_
  generalize hh1 : hk1 = C1
  generalize hhR : hkR = CR
  generalize hh3 : hkO3 = O3
  unfold hkB Try.f13 seq1
  simp only [Option.getD_some]
  refine goesI_region (dt_idle _ _) ?_
  simp only [List.size_toArray, List.length_cons, List.length_nil, Nat.reduceAdd, Nat.zero_add, List.range, List.range.loop]
  iterate 1
    (refine goesI_oper rfl rfl (by decide) (fun d K hK => ?_)
     go_simp
     refine hK _ _ ⟨dt_reads (fun e he => ?_), GoesI.at ?_ d⟩
     · have hm := mem_listed he
       simp [go_sem, *] at hm
       try exact ⟨_, _, hm⟩
     clear hK K)
  refine goesI_regionEnd (dt_idle _ _) ?_
  refine goesI_seq (dt_idle _ _) ?_
  subst hh1
  refine goesI_outZ (c := hk1) (f := 13) (fn := Try.f13) (L := LT) hE fineT hvw hn Try.func13 fine_hk1 rfl hoc (R := fun r w' => r = .bool false ∧ w'.heap = v.heap ∧ w'.os = v.os ∧ w'.output = v.output) (fun τ => hk1_no (onTape v τ 0) c sb n tb fr to hf hto h0 ⟨rfl, rfl, by
      intro p hp
      simp only [List.mem_cons, List.not_mem_nil, or_false] at hp
      rcases hp with rfl | rfl | rfl | rfl <;> rfl⟩) (fun r v' w' hR hr' hn' => ?_)
  obtain ⟨rfl, q1, q2, q3⟩ := hR
  exact hk v' w' hr' hn' q1 q2 q3

set_option maxHeartbeats 2000000 in
set_option maxRecDepth 100000 in
/-- A free thread looks. -/
theorem lead_lookF {Ch : Nat → Prop} {Stop : Goroutine → World → Prop} {main : Bool} {v w : World} {tb cb c sb n x fr k : Nat} (y : Int) (hkn : k < n) (hxn : x < n) (hne : x ≠ fr) (h0 : v.cell? ⟨c, 0, none⟩ = some (.slice (some ⟨sb, 0, none⟩) n n)) (hcb : v.cell? ⟨sb, x, none⟩ = some (Pt cb 0)) (hm : Fm tb cb y v) {a : Act} (hA : Fl 34 [(0, Pt c 0), (1, Pt tb 0), (2, I (x : Nat)), (3, I (fr : Nat)), (14, I (n : Nat)), (15, I (k : Nat))] a) (cs : List Frame)
    (hvw : Rel zn v w) (hn : NoRow Ch v)
    (hk : ∀ a v' w', Fl 34 [(0, Pt c 0), (1, Pt tb 0), (2, I (x : Nat)), (3, I (fr : Nat)), (14, I (n : Nat)), (15, I (k : Nat))] a → Rel zn v' w' → NoRow Ch v' → Fto tb cb y v v' → GoesI Try.prog main (DT (ScZ zn) Ch) Stop (G (hlSeen a (I y)) cs) w') :
    GoesI Try.prog main (DT (ScZ zn) Ch) Stop (G (hlFr a) cs) w := by
  have e0 : w.cell? ⟨c, 0, none⟩ = some (.slice (some ⟨sb, 0, none⟩) n n) := by rw [hvw.cell?]; exact h0
  have e1 : w.cell? ⟨sb, x, none⟩ = some (Pt cb 0) := by rw [hvw.cell?]; exact hcb
  have hkn' : (k : Int) < (n : Int) := by omega
  have hxn' : (x : Int) < (n : Int) := by omega
  have hne' : ¬ (x : Int) = (fr : Int) := by omega
  have HM : Hid (Fm tb cb y v) := ⟨hm⟩
  clear hm
  unfold hlSeen hlO5 hlI hl9 hlT hlL hlB Try.f20 seq1 seq2 blockC loopC opsOf at hk
  simp only [Option.getD_some] at hk
  obtain ⟨hsz, hd, hpp⟩ := hA
  obtain ⟨u, rfl, hg⟩ := litN hsz hd
  have u0 := (hg 0).symm.trans (hpp (0, Pt c 0) (by simp))
  have u1 := (hg 1).symm.trans (hpp (1, Pt tb 0) (by simp))
  have u2 := (hg 2).symm.trans (hpp (2, I (x : Nat)) (by simp))
  have u3 := (hg 3).symm.trans (hpp (3, I (fr : Nat)) (by simp))
  have u14 := (hg 14).symm.trans (hpp (14, I (n : Nat)) (by simp))
  have u15 := (hg 15).symm.trans (hpp (15, I (k : Nat)) (by simp))
  clear hg hpp hsz hd
  unfold hlFr hlT hlL hlB Try.f20 seq1 seq2 blockC loopC
  simp only [Option.getD_some, lits, Nat.reduceAdd, u0, u1, u2, u3, u14, u15]
  clear u0 u1 u2 u3 u14 u15
  refine goesI_seq (dt_idle _ _) ?_
  refine goesI_region (dt_idle _ _) ?_
  simp only [List.size_toArray, List.length_cons, List.length_nil, Nat.reduceAdd, Nat.zero_add, List.range, List.range.loop]
  iterate 1
    (refine goesI_oper rfl rfl (by decide) (fun d K hK => ?_)
     go_simp
     refine hK _ _ ⟨dt_reads (fun e he => ?_), GoesI.at ?_ d⟩
     · have hm := mem_listed he
       simp [go_sem, *] at hm
       try exact ⟨_, _, hm⟩
     clear hK K)
  refine goesI_regionEnd (dt_idle _ _) ?_
  refine goesI_seq (dt_idle _ _) ?_
  refine goesI_cond (dt_idle _ _) (t := true) (by simp [Act.eval]; try omega) ?_
  simp only [if_true, if_false, Bool.false_eq_true]
  refine goesI_skip (dt_idle _ _) ?_
  refine goesI_seq (dt_idle _ _) ?_
  refine goesI_block (dt_idle _ _) ?_
  refine goesI_seq (dt_idle _ _) ?_
  refine goesI_seq (dt_idle _ _) ?_
  refine goesI_region (dt_idle _ _) ?_
  simp only [List.size_toArray, List.length_cons, List.length_nil, Nat.reduceAdd, Nat.zero_add, List.range, List.range.loop]
  iterate 3
    (refine goesI_oper rfl rfl (by decide) (fun d K hK => ?_)
     go_simp
     refine hK _ _ ⟨dt_reads (fun e he => ?_), GoesI.at ?_ d⟩
     · have hm := mem_listed he
       simp [go_sem, *] at hm
       try exact ⟨_, _, hm⟩
     clear hK K)
  refine goesI_regionEnd (dt_idle _ _) ?_
  refine goesI_cond (dt_idle _ _) (t := false) (by simp [Act.eval]; try omega) ?_
  simp only [if_true, if_false, Bool.false_eq_true]
  refine goesI_skip (dt_idle _ _) ?_
  refine goesI_seq (dt_idle _ _) ?_
  refine goesI_region (dt_idle _ _) ?_
  simp only [List.size_toArray, List.length_cons, List.length_nil, Nat.reduceAdd, Nat.zero_add, List.range, List.range.loop]
  iterate 8
    (refine goesI_oper rfl rfl (by decide) (fun d K hK => ?_)
     go_simp
     refine hK _ _ ⟨dt_reads (fun e he => ?_), GoesI.at ?_ d⟩
     · have hm := mem_listed he
       simp [go_sem, *] at hm
       try exact ⟨_, _, hm⟩
     clear hK K)
  refine goesI_into (f := 30) (fn := Try.f30) (args := #[Pt cb 0, Pt tb 0]) (dt_idle _ _) rfl rfl (by decide) rfl (by simp [Act.eval]) Try.func30 (by decide) rfl ?_
  exact free17 y _ rfl hvw hn HM.out (fun v' w' r nn f => hk _ v' w' ⟨rfl, rfl, by
    intro p hp
    simp only [List.mem_cons, List.not_mem_nil, or_false] at hp
    rcases hp with rfl | rfl | rfl | rfl | rfl | rfl <;> rfl⟩ r nn f) _ rfl
end Go.Proofs.Ytmmfjanbjheekaa.Gen

/- chain.New (12) of no world, main alone. -/
set_option linter.unusedSimpArgs false
set_option linter.unusedVariables false
namespace Go.Proofs.Ytmmfjanbjheekaa.Gen
open Go Go.Lift Go.Conc Go.RowKit

def kbN (N k : Nat) : List (Nat × Int) := (List.range k).map fun j => (N + 2 + j, 0)
theorem kbN_len (N k : Nat) : (kbN N k).length = k := by simp [kbN]
theorem kbN_succ (N k : Nat) : kbN N (k + 1) = kbN N k ++ [(N + 2 + k, 0)] := by simp [kbN, List.range_succ]
/-- Behind k cells. -/
structure NwC (v : World) (s N k : Nat) (u : World) : Prop where
  row : u.heap[N]? = some (objP s (kbN N k))
  ctr : u.heap[N + 1]? = some (.cells #[.slice (some ⟨N, 0, none⟩) s s] 62 (0, 0))
  cel : ∀ j, j < k → u.heap[N + 2 + j]? = some (.cells #[I 0, I 0] 78 (0, 0))
  size : u.heap.size = N + 2 + k
  old : ∀ b, b < N → u.heap[b]? = v.heap[b]?
  os : u.os = v.os
  out : u.output = v.output
theorem NwC.same {v u u' : World} {s N k : Nat} (h : NwC v s N k u) (e1 : u'.heap = u.heap) (e2 : u'.os = u.os) (e3 : u'.output = u.output) : NwC v s N k u' :=
  ⟨by rw [e1]; exact h.row, by rw [e1]; exact h.ctr, fun j hj => by rw [e1]; exact h.cel j hj, by rw [e1]; exact h.size, fun b hb => by rw [e1]; exact h.old b hb, e2.trans h.os, e3.trans h.out⟩
theorem NwC.next {v u u' : World} {s N k : Nat} (h : NwC v s N k u) (hk : k < s) (e1 : u'.heap = u.heap.push (.cells #[I 0, I 0] 78 (0, 0))) (e2 : u'.os = u.os) (e3 : u'.output = u.output) : NwC v s N (k + 1) (u'.setCell ⟨N, k, none⟩ (Pt u.heap.size 0)) := by
  have oth : ∀ b, b ≠ N → (u'.setCell ⟨N, k, none⟩ (Pt u.heap.size 0)).heap[b]? = u'.heap[b]? := fun b hb => Below.heap_setCell _ _ _ _ hb
  have at_ : ∀ b, b < u.heap.size → u'.heap[b]? = u.heap[b]? := fun b hb => by rw [e1, Array.getElem?_push, if_neg (by omega)]
  have hs := h.size
  refine ⟨?_, ?_, fun j hj => ?_, ?_, fun b hb => ?_, ?_, ?_⟩
  · have h0 : u'.heap[N]? = some (.cells (rowP s (kbN N k)).toArray 63 (0, 0)) := by rw [at_ N (by omega)]; exact h.row
    have := heap_setCell_same (o := k) h0 (Pt u.heap.size 0)
    rw [this]
    have h1 := rowP_next (s := s) (K := kbN N k) (N + 2 + k, 0) (by rw [kbN_len]; exact hk)
    rw [kbN_len] at h1
    rw [hs, h1, ← kbN_succ]
    rfl
  · rw [oth _ (by omega), at_ _ (by omega)]; exact h.ctr
  · rw [oth _ (by omega)]
    by_cases e : j = k
    · subst e
      rw [e1, ← hs, Array.getElem?_push_size]
    · rw [at_ _ (by omega)]; exact h.cel j (by omega)
  · have : (u'.setCell ⟨N, k, none⟩ (Pt u.heap.size 0)).heap.size = u'.heap.size := by simp [World.setCell]
    rw [this, e1, Array.size_push]; omega
  · rw [oth _ (by omega), at_ _ (by omega)]; exact h.old b hb
  · exact e2.trans h.os
  · exact e3.trans h.out
set_option maxHeartbeats 4000000 in
set_option maxRecDepth 100000 in
theorem body12n (v : World) (s : Nat) (h1 : s ≤ 100) : Body Try.f12 #[.pointer none, I (s : Nat)] v (fun r v' => r = Pt (v.heap.size + 1) 0 ∧ NwC v s v.heap.size s v') := by
  intro code hb
  obtain rfl := Option.some.inj hb
  clear hb
  have hmx : (Builtin.max_ #[3, 3] 3 #[I s, I 0]) = pure (I s) := by
    show (pure (Value.int .i64 (if (0 : Int) > s then 0 else s)) : Sem Value) = _
    rw [if_neg (by omega)]
  have hmn : (Builtin.min_ #[3, 3] 3 #[I s, I 100]) = pure (I s) := by
    show (pure (Value.int .i64 (if (100 : Int) < s then 100 else s)) : Sem Value) = _
    rw [if_neg (by omega)]
  have hmk := make_ptrs s (by omega)
  rw [made_rowP] at hmk
  simp only [Try.ntmps12, List.size_toArray, List.length_cons, List.length_nil, Nat.reduceAdd, Nat.reduceSub, Array.replicate_succ, Array.replicate_zero, List.push_toArray, List.append_toArray, List.nil_append, List.cons_append]
  go_wp2_with fail
  go_loopw [18] (fun i u => ∃ (k : Nat), k ≤ s ∧ i = .int .i64 k ∧ NwC v s v.heap.size k u) (fun i _ => s - (intOf i).toNat)
  case atStart =>
    refine ⟨0, Nat.zero_le _, rfl, ?_, ?_, fun j hj => by omega, ?_, fun b hb => ?_, rfl, rfl⟩
    · show ((v.heap.push (objP s [])).push _)[v.heap.size]? = _
      rw [Array.getElem?_push, if_neg (by simp), Array.getElem?_push_size]
      rfl
    · show ((v.heap.push (objP s [])).push _)[v.heap.size + 1]? = _
      rw [show v.heap.size + 1 = (v.heap.push (objP s [])).size by simp, Array.getElem?_push_size]
    · show ((v.heap.push (objP s [])).push _).size = _
      simp
    · show ((v.heap.push (objP s [])).push _)[b]? = _
      rw [Array.getElem?_push, if_neg (by simp; omega), Array.getElem?_push, if_neg (by omega)]
  case round =>
    obtain ⟨k, hk, rfl, hO⟩ := hrel
    have HOB : Hid (NwC v s v.heap.size k wr) := ⟨hO⟩
    by_cases hlt : k < s
    · have c1 : wr.cell? ⟨v.heap.size + 1, 0, none⟩ = some (.slice (some ⟨v.heap.size, 0, none⟩) s s) := cell_of hO.ctr rfl
      have hks : (k : Int) < (s : Int) := by omega
      clear hO
      generalize hNN : v.heap.size = N at HOB c1
      go_wp2_with fail
      go_region_held3 (fun u => u.cell? ⟨N + 1, 0, none⟩ = some (.slice (some ⟨N, 0, none⟩) s s))
        (first | assumption | (simp [go_sem, *]; done))
        (first
          | (go_at_call 17; refine ((body10n wr.drew 0).calls Try.func17 rfl).mono ?_; rintro e w1 ⟨_, rfl, rfl, q1, q2, q3⟩
             have HO2 : Hid (w1.heap = wr.heap.push (.cells #[I 0, I 0] 78) ∧ w1.os = wr.os ∧ w1.output = wr.output) := ⟨q1, q2, q3⟩
             have hN : w1.heap[N]? = some (objP s (kbN N k)) := by rw [HO2.out.1, Array.getElem?_push, if_neg (by have := HOB.out.size; omega)]; exact HOB.out.row
             have hN1 : w1.heap[N + 1]? = some (.cells #[.slice (some ⟨N, 0, none⟩) s s] 62 (0, 0)) := by rw [HO2.out.1, Array.getElem?_push, if_neg (by have := HOB.out.size; omega)]; exact HOB.out.ctr
             have c2 : w1.cell? ⟨N + 1, 0, none⟩ = some (.slice (some ⟨N, 0, none⟩) s s) := cell_of hN1 rfl
             obtain ⟨c3, c4⟩ := objP_at hN (kbN_len N k) hlt
             clear q1 q2 q3 hN hN1))
      go_wp2_with fail
      go_roundw
      case rel =>
        refine ⟨k + 1, by omega, by go_num, ?_⟩
        exact HOB.out.next hlt HO2.out.1 HO2.out.2.1 HO2.out.2.2
      case measure => simp [intOf]; omega
    · have : k = s := by omega
      subst this
      go_wp2_with fail
      go_ret
      exact ⟨_, rfl, rfl, HOB.out⟩
end Go.Proofs.Ytmmfjanbjheekaa.Gen

/- The laws' first play of a chain (awake, 5): its pieces; asks of a free thread; Play of no world. (Made by wip/tools/mkch.py.) -/
set_option linter.unusedSimpArgs false
set_option linter.unusedVariables false
namespace Go.Proofs.Ytmmfjanbjheekaa.Gen
open Go Go.Lift Go.Conc Go.RowKit

noncomputable def hwB : Code := Try.f5.body.getD .skip
noncomputable def y0 : Code := seq1 hwB
noncomputable def y1 : Code := seq1 (seq2 hwB)
noncomputable def y2 : Code := seq1 (seq2 (seq2 hwB))
noncomputable def y3 : Code := seq1 (seq2 (seq2 (seq2 hwB)))
noncomputable def y4 : Code := seq1 (seq2 (seq2 (seq2 (seq2 hwB))))
noncomputable def y5 : Code := seq1 (seq2 (seq2 (seq2 (seq2 (seq2 hwB)))))
noncomputable def y6 : Code := seq1 (seq1 (seq2 (seq2 (seq2 (seq2 (seq2 (seq2 hwB)))))))
noncomputable def y7 : Code := condA (seq2 (seq1 (seq2 (seq2 (seq2 (seq2 (seq2 (seq2 hwB))))))))
noncomputable def y8 : Code := seq1 (seq2 (seq2 (seq2 (seq2 (seq2 (seq2 (seq2 hwB)))))))
noncomputable def y9 : Code := seq1 (seq2 (seq2 (seq2 (seq2 (seq2 (seq2 (seq2 (seq2 hwB))))))))
noncomputable def y10 : Code := seq1 (seq2 (seq2 (seq2 (seq2 (seq2 (seq2 (seq2 (seq2 (seq2 hwB)))))))))
noncomputable def y11 : Code := (seq2 (seq2 (seq2 (seq2 (seq2 (seq2 (seq2 (seq2 (seq2 (seq2 hwB))))))))))
noncomputable def Y10 : Code := .seq y10 y11
noncomputable def Y9 : Code := .seq y9 Y10
noncomputable def Y8 : Code := .seq y8 Y9
noncomputable def Y4 : Code := .seq y4 (.seq y5 (.seq (.seq y6 (.cond (.tmp 44) y7 .skip)) Y8))
noncomputable def Y3 : Code := .seq y3 Y4
theorem eHwB : hwB = .seq y0 (.seq y1 (.seq y2 Y3)) := by kernel_rfl
theorem fine_y0 : fineCode Try.prog true LV y0 := fineCode_askS callV extT (by kernel_rfl)
theorem fine_y1 : fineCode Try.prog true LV y1 := fineCode_askS callV extT (by kernel_rfl)
theorem fine_y4 : fineCode Try.prog true LV y4 := fineCode_askS callV extT (by kernel_rfl)
theorem fine_y5 : fineCode Try.prog true LV y5 := fineCode_askS callV extT (by kernel_rfl)
theorem fine_y6 : fineCode Try.prog true LV y6 := fineCode_askS callV extT (by kernel_rfl)
theorem fine_y11 : fineCode Try.prog true LV y11 := fineCode_askS callV extT (by kernel_rfl)
set_option maxHeartbeats 4000000 in
set_option maxRecDepth 100000 in
theorem y0_wp {v : World} {a : Act} (hA : Fl 89 [] a) : y0.wp Try.prog (fun e a' w' => e = .normal ∧ Fl 89 [(0, .bool false)] a' ∧ w'.heap = v.heap ∧ w'.os = v.os ∧ w'.output = v.output) a v := by
  obtain ⟨hsz, hd, hp⟩ := hA
  obtain ⟨u, rfl, hg⟩ := litN hsz hd
  clear hg hp hsz hd
  unfold y0 hwB Try.f5 seq1
  simp only [Option.getD_some, lits, Nat.reduceAdd]
  go_wp2_with fail
  first | refine ⟨?_, rfl, rfl, rfl⟩ | refine ⟨?_, rfl, rfl⟩ | refine ⟨?_, rfl⟩ | skip
  exact ⟨rfl, rfl, by
   intro p hp
   simp only [List.mem_cons, List.not_mem_nil, or_false] at hp
   rcases hp with rfl <;> first | rfl | exact congrArg I (by omega) | exact congrArg Value.bool (by simp)⟩

set_option maxHeartbeats 4000000 in
set_option maxRecDepth 100000 in
theorem y1_wp {v : World} {a : Act} (hA : Fl 89 [(0, .bool false)] a) :
    y1.wp Try.prog (fun e a w' => e = .normal ∧ ∃ wb bk sc, Fl 89 [(0, .bool false), (1, Pt wb 0)] a ∧ IsNew v [] wb bk sc w') a v := by
  have H7 : Hid (Calls Try.prog 7 #[.slice none 0 0] v _) := ⟨(body70 (v := v) none 0).calls Try.func7 rfl⟩
  obtain ⟨hsz, hd, hp⟩ := hA
  obtain ⟨u, rfl, hg⟩ := litN hsz hd
  have u0 := (hg 0).symm.trans (hp (0, .bool false) (by simp))
  clear hg hp hsz hd
  unfold y1 hwB Try.f5 seq2 seq1
  simp only [Option.getD_some, lits, Nat.reduceAdd, u0]
  clear u0
  go_wp2_with (first
    | (go_at_call 7; refine H7.out.mono ?_; rintro e w1 ⟨_, rfl, wb, bk, sc, rfl, hnew⟩))
  exact ⟨wb, ⟨rfl, rfl, by
   intro p hp
   simp only [List.mem_cons, List.not_mem_nil, or_false] at hp
   rcases hp with rfl | rfl <;> first | rfl | exact congrArg I (by omega) | exact congrArg Value.bool (by simp)⟩, bk, sc, hnew⟩

set_option maxHeartbeats 4000000 in
set_option maxRecDepth 100000 in
theorem y4_wp {v : World} {a : Act} {M : Nat} (hA : Fl 89 [(0, .bool false), (2, .slice (some ⟨M, 0, none⟩) 1 1), (3, I 0), (5, I 1)] a) :
    y4.wp Try.prog (fun e a w' => e = .normal ∧ Fl 89 [(0, .bool false), (2, .slice (some ⟨M, 0, none⟩) 1 1), (3, I 0), (5, I 1), (6, Pt v.heap.size 0)] a ∧ w'.heap = v.heap.push (.cells #[.pointer none, I 0, .chan none, I 0, I 0, I 0, I 0] 59) ∧ w'.os = v.os ∧ w'.output = v.output) a v := by
  have H7 : Hid (Calls Try.prog 11 #[I 0] v _) := ⟨(body11 v 0).calls Try.func11 rfl⟩
  obtain ⟨hsz, hd, hp⟩ := hA
  obtain ⟨u, rfl, hg⟩ := litN hsz hd
  have u0 := (hg 0).symm.trans (hp (0, .bool false) (by simp))
  have u2 := (hg 2).symm.trans (hp (2, .slice (some ⟨M, 0, none⟩) 1 1) (by simp))
  have u3 := (hg 3).symm.trans (hp (3, I 0) (by simp))
  have u5 := (hg 5).symm.trans (hp (5, I 1) (by simp))
  clear hg hp hsz hd
  unfold y4 hwB Try.f5 seq2 seq1
  simp only [Option.getD_some, lits, Nat.reduceAdd, u0, u2, u3, u5]
  clear u0 u2 u3 u5
  go_wp2_with (first
    | (go_at_call 11; refine H7.out.mono ?_; rintro e w1 ⟨_, rfl, rfl, k1, k2, k3⟩))
  first | exact ⟨⟨rfl, rfl, by
   intro p hp
   simp only [List.mem_cons, List.not_mem_nil, or_false] at hp
   rcases hp with rfl | rfl | rfl | rfl | rfl <;> first | rfl | exact congrArg I (by omega) | exact congrArg Value.bool (by simp)⟩, k1, k2, k3⟩ | exact ⟨rfl, rfl, by
   intro p hp
   simp only [List.mem_cons, List.not_mem_nil, or_false] at hp
   rcases hp with rfl | rfl | rfl | rfl | rfl <;> first | rfl | exact congrArg I (by omega) | exact congrArg Value.bool (by simp)⟩

set_option maxHeartbeats 4000000 in
set_option maxRecDepth 100000 in
theorem y5_wp {v : World} {a : Act} {M tb : Nat} (hA : Fl 89 [(0, .bool false), (2, .slice (some ⟨M, 0, none⟩) 1 1), (3, I 0), (5, I 1), (6, Pt tb 0)] a) :
    y5.wp Try.prog (fun e a w' => e = .normal ∧ Fl 89 [(0, .bool false), (2, .slice (some ⟨M, 0, none⟩) 1 1), (3, I 0), (5, I 1), (6, Pt tb 0), (7, Pt (v.heap.size + 1) 0)] a ∧ NwC v 2 v.heap.size 2 w') a v := by
  have H7 : Hid (Calls Try.prog 12 #[.pointer none, I 2] v _) := ⟨(body12n v 2 (by omega)).calls Try.func12 rfl⟩
  obtain ⟨hsz, hd, hp⟩ := hA
  obtain ⟨u, rfl, hg⟩ := litN hsz hd
  have u0 := (hg 0).symm.trans (hp (0, .bool false) (by simp))
  have u2 := (hg 2).symm.trans (hp (2, .slice (some ⟨M, 0, none⟩) 1 1) (by simp))
  have u3 := (hg 3).symm.trans (hp (3, I 0) (by simp))
  have u5 := (hg 5).symm.trans (hp (5, I 1) (by simp))
  have u6 := (hg 6).symm.trans (hp (6, Pt tb 0) (by simp))
  clear hg hp hsz hd
  unfold y5 hwB Try.f5 seq2 seq1
  simp only [Option.getD_some, lits, Nat.reduceAdd, u0, u2, u3, u5, u6]
  clear u0 u2 u3 u5 u6
  go_wp2_with (first
    | (go_at_call 12; refine H7.out.mono ?_; rintro e w1 ⟨_, rfl, rfl, k1⟩))
  exact ⟨rfl, rfl, by
   intro p hp
   simp only [List.mem_cons, List.not_mem_nil, or_false] at hp
   rcases hp with rfl | rfl | rfl | rfl | rfl | rfl <;> first | rfl | exact congrArg I (by omega) | exact congrArg Value.bool (by simp)⟩

set_option maxHeartbeats 4000000 in
set_option maxRecDepth 100000 in
theorem y6_wp {v : World} {a : Act} {M tb lb A0 : Nat} (c0 : v.cell? ⟨M, 0, none⟩ = some (.slice (some ⟨A0, 0, none⟩) 3 3)) (hA : Fl 89 [(0, .bool false), (2, .slice (some ⟨M, 0, none⟩) 1 1), (3, I 0), (5, I 1), (6, Pt tb 0), (7, Pt lb 0)] a) : y6.wp Try.prog (fun e a' w' => e = .normal ∧ Fl 89 [(0, .bool false), (2, .slice (some ⟨M, 0, none⟩) 1 1), (3, I 0), (5, I 1), (6, Pt tb 0), (7, Pt lb 0), (44, .bool false)] a' ∧ w'.heap = v.heap ∧ w'.os = v.os ∧ w'.output = v.output) a v := by
  obtain ⟨hsz, hd, hp⟩ := hA
  obtain ⟨u, rfl, hg⟩ := litN hsz hd
  have u0 := (hg 0).symm.trans (hp (0, .bool false) (by simp))
  have u2 := (hg 2).symm.trans (hp (2, .slice (some ⟨M, 0, none⟩) 1 1) (by simp))
  have u3 := (hg 3).symm.trans (hp (3, I 0) (by simp))
  have u5 := (hg 5).symm.trans (hp (5, I 1) (by simp))
  have u6 := (hg 6).symm.trans (hp (6, Pt tb 0) (by simp))
  have u7 := (hg 7).symm.trans (hp (7, Pt lb 0) (by simp))
  clear hg hp hsz hd
  unfold y6 hwB Try.f5 seq2 seq1
  simp only [Option.getD_some, lits, Nat.reduceAdd, u0, u2, u3, u5, u6, u7]
  clear u0 u2 u3 u5 u6 u7
  go_wp2_with fail
  first | refine ⟨?_, rfl, rfl, rfl⟩ | refine ⟨?_, rfl, rfl⟩ | refine ⟨?_, rfl⟩ | skip
  exact ⟨rfl, rfl, by
   intro p hp
   simp only [List.mem_cons, List.not_mem_nil, or_false] at hp
   rcases hp with rfl | rfl | rfl | rfl | rfl | rfl | rfl <;> first | rfl | exact congrArg I (by omega) | exact congrArg Value.bool (by simp)⟩

set_option maxHeartbeats 4000000 in
set_option maxRecDepth 100000 in
theorem y11_wp {v : World} {a : Act} {M tb lb A0 : Nat} (c0 : v.cell? ⟨M, 0, none⟩ = some (.slice (some ⟨A0, 0, none⟩) 3 3)) (c3 : v.cell? ⟨A0, 3, none⟩ = some (I 0)) (c4 : v.cell? ⟨A0, 4, none⟩ = some (I 0)) (c5 : v.cell? ⟨A0, 5, none⟩ = some (I 1)) (hA : Fl 89 [(0, .bool false), (2, .slice (some ⟨M, 0, none⟩) 1 1), (3, I 0), (5, I 1), (6, Pt tb 0), (7, Pt lb 0), (8, .bool false), (9, .bool true), (10, .bool false)] a) : y11.wp Try.prog (fun e a' w' => e = .ret ∧ Fl 89 [(0, .bool true)] a' ∧ w'.heap = v.heap ∧ w'.os = v.os ∧ w'.output = v.output) a v := by
  obtain ⟨hsz, hd, hp⟩ := hA
  obtain ⟨u, rfl, hg⟩ := litN hsz hd
  have u0 := (hg 0).symm.trans (hp (0, .bool false) (by simp))
  have u2 := (hg 2).symm.trans (hp (2, .slice (some ⟨M, 0, none⟩) 1 1) (by simp))
  have u3 := (hg 3).symm.trans (hp (3, I 0) (by simp))
  have u5 := (hg 5).symm.trans (hp (5, I 1) (by simp))
  have u6 := (hg 6).symm.trans (hp (6, Pt tb 0) (by simp))
  have u7 := (hg 7).symm.trans (hp (7, Pt lb 0) (by simp))
  have u8 := (hg 8).symm.trans (hp (8, .bool false) (by simp))
  have u9 := (hg 9).symm.trans (hp (9, .bool true) (by simp))
  have u10 := (hg 10).symm.trans (hp (10, .bool false) (by simp))
  clear hg hp hsz hd
  unfold y11 hwB Try.f5 seq2
  simp only [Option.getD_some, lits, Nat.reduceAdd, u0, u2, u3, u5, u6, u7, u8, u9, u10]
  clear u0 u2 u3 u5 u6 u7 u8 u9 u10
  go_wp2_with fail
  first | refine ⟨?_, rfl, rfl, rfl⟩ | refine ⟨?_, rfl, rfl⟩ | refine ⟨?_, rfl⟩ | skip
  exact ⟨rfl, rfl, by
   intro p hp
   simp only [List.mem_cons, List.not_mem_nil, or_false] at hp
   rcases hp with rfl <;> first | rfl | exact congrArg I (by omega) | exact congrArg Value.bool (by simp)⟩

set_option maxHeartbeats 4000000 in
set_option maxRecDepth 100000 in
theorem body14n {v : World} (b : Nat) {p : Option Addr} (c0 : v.cell? ⟨b, 0, none⟩ = some (.slice p 1 1)) : Body Try.f14 #[.pointer none, .slice (some ⟨b, 0, none⟩) 1 1] v (fun r v' => r = I 1 ∧ v'.heap = v.heap ∧ v'.os = v.os ∧ v'.output = v.output) := by
  intro code hb
  obtain rfl := Option.some.inj hb
  clear hb
  simp only [Try.ntmps14, List.size_toArray, List.length_cons, List.length_nil, Nat.reduceAdd, Nat.reduceSub, Array.replicate_succ, Array.replicate_zero, List.push_toArray, List.append_toArray, List.nil_append, List.cons_append]
  go_wp2_with fail
  go_loopw [9] (fun i u => u = v ∧ ∃ k : Nat, k ≤ 1 ∧ i = .int .i64 k) (fun i _ => 1 - (intOf i).toNat)
  case atStart => exact ⟨rfl, 0, Nat.zero_le _, rfl⟩
  case round =>
    obtain ⟨rfl, k, hk, rfl⟩ := hrel
    by_cases hlt : k < 1
    · obtain rfl : k = 0 := by omega
      go_wp2_with fail
      go_roundw
      case rel => exact ⟨trivial, 1, by omega, by go_num⟩
      case measure => simp [intOf]
    · obtain rfl : k = 1 := by omega
      go_wp2_with fail
      go_ret
      exact ⟨_, rfl, rfl, rfl, rfl, rfl⟩
set_option maxHeartbeats 4000000 in
set_option maxRecDepth 100000 in
theorem k8c0n_wp {v : World} {a : Act} {m : Int} {b : Nat} (hA : Fl 28 [(0, .pointer none), (1, I m), (2, .slice (some ⟨b, 0, none⟩) 1 1)] a) : k8c0.wp Try.prog (fun e a w' => e = .normal ∧ Fl 28 [(0, .pointer none), (1, I m), (2, .slice (some ⟨b, 0, none⟩) 1 1), (6, .slice none 0 0), (7, I 0)] a ∧ w'.heap = v.heap ∧ w'.os = v.os ∧ w'.output = v.output) a v := by
  obtain ⟨hsz, hd, hp⟩ := hA
  obtain ⟨u, rfl, hg⟩ := litN hsz hd
  have u0 := (hg 0).symm.trans (hp (0, .pointer none) (by simp))
  have u1 := (hg 1).symm.trans (hp (1, I m) (by simp))
  have u2 := (hg 2).symm.trans (hp (2, .slice (some ⟨b, 0, none⟩) 1 1) (by simp))
  clear hg hp hsz hd
  unfold k8c0 B8c Try.f8 seq1
  simp only [Option.getD_some, lits, Nat.reduceAdd, u0, u1, u2]
  clear u0 u1 u2
  go_wp2_with fail
  first | refine ⟨?_, rfl, rfl, rfl⟩ | refine ⟨?_, rfl, rfl⟩ | refine ⟨?_, rfl⟩ | skip
  exact ⟨rfl, rfl, by
   intro p hp
   simp only [List.mem_cons, List.not_mem_nil, or_false] at hp
   rcases hp with rfl | rfl | rfl | rfl | rfl <;> first | rfl | exact congrArg I (by omega) | exact congrArg Value.bool (by simp)⟩

set_option maxHeartbeats 4000000 in
set_option maxRecDepth 100000 in
theorem k8c1_nil {v : World} {a : Act} {m : Int} {b : Nat} {p : Option Addr} (c0 : v.cell? ⟨b, 0, none⟩ = some (.slice p 1 1)) (hA : Fl 28 [(0, .pointer none), (1, I m), (2, .slice (some ⟨b, 0, none⟩) 1 1), (6, .slice none 0 0), (7, I 0)] a) :
    k8c1.wp Try.prog (fun e a w' => e = .ret ∧ ∃ x, (results Try.f8 a.tmps).run Try.prog w' = .ok x w' ∧ x = .tuple #[.slice none 0 0, I 1] ∧ w'.heap = v.heap ∧ w'.os = v.os ∧ w'.output = v.output) a v := by
  have H19 : Hid (Calls Try.prog 14 #[.pointer none, .slice (some ⟨b, 0, none⟩) 1 1] v _) := ⟨(body14n b c0).calls Try.func14 rfl⟩
  obtain ⟨hsz, hd, hp⟩ := hA
  obtain ⟨u, rfl, hg⟩ := litN hsz hd
  have u0 := (hg 0).symm.trans (hp (0, .pointer none) (by simp))
  have u1 := (hg 1).symm.trans (hp (1, I m) (by simp))
  have u2 := (hg 2).symm.trans (hp (2, .slice (some ⟨b, 0, none⟩) 1 1) (by simp))
  have u6 := (hg 6).symm.trans (hp (6, .slice none 0 0) (by simp))
  have u7 := (hg 7).symm.trans (hp (7, I 0) (by simp))
  clear hg hp hsz hd
  unfold k8c1 B8c Try.f8 seq1 seq2
  simp only [Option.getD_some, lits, Nat.reduceAdd, u0, u1, u2, u6, u7]
  clear u0 u1 u2 u6 u7
  go_wp2_with (first
    | (go_at_call 14; refine H19.out.mono ?_; rintro e w1 ⟨_, rfl, rfl, k1, k2, k3⟩))
  first
    | exact ⟨_, results_tmp2 (t := 6) (u := 7) rfl _ _ _, rfl, k1, k2, k3⟩
    | exact results_tmp2 (t := 6) (u := 7) rfl _ _ _
set_option maxHeartbeats 4000000 in
set_option maxRecDepth 100000 in
/-- Play of no world refuses. -/
theorem hplay_nil {Ch : Nat → Prop} {Stop : Goroutine → World → Prop} {main : Bool} {v w : World} (m : Int) (b : Nat) {p : Option Addr} (c0 : v.cell? ⟨b, 0, none⟩ = some (.slice p 1 1)) (cs : List Frame) {bc : Frame} {ac : Act} {ops : Array Oper} {q : Nat} {rest : List Nat} {oc : Oper} {k0 : List Item} (hoc : ops[q]? = some oc)
    (hvw : Rel zn v w) (hn : NoRow Ch v)
    (hk : ∀ v' w', Rel zn v' w' → NoRow Ch v' → v'.heap = v.heap → v'.os = v.os → v'.output = v.output → GoesI Try.prog main (DT (ScZ zn) Ch) Stop (G (bc.at (ac.put oc.dst (.tuple #[.slice none 0 0, I 1])) (.inRegion ops rest :: k0)) cs) w') :
    GoesI Try.prog main (DT (ScZ zn) Ch) Stop (G ((base 8).at { tmps := #[.pointer none, I m, .slice (some ⟨b, 0, none⟩) 1 1] ++ Array.replicate 25 undef, defers := [] } [.code B8c]) (bc.at ac (.inRegion ops (q :: rest) :: k0) :: cs)) w := by
  rw [eB8c]
  have hA0 : Fl 28 [(0, .pointer none), (1, I m), (2, .slice (some ⟨b, 0, none⟩) 1 1)] { tmps := #[.pointer none, I m, .slice (some ⟨b, 0, none⟩) 1 1] ++ Array.replicate 25 undef, defers := [] } := by
    simp only [Array.replicate_succ, Array.replicate_zero, List.push_toArray, List.append_toArray, List.nil_append, List.cons_append]
    exact ⟨rfl, rfl, by
      intro p hp
      simp only [List.mem_cons, List.not_mem_nil, or_false] at hp
      rcases hp with rfl | rfl | rfl <;> rfl⟩
  refine goesI_seq (dt_idle _ _) ?_
  refine goesI_plain (z := zn) (wr := true) (L := LV) (I := NoRow Ch) hE fineV noRow_keeps (fun v v' w w' es hi hr ho he => dt_of_z v v' w w' es hi hr ho he) hvw fine_k8c0 hA0.2.1 (by simp [base]) hn (Q := fun a w' => Fl 28 [(0, .pointer none), (1, I m), (2, .slice (some ⟨b, 0, none⟩) 1 1), (6, .slice none 0 0), (7, I 0)] a ∧ w'.heap = v.heap ∧ w'.os = v.os ∧ w'.output = v.output) (fun τ => k8c0n_wp (v := onTape v τ 0) hA0) ?_
  rintro a0 v0 w0 ⟨hB0, e0, o0, u0⟩ hr0 hn0 -
  refine goesI_seq (dt_idle _ _) ?_
  refine goesI_outZ (c := k8c1) (f := 8) (fn := Try.f8) (L := LV) hE fineV hr0 hn0 Try.func8 fine_k8c1 hB0.2.1 hoc (R := fun r w' => r = .tuple #[.slice none 0 0, I 1] ∧ w'.heap = v0.heap ∧ w'.os = v0.os ∧ w'.output = v0.output) (fun τ => k8c1_nil (v := onTape v0 τ 0) (p := p) (by
    rw [World.cell?_of_block (w := v) (w' := onTape v0 τ 0) (by show v0.heap[_]? = _; rw [e0])]; exact c0) hB0) (fun r v' w' hR hr' hn' => ?_)
  obtain ⟨rfl, h1, h2, h3⟩ := hR
  exact hk v' w' hr' hn' (h1.trans e0) (h2.trans o0) (h3.trans u0)

/-- A chain of two keys, of no world, and a free thread. -/
structure C2 (tb c sb c0 c1 : Nat) (x0 x1 : Int) (v : World) : Prop where
  row : v.cell? ⟨c, 0, none⟩ = some (.slice (some ⟨sb, 0, none⟩) 2 2)
  s0 : v.cell? ⟨sb, 0, none⟩ = some (Pt c0 0)
  s1 : v.cell? ⟨sb, 1, none⟩ = some (Pt c1 0)
  f0 : Fm tb c0 x0 v
  f1 : Fm tb c1 x1 v
  ne : c0 ≠ c1
  a0 : c ≠ c0 ∧ c ≠ c1 ∧ sb ≠ c0 ∧ sb ≠ c1
theorem C2.put0 {tb c sb c0 c1 : Nat} {x0 x1 y : Int} {v v' : World} (h : C2 tb c sb c0 c1 x0 x1 v) (f : Fto tb c0 y v v') : C2 tb c sb c0 c1 y x1 v' :=
  ⟨f.cell h.a0.1 h.row, f.cell h.a0.2.2.1 h.s0, f.cell h.a0.2.2.1 h.s1, f.fm, f.other h.f1 (fun e => h.ne e.symm), h.ne, h.a0⟩
theorem C2.put1 {tb c sb c0 c1 : Nat} {x0 x1 y : Int} {v v' : World} (h : C2 tb c sb c0 c1 x0 x1 v) (f : Fto tb c1 y v v') : C2 tb c sb c0 c1 x0 y v' :=
  ⟨f.cell h.a0.2.1 h.row, f.cell h.a0.2.2.2 h.s0, f.cell h.a0.2.2.2 h.s1, f.other h.f0 h.ne, f.fm, h.ne, h.a0⟩
/-- What else lies there stays. -/
structure Kp2 (c0 c1 : Nat) (v v' : World) : Prop where
  old : ∀ b, b ≠ c0 → b ≠ c1 → v'.heap[b]? = v.heap[b]?
  size : v'.heap.size = v.heap.size
  os : v'.os = v.os
  out : v'.output = v.output
theorem Kp2.trans {c0 c1 : Nat} {v v' v'' : World} (h : Kp2 c0 c1 v v') (k : Kp2 c0 c1 v' v'') : Kp2 c0 c1 v v'' := ⟨fun b h1 h2 => by rw [k.old b h1 h2, h.old b h1 h2], k.size.trans h.size, k.os.trans h.os, k.out.trans h.out⟩
theorem Kp2.of0 {tb c0 c1 : Nat} {y : Int} {v v' : World} (f : Fto tb c0 y v v') : Kp2 c0 c1 v v' := ⟨fun b h1 _ => f.old b h1, f.size, f.os, f.out⟩
theorem Kp2.of1 {tb c0 c1 : Nat} {y : Int} {v v' : World} (f : Fto tb c1 y v v') : Kp2 c0 c1 v v' := ⟨fun b _ h2 => f.old b h2, f.size, f.os, f.out⟩

/-- Ask(0, 1): nothing is written down of 1. -/
theorem fask01 {Ch : Nat → Prop} {Stop : Goroutine → World → Prop} {main : Bool} {v w : World} {tb c sb c0 c1 : Nat} (h : C2 tb c sb c0 c1 0 0 v) (cs : List Frame) {bc : Frame} {ac : Act} {ops : Array Oper} {q : Nat} {rest : List Nat} {oc : Oper} {k0 : List Item} (hoc : ops[q]? = some oc) (hvw : Rel zn v w) (hn : NoRow Ch v)
    (hk : ∀ v' w', Rel zn v' w' → NoRow Ch v' → C2 tb c sb c0 c1 2 0 v' → Kp2 c0 c1 v v' → GoesI Try.prog main (DT (ScZ zn) Ch) Stop (G (bc.at (ac.put oc.dst (.bool false)) (.inRegion ops rest :: k0)) cs) w') (code : Code) (hc : Try.f13.body = some code) :
    GoesI Try.prog main (DT (ScZ zn) Ch) Stop (G ((base 13).at { tmps := #[Pt c 0, Pt tb 0, I ((0 : Nat) : Int), I ((1 : Nat) : Int)] ++ Array.replicate 31 undef, defers := [] } [.code code]) (bc.at ac (.inRegion ops (q :: rest) :: k0) :: cs)) w := by
  refine ask_inF (n := 2) (fr := 0) (to := 1) 0 (by omega) (by omega) (by omega) h.row h.s0 h.f0 _ hvw hn (fun a v1 w1 hA r1 n1 f1 => ?_) code hc
  have h1 : C2 tb c sb c0 c1 2 0 v1 := h.put0 f1
  refine ask_next (v := v1) _ hA cs hoc (fun bd ad od qd rd oe kd hoe hB code hcode => ?_)
  refine lead_in h1.row _ r1 (fun a2 hL => ?_) code hcode
  refine lead_lookF (cb := c1) 0 (by omega) (by omega) (by omega) h1.row h1.s1 h1.f1 hL _ r1 n1 (fun a3 v3 w3 hL3 r3 n3 f3 => ?_)
  exact lead_no hL3 _ hoe r3 n3 (fun w4 r4 => hB zn Ch Stop w4 v3 false r4 n3 (fun w5 r5 => hk v3 w5 r5 n3 (h1.put1 f3) ((Kp2.of0 f1).trans (Kp2.of1 f3))))
/-- Ask(1, 0): the way comes back. -/
theorem fask10 {Ch : Nat → Prop} {Stop : Goroutine → World → Prop} {main : Bool} {v w : World} {tb c sb c0 c1 : Nat} (h : C2 tb c sb c0 c1 2 0 v) (cs : List Frame) {bc : Frame} {ac : Act} {ops : Array Oper} {q : Nat} {rest : List Nat} {oc : Oper} {k0 : List Item} (hoc : ops[q]? = some oc) (hvw : Rel zn v w) (hn : NoRow Ch v)
    (hk : ∀ v' w', Rel zn v' w' → NoRow Ch v' → C2 tb c sb c0 c1 2 1 v' → Kp2 c0 c1 v v' → GoesI Try.prog main (DT (ScZ zn) Ch) Stop (G (bc.at (ac.put oc.dst (.bool true)) (.inRegion ops rest :: k0)) cs) w') (code : Code) (hc : Try.f13.body = some code) :
    GoesI Try.prog main (DT (ScZ zn) Ch) Stop (G ((base 13).at { tmps := #[Pt c 0, Pt tb 0, I ((1 : Nat) : Int), I ((0 : Nat) : Int)] ++ Array.replicate 31 undef, defers := [] } [.code code]) (bc.at ac (.inRegion ops (q :: rest) :: k0) :: cs)) w := by
  refine ask_inF (n := 2) (fr := 1) (to := 0) 0 (by omega) (by omega) (by omega) h.row h.s1 h.f1 _ hvw hn (fun a v1 w1 hA r1 n1 f1 => ?_) code hc
  have h1 : C2 tb c sb c0 c1 2 1 v1 := h.put1 f1
  refine ask_next (v := v1) _ hA cs hoc (fun bd ad od qd rd oe kd hoe hB code hcode => ?_)
  refine lead_in h1.row _ r1 (fun a2 hL => ?_) code hcode
  refine lead_lookF (cb := c0) 2 (by omega) (by omega) (by omega) h1.row h1.s0 h1.f0 hL _ r1 n1 (fun a3 v3 w3 hL3 r3 n3 f3 => ?_)
  have := lead_next (Stop := Stop) (Ch := Ch) (z := zn) (main := main) (w := w3) (y := 1) (by omega) (by omega) (by omega) hL3 (bd.at ad (.inRegion od (qd :: rd) :: kd) :: bc.at ac (.inRegion ops (q :: rest) :: k0) :: cs) (fun a4 hL4 => lead_yes (k := 0 + 1) (by omega) rfl hL4 _ hoe r3 n3 (fun w4 r4 => hB zn Ch Stop w4 v3 true r4 n3 (fun w5 r5 => hk v3 w5 r5 n3 (h1.put0 f3) ((Kp2.of1 f1).trans (Kp2.of0 f3)))))
  exact this
end Go.Proofs.Ytmmfjanbjheekaa.Gen

/- What came in, opened; what stays. -/
set_option linter.unusedSimpArgs false
set_option linter.unusedVariables false
namespace Go.Proofs.Ytmmfjanbjheekaa.Gen
open Go Go.Lift Go.Conc
open Go.ChangeShapes Go.WideShapes Go.ChangeAt Go.RowKit Go.Joins Go.Deep

section
variable {H : Type} {enc : TypeId × Value → H} {w : World} {held : Bool}
end

theorem _root_.Go.Proofs.Ytmmfjanbjheekaa.Grows.frame {W w' : World} (h : Grows W w') (may : MemPlace → Prop) : W.keptBut w' may := by
  refine ⟨h.os, h.output, fun i hi => ?_⟩
  rw [h.old i hi]
  split <;> simp_all
theorem _root_.Go.Proofs.Ytmmfjanbjheekaa.Grows.sameP {W w' : World} (h : Grows W w') {p : MemPlace} (hp : p.block < W.heap.size) : W.sameAt w' p := by
  cases p with
  | cell b o => exact World.cell?_of_block (w := W) (h.old b hp)
  | map b => exact h.old b hp
theorem laidOut5 : laidOutB Try.prog = true := by kernel_rfl
theorem _root_.Go.Proofs.Ytmmfjanbjheekaa.Grows.trod {H : Type} {enc : TypeId × Value → H} {t : TypeId} (hr : Try.prog.readableRec t = true) (hrow : t < Try.prog.types.size) {W W' : World} {v : Value} {d : DataW H} {ps : List MemPlace}
    (h : DataW.Trod enc Try.prog W 0 (fun _ => true) true t v d ps) (hb : Grows W W') (hlt : ∀ x ∈ ps, x.block < W.heap.size) :
    DataW.Trod enc Try.prog W' 0 (fun b => decide (b < W.heap.size)) true t v d ps :=
  WideElems.Trod_stays laidOut5 hr hrow h (fun x hx => hb.sameP (hlt x hx)) (fun x hx => by simpa using hlt x hx)

end Go.Proofs.Ytmmfjanbjheekaa.Gen
