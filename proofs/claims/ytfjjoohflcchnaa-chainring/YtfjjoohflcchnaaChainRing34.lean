/- ChainRing: of a ring the last who writes down is told, under every schedule. Part 34 of 37. (Joined, by program, of: ChF, ChH.) -/
import Derived.Test.YtfjjoohflcchnaaChainRing23
import Derived.Test.YtfjjoohflcchnaaChainRing31
import Derived.Test.YtfjjoohflcchnaaChainRing32
import Derived.Test.YtfjjoohflcchnaaChainRing33
import Derived.Deep.RegionHeld3
set_option linter.unusedSimpArgs false
set_option linter.unusedVariables false
namespace Go.Proofs.Ytfjjoohflcchnaa.Gen
open Go Go.Lift Go.Conc Go.RowKit

set_option maxHeartbeats 2000000 in
set_option maxRecDepth 100000 in
theorem tailF12 {v : World} {tb cb : Nat} {x : Int} (y : Int) (hm : Fm tb cb x v) (a7 a8 a9 a10 a11 a12 : Value) :
    rest12.wp Try.prog (bodyPost Try.prog Try.f23 (fun e w' => ∃ r, e = .returned r ∧ (r = .tuple #[] ∧ Fto tb cb y v w')))
      { tmps := #[Pt cb 0, Pt tb 0, I y, undef, undef, undef, undef, a7, a8, a9, a10, a11, a12, undef, undef, undef, undef, undef, undef, undef, undef, undef], defers := [] } v := by
  obtain ⟨c0, _, c1, f1⟩ := hm.cells
  have HF : Hid (Fto tb cb y v (v.setCell ⟨cb, 1, none⟩ (I y))) := ⟨Fto.set hm y⟩
  clear hm
  show Code.wp Try.prog (seq2 (Try.f23.body.getD .skip)) _ _ _
  unfold Try.f23 seq2
  simp only [Option.getD_some]
  go_wp2_with (first
    | (go_at_call 59; refine ((body25 cb x y _ c1 f1).calls Try.func59 rfl).mono ?_; rintro e w1 ⟨_, rfl, rfl, rfl⟩)
    | (go_at_call 61; refine ((body27f tb x y _ HF.out.fm.thr).calls Try.func61 rfl).mono ?_; rintro e w2 ⟨_, rfl, rfl, rfl⟩))
  exact ⟨rfl, _, results_none rfl _ _ _, _, rfl, rfl, HF.out⟩
set_option maxHeartbeats 2000000 in
set_option maxRecDepth 100000 in
/-- A free thread stores. -/
theorem free12 {Ch : Nat → Prop} {Stop : Goroutine → World → Prop} {main : Bool} {v w : World} {tb cb : Nat} (x y : Int) (cs : List Frame) {bc : Frame} {ac : Act} {ops : Array Oper} {q : Nat} {rest : List Nat} {oc : Oper} {k0 : List Item} (hoc : ops[q]? = some oc)
    (hvw : Rel zn v w) (hn : NoRow Ch v) (hm : Fm tb cb x v)
    (hk : ∀ v' w', Rel zn v' w' → NoRow Ch v' → Fto tb cb y v v' → GoesI Try.prog main (DT (ScZ zn) Ch) Stop (G (bc.at (ac.put oc.dst (.tuple #[])) (.inRegion ops rest :: k0)) cs) w') (code : Code) (hc : Try.f23.body = some code) :
    GoesI Try.prog main (DT (ScZ zn) Ch) Stop (G ((base 23).at { tmps := #[Pt cb 0, Pt tb 0, I y] ++ Array.replicate 19 undef, defers := [] } [.code code]) (bc.at ac (.inRegion ops (q :: rest) :: k0) :: cs)) w := by
  obtain rfl := Option.some.inj hc
  clear hc
  have e0 : w.cell? ⟨cb, 0, none⟩ = some (I 0) := by rw [hvw.cell?]; exact hm.cells.2.1
  simp only [Array.replicate_succ, Array.replicate_zero, List.push_toArray, List.append_toArray, List.nil_append, List.cons_append]
  have HM : Hid (Fm tb cb x v) := ⟨hm⟩
  clear hm
  refine goesI_seq (dt_idle _ _) ?_
  refine goesI_region (dt_idle _ _) ?_
  simp only [List.size_toArray, List.length_cons, List.length_nil, Nat.reduceAdd, Nat.zero_add, List.range, List.range.loop]
  iterate 5
    (refine goesI_oper rfl rfl (by decide) (fun d K hK => ?_)
     go_simp
     refine hK _ _ ⟨dt_reads (fun e he => ?_), GoesI.at ?_ d⟩
     · have hm := mem_listed he
       simp [go_sem, *] at hm
       try exact ⟨_, _, hm⟩
     clear hK K)
  refine goesI_into (f := 60) (fn := Try.f60) (args := #[Pt tb 0, I 0, I 2]) (dt_idle _ _) rfl rfl (by decide) rfl (by simp [Act.eval]) Try.func60 (by decide) rfl ?_
  refine free26 tb 0 2 HM.out.cells.1 _ rfl hvw hn (fun w1 hr1 => ?_) _ rfl
  clear e0 hvw
  refine goesI_regionEnd (dt_idle _ _) ?_
  refine goesI_rest (f := 23) (fn := Try.f23) (c := rest12) hE fineT hr1 hn Try.func23 fine12 rfl hoc res12 (fun τ => ?_) (fun r v' w' hR hr' hn' => ?_) (R := fun r w' => r = .tuple #[] ∧ Fto tb cb y v w')
  · exact wp_mono (tailF12 y (HM.out.same (v' := onTape v τ 0) rfl) _ _ _ _ _ _) (bp_mono fun r u hq => ⟨hq.1, hq.2.base rfl rfl rfl⟩)
  · obtain ⟨rfl, he⟩ := hR
    exact hk v' w' hr' hn' he

set_option maxHeartbeats 2000000 in
set_option maxRecDepth 100000 in
/-- Ask, by a free thread: it writes down. -/
theorem ask_inF {Ch : Nat → Prop} {Stop : Goroutine → World → Prop} {main : Bool} {v w : World} {tb cb c sb n fr to : Nat} (y : Int) (hf : fr < n) (hto : to < n) (hn1 : n ≤ 100) (h0 : v.cell? ⟨c, 0, none⟩ = some (.slice (some ⟨sb, 0, none⟩) n n)) (hcb : v.cell? ⟨sb, fr, none⟩ = some (Pt cb 0)) (hm : Fm tb cb y v) (cs : List Frame)
    (hvw : Rel zn v w) (hn : NoRow Ch v)
    (hk : ∀ a v' w', Fl 35 [(0, Pt c 0), (1, Pt tb 0), (2, I (fr : Nat)), (3, I (to : Nat))] a → Rel zn v' w' → NoRow Ch v' → Fto tb cb ((to : Int) + 1) v v' → GoesI Try.prog main (DT (ScZ zn) Ch) Stop (G (hkPut a (.tuple #[])) cs) w') (code : Code) (hc : Try.f80.body = some code) :
    GoesI Try.prog main (DT (ScZ zn) Ch) Stop (G ((base 80).at { tmps := #[Pt c 0, Pt tb 0, I (fr : Nat), I (to : Nat)] ++ Array.replicate 31 undef, defers := [] } [.code code]) cs) w := by
  have hw0 : code = .seq (seq1 hkB) (.seq hk1 (.seq (.region 3 hkO3 false) hkR)) := by
    rw [show code = hkB by unfold hkB; rw [hc]; rfl]; exact eHkB
  subst hw0
  clear hc
  have HM : Hid (Fm tb cb y v) := ⟨hm⟩
  clear hm
  simp only [Array.replicate_succ, Array.replicate_zero, List.push_toArray, List.append_toArray, List.nil_append, List.cons_append]
  refine goesI_seq (dt_idle _ _) ?_
  generalize hh1 : hk1 = C1
  generalize hhR : hkR = CR at hk ⊢
  generalize hh3 : hkO3 = O3 at hk ⊢
  unfold hkB Try.f80 seq1
  simp only [Option.getD_some]
  refine goesI_region (dt_idle _ _) ?_
  simp only [List.size_toArray, List.length_cons, List.length_nil, Nat.reduceAdd, Nat.zero_add, List.range, List.range.loop]
  iterate 1
    (refine goesI_oper rfl rfl (by decide) (fun d K hK => ?_)
     go_simp
     refine hK _ _ ⟨dt_reads (fun e he => ?_), GoesI.at ?_ d⟩
     · have hm := mem_listed he
       simp [go_sem, *] at hm
       try exact ⟨_, _, hm⟩
     clear hK K)
  refine goesI_regionEnd (dt_idle _ _) ?_
  refine goesI_seq (dt_idle _ _) ?_
  subst hh1
  refine goesI_plain (z := zn) (wr := true) (L := LT) (I := NoRow Ch) hE fineT noRow_keeps (fun v v' w w' es hi hr ho he => dt_of_z v v' w w' es hi hr ho he) hvw fine_hk1 rfl (by simp [base]) hn
    (Q := fun a w' => Fl 35 [(0, Pt c 0), (1, Pt tb 0), (2, I (fr : Nat)), (3, I (to : Nat))] a ∧ w'.heap = v.heap ∧ w'.os = v.os ∧ w'.output = v.output) (fun τ => hk1_wp (onTape v τ 0) c sb n tb fr to hf hto h0 ⟨rfl, rfl, by
      intro p hp
      simp only [List.mem_cons, List.not_mem_nil, or_false] at hp
      rcases hp with rfl | rfl | rfl | rfl <;> rfl⟩) ?_
  rintro a1 v1 w1 ⟨hA, q1, q2, q3⟩ hvw1 hn1' -
  have e0 : w1.cell? ⟨c, 0, none⟩ = some (.slice (some ⟨sb, 0, none⟩) n n) := by rw [hvw1.cell?, World.cell?_of_block (w := v) (by rw [q1])]; exact h0
  have e1 : w1.cell? ⟨sb, fr, none⟩ = some (Pt cb 0) := by rw [hvw1.cell?, World.cell?_of_block (w := v) (by rw [q1])]; exact hcb
  have hf' : (fr : Int) < (n : Int) := by omega
  have hw1 : IntKind.i64.wrap ((to : Int) + 1) = (to : Int) + 1 := by rw [IntKind.wrap_i64]; omega
  unfold hkPut at hk
  subst hhR hh3
  unfold hkO3 hkR hkB Try.f80 seq1 seq2 opsOf at hk
  simp only [Option.getD_some] at hk
  obtain ⟨hsz, hd, hpp⟩ := hA
  obtain ⟨u, rfl, hg⟩ := litN hsz hd
  have u0 := (hg 0).symm.trans (hpp (0, Pt c 0) (by simp))
  have u1 := (hg 1).symm.trans (hpp (1, Pt tb 0) (by simp))
  have u2 := (hg 2).symm.trans (hpp (2, I (fr : Nat)) (by simp))
  have u3 := (hg 3).symm.trans (hpp (3, I (to : Nat)) (by simp))
  clear hg hpp hsz hd
  unfold hkO3 hkR hkB Try.f80 seq1 seq2 opsOf
  simp only [Option.getD_some, lits, Nat.reduceAdd, u0, u1, u2, u3]
  clear u0 u1 u2 u3
  refine goesI_seq (dt_idle _ _) ?_
  refine goesI_region (dt_idle _ _) ?_
  simp only [List.size_toArray, List.length_cons, List.length_nil, Nat.reduceAdd, Nat.zero_add, List.range, List.range.loop]
  iterate 10
    (refine goesI_oper rfl rfl (by decide) (fun d K hK => ?_)
     go_simp
     refine hK _ _ ⟨dt_reads (fun e he => ?_), GoesI.at ?_ d⟩
     · have hm := mem_listed he
       simp [go_sem, *] at hm
       try exact ⟨_, _, hm⟩
     clear hK K)
  refine goesI_into (f := 23) (fn := Try.f23) (args := #[Pt cb 0, Pt tb 0, I ((to : Int) + 1)]) (dt_idle _ _) rfl rfl (by decide) rfl (by simp [Act.eval, hw1]) Try.func23 (by decide) rfl ?_
  exact free12 y ((to : Int) + 1) _ rfl hvw1 hn1' (HM.out.same q1) (fun v' w' r nn f => hk _ v' w' ⟨rfl, rfl, by
    intro p hp
    simp only [List.mem_cons, List.not_mem_nil, or_false] at hp
    rcases hp with rfl | rfl | rfl | rfl <;> rfl⟩ r nn (f.base q1 q2 q3)) _ rfl

set_option maxHeartbeats 2000000 in
set_option maxRecDepth 100000 in
theorem has_no (c sb n : Nat) (x : Int) (hx : ¬ (0 ≤ x ∧ x < n)) (w : World) (h0 : w.cell? ⟨c, 0, none⟩ = some (.slice (some ⟨sb, 0, none⟩) n n)) : Calls Try.prog 104 #[Pt c 0, I x] w fun e w' => e = .returned (.bool false) ∧ w' = w := by
  by_cases h1 : 0 ≤ x
  · have h2 : ¬ x < (n : Int) := fun h => hx ⟨h1, h⟩
    have h3 : decide (x ≥ 0) = true := decide_eq_true (by omega)
    have h4 : decide (x < (n : Int)) = false := decide_eq_false h2
    go_enter Try.func104, Try.ntmps104
    go_wp2_with fail
    go_ret
    exact ⟨by simp [h4], rfl⟩
  · have h3 : decide (x ≥ 0) = false := decide_eq_false (by omega)
    have h2 : ¬ x ≥ 0 := by omega
    go_enter Try.func104, Try.ntmps104
    go_wp2_with fail
    go_ret
    exact ⟨rfl, rfl⟩
set_option maxHeartbeats 2000000 in
set_option maxRecDepth 100000 in
theorem hk1_no (v : World) (c sb n tb fr : Nat) (to : Int) (hf : fr < n) (ht : ¬ (0 ≤ to ∧ to < n)) (h0 : v.cell? ⟨c, 0, none⟩ = some (.slice (some ⟨sb, 0, none⟩) n n)) {a : Act} (hA : Fl 35 [(0, Pt c 0), (1, Pt tb 0), (2, I (fr : Nat)), (3, I to)] a) :
    hk1.wp Try.prog (fun e a w' => e = .ret ∧ ∃ x, (results Try.f80 a.tmps).run Try.prog w' = .ok x w' ∧ x = .bool false ∧ w'.heap = v.heap ∧ w'.os = v.os ∧ w'.output = v.output) a v := by
  obtain ⟨hsz, hd, hpp⟩ := hA
  obtain ⟨u, rfl, hg⟩ := litN hsz hd
  have u0 := (hg 0).symm.trans (hpp (0, Pt c 0) (by simp))
  have u1 := (hg 1).symm.trans (hpp (1, Pt tb 0) (by simp))
  have u2 := (hg 2).symm.trans (hpp (2, I (fr : Nat)) (by simp))
  have u3 := (hg 3).symm.trans (hpp (3, I to) (by simp))
  clear hg hpp hsz hd
  unfold hk1 hkB Try.f80 seq1 seq2
  simp only [Option.getD_some, lits, Nat.reduceAdd, u0, u1, u2, u3]
  clear u0 u1 u2 u3
  have H1 : Hid (Calls Try.prog 104 #[Pt c 0, I (fr : Nat)] v _) := ⟨has_any c sb n fr hf v h0⟩
  have H2 : Hid (Calls Try.prog 104 #[Pt c 0, I to] v _) := ⟨has_no c sb n to ht v h0⟩
  clear hf ht h0
  go_wp2_with fail
  refine H1.out.mono ?_
  rintro e w1 ⟨rfl, rfl⟩
  go_wp2_with fail
  refine H2.out.mono ?_
  rintro e w1 ⟨rfl, rfl⟩
  go_wp2_with fail
  first
    | exact ⟨rfl, _, results_tmp (t := 8) rfl _ _ _, rfl, rfl, rfl, rfl⟩
    | exact ⟨_, results_tmp (t := 8) rfl _ _ _, rfl, rfl, rfl, rfl⟩
    | exact results_tmp (t := 8) rfl _ _ _
set_option maxHeartbeats 2000000 in
set_option maxRecDepth 100000 in
/-- Ask for what is no key. -/
theorem ask_no {Ch : Nat → Prop} {Stop : Goroutine → World → Prop} {main : Bool} {v w : World} {tb c sb n fr : Nat} {to : Int} (hf : fr < n) (hto : ¬ (0 ≤ to ∧ to < n)) (h0 : v.cell? ⟨c, 0, none⟩ = some (.slice (some ⟨sb, 0, none⟩) n n)) (cs : List Frame) {bc : Frame} {ac : Act} {ops : Array Oper} {q : Nat} {rest : List Nat} {oc : Oper} {k0 : List Item} (hoc : ops[q]? = some oc)
    (hvw : Rel zn v w) (hn : NoRow Ch v)
    (hk : ∀ v' w', Rel zn v' w' → NoRow Ch v' → v'.heap = v.heap → v'.os = v.os → v'.output = v.output → GoesI Try.prog main (DT (ScZ zn) Ch) Stop (G (bc.at (ac.put oc.dst (.bool false)) (.inRegion ops rest :: k0)) cs) w') (code : Code) (hc : Try.f80.body = some code) :
    GoesI Try.prog main (DT (ScZ zn) Ch) Stop (G ((base 80).at { tmps := #[Pt c 0, Pt tb 0, I (fr : Nat), I to] ++ Array.replicate 31 undef, defers := [] } [.code code]) (bc.at ac (.inRegion ops (q :: rest) :: k0) :: cs)) w := by
  have hw0 : code = .seq (seq1 hkB) (.seq hk1 (.seq (.region 3 hkO3 false) hkR)) := by
    rw [show code = hkB by unfold hkB; rw [hc]; rfl]; exact eHkB
  subst hw0
  clear hc
  simp only [Array.replicate_succ, Array.replicate_zero, List.push_toArray, List.append_toArray, List.nil_append, List.cons_append]
  refine goesI_seq (dt_idle _ _) ?_
  generalize hh1 : hk1 = C1
  generalize hhR : hkR = CR
  generalize hh3 : hkO3 = O3
  unfold hkB Try.f80 seq1
  simp only [Option.getD_some]
  refine goesI_region (dt_idle _ _) ?_
  simp only [List.size_toArray, List.length_cons, List.length_nil, Nat.reduceAdd, Nat.zero_add, List.range, List.range.loop]
  iterate 1
    (refine goesI_oper rfl rfl (by decide) (fun d K hK => ?_)
     go_simp
     refine hK _ _ ⟨dt_reads (fun e he => ?_), GoesI.at ?_ d⟩
     · have hm := mem_listed he
       simp [go_sem, *] at hm
       try exact ⟨_, _, hm⟩
     clear hK K)
  refine goesI_regionEnd (dt_idle _ _) ?_
  refine goesI_seq (dt_idle _ _) ?_
  subst hh1
  refine goesI_outZ (c := hk1) (f := 80) (fn := Try.f80) (L := LT) hE fineT hvw hn Try.func80 fine_hk1 rfl hoc (R := fun r w' => r = .bool false ∧ w'.heap = v.heap ∧ w'.os = v.os ∧ w'.output = v.output) (fun τ => hk1_no (onTape v τ 0) c sb n tb fr to hf hto h0 ⟨rfl, rfl, by
      intro p hp
      simp only [List.mem_cons, List.not_mem_nil, or_false] at hp
      rcases hp with rfl | rfl | rfl | rfl <;> rfl⟩) (fun r v' w' hR hr' hn' => ?_)
  obtain ⟨rfl, q1, q2, q3⟩ := hR
  exact hk v' w' hr' hn' q1 q2 q3

set_option maxHeartbeats 2000000 in
set_option maxRecDepth 100000 in
/-- A free thread looks. -/
theorem lead_lookF {Ch : Nat → Prop} {Stop : Goroutine → World → Prop} {main : Bool} {v w : World} {tb cb c sb n x fr k : Nat} (y : Int) (hkn : k < n) (hxn : x < n) (hne : x ≠ fr) (h0 : v.cell? ⟨c, 0, none⟩ = some (.slice (some ⟨sb, 0, none⟩) n n)) (hcb : v.cell? ⟨sb, x, none⟩ = some (Pt cb 0)) (hm : Fm tb cb y v) {a : Act} (hA : Fl 34 [(0, Pt c 0), (1, Pt tb 0), (2, I (x : Nat)), (3, I (fr : Nat)), (14, I (n : Nat)), (15, I (k : Nat))] a) (cs : List Frame)
    (hvw : Rel zn v w) (hn : NoRow Ch v)
    (hk : ∀ a v' w', Fl 34 [(0, Pt c 0), (1, Pt tb 0), (2, I (x : Nat)), (3, I (fr : Nat)), (14, I (n : Nat)), (15, I (k : Nat))] a → Rel zn v' w' → NoRow Ch v' → Fto tb cb y v v' → GoesI Try.prog main (DT (ScZ zn) Ch) Stop (G (hlSeen a (I y)) cs) w') :
    GoesI Try.prog main (DT (ScZ zn) Ch) Stop (G (hlFr a) cs) w := by
  have e0 : w.cell? ⟨c, 0, none⟩ = some (.slice (some ⟨sb, 0, none⟩) n n) := by rw [hvw.cell?]; exact h0
  have e1 : w.cell? ⟨sb, x, none⟩ = some (Pt cb 0) := by rw [hvw.cell?]; exact hcb
  have hkn' : (k : Int) < (n : Int) := by omega
  have hxn' : (x : Int) < (n : Int) := by omega
  have hne' : ¬ (x : Int) = (fr : Int) := by omega
  have HM : Hid (Fm tb cb y v) := ⟨hm⟩
  clear hm
  unfold hlSeen hlO5 hlI hl9 hlT hlL hlB Try.f105 seq1 seq2 blockC loopC opsOf at hk
  simp only [Option.getD_some] at hk
  obtain ⟨hsz, hd, hpp⟩ := hA
  obtain ⟨u, rfl, hg⟩ := litN hsz hd
  have u0 := (hg 0).symm.trans (hpp (0, Pt c 0) (by simp))
  have u1 := (hg 1).symm.trans (hpp (1, Pt tb 0) (by simp))
  have u2 := (hg 2).symm.trans (hpp (2, I (x : Nat)) (by simp))
  have u3 := (hg 3).symm.trans (hpp (3, I (fr : Nat)) (by simp))
  have u14 := (hg 14).symm.trans (hpp (14, I (n : Nat)) (by simp))
  have u15 := (hg 15).symm.trans (hpp (15, I (k : Nat)) (by simp))
  clear hg hpp hsz hd
  unfold hlFr hlT hlL hlB Try.f105 seq1 seq2 blockC loopC
  simp only [Option.getD_some, lits, Nat.reduceAdd, u0, u1, u2, u3, u14, u15]
  clear u0 u1 u2 u3 u14 u15
  refine goesI_seq (dt_idle _ _) ?_
  refine goesI_region (dt_idle _ _) ?_
  simp only [List.size_toArray, List.length_cons, List.length_nil, Nat.reduceAdd, Nat.zero_add, List.range, List.range.loop]
  iterate 1
    (refine goesI_oper rfl rfl (by decide) (fun d K hK => ?_)
     go_simp
     refine hK _ _ ⟨dt_reads (fun e he => ?_), GoesI.at ?_ d⟩
     · have hm := mem_listed he
       simp [go_sem, *] at hm
       try exact ⟨_, _, hm⟩
     clear hK K)
  refine goesI_regionEnd (dt_idle _ _) ?_
  refine goesI_seq (dt_idle _ _) ?_
  refine goesI_cond (dt_idle _ _) (t := true) (by simp [Act.eval]; try omega) ?_
  simp only [if_true, if_false, Bool.false_eq_true]
  refine goesI_skip (dt_idle _ _) ?_
  refine goesI_seq (dt_idle _ _) ?_
  refine goesI_block (dt_idle _ _) ?_
  refine goesI_seq (dt_idle _ _) ?_
  refine goesI_seq (dt_idle _ _) ?_
  refine goesI_region (dt_idle _ _) ?_
  simp only [List.size_toArray, List.length_cons, List.length_nil, Nat.reduceAdd, Nat.zero_add, List.range, List.range.loop]
  iterate 3
    (refine goesI_oper rfl rfl (by decide) (fun d K hK => ?_)
     go_simp
     refine hK _ _ ⟨dt_reads (fun e he => ?_), GoesI.at ?_ d⟩
     · have hm := mem_listed he
       simp [go_sem, *] at hm
       try exact ⟨_, _, hm⟩
     clear hK K)
  refine goesI_regionEnd (dt_idle _ _) ?_
  refine goesI_cond (dt_idle _ _) (t := false) (by simp [Act.eval]; try omega) ?_
  simp only [if_true, if_false, Bool.false_eq_true]
  refine goesI_skip (dt_idle _ _) ?_
  refine goesI_seq (dt_idle _ _) ?_
  refine goesI_region (dt_idle _ _) ?_
  simp only [List.size_toArray, List.length_cons, List.length_nil, Nat.reduceAdd, Nat.zero_add, List.range, List.range.loop]
  iterate 8
    (refine goesI_oper rfl rfl (by decide) (fun d K hK => ?_)
     go_simp
     refine hK _ _ ⟨dt_reads (fun e he => ?_), GoesI.at ?_ d⟩
     · have hm := mem_listed he
       simp [go_sem, *] at hm
       try exact ⟨_, _, hm⟩
     clear hK K)
  refine goesI_into (f := 28) (fn := Try.f28) (args := #[Pt cb 0, Pt tb 0]) (dt_idle _ _) rfl rfl (by decide) rfl (by simp [Act.eval]) Try.func28 (by decide) rfl ?_
  exact free17 y _ rfl hvw hn HM.out (fun v' w' r nn f => hk _ v' w' ⟨rfl, rfl, by
    intro p hp
    simp only [List.mem_cons, List.not_mem_nil, or_false] at hp
    rcases hp with rfl | rfl | rfl | rfl | rfl | rfl <;> rfl⟩ r nn f) _ rfl
end Go.Proofs.Ytfjjoohflcchnaa.Gen

namespace Go.Proofs.Ytfjjoohflcchnaa.Gen
open Go Go.Lift Go.Conc Go.RowKit

def kbN (N k : Nat) : List (Nat × Int) := (List.range k).map fun j => (N + 2 + j, 0)
theorem kbN_len (N k : Nat) : (kbN N k).length = k := by simp [kbN]
theorem kbN_succ (N k : Nat) : kbN N (k + 1) = kbN N k ++ [(N + 2 + k, 0)] := by simp [kbN, List.range_succ]
/-- Behind k cells. -/
structure NwC (v : World) (s N k : Nat) (u : World) : Prop where
  row : u.heap[N]? = some (objP s (kbN N k))
  ctr : u.heap[N + 1]? = some (.cells #[.slice (some ⟨N, 0, none⟩) s s] 144 (0, 0))
  cel : ∀ j, j < k → u.heap[N + 2 + j]? = some (.cells #[I 0, I 0] 94 (0, 0))
  size : u.heap.size = N + 2 + k
  old : ∀ b, b < N → u.heap[b]? = v.heap[b]?
  os : u.os = v.os
  out : u.output = v.output
theorem NwC.same {v u u' : World} {s N k : Nat} (h : NwC v s N k u) (e1 : u'.heap = u.heap) (e2 : u'.os = u.os) (e3 : u'.output = u.output) : NwC v s N k u' :=
  ⟨by rw [e1]; exact h.row, by rw [e1]; exact h.ctr, fun j hj => by rw [e1]; exact h.cel j hj, by rw [e1]; exact h.size, fun b hb => by rw [e1]; exact h.old b hb, e2.trans h.os, e3.trans h.out⟩
theorem NwC.next {v u u' : World} {s N k : Nat} (h : NwC v s N k u) (hk : k < s) (e1 : u'.heap = u.heap.push (.cells #[I 0, I 0] 94 (0, 0))) (e2 : u'.os = u.os) (e3 : u'.output = u.output) : NwC v s N (k + 1) (u'.setCell ⟨N, k, none⟩ (Pt u.heap.size 0)) := by
  have oth : ∀ b, b ≠ N → (u'.setCell ⟨N, k, none⟩ (Pt u.heap.size 0)).heap[b]? = u'.heap[b]? := fun b hb => Below.heap_setCell _ _ _ _ hb
  have at_ : ∀ b, b < u.heap.size → u'.heap[b]? = u.heap[b]? := fun b hb => by rw [e1, Array.getElem?_push, if_neg (by omega)]
  have hs := h.size
  refine ⟨?_, ?_, fun j hj => ?_, ?_, fun b hb => ?_, ?_, ?_⟩
  · have h0 : u'.heap[N]? = some (.cells (rowP s (kbN N k)).toArray 44 (0, 0)) := by rw [at_ N (by omega)]; exact h.row
    have := heap_setCell_same (o := k) h0 (Pt u.heap.size 0)
    rw [this]
    have h1 := rowP_next (s := s) (K := kbN N k) (N + 2 + k, 0) (by rw [kbN_len]; exact hk)
    rw [kbN_len] at h1
    rw [hs, h1, ← kbN_succ]
    rfl
  · rw [oth _ (by omega), at_ _ (by omega)]; exact h.ctr
  · rw [oth _ (by omega)]
    by_cases e : j = k
    · subst e
      rw [e1, ← hs, Array.getElem?_push_size]
    · rw [at_ _ (by omega)]; exact h.cel j (by omega)
  · have : (u'.setCell ⟨N, k, none⟩ (Pt u.heap.size 0)).heap.size = u'.heap.size := by simp [World.setCell]
    rw [this, e1, Array.size_push]; omega
  · rw [oth _ (by omega), at_ _ (by omega)]; exact h.old b hb
  · exact e2.trans h.os
  · exact e3.trans h.out
set_option maxHeartbeats 4000000 in
set_option maxRecDepth 100000 in
theorem body12n (v : World) (s : Nat) (h1 : s ≤ 100) : Body Try.f79 #[.pointer none, I (s : Nat)] v (fun r v' => r = Pt (v.heap.size + 1) 0 ∧ NwC v s v.heap.size s v') := by
  intro code hb
  obtain rfl := Option.some.inj hb
  clear hb
  have hmx : (Builtin.max_ #[3, 3] 3 #[I s, I 0]) = pure (I s) := by
    show (pure (Value.int .i64 (if (0 : Int) > s then 0 else s)) : Sem Value) = _
    rw [if_neg (by omega)]
  have hmn : (Builtin.min_ #[3, 3] 3 #[I s, I 100]) = pure (I s) := by
    show (pure (Value.int .i64 (if (100 : Int) < s then 100 else s)) : Sem Value) = _
    rw [if_neg (by omega)]
  have hmk := make_ptrs s (by omega)
  rw [made_rowP] at hmk
  simp only [Try.ntmps79, List.size_toArray, List.length_cons, List.length_nil, Nat.reduceAdd, Nat.reduceSub, Array.replicate_succ, Array.replicate_zero, List.push_toArray, List.append_toArray, List.nil_append, List.cons_append]
  go_wp2_with fail
  go_loopw [18] (fun i u => ∃ (k : Nat), k ≤ s ∧ i = .int .i64 k ∧ NwC v s v.heap.size k u) (fun i _ => s - (intOf i).toNat)
  case atStart =>
    refine ⟨0, Nat.zero_le _, rfl, ?_, ?_, fun j hj => by omega, ?_, fun b hb => ?_, rfl, rfl⟩
    · show ((v.heap.push (objP s [])).push _)[v.heap.size]? = _
      rw [Array.getElem?_push, if_neg (by simp), Array.getElem?_push_size]
      rfl
    · show ((v.heap.push (objP s [])).push _)[v.heap.size + 1]? = _
      rw [show v.heap.size + 1 = (v.heap.push (objP s [])).size by simp, Array.getElem?_push_size]
    · show ((v.heap.push (objP s [])).push _).size = _
      simp
    · show ((v.heap.push (objP s [])).push _)[b]? = _
      rw [Array.getElem?_push, if_neg (by simp; omega), Array.getElem?_push, if_neg (by omega)]
  case round =>
    obtain ⟨k, hk, rfl, hO⟩ := hrel
    have HOB : Hid (NwC v s v.heap.size k wr) := ⟨hO⟩
    by_cases hlt : k < s
    · have c1 : wr.cell? ⟨v.heap.size + 1, 0, none⟩ = some (.slice (some ⟨v.heap.size, 0, none⟩) s s) := cell_of hO.ctr rfl
      have hks : (k : Int) < (s : Int) := by omega
      clear hO
      generalize hNN : v.heap.size = N at HOB c1
      go_wp2_with fail
      go_region_held3 (fun u => u.cell? ⟨N + 1, 0, none⟩ = some (.slice (some ⟨N, 0, none⟩) s s))
        (first | assumption | (simp [go_sem, *]; done))
        (first
          | (go_at_call 21; refine ((body10n wr.drew 0).calls Try.func21 rfl).mono ?_; rintro e w1 ⟨_, rfl, rfl, q1, q2, q3⟩
             have HO2 : Hid (w1.heap = wr.heap.push (.cells #[I 0, I 0] 94) ∧ w1.os = wr.os ∧ w1.output = wr.output) := ⟨q1, q2, q3⟩
             have hN : w1.heap[N]? = some (objP s (kbN N k)) := by rw [HO2.out.1, Array.getElem?_push, if_neg (by have := HOB.out.size; omega)]; exact HOB.out.row
             have hN1 : w1.heap[N + 1]? = some (.cells #[.slice (some ⟨N, 0, none⟩) s s] 144 (0, 0)) := by rw [HO2.out.1, Array.getElem?_push, if_neg (by have := HOB.out.size; omega)]; exact HOB.out.ctr
             have c2 : w1.cell? ⟨N + 1, 0, none⟩ = some (.slice (some ⟨N, 0, none⟩) s s) := cell_of hN1 rfl
             obtain ⟨c3, c4⟩ := objP_at hN (kbN_len N k) hlt
             clear q1 q2 q3 hN hN1))
      go_wp2_with fail
      go_roundw
      case rel =>
        refine ⟨k + 1, by omega, by go_num, ?_⟩
        exact HOB.out.next hlt HO2.out.1 HO2.out.2.1 HO2.out.2.2
      case measure => simp [intOf]; omega
    · have : k = s := by omega
      subst this
      go_wp2_with fail
      go_ret
      exact ⟨_, rfl, rfl, HOB.out⟩
end Go.Proofs.Ytfjjoohflcchnaa.Gen
