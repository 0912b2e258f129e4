/- ChainTrue: who is told of a ring lies on one; no call takes longer than it may; whatever the schedule, the number of keys and the scripts. Part 30 of 36. (Joined, by program, of: ChL, ChA.) -/
import Derived.Test.YtfjjoohflcchnaaChainTrue08
import Derived.Test.YtfjjoohflcchnaaChainTrue24
import Derived.Test.YtfjjoohflcchnaaChainTrue29
set_option linter.unusedSimpArgs false
set_option linter.unusedVariables false
namespace Go.Proofs.Ytfjjoohflcchnaa.Gen
open Go Go.Lift Go.Conc Go.RowKit

noncomputable def hlB : Code := Try.f105.body.getD .skip
noncomputable def hl0 : Code := seq1 hlB
noncomputable def hl1 : Code := seq1 (seq1 (seq2 hlB))
noncomputable def hlL : Code := loopC (blockC (seq2 (seq1 (seq2 hlB))))
noncomputable def hlT : Code := seq2 (seq2 hlB)
noncomputable def hlI : Code := blockC (seq1 (seq2 (seq2 hlL)))
noncomputable def hl9 : Code := seq2 (seq2 (seq2 hlL))
noncomputable def hlO5 : Array Oper := opsOf (seq1 (seq2 hlI))
theorem eHlB : hlB = .seq hl0 (.seq (.seq hl1 (.block 0 (.loop hlL))) hlT) := by kernel_rfl
/-- The frame at the loop's head; where it has seen. -/
noncomputable def hlFr (a : Act) : Frame := (base 105).at a [.code hlL, .inLoop hlL, .inBlock 0, .code hlT]
noncomputable def hlSeen (a : Act) (r : Value) : Frame := (base 105).at (a.put (some 28) r) [.inRegion hlO5 [9], .code (seq2 (seq2 hlI)), .inBlock 1, .code hl9, .inLoop hlL, .inBlock 0, .code hlT]

set_option maxHeartbeats 2000000 in
set_option maxRecDepth 100000 in
/-- It has been entered. -/
theorem lead_in {z : Nat → Option Nat} {Ch : Nat → Prop} {Stop : Goroutine → World → Prop} {main : Bool} {v w : World} {c sb n tb x fr : Nat} (h0 : v.cell? ⟨c, 0, none⟩ = some (.slice (some ⟨sb, 0, none⟩) n n)) (cs : List Frame) (hvw : Rel z v w)
    (hk : ∀ a, Fl 34 [(0, Pt c 0), (1, Pt tb 0), (2, I (x : Nat)), (3, I (fr : Nat)), (14, I (n : Nat)), (15, I ((0 : Nat) : Int))] a → GoesI Try.prog main (DT (ScZ z) Ch) Stop (G (hlFr a) cs) w) (code : Code) (hc : Try.f105.body = some code) :
    GoesI Try.prog main (DT (ScZ z) Ch) Stop (G ((base 105).at { tmps := #[Pt c 0, Pt tb 0, I (x : Nat), I (fr : Nat)] ++ Array.replicate 30 undef, defers := [] } [.code code]) cs) w := by
  have e0 : w.cell? ⟨c, 0, none⟩ = some (.slice (some ⟨sb, 0, none⟩) n n) := by rw [hvw.cell?]; exact h0
  have hw0 : code = .seq hl0 (.seq (.seq hl1 (.block 0 (.loop hlL))) hlT) := by
    rw [show code = hlB by unfold hlB; rw [hc]; rfl]; exact eHlB
  subst hw0
  clear hc
  unfold hlFr at hk
  generalize hlL = L at hk ⊢
  generalize hlT = T at hk ⊢
  unfold hl0 hl1 hlB Try.f105 seq1 seq2
  simp only [Option.getD_some, Array.replicate_succ, Array.replicate_zero, List.push_toArray, List.append_toArray, List.nil_append, List.cons_append]
  refine goesI_seq (dt_idle _ _) ?_
  refine goesI_region (dt_idle _ _) ?_
  simp only [List.size_toArray, List.length_cons, List.length_nil, Nat.reduceAdd, Nat.zero_add, List.range, List.range.loop]
  iterate 1
    (refine goesI_oper rfl rfl (by decide) (fun d K hK => ?_)
     go_simp
     refine hK _ _ ⟨dt_reads (fun e he => ?_), GoesI.at ?_ d⟩
     · have hm := mem_listed he
       simp [go_sem, *] at hm
       try exact ⟨_, _, hm⟩
     clear hK K)
  refine goesI_regionEnd (dt_idle _ _) ?_
  refine goesI_seq (dt_idle _ _) ?_
  refine goesI_seq (dt_idle _ _) ?_
  refine goesI_region (dt_idle _ _) ?_
  simp only [List.size_toArray, List.length_cons, List.length_nil, Nat.reduceAdd, Nat.zero_add, List.range, List.range.loop]
  iterate 6
    (refine goesI_oper rfl rfl (by decide) (fun d K hK => ?_)
     go_simp
     refine hK _ _ ⟨dt_reads (fun e he => ?_), GoesI.at ?_ d⟩
     · have hm := mem_listed he
       simp [go_sem, *] at hm
       try exact ⟨_, _, hm⟩
     clear hK K)
  refine goesI_regionEnd (dt_idle _ _) ?_
  refine goesI_block (dt_idle _ _) ?_
  refine goesI_loop (dt_idle _ _) ?_
  exact hk _ ⟨rfl, rfl, by
    intro p hp
    simp only [List.mem_cons, List.not_mem_nil, or_false] at hp
    rcases hp with rfl | rfl | rfl | rfl | rfl | rfl <;> rfl⟩

set_option maxHeartbeats 2000000 in
set_option maxRecDepth 100000 in
/-- No times are left. -/
theorem lead_end {z : Nat → Option Nat} {Ch : Nat → Prop} {Stop : Goroutine → World → Prop} {main : Bool} {v w : World} {c n tb x fr k : Nat} (hkn : n ≤ k) {a : Act} (hA : Fl 34 [(0, Pt c 0), (1, Pt tb 0), (2, I (x : Nat)), (3, I (fr : Nat)), (14, I (n : Nat)), (15, I (k : Nat))] a) (cs : List Frame) {bc : Frame} {ac : Act} {ops : Array Oper} {q : Nat} {rest : List Nat} {oc : Oper} {k0 : List Item} (hoc : ops[q]? = some oc)
    (hvw : Rel z v w) (hn : NoRow Ch v) (hk : ∀ w', Rel z v w' → GoesI Try.prog main (DT (ScZ z) Ch) Stop (G (bc.at (ac.put oc.dst (.bool false)) (.inRegion ops rest :: k0)) cs) w') :
    GoesI Try.prog main (DT (ScZ z) Ch) Stop (G (hlFr a) (bc.at ac (.inRegion ops (q :: rest) :: k0) :: cs)) w := by
  have hkn' : ¬ (k : Int) < (n : Int) := by omega
  obtain ⟨hsz, hd, hpp⟩ := hA
  obtain ⟨u, rfl, hg⟩ := litN hsz hd
  have u0 := (hg 0).symm.trans (hpp (0, Pt c 0) (by simp))
  have u1 := (hg 1).symm.trans (hpp (1, Pt tb 0) (by simp))
  have u2 := (hg 2).symm.trans (hpp (2, I (x : Nat)) (by simp))
  have u3 := (hg 3).symm.trans (hpp (3, I (fr : Nat)) (by simp))
  have u14 := (hg 14).symm.trans (hpp (14, I (n : Nat)) (by simp))
  have u15 := (hg 15).symm.trans (hpp (15, I (k : Nat)) (by simp))
  clear hg hpp hsz hd
  unfold hlFr hlT hlL hlB Try.f105 seq1 seq2 blockC loopC
  simp only [Option.getD_some, lits, Nat.reduceAdd, u0, u1, u2, u3, u14, u15]
  clear u0 u1 u2 u3 u14 u15
  refine goesI_seq (dt_idle _ _) ?_
  refine goesI_region (dt_idle _ _) ?_
  simp only [List.size_toArray, List.length_cons, List.length_nil, Nat.reduceAdd, Nat.zero_add, List.range, List.range.loop]
  iterate 1
    (refine goesI_oper rfl rfl (by decide) (fun d K hK => ?_)
     go_simp
     refine hK _ _ ⟨dt_reads (fun e he => ?_), GoesI.at ?_ d⟩
     · have hm := mem_listed he
       simp [go_sem, *] at hm
       try exact ⟨_, _, hm⟩
     clear hK K)
  refine goesI_regionEnd (dt_idle _ _) ?_
  refine goesI_seq (dt_idle _ _) ?_
  refine goesI_cond (dt_idle _ _) (t := false) (by simp [Act.eval]; try omega) ?_
  simp only [if_true, if_false, Bool.false_eq_true]
  refine goesI_exit (dt_idle _ _) (by simp [exitTo]; rfl) ?_
  refine goesI_seq (dt_idle _ _) ?_
  refine goesI_region (dt_idle _ _) ?_
  simp only [List.size_toArray, List.length_cons, List.length_nil, Nat.reduceAdd, Nat.zero_add, List.range, List.range.loop]
  iterate 1
    (refine goesI_oper rfl rfl (by decide) (fun d K hK => ?_)
     go_simp
     refine hK _ _ ⟨dt_reads (fun e he => ?_), GoesI.at ?_ d⟩
     · have hm := mem_listed he
       simp [go_sem, *] at hm
       try exact ⟨_, _, hm⟩
     clear hK K)
  refine goesI_regionEnd (dt_idle _ _) ?_
  refine GoesI.ctl rfl (fun _ => stepG_ret') (dt_idle _ _) ?_
  exact goesI_leaveZ (f := 105) (fn := Try.f105) (x := .bool false) hvw hn Try.func105 rfl hoc (by simp [results, go_sem, Try.f105]) (fun w' r' => hk w' r')

set_option maxHeartbeats 2000000 in
set_option maxRecDepth 100000 in
/-- The way has come back. -/
theorem lead_yes {z : Nat → Option Nat} {Ch : Nat → Prop} {Stop : Goroutine → World → Prop} {main : Bool} {v w : World} {c n tb x fr k : Nat} (hkn : k < n) (hx : x = fr) {a : Act} (hA : Fl 34 [(0, Pt c 0), (1, Pt tb 0), (2, I (x : Nat)), (3, I (fr : Nat)), (14, I (n : Nat)), (15, I (k : Nat))] a) (cs : List Frame) {bc : Frame} {ac : Act} {ops : Array Oper} {q : Nat} {rest : List Nat} {oc : Oper} {k0 : List Item} (hoc : ops[q]? = some oc)
    (hvw : Rel z v w) (hn : NoRow Ch v) (hk : ∀ w', Rel z v w' → GoesI Try.prog main (DT (ScZ z) Ch) Stop (G (bc.at (ac.put oc.dst (.bool true)) (.inRegion ops rest :: k0)) cs) w') :
    GoesI Try.prog main (DT (ScZ z) Ch) Stop (G (hlFr a) (bc.at ac (.inRegion ops (q :: rest) :: k0) :: cs)) w := by
  have hkn' : (k : Int) < (n : Int) := by omega
  subst hx
  obtain ⟨hsz, hd, hpp⟩ := hA
  obtain ⟨u, rfl, hg⟩ := litN hsz hd
  have u0 := (hg 0).symm.trans (hpp (0, Pt c 0) (by simp))
  have u1 := (hg 1).symm.trans (hpp (1, Pt tb 0) (by simp))
  have u2 := (hg 2).symm.trans (hpp (2, I (x : Nat)) (by simp))
  have u3 := (hg 3).symm.trans (hpp (3, I (x : Nat)) (by simp))
  have u14 := (hg 14).symm.trans (hpp (14, I (n : Nat)) (by simp))
  have u15 := (hg 15).symm.trans (hpp (15, I (k : Nat)) (by simp))
  clear hg hpp hsz hd
  unfold hlFr hlT hlL hlB Try.f105 seq1 seq2 blockC loopC
  simp only [Option.getD_some, lits, Nat.reduceAdd, u0, u1, u2, u3, u14, u15]
  clear u0 u1 u2 u3 u14 u15
  refine goesI_seq (dt_idle _ _) ?_
  refine goesI_region (dt_idle _ _) ?_
  simp only [List.size_toArray, List.length_cons, List.length_nil, Nat.reduceAdd, Nat.zero_add, List.range, List.range.loop]
  iterate 1
    (refine goesI_oper rfl rfl (by decide) (fun d K hK => ?_)
     go_simp
     refine hK _ _ ⟨dt_reads (fun e he => ?_), GoesI.at ?_ d⟩
     · have hm := mem_listed he
       simp [go_sem, *] at hm
       try exact ⟨_, _, hm⟩
     clear hK K)
  refine goesI_regionEnd (dt_idle _ _) ?_
  refine goesI_seq (dt_idle _ _) ?_
  refine goesI_cond (dt_idle _ _) (t := true) (by simp [Act.eval]; try omega) ?_
  simp only [if_true, if_false, Bool.false_eq_true]
  refine goesI_skip (dt_idle _ _) ?_
  refine goesI_seq (dt_idle _ _) ?_
  refine goesI_block (dt_idle _ _) ?_
  refine goesI_seq (dt_idle _ _) ?_
  refine goesI_seq (dt_idle _ _) ?_
  refine goesI_region (dt_idle _ _) ?_
  simp only [List.size_toArray, List.length_cons, List.length_nil, Nat.reduceAdd, Nat.zero_add, List.range, List.range.loop]
  iterate 3
    (refine goesI_oper rfl rfl (by decide) (fun d K hK => ?_)
     go_simp
     refine hK _ _ ⟨dt_reads (fun e he => ?_), GoesI.at ?_ d⟩
     · have hm := mem_listed he
       simp [go_sem, *] at hm
       try exact ⟨_, _, hm⟩
     clear hK K)
  refine goesI_regionEnd (dt_idle _ _) ?_
  refine goesI_cond (dt_idle _ _) (t := true) (by simp [Act.eval]) ?_
  simp only [if_true, if_false, Bool.false_eq_true]
  refine goesI_seq (dt_idle _ _) ?_
  refine goesI_region (dt_idle _ _) ?_
  simp only [List.size_toArray, List.length_cons, List.length_nil, Nat.reduceAdd, Nat.zero_add, List.range, List.range.loop]
  iterate 1
    (refine goesI_oper rfl rfl (by decide) (fun d K hK => ?_)
     go_simp
     refine hK _ _ ⟨dt_reads (fun e he => ?_), GoesI.at ?_ d⟩
     · have hm := mem_listed he
       simp [go_sem, *] at hm
       try exact ⟨_, _, hm⟩
     clear hK K)
  refine goesI_regionEnd (dt_idle _ _) ?_
  refine GoesI.ctl rfl (fun _ => stepG_ret') (dt_idle _ _) ?_
  exact goesI_leaveZ (f := 105) (fn := Try.f105) (x := .bool true) hvw hn Try.func105 rfl hoc (by simp [results, go_sem, Try.f105]) (fun w' r' => hk w' r')

set_option maxHeartbeats 2000000 in
set_option maxRecDepth 100000 in
/-- It looks. -/
theorem lead_look {z : Nat → Option Nat} {Ch : Nat → Prop} {Stop : Goroutine → World → Prop} {h : Nat} {cont : Addr → Value} {S : TS} {K : List (Nat × Int)} {v w : World} {i cb c sb n x fr k : Nat} {t : Thr} (y : Int) (hkn : k < n) (hxn : x < n) (hne : x ≠ fr) (h0 : v.cell? ⟨c, 0, none⟩ = some (.slice (some ⟨sb, 0, none⟩) n n)) (hcb : v.cell? ⟨sb, x, none⟩ = some (Pt cb 0)) {a : Act} (hA : Fl 34 [(0, Pt c 0), (1, Pt t.tb 0), (2, I (x : Nat)), (3, I (fr : Nat)), (14, I (n : Nat)), (15, I (k : Nat))] a) (cs : List Frame) (Hm : Goroutine → Prop)
    (hH : ∀ g, (∃ a, Fl 34 [(0, Pt c 0), (1, Pt t.tb 0), (2, I (x : Nat)), (3, I (fr : Nat)), (14, I (n : Nat)), (15, I (k : Nat))] a ∧ OpBack (h == 0) i x cb t.tb 1 effLoad (fun r => G (hlSeen a r) cs) g) → Hm g)
    (hvw : Rel z v w) (hn : NoRow Ch v) (hm : Mem z S K v) (ht : S.thr[i]? = some t) (hK : K[x]? = some (cb, y)) (hz : z t.tb = some 2) (hcont : cont ⟨t.tb, 2, none⟩ = .chan (some t.gc))
    (hstop : ∀ g w', GiveT z cont h S.bk t.gc Hm (Then z Ch S K v (waiting S i t 1 1 x) K) g w' → Stop g w') :
    GoesI Try.prog (h == 0) (DT (ScZ z) Ch) Stop (G (hlFr a) cs) w := by
  have e0 : w.cell? ⟨c, 0, none⟩ = some (.slice (some ⟨sb, 0, none⟩) n n) := by rw [hvw.cell?]; exact h0
  have e1 : w.cell? ⟨sb, x, none⟩ = some (Pt cb 0) := by rw [hvw.cell?]; exact hcb
  have hkn' : (k : Int) < (n : Int) := by omega
  have hxn' : (x : Int) < (n : Int) := by omega
  have hne' : ¬ (x : Int) = (fr : Int) := by omega
  have HM : Hid (Mem z S K v) := ⟨hm⟩
  clear hm
  unfold hlSeen hlO5 hlI hl9 hlT hlL hlB Try.f105 seq1 seq2 blockC loopC opsOf at hH
  simp only [Option.getD_some] at hH
  obtain ⟨hsz, hd, hpp⟩ := hA
  obtain ⟨u, rfl, hg⟩ := litN hsz hd
  have u0 := (hg 0).symm.trans (hpp (0, Pt c 0) (by simp))
  have u1 := (hg 1).symm.trans (hpp (1, Pt t.tb 0) (by simp))
  have u2 := (hg 2).symm.trans (hpp (2, I (x : Nat)) (by simp))
  have u3 := (hg 3).symm.trans (hpp (3, I (fr : Nat)) (by simp))
  have u14 := (hg 14).symm.trans (hpp (14, I (n : Nat)) (by simp))
  have u15 := (hg 15).symm.trans (hpp (15, I (k : Nat)) (by simp))
  clear hg hpp hsz hd
  unfold hlFr hlT hlL hlB Try.f105 seq1 seq2 blockC loopC
  simp only [Option.getD_some, lits, Nat.reduceAdd, u0, u1, u2, u3, u14, u15]
  clear u0 u1 u2 u3 u14 u15
  refine goesI_seq (dt_idle _ _) ?_
  refine goesI_region (dt_idle _ _) ?_
  simp only [List.size_toArray, List.length_cons, List.length_nil, Nat.reduceAdd, Nat.zero_add, List.range, List.range.loop]
  iterate 1
    (refine goesI_oper rfl rfl (by decide) (fun d K hK => ?_)
     go_simp
     refine hK _ _ ⟨dt_reads (fun e he => ?_), GoesI.at ?_ d⟩
     · have hm := mem_listed he
       simp [go_sem, *] at hm
       try exact ⟨_, _, hm⟩
     clear hK K)
  refine goesI_regionEnd (dt_idle _ _) ?_
  refine goesI_seq (dt_idle _ _) ?_
  refine goesI_cond (dt_idle _ _) (t := true) (by simp [Act.eval]; try omega) ?_
  simp only [if_true, if_false, Bool.false_eq_true]
  refine goesI_skip (dt_idle _ _) ?_
  refine goesI_seq (dt_idle _ _) ?_
  refine goesI_block (dt_idle _ _) ?_
  refine goesI_seq (dt_idle _ _) ?_
  refine goesI_seq (dt_idle _ _) ?_
  refine goesI_region (dt_idle _ _) ?_
  simp only [List.size_toArray, List.length_cons, List.length_nil, Nat.reduceAdd, Nat.zero_add, List.range, List.range.loop]
  iterate 3
    (refine goesI_oper rfl rfl (by decide) (fun d K hK => ?_)
     go_simp
     refine hK _ _ ⟨dt_reads (fun e he => ?_), GoesI.at ?_ d⟩
     · have hm := mem_listed he
       simp [go_sem, *] at hm
       try exact ⟨_, _, hm⟩
     clear hK K)
  refine goesI_regionEnd (dt_idle _ _) ?_
  refine goesI_cond (dt_idle _ _) (t := false) (by simp [Act.eval]; try omega) ?_
  simp only [if_true, if_false, Bool.false_eq_true]
  refine goesI_skip (dt_idle _ _) ?_
  refine goesI_seq (dt_idle _ _) ?_
  refine goesI_region (dt_idle _ _) ?_
  simp only [List.size_toArray, List.length_cons, List.length_nil, Nat.reduceAdd, Nat.zero_add, List.range, List.range.loop]
  iterate 8
    (refine goesI_oper rfl rfl (by decide) (fun d K hK => ?_)
     go_simp
     refine hK _ _ ⟨dt_reads (fun e he => ?_), GoesI.at ?_ d⟩
     · have hm := mem_listed he
       simp [go_sem, *] at hm
       try exact ⟨_, _, hm⟩
     clear hK K)
  refine goesI_into (f := 28) (fn := Try.f28) (args := #[Pt cb 0, Pt t.tb 0]) (dt_idle _ _) rfl rfl (by decide) rfl (by simp [Act.eval]) Try.func28 (by decide) rfl ?_
  exact load_goes y _ Hm rfl (fun g hg => hH g ⟨_, ⟨rfl, rfl, by
    intro p hp
    simp only [List.mem_cons, List.not_mem_nil, or_false] at hp
    rcases hp with rfl | rfl | rfl | rfl | rfl | rfl <;> rfl⟩, hg⟩) hvw hn HM.out ht hK hz hcont hstop _ rfl

set_option maxHeartbeats 2000000 in
set_option maxRecDepth 100000 in
/-- Nothing was written down there. -/
theorem lead_no {z : Nat → Option Nat} {Ch : Nat → Prop} {Stop : Goroutine → World → Prop} {main : Bool} {v w : World} {c n tb x fr k : Nat} {a : Act} (hA : Fl 34 [(0, Pt c 0), (1, Pt tb 0), (2, I (x : Nat)), (3, I (fr : Nat)), (14, I (n : Nat)), (15, I (k : Nat))] a) (cs : List Frame) {bc : Frame} {ac : Act} {ops : Array Oper} {q : Nat} {rest : List Nat} {oc : Oper} {k0 : List Item} (hoc : ops[q]? = some oc)
    (hvw : Rel z v w) (hn : NoRow Ch v) (hk : ∀ w', Rel z v w' → GoesI Try.prog main (DT (ScZ z) Ch) Stop (G (bc.at (ac.put oc.dst (.bool false)) (.inRegion ops rest :: k0)) cs) w') :
    GoesI Try.prog main (DT (ScZ z) Ch) Stop (G (hlSeen a (I 0)) (bc.at ac (.inRegion ops (q :: rest) :: k0) :: cs)) w := by
  obtain ⟨hsz, hd, hpp⟩ := hA
  obtain ⟨u, rfl, hg⟩ := litN hsz hd
  have u0 := (hg 0).symm.trans (hpp (0, Pt c 0) (by simp))
  have u1 := (hg 1).symm.trans (hpp (1, Pt tb 0) (by simp))
  have u2 := (hg 2).symm.trans (hpp (2, I (x : Nat)) (by simp))
  have u3 := (hg 3).symm.trans (hpp (3, I (fr : Nat)) (by simp))
  have u14 := (hg 14).symm.trans (hpp (14, I (n : Nat)) (by simp))
  have u15 := (hg 15).symm.trans (hpp (15, I (k : Nat)) (by simp))
  clear hg hpp hsz hd
  unfold hlSeen hlO5 hlI hl9 hlT hlL hlB Try.f105 seq1 seq2 blockC loopC opsOf
  simp only [Option.getD_some, lits, Nat.reduceAdd, u0, u1, u2, u3, u14, u15]
  clear u0 u1 u2 u3 u14 u15
  walk_nrm
  iterate 1
    (refine goesI_oper rfl rfl (by decide) (fun d K hK => ?_)
     go_simp
     refine hK _ _ ⟨dt_reads (fun e he => ?_), GoesI.at ?_ d⟩
     · have hm := mem_listed he
       simp [go_sem, *] at hm
       try exact ⟨_, _, hm⟩
     clear hK K)
  refine goesI_regionEnd (dt_idle _ _) ?_
  refine goesI_seq (dt_idle _ _) ?_
  refine goesI_seq (dt_idle _ _) ?_
  refine goesI_region (dt_idle _ _) ?_
  simp only [List.size_toArray, List.length_cons, List.length_nil, Nat.reduceAdd, Nat.zero_add, List.range, List.range.loop]
  iterate 2
    (refine goesI_oper rfl rfl (by decide) (fun d K hK => ?_)
     go_simp
     refine hK _ _ ⟨dt_reads (fun e he => ?_), GoesI.at ?_ d⟩
     · have hm := mem_listed he
       simp [go_sem, *] at hm
       try exact ⟨_, _, hm⟩
     clear hK K)
  refine goesI_regionEnd (dt_idle _ _) ?_
  refine goesI_cond (dt_idle _ _) (t := true) (by simp [Act.eval]) ?_
  simp only [if_true, if_false, Bool.false_eq_true]
  refine goesI_seq (dt_idle _ _) ?_
  refine goesI_region (dt_idle _ _) ?_
  simp only [List.size_toArray, List.length_cons, List.length_nil, Nat.reduceAdd, Nat.zero_add, List.range, List.range.loop]
  iterate 1
    (refine goesI_oper rfl rfl (by decide) (fun d K hK => ?_)
     go_simp
     refine hK _ _ ⟨dt_reads (fun e he => ?_), GoesI.at ?_ d⟩
     · have hm := mem_listed he
       simp [go_sem, *] at hm
       try exact ⟨_, _, hm⟩
     clear hK K)
  refine goesI_regionEnd (dt_idle _ _) ?_
  refine GoesI.ctl rfl (fun _ => stepG_ret') (dt_idle _ _) ?_
  exact goesI_leaveZ (f := 105) (fn := Try.f105) (x := .bool false) hvw hn Try.func105 rfl hoc (by simp [results, go_sem, Try.f105]) (fun w' r' => hk w' r')

set_option maxHeartbeats 2000000 in
set_option maxRecDepth 100000 in
/-- It goes on. -/
theorem lead_next {z : Nat → Option Nat} {Ch : Nat → Prop} {Stop : Goroutine → World → Prop} {main : Bool} {w : World} {c n tb x fr k y : Nat} (hkn : k < n) (hn1 : n ≤ 100) (hy : y ≤ 100) {a : Act} (hA : Fl 34 [(0, Pt c 0), (1, Pt tb 0), (2, I (x : Nat)), (3, I (fr : Nat)), (14, I (n : Nat)), (15, I (k : Nat))] a) (cs : List Frame)
    (hk : ∀ a, Fl 34 [(0, Pt c 0), (1, Pt tb 0), (2, I (y : Nat)), (3, I (fr : Nat)), (14, I (n : Nat)), (15, I ((k + 1 : Nat) : Int))] a → GoesI Try.prog main (DT (ScZ z) Ch) Stop (G (hlFr a) cs) w) :
    GoesI Try.prog main (DT (ScZ z) Ch) Stop (G (hlSeen a (I ((y : Int) + 1))) cs) w := by
  have hy0 : ¬ ((y : Int) + 1 = 0) := by omega
  have hw1 : IntKind.i64.wrap (y : Int) = (y : Int) := by rw [IntKind.wrap_i64]; omega
  have hw2 : IntKind.i64.wrap ((k : Int) + 1) = ((k + 1 : Nat) : Int) := by rw [IntKind.wrap_i64]; omega
  unfold hlFr hlT hlL hlB Try.f105 seq1 seq2 blockC loopC at hk
  simp only [Option.getD_some] at hk
  obtain ⟨hsz, hd, hpp⟩ := hA
  obtain ⟨u, rfl, hg⟩ := litN hsz hd
  have u0 := (hg 0).symm.trans (hpp (0, Pt c 0) (by simp))
  have u1 := (hg 1).symm.trans (hpp (1, Pt tb 0) (by simp))
  have u2 := (hg 2).symm.trans (hpp (2, I (x : Nat)) (by simp))
  have u3 := (hg 3).symm.trans (hpp (3, I (fr : Nat)) (by simp))
  have u14 := (hg 14).symm.trans (hpp (14, I (n : Nat)) (by simp))
  have u15 := (hg 15).symm.trans (hpp (15, I (k : Nat)) (by simp))
  clear hg hpp hsz hd
  unfold hlSeen hlO5 hlI hl9 hlT hlL hlB Try.f105 seq1 seq2 blockC loopC opsOf
  simp only [Option.getD_some, lits, Nat.reduceAdd, u0, u1, u2, u3, u14, u15]
  clear u0 u1 u2 u3 u14 u15
  walk_nrm
  iterate 1
    (refine goesI_oper rfl rfl (by decide) (fun d K hK => ?_)
     go_simp
     refine hK _ _ ⟨dt_reads (fun e he => ?_), GoesI.at ?_ d⟩
     · have hm := mem_listed he
       simp [go_sem, *] at hm
       try exact ⟨_, _, hm⟩
     clear hK K)
  refine goesI_regionEnd (dt_idle _ _) ?_
  refine goesI_seq (dt_idle _ _) ?_
  refine goesI_seq (dt_idle _ _) ?_
  refine goesI_region (dt_idle _ _) ?_
  simp only [List.size_toArray, List.length_cons, List.length_nil, Nat.reduceAdd, Nat.zero_add, List.range, List.range.loop]
  iterate 2
    (refine goesI_oper rfl rfl (by decide) (fun d K hK => ?_)
     go_simp
     refine hK _ _ ⟨dt_reads (fun e he => ?_), GoesI.at ?_ d⟩
     · have hm := mem_listed he
       simp [go_sem, *] at hm
       try exact ⟨_, _, hm⟩
     clear hK K)
  refine goesI_regionEnd (dt_idle _ _) ?_
  refine goesI_cond (dt_idle _ _) (t := false) (by simp [Act.eval]; try omega) ?_
  simp only [if_true, if_false, Bool.false_eq_true]
  refine goesI_skip (dt_idle _ _) ?_
  refine goesI_region (dt_idle _ _) ?_
  simp only [List.size_toArray, List.length_cons, List.length_nil, Nat.reduceAdd, Nat.zero_add, List.range, List.range.loop]
  iterate 3
    (refine goesI_oper rfl rfl (by decide) (fun d K hK => ?_)
     go_simp
     refine hK _ _ ⟨dt_reads (fun e he => ?_), GoesI.at ?_ d⟩
     · have hm := mem_listed he
       simp [go_sem, *] at hm
       try exact ⟨_, _, hm⟩
     clear hK K)
  refine goesI_regionEnd (dt_idle _ _) ?_
  refine goesI_inBlock (dt_idle _ _) ?_
  refine goesI_region (dt_idle _ _) ?_
  simp only [List.size_toArray, List.length_cons, List.length_nil, Nat.reduceAdd, Nat.zero_add, List.range, List.range.loop]
  iterate 2
    (refine goesI_oper rfl rfl (by decide) (fun d K hK => ?_)
     go_simp
     refine hK _ _ ⟨dt_reads (fun e he => ?_), GoesI.at ?_ d⟩
     · have hm := mem_listed he
       simp [go_sem, *] at hm
       try exact ⟨_, _, hm⟩
     clear hK K)
  refine goesI_regionEnd (dt_idle _ _) ?_
  refine goesI_inLoop (dt_idle _ _) ?_
  exact hk _ ⟨rfl, rfl, by
    intro p hp
    simp only [List.mem_cons, List.not_mem_nil, or_false] at hp
    rcases hp with rfl | rfl | rfl | rfl | rfl | rfl <;> first | rfl | exact congrArg I hw1 | exact congrArg I hw2⟩
end Go.Proofs.Ytfjjoohflcchnaa.Gen

namespace Go.Proofs.Ytfjjoohflcchnaa.Gen
open Go Go.Lift Go.Conc Go.RowKit

noncomputable def hkB : Code := Try.f80.body.getD .skip
noncomputable def hk1 : Code := seq1 (seq2 hkB)
noncomputable def hkO3 : Array Oper := opsOf (seq1 (seq2 (seq2 hkB)))
noncomputable def hkR : Code := seq2 (seq2 (seq2 hkB))
theorem eHkB : hkB = .seq (seq1 hkB) (.seq hk1 (.seq (.region 3 hkO3 false) hkR)) := by kernel_rfl
theorem fine_hk1 : fineCode Try.prog true LT hk1 := fineCode_ask callT extT (by kernel_rfl)
noncomputable def hkPut (a : Act) (r : Value) : Frame := (base 80).at (a.put (some 29) r) [.inRegion hkO3 [], .code hkR]
/-- What comes back is handed on. -/
def ABack (main : Bool) (cu1 cu2 : Value → Goroutine) : Prop :=
  ∀ (z : Nat → Option Nat) (Ch : Nat → Prop) (Stop : Goroutine → World → Prop) (w v : World) (r : Bool), Rel z v w → NoRow Ch v → (∀ w', Rel z v w' → GoesI Try.prog main (DT (ScZ z) Ch) Stop (cu2 (.bool r)) w') → GoesI Try.prog main (DT (ScZ z) Ch) Stop (cu1 (.bool r)) w

set_option maxHeartbeats 2000000 in
set_option maxRecDepth 100000 in
theorem hk1_wp (v : World) (c sb n tb fr to : Nat) (hf : fr < n) (ht : to < n) (h0 : v.cell? ⟨c, 0, none⟩ = some (.slice (some ⟨sb, 0, none⟩) n n)) {a : Act} (hA : Fl 35 [(0, Pt c 0), (1, Pt tb 0), (2, I (fr : Nat)), (3, I (to : Nat))] a) :
    hk1.wp Try.prog (fun e a w' => e = .normal ∧ Fl 35 [(0, Pt c 0), (1, Pt tb 0), (2, I (fr : Nat)), (3, I (to : Nat))] a ∧ w'.heap = v.heap ∧ w'.os = v.os ∧ w'.output = v.output) a v := by
  obtain ⟨hsz, hd, hpp⟩ := hA
  obtain ⟨u, rfl, hg⟩ := litN hsz hd
  have u0 := (hg 0).symm.trans (hpp (0, Pt c 0) (by simp))
  have u1 := (hg 1).symm.trans (hpp (1, Pt tb 0) (by simp))
  have u2 := (hg 2).symm.trans (hpp (2, I (fr : Nat)) (by simp))
  have u3 := (hg 3).symm.trans (hpp (3, I (to : Nat)) (by simp))
  clear hg hpp hsz hd
  unfold hk1 hkB Try.f80 seq1 seq2
  simp only [Option.getD_some, lits, Nat.reduceAdd, u0, u1, u2, u3]
  clear u0 u1 u2 u3
  go_wp2_with (first
    | (go_at_call 104; refine (has_any c sb n _ (by assumption) _ h0).mono ?_; rintro e w1 ⟨rfl, rfl⟩))
  first
    | exact ⟨rfl, ⟨rfl, rfl, by
      intro p hp
      simp only [List.mem_cons, List.not_mem_nil, or_false] at hp
      rcases hp with rfl | rfl | rfl | rfl <;> rfl⟩, rfl, rfl, rfl⟩
    | exact ⟨rfl, rfl, by
      intro p hp
      simp only [List.mem_cons, List.not_mem_nil, or_false] at hp
      rcases hp with rfl | rfl | rfl | rfl <;> rfl⟩
set_option maxHeartbeats 2000000 in
set_option maxRecDepth 100000 in
/-- It writes down. -/
theorem ask_in {z : Nat → Option Nat} {Ch : Nat → Prop} {Stop : Goroutine → World → Prop} {h : Nat} {cont : Addr → Value} {S : TS} {K : List (Nat × Int)} {v w : World} {i cb c sb n fr to : Nat} {t : Thr} (y : Int) (hf : fr < n) (hto : to < n) (hn1 : n ≤ 100) (h0 : v.cell? ⟨c, 0, none⟩ = some (.slice (some ⟨sb, 0, none⟩) n n)) (hcb : v.cell? ⟨sb, fr, none⟩ = some (Pt cb 0)) (cs : List Frame) (Hm : Goroutine → Prop)
    (hH : ∀ g, (∃ a, Fl 35 [(0, Pt c 0), (1, Pt t.tb 0), (2, I (fr : Nat)), (3, I (to : Nat))] a ∧ OpBack (h == 0) i fr cb t.tb 2 (effStore ((to : Int) + 1)) (fun r => G (hkPut a r) cs) g) → Hm g)
    (hvw : Rel z v w) (hn : NoRow Ch v) (hm : Mem z S K v) (ht : S.thr[i]? = some t) (hK : K[fr]? = some (cb, y)) (hz : z t.tb = some 2) (hcont : cont ⟨t.tb, 2, none⟩ = .chan (some t.gc))
    (hstop : ∀ g w', GiveT z cont h S.bk t.gc Hm (Then z Ch S K v (waiting S i t 1 2 fr) K) g w' → Stop g w') (code : Code) (hc : Try.f80.body = some code) :
    GoesI Try.prog (h == 0) (DT (ScZ z) Ch) Stop (G ((base 80).at { tmps := #[Pt c 0, Pt t.tb 0, I (fr : Nat), I (to : Nat)] ++ Array.replicate 31 undef, defers := [] } [.code code]) cs) w := by
  have hw0 : code = .seq (seq1 hkB) (.seq hk1 (.seq (.region 3 hkO3 false) hkR)) := by
    rw [show code = hkB by unfold hkB; rw [hc]; rfl]; exact eHkB
  subst hw0
  clear hc
  have HM : Hid (Mem z S K v) := ⟨hm⟩
  clear hm
  simp only [Array.replicate_succ, Array.replicate_zero, List.push_toArray, List.append_toArray, List.nil_append, List.cons_append]
  refine goesI_seq (dt_idle _ _) ?_
  generalize hh1 : hk1 = C1
  generalize hhR : hkR = CR at hH ⊢
  generalize hh3 : hkO3 = O3 at hH ⊢
  unfold hkB Try.f80 seq1
  simp only [Option.getD_some]
  refine goesI_region (dt_idle _ _) ?_
  simp only [List.size_toArray, List.length_cons, List.length_nil, Nat.reduceAdd, Nat.zero_add, List.range, List.range.loop]
  iterate 1
    (refine goesI_oper rfl rfl (by decide) (fun d K hK => ?_)
     go_simp
     refine hK _ _ ⟨dt_reads (fun e he => ?_), GoesI.at ?_ d⟩
     · have hm := mem_listed he
       simp [go_sem, *] at hm
       try exact ⟨_, _, hm⟩
     clear hK K)
  refine goesI_regionEnd (dt_idle _ _) ?_
  refine goesI_seq (dt_idle _ _) ?_
  subst hh1
  refine goesI_plain (z := z) (wr := true) (L := LT) (I := NoRow Ch) hE fineT noRow_keeps (fun v v' w w' es hi hr ho he => dt_of_z v v' w w' es hi hr ho he) hvw fine_hk1 rfl (by simp [base]) hn
    (Q := fun a w' => Fl 35 [(0, Pt c 0), (1, Pt t.tb 0), (2, I (fr : Nat)), (3, I (to : Nat))] a ∧ w'.heap = v.heap ∧ w'.os = v.os ∧ w'.output = v.output) (fun τ => hk1_wp (onTape v τ 0) c sb n t.tb fr to hf hto h0 ⟨rfl, rfl, by
      intro p hp
      simp only [List.mem_cons, List.not_mem_nil, or_false] at hp
      rcases hp with rfl | rfl | rfl | rfl <;> rfl⟩) ?_
  rintro a1 v1 w1 ⟨hA, q1, q2, q3⟩ hvw1 hn1' -
  have ev1 := HM.out.grows ⟨by rw [q1]; exact Nat.le_refl _, fun b _ => by rw [q1], q2, q3⟩
  have e0 : w1.cell? ⟨c, 0, none⟩ = some (.slice (some ⟨sb, 0, none⟩) n n) := by rw [hvw1.cell?, World.cell?_of_block (w := v) (by rw [q1])]; exact h0
  have e1 : w1.cell? ⟨sb, fr, none⟩ = some (Pt cb 0) := by rw [hvw1.cell?, World.cell?_of_block (w := v) (by rw [q1])]; exact hcb
  have hf' : (fr : Int) < (n : Int) := by omega
  have hw1 : IntKind.i64.wrap ((to : Int) + 1) = (to : Int) + 1 := by rw [IntKind.wrap_i64]; omega
  have EV : Hid (Evo z S K v S K v1) := ⟨ev1⟩
  clear ev1
  unfold hkPut at hH
  subst hhR hh3
  unfold hkO3 hkR hkB Try.f80 seq1 seq2 opsOf at hH
  simp only [Option.getD_some] at hH
  obtain ⟨hsz, hd, hpp⟩ := hA
  obtain ⟨u, rfl, hg⟩ := litN hsz hd
  have u0 := (hg 0).symm.trans (hpp (0, Pt c 0) (by simp))
  have u1 := (hg 1).symm.trans (hpp (1, Pt t.tb 0) (by simp))
  have u2 := (hg 2).symm.trans (hpp (2, I (fr : Nat)) (by simp))
  have u3 := (hg 3).symm.trans (hpp (3, I (to : Nat)) (by simp))
  clear hg hpp hsz hd
  unfold hkO3 hkR hkB Try.f80 seq1 seq2 opsOf
  simp only [Option.getD_some, lits, Nat.reduceAdd, u0, u1, u2, u3]
  clear u0 u1 u2 u3
  refine goesI_seq (dt_idle _ _) ?_
  refine goesI_region (dt_idle _ _) ?_
  simp only [List.size_toArray, List.length_cons, List.length_nil, Nat.reduceAdd, Nat.zero_add, List.range, List.range.loop]
  iterate 10
    (refine goesI_oper rfl rfl (by decide) (fun d K hK => ?_)
     go_simp
     refine hK _ _ ⟨dt_reads (fun e he => ?_), GoesI.at ?_ d⟩
     · have hm := mem_listed he
       simp [go_sem, *] at hm
       try exact ⟨_, _, hm⟩
     clear hK K)
  refine goesI_into (f := 23) (fn := Try.f23) (args := #[Pt cb 0, Pt t.tb 0, I ((to : Int) + 1)]) (dt_idle _ _) rfl rfl (by decide) rfl (by simp [Act.eval, hw1]) Try.func23 (by decide) rfl ?_
  exact store_goes ((to : Int) + 1) y _ Hm rfl (fun g hg => hH g ⟨_, ⟨rfl, rfl, by
    intro p hp
    simp only [List.mem_cons, List.not_mem_nil, or_false] at hp
    rcases hp with rfl | rfl | rfl | rfl <;> rfl⟩, hg⟩) hvw1 hn1' EV.out.mem ht hK hz hcont (fun g w' hs => hstop g w' (give_mono (fun hT => by obtain ⟨v', r1, r2, r3⟩ := hT; exact ⟨v', r1, r2, EV.out.trans r3⟩) hs)) _ rfl

set_option maxHeartbeats 2000000 in
set_option maxRecDepth 100000 in
/-- .. and follows the way. -/
theorem ask_next {z : Nat → Option Nat} {Ch : Nat → Prop} {Stop : Goroutine → World → Prop} {main : Bool} {v w : World} {c tb fr to : Nat} (r : Value) {a : Act} (hA : Fl 35 [(0, Pt c 0), (1, Pt tb 0), (2, I (fr : Nat)), (3, I (to : Nat))] a) (cs : List Frame) {bc : Frame} {ac : Act} {ops : Array Oper} {q : Nat} {rest : List Nat} {oc : Oper} {k0 : List Item} (hoc : ops[q]? = some oc)
    (hk : ∀ (bd : Frame) (ad : Act) (od : Array Oper) (qd : Nat) (rd : List Nat) (oe : Oper) (kd : List Item), od[qd]? = some oe →
      ABack main (fun r => G (bd.at (ad.put oe.dst r) (.inRegion od rd :: kd)) (bc.at ac (.inRegion ops (q :: rest) :: k0) :: cs)) (fun r => (G (bc.at (ac.put oc.dst r) (.inRegion ops rest :: k0)) cs)) → ∀ code, Try.f105.body = some code →
      GoesI Try.prog main (DT (ScZ z) Ch) Stop (G ((base 105).at { tmps := #[Pt c 0, Pt tb 0, I (to : Nat), I (fr : Nat)] ++ Array.replicate 30 undef, defers := [] } [.code code]) (bd.at ad (.inRegion od (qd :: rd) :: kd) :: bc.at ac (.inRegion ops (q :: rest) :: k0) :: cs)) w) :
    GoesI Try.prog main (DT (ScZ z) Ch) Stop (G (hkPut a r) (bc.at ac (.inRegion ops (q :: rest) :: k0) :: cs)) w := by
  obtain ⟨hsz, hd, hpp⟩ := hA
  obtain ⟨u, rfl, hg⟩ := litN hsz hd
  have u0 := (hg 0).symm.trans (hpp (0, Pt c 0) (by simp))
  have u1 := (hg 1).symm.trans (hpp (1, Pt tb 0) (by simp))
  have u2 := (hg 2).symm.trans (hpp (2, I (fr : Nat)) (by simp))
  have u3 := (hg 3).symm.trans (hpp (3, I (to : Nat)) (by simp))
  clear hg hpp hsz hd
  unfold hkPut hkO3 hkR hkB Try.f80 seq1 seq2 opsOf
  simp only [Option.getD_some, lits, Nat.reduceAdd, u0, u1, u2, u3]
  clear u0 u1 u2 u3
  walk_nrm
  refine goesI_regionEnd (dt_idle _ _) ?_
  refine goesI_seq (dt_idle _ _) ?_
  refine goesI_region (dt_idle _ _) ?_
  simp only [List.size_toArray, List.length_cons, List.length_nil, Nat.reduceAdd, Nat.zero_add, List.range, List.range.loop]
  iterate 4
    (refine goesI_oper rfl rfl (by decide) (fun d K hK => ?_)
     go_simp
     refine hK _ _ ⟨dt_reads (fun e he => ?_), GoesI.at ?_ d⟩
     · have hm := mem_listed he
       simp [go_sem, *] at hm
       try exact ⟨_, _, hm⟩
     clear hK K)
  refine goesI_into (f := 105) (fn := Try.f105) (args := #[Pt c 0, Pt tb 0, I (to : Nat), I (fr : Nat)]) (dt_idle _ _) rfl rfl (by decide) rfl (by simp [Act.eval]) Try.func105 (by decide) rfl ?_
  refine hk _ _ _ _ _ _ _ rfl ?_ _ rfl
  intro z1 Ch1 St w2 v2 b r2 n2 hgo
  show GoesI Try.prog main (DT (ScZ z1) Ch1) St _ w2
  walk_nrm
  iterate 1
    (refine goesI_oper rfl rfl (by decide) (fun d K hK => ?_)
     go_simp
     refine hK _ _ ⟨dt_reads (fun e he => ?_), GoesI.at ?_ d⟩
     · have hm := mem_listed he
       simp [go_sem, *] at hm
       try exact ⟨_, _, hm⟩
     clear hK K)
  refine goesI_regionEnd (dt_idle _ _) ?_
  refine GoesI.ctl rfl (fun _ => stepG_ret') (dt_idle _ _) ?_
  exact goesI_leaveZ (f := 80) (fn := Try.f80) (x := .bool b) r2 n2 Try.func80 rfl hoc (by simp [results, go_sem, Try.f80]) (fun w' r' => hgo w' r')
end Go.Proofs.Ytfjjoohflcchnaa.Gen
