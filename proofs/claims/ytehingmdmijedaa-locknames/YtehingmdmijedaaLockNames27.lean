/- LockNames is true of the program at this commit: the law's head plays one thread of a lock in a world, by the machine, and the numbers are those that the chapter names; no conditions. Part 27 of 33. (Joined, by program, of: Until2, LatW, LokL.) -/
import Derived.Test.YtehingmdmijedaaLockNames10
import Derived.Test.YtehingmdmijedaaLockNames15
import Derived.Test.YtehingmdmijedaaLockNames22

/- Until of a cell (16), in company, further pieces: it has seen what stands there; it was woken, or is stuck. -/
set_option linter.unusedSimpArgs false
set_option linter.unusedVariables false
namespace Go.Proofs.Ytehingmdmijedaa
open Go Go.Lift Go.Conc Go.RowKit

theorem res16 (tmps : Array Value) : ∃ v, (∀ w, (results Try.f25 tmps).run Try.prog w = .ok v w) ∧ ∀ w, (results Try.f25 tmps).events Try.prog w #[] = #[] :=
  ⟨_, fun w => results_tmp rfl _ _ _, fun w => by simp [results, go_sem]⟩

/-- The frame where it was woken, or is stuck. -/
noncomputable def uWoke (cb tb : Nat) (n : Int) (cid : Int) (u : Nat → Value) (r : Value) : Frame :=
  (base 25).at ((⟨#[Pt cb 0, Pt tb 0, I n, undef, undef, undef, .bool false, u 7, u 8, u 9, u 10, u 11, u 12, u 13, u 14, u 15, u 16, u 17, u 18], []⟩ : Act).put (some 17) r) [.inRegion ops162 [6], .code (seq2 (blockC (seq2 L16))), .inBlock 1, .inLoop L16, .inBlock 0, .code T16]

set_option maxHeartbeats 1000000 in
set_option maxRecDepth 100000 in
/-- Something else stands there: it answers true. -/
theorem until_diff {z : Nat → Option Nat} {Ch : Nat → Prop} {Stop : Goroutine → World → Prop} {main : Bool} {v w : World} {cb tb : Nat} (n x : Int) (hx : x ≠ n) (u : Nat → Value) (cs : List Frame) {bc : Frame} {ac : Act} {ops : Array Oper} {q : Nat} {rest : List Nat} {oc : Oper} {k : List Item} (hoc : ops[q]? = some oc)
    (hvw : Rel z v w) (hn : NoRow Ch v)
    (hk : ∀ v' w', Rel z v' w' → NoRow Ch v' → v'.heap = v.heap → v'.os = v.os → v'.output = v.output → GoesI Try.prog main (DT (ScZ z) Ch) Stop (G (bc.at (ac.put oc.dst (.bool true)) (.inRegion ops rest :: k)) cs) w') :
    GoesI Try.prog main (DT (ScZ z) Ch) Stop (G (uSeen cb tb n u (I x)) (bc.at ac (.inRegion ops (q :: rest) :: k) :: cs)) w := by
  unfold uSeen ops161 L16 T16 Try.f25 seq2 seq1 blockC loopC opsOf
  simp only [Option.getD_some]
  walk_nrm
  (refine goesI_oper rfl rfl (by decide) (fun d K hK => ?_)
   go_simp
   refine hK _ _ ⟨dt_reads (fun e he => ?_), GoesI.at ?_ d⟩
   · have hm := mem_listed he
     simp [go_sem, *] at hm
   clear hK K)
  (refine goesI_oper rfl rfl (by decide) (fun d K hK => ?_)
   go_simp
   refine hK _ _ ⟨dt_reads (fun e he => ?_), GoesI.at ?_ d⟩
   · have hm := mem_listed he
     simp [go_sem, *] at hm
   clear hK K)
  refine goesI_regionEnd (dt_idle _ _) ?_
  refine goesI_cond (dt_idle _ _) (t := false) (by simp [Act.eval, hx]) ?_
  simp only [if_true, if_false, Bool.false_eq_true]
  refine goesI_exit (dt_idle _ _) rfl ?_
  refine goesI_rest (f := 25) (fn := Try.f25) (c := T16) hE fineT hvw hn Try.func25 fineT16 rfl hoc res16 (fun τ => ?_) (fun r v' w' hR hr' hn' => ?_) (R := fun r w' => r = .bool true ∧ w'.heap = v.heap ∧ w'.os = v.os ∧ w'.output = v.output)
  · show Code.wp Try.prog (seq2 (seq2 (Try.f25.body.getD .skip))) _ _ _
    unfold Try.f25 seq2
    simp only [Option.getD_some]
    go_wp2_with fail
    go_ret
    exact ⟨_, rfl, rfl, rfl, rfl, rfl⟩
  · obtain ⟨rfl, h1, h2, h3⟩ := hR
    exact hk v' w' hr' hn' h1 h2 h3
/-- What it holds there. -/
def uVal (cb tb : Nat) (n : Int) (j : Nat) (u : Nat → Value) : Nat → Value
  | 7 => Pt cb 0
  | 8 => Pt tb 0
  | 9 => I n
  | 10 => I n
  | 11 => .bool true
  | 12 => Pt tb 0
  | 13 => Pt cb 0
  | 14 => Pt cb 0
  | 15 => Pt cb 0
  | 16 => I j
  | k => u k

set_option maxHeartbeats 1000000 in
set_option maxRecDepth 100000 in
/-- The number still stands there: it awaits a change. -/
theorem until_same {z : Nat → Option Nat} {Ch : Nat → Prop} {Stop : Goroutine → World → Prop} {h : Nat} {cont : Addr → Value} {S : TS} {K : List (Nat × Int)} {v w : World} {i j cb : Nat} {t : Thr} (n x : Int) (u : Nat → Value) (cs : List Frame) (Hm : Goroutine → Prop)
    (hH : ∀ g, WakeBack (h == 0) i t.tb j (fun r => G (uWoke cb t.tb n j (uVal cb t.tb n j u) r) cs) g → Hm g)
    (hvw : Rel z v w) (hn : NoRow Ch v) (hm : Mem z S K v) (hs : S.stk = false) (ht : S.thr[i]? = some t) (hK : K[j]? = some (cb, x)) (hz : z t.tb = some 2) (hcont : cont ⟨t.tb, 2, none⟩ = .chan (some t.gc))
    (hstop : ∀ g w', GiveT z cont h S.bk t.gc Hm (Then z Ch S K v (waiting S i t 2 6 j) K) g w' → Stop g w') :
    GoesI Try.prog (h == 0) (DT (ScZ z) Ch) Stop (G (uSeen cb t.tb n u (I n)) cs) w := by
  have e0 : w.cell? ⟨cb, 0, none⟩ = some (I j) := by rw [hvw.cell?]; exact (hm.cells hK).1
  have HM : Hid (Mem z S K v) := ⟨hm⟩
  clear hm
  unfold uSeen ops161 L16 T16 Try.f25 seq2 seq1 blockC loopC opsOf
  simp only [Option.getD_some]
  walk_nrm
  (refine goesI_oper rfl rfl (by decide) (fun d K hK => ?_)
   go_simp
   refine hK _ _ ⟨dt_reads (fun e he => ?_), GoesI.at ?_ d⟩
   · have hm := mem_listed he
     simp [go_sem, *] at hm
   clear hK K)
  (refine goesI_oper rfl rfl (by decide) (fun d K hK => ?_)
   go_simp
   refine hK _ _ ⟨dt_reads (fun e he => ?_), GoesI.at ?_ d⟩
   · have hm := mem_listed he
     simp [go_sem, *] at hm
   clear hK K)
  refine goesI_regionEnd (dt_idle _ _) ?_
  refine goesI_cond (dt_idle _ _) (t := true) (by simp [Act.eval]) ?_
  simp only [if_true, if_false, Bool.false_eq_true]
  refine goesI_skip (dt_idle _ _) ?_
  refine goesI_block (dt_idle _ _) ?_
  refine goesI_seq (dt_idle _ _) ?_
  refine goesI_region (dt_idle _ _) ?_
  simp only [List.size_toArray, List.length_cons, List.length_nil, Nat.reduceAdd, Nat.zero_add, List.range, List.range.loop]
  iterate 5
    (refine goesI_oper rfl rfl (by decide) (fun d K hK => ?_)
     go_simp
     refine hK _ _ ⟨dt_reads (fun e he => ?_), GoesI.at ?_ d⟩
     · have hm := mem_listed he
       simp [go_sem, *] at hm
       try exact ⟨_, _, hm⟩
     clear hK K)
  refine goesI_into (f := 60) (fn := Try.f60) (args := #[Pt t.tb 0, I j]) (dt_idle _ _) rfl rfl (by decide) rfl (by simp [Act.eval]) Try.func60 (by decide) rfl ?_
  exact await_goes j _ Hm rfl (fun g hg => hH g hg) hvw hn HM.out hs ht hz hcont hstop _ rfl

set_option maxHeartbeats 1000000 in
set_option maxRecDepth 100000 in
/-- The number still stands there, and the world is stuck. -/
theorem until_stuck {z : Nat → Option Nat} {Ch : Nat → Prop} {Stop : Goroutine → World → Prop} {main : Bool} {S : TS} {K : List (Nat × Int)} {v w : World} {i j cb : Nat} {t : Thr} (n x : Int) (u : Nat → Value) (cs : List Frame)
    (hvw : Rel z v w) (hn : NoRow Ch v) (hm : Mem z S K v) (hs : S.stk = true) (ht : S.thr[i]? = some t) (hK : K[j]? = some (cb, x))
    (hk : ∀ v' w', Rel z v' w' → NoRow Ch v' → Evo z S K v S K v' → GoesI Try.prog main (DT (ScZ z) Ch) Stop (G (uWoke cb t.tb n j (uVal cb t.tb n j u) (.bool false)) cs) w') :
    GoesI Try.prog main (DT (ScZ z) Ch) Stop (G (uSeen cb t.tb n u (I n)) cs) w := by
  have e0 : w.cell? ⟨cb, 0, none⟩ = some (I j) := by rw [hvw.cell?]; exact (hm.cells hK).1
  have HM : Hid (Mem z S K v) := ⟨hm⟩
  clear hm
  unfold uSeen ops161 L16 T16 Try.f25 seq2 seq1 blockC loopC opsOf
  simp only [Option.getD_some]
  walk_nrm
  (refine goesI_oper rfl rfl (by decide) (fun d K hK => ?_)
   go_simp
   refine hK _ _ ⟨dt_reads (fun e he => ?_), GoesI.at ?_ d⟩
   · have hm := mem_listed he
     simp [go_sem, *] at hm
   clear hK K)
  (refine goesI_oper rfl rfl (by decide) (fun d K hK => ?_)
   go_simp
   refine hK _ _ ⟨dt_reads (fun e he => ?_), GoesI.at ?_ d⟩
   · have hm := mem_listed he
     simp [go_sem, *] at hm
   clear hK K)
  refine goesI_regionEnd (dt_idle _ _) ?_
  refine goesI_cond (dt_idle _ _) (t := true) (by simp [Act.eval]) ?_
  simp only [if_true, if_false, Bool.false_eq_true]
  refine goesI_skip (dt_idle _ _) ?_
  refine goesI_block (dt_idle _ _) ?_
  refine goesI_seq (dt_idle _ _) ?_
  refine goesI_region (dt_idle _ _) ?_
  simp only [List.size_toArray, List.length_cons, List.length_nil, Nat.reduceAdd, Nat.zero_add, List.range, List.range.loop]
  iterate 5
    (refine goesI_oper rfl rfl (by decide) (fun d K hK => ?_)
     go_simp
     refine hK _ _ ⟨dt_reads (fun e he => ?_), GoesI.at ?_ d⟩
     · have hm := mem_listed he
       simp [go_sem, *] at hm
       try exact ⟨_, _, hm⟩
     clear hK K)
  refine goesI_into (f := 60) (fn := Try.f60) (args := #[Pt t.tb 0, I j]) (dt_idle _ _) rfl rfl (by decide) rfl (by simp [Act.eval]) Try.func60 (by decide) rfl ?_
  exact await_no j _ rfl hvw hn HM.out hs ht (fun v' w' h1 h2 h3 => hk v' w' h1 h2 h3) _ rfl

set_option maxHeartbeats 1000000 in
set_option maxRecDepth 100000 in
/-- Woken, it looks again. -/
theorem until_again {z : Nat → Option Nat} {Ch : Nat → Prop} {Stop : Goroutine → World → Prop} {main : Bool} {w : World} {cb tb : Nat} (n cid : Int) (u : Nat → Value) (cs : List Frame)
    (hk : ∀ u, GoesI Try.prog main (DT (ScZ z) Ch) Stop (G (uFr cb tb n u) cs) w) :
    GoesI Try.prog main (DT (ScZ z) Ch) Stop (G (uWoke cb tb n cid u (.bool true)) cs) w := by
  unfold uFr L16 T16 Try.f25 seq2 seq1 blockC loopC at hk
  simp only [Option.getD_some] at hk
  unfold uWoke ops162 L16 T16 Try.f25 seq2 seq1 blockC loopC opsOf
  simp only [Option.getD_some]
  walk_nrm
  (refine goesI_oper rfl rfl (by decide) (fun d K hK => ?_)
   go_simp
   refine hK _ _ ⟨dt_reads (fun e he => ?_), GoesI.at ?_ d⟩
   · have hm := mem_listed he
     simp [go_sem, *] at hm
   clear hK K)
  refine goesI_regionEnd (dt_idle _ _) ?_
  refine goesI_cond (dt_idle _ _) (t := false) rfl ?_
  simp only [if_true, if_false, Bool.false_eq_true]
  refine goesI_skip (dt_idle _ _) ?_
  refine goesI_inBlock (dt_idle _ _) ?_
  refine goesI_inLoop (dt_idle _ _) ?_
  exact hk (fun m => match m with | 17 => .bool true | 18 => .bool false | m => u m)

noncomputable def no16 : Code := condA (seq2 (blockC (seq2 L16)))
theorem fineNo16 : fineCode Try.prog true LT no16 := fineCode_ask callT extT (by kernel_rfl)
set_option maxHeartbeats 1000000 in
set_option maxRecDepth 100000 in
/-- Stuck, it answers false. -/
theorem until_no {z : Nat → Option Nat} {Ch : Nat → Prop} {Stop : Goroutine → World → Prop} {main : Bool} {v w : World} {cb tb : Nat} (n cid : Int) (u : Nat → Value) (cs : List Frame) {bc : Frame} {ac : Act} {ops : Array Oper} {q : Nat} {rest : List Nat} {oc : Oper} {k : List Item} (hoc : ops[q]? = some oc)
    (hvw : Rel z v w) (hn : NoRow Ch v)
    (hk : ∀ v' w', Rel z v' w' → NoRow Ch v' → v'.heap = v.heap → v'.os = v.os → v'.output = v.output → GoesI Try.prog main (DT (ScZ z) Ch) Stop (G (bc.at (ac.put oc.dst (.bool false)) (.inRegion ops rest :: k)) cs) w') :
    GoesI Try.prog main (DT (ScZ z) Ch) Stop (G (uWoke cb tb n cid u (.bool false)) (bc.at ac (.inRegion ops (q :: rest) :: k) :: cs)) w := by
  unfold uWoke ops162 L16 T16 Try.f25 seq2 seq1 blockC loopC opsOf
  simp only [Option.getD_some]
  walk_nrm
  (refine goesI_oper rfl rfl (by decide) (fun d K hK => ?_)
   go_simp
   refine hK _ _ ⟨dt_reads (fun e he => ?_), GoesI.at ?_ d⟩
   · have hm := mem_listed he
     simp [go_sem, *] at hm
   clear hK K)
  refine goesI_regionEnd (dt_idle _ _) ?_
  refine goesI_cond (dt_idle _ _) (t := true) rfl ?_
  simp only [if_true, if_false, Bool.false_eq_true]
  refine goesI_outZ (c := no16) (f := 25) (fn := Try.f25) (L := LT) hE fineT hvw hn Try.func25 fineNo16 rfl hoc (R := fun r w' => r = .bool false ∧ w'.heap = v.heap ∧ w'.os = v.os ∧ w'.output = v.output) (fun τ => ?_) (fun r v' w' hR hr' hn' => ?_)
  · show Code.wp Try.prog (condA (seq2 (blockC (seq2 (loopC (blockC (seq1 (seq2 (Try.f25.body.getD .skip))))))))) _ _ _
    unfold Try.f25 condA seq2 seq1 blockC loopC
    simp only [Option.getD_some]
    go_wp2_with fail
    exact ⟨_, results_tmp rfl _ _ _, rfl, rfl, rfl, rfl⟩
  · obtain ⟨rfl, h1, h2, h3⟩ := hR
    exact hk v' w' hr' hn' h1 h2 h3
end Go.Proofs.Ytehingmdmijedaa

/- latch's Wait (43), in company, in pieces: it looks at the cell; it has seen what stands there; it awaits; it was woken, or is stuck. -/
set_option linter.unusedSimpArgs false
set_option linter.unusedVariables false
namespace Go.Proofs.Ytehingmdmijedaa.Gen
open Go Go.Lift Go.Conc Go.RowKit

/-- What is plain: package turn's and cell's, and Id. -/
def plainG : List FuncId := [51, 54, 56, 57, 58, 59, 80, 95, 103, 27]
def LG (f : FuncId) : Prop := f ∈ plainG
theorem callG : ∀ f ∈ plainG, Callable Try.prog LG f := by
  intro f hf
  have hf' := hf
  simp only [plainG, List.mem_cons, List.not_mem_nil, or_false] at hf
  rcases hf with rfl | rfl | rfl | rfl | rfl | rfl | rfl | rfl | rfl | rfl
  · exact ⟨hf', Try.f51, Try.func51, by kernel_rfl, by kernel_rfl⟩
  · exact ⟨hf', Try.f54, Try.func54, by kernel_rfl, by kernel_rfl⟩
  · exact ⟨hf', Try.f56, Try.func56, by kernel_rfl, by kernel_rfl⟩
  · exact ⟨hf', Try.f57, Try.func57, by kernel_rfl, by kernel_rfl⟩
  · exact ⟨hf', Try.f58, Try.func58, by kernel_rfl, by kernel_rfl⟩
  · exact ⟨hf', Try.f59, Try.func59, by kernel_rfl, by kernel_rfl⟩
  · exact ⟨hf', Try.f80, Try.func80, by kernel_rfl, by kernel_rfl⟩
  · exact ⟨hf', Try.f95, Try.func95, by kernel_rfl, by kernel_rfl⟩
  · exact ⟨hf', Try.f103, Try.func103, by kernel_rfl, by kernel_rfl⟩
  · exact ⟨hf', Try.f27, Try.func27, by kernel_rfl, by kernel_rfl⟩
theorem fineG : ∀ f, LG f → fineFn Try.prog true LG f := by
  intro f hf
  simp only [LG, plainG, List.mem_cons, List.not_mem_nil, or_false] at hf
  rcases hf with rfl | rfl | rfl | rfl | rfl | rfl | rfl | rfl | rfl | rfl
  · exact fineFn_ask callG extT Try.func51 (c := Try.f51.body.getD .skip) (by rfl) (by kernel_rfl)
  · exact fineFn_ask callG extT Try.func54 (c := Try.f54.body.getD .skip) (by rfl) (by kernel_rfl)
  · exact fineFn_ask callG extT Try.func56 (c := Try.f56.body.getD .skip) (by rfl) (by kernel_rfl)
  · exact fineFn_ask callG extT Try.func57 (c := Try.f57.body.getD .skip) (by rfl) (by kernel_rfl)
  · exact fineFn_ask callG extT Try.func58 (c := Try.f58.body.getD .skip) (by rfl) (by kernel_rfl)
  · exact fineFn_ask callG extT Try.func59 (c := Try.f59.body.getD .skip) (by rfl) (by kernel_rfl)
  · exact fineFn_ask callG extT Try.func80 (c := Try.f80.body.getD .skip) (by rfl) (by kernel_rfl)
  · exact fineFn_ask callG extT Try.func95 (c := Try.f95.body.getD .skip) (by rfl) (by kernel_rfl)
  · exact fineFn_ask callG extT Try.func103 (c := Try.f103.body.getD .skip) (by rfl) (by kernel_rfl)
  · exact fineFn_ask callG extT Try.func27 (c := Try.f27.body.getD .skip) (by rfl) (by kernel_rfl)

noncomputable def L43 : Code := loopC (blockC (seq1 (seq2 (Try.f43.body.getD .skip))))
noncomputable def T43 : Code := seq2 (seq2 (Try.f43.body.getD .skip))
noncomputable def ops431 : Array Oper := opsOf (seq1 (seq1 L43))
noncomputable def ops432 : Array Oper := opsOf (seq1 (blockC (seq2 L43)))
theorem fineT43 : fineCode Try.prog true LT T43 := fineCode_ask callT extT (by kernel_rfl)

/-- The frame where it looks. -/
noncomputable def wFr (lb tb : Nat) (u : Nat → Value) : Frame :=
  (base 43).at ⟨#[Pt lb 0, Pt tb 0, undef, undef, .bool false, u 5, u 6, u 7, u 8, u 9, u 10, u 11, u 12, u 13, u 14, u 15, u 16, u 17, u 18, u 19], []⟩ [.code L43, .inLoop L43, .inBlock 0, .code T43]
/-- The frame where it has seen what stands there. -/
noncomputable def wSeen (lb cb tb : Nat) (u : Nat → Value) (r : Value) : Frame :=
  (base 43).at ((⟨#[Pt lb 0, Pt tb 0, undef, undef, .bool false, Pt lb 0, Pt lb 0, Pt lb 0, Pt cb 0, Pt tb 0, u 10, u 11, u 12, u 13, u 14, u 15, u 16, u 17, u 18, u 19], []⟩ : Act).put (some 10) r) [.inRegion ops431 [6], .code (seq2 (seq1 L43)), .code (seq2 L43), .inLoop L43, .inBlock 0, .code T43]
/-- The frame where it was woken, or is stuck. -/
noncomputable def wWoke (lb tb : Nat) (u : Nat → Value) (r : Value) : Frame :=
  (base 43).at ((⟨#[Pt lb 0, Pt tb 0, undef, undef, .bool false, u 5, u 6, u 7, u 8, u 9, u 10, u 11, u 12, u 13, u 14, u 15, u 16, u 17, u 18, u 19], []⟩ : Act).put (some 18) r) [.inRegion ops432 [7], .code (seq2 (blockC (seq2 L43))), .inBlock 1, .inLoop L43, .inBlock 0, .code T43]

set_option maxHeartbeats 1000000 in
set_option maxRecDepth 100000 in
theorem wait_loop {z : Nat → Option Nat} {Ch : Nat → Prop} {Stop : Goroutine → World → Prop} {h : Nat} {cont : Addr → Value} {S : TS} {K : List (Nat × Int)} {v w : World} {i j cb lb : Nat} {t : Thr} (x : Int) (u : Nat → Value) (cs : List Frame) (Hm : Goroutine → Prop)
    (hH : ∀ g, OpBack (h == 0) i j cb t.tb 1 effLoad (fun r => G (wSeen lb cb t.tb u r) cs) g → Hm g) (hlb : v.cell? ⟨lb, 0, none⟩ = some (Pt cb 0))
    (hvw : Rel z v w) (hn : NoRow Ch v) (hm : Mem z S K v) (ht : S.thr[i]? = some t) (hK : K[j]? = some (cb, x)) (hz : z t.tb = some 2) (hcont : cont ⟨t.tb, 2, none⟩ = .chan (some t.gc))
    (hstop : ∀ g w', GiveT z cont h S.bk t.gc Hm (Then z Ch S K v (waiting S i t 1 1 j) K) g w' → Stop g w') :
    GoesI Try.prog (h == 0) (DT (ScZ z) Ch) Stop (G (wFr lb t.tb u) cs) w := by
  have e0 : w.cell? ⟨lb, 0, none⟩ = some (Pt cb 0) := by rw [hvw.cell?]; exact hlb
  have HM : Hid (Mem z S K v) := ⟨hm⟩
  clear hm
  unfold wFr L43 T43 Try.f43 seq2 seq1 blockC loopC
  simp only [Option.getD_some]
  refine goesI_seq (dt_idle _ _) ?_
  refine goesI_seq (dt_idle _ _) ?_
  refine goesI_region (dt_idle _ _) ?_
  simp only [List.size_toArray, List.length_cons, List.length_nil, Nat.reduceAdd, Nat.zero_add, List.range, List.range.loop]
  iterate 5
    (refine goesI_oper rfl rfl (by decide) (fun d K hK => ?_)
     go_simp
     refine hK _ _ ⟨dt_reads (fun e he => ?_), GoesI.at ?_ d⟩
     · have hm := mem_listed he
       simp [go_sem, *] at hm
       try exact ⟨_, _, hm⟩
     clear hK K)
  refine goesI_into (f := 26) (fn := Try.f26) (args := #[Pt cb 0, Pt t.tb 0]) (dt_idle _ _) rfl rfl (by decide) rfl (by simp [Act.eval]) Try.func26 (by decide) rfl ?_
  exact load_goes x _ Hm rfl (fun g hg => hH g hg) hvw hn HM.out ht hK hz hcont hstop _ rfl

/-- It has been entered. -/
theorem wait_in {z : Nat → Option Nat} {Ch : Nat → Prop} {Stop : Goroutine → World → Prop} {main : Bool} {w : World} {lb tb : Nat} (cs : List Frame)
    (hk : ∀ u, GoesI Try.prog main (DT (ScZ z) Ch) Stop (G (wFr lb tb u) cs) w) (code : Code) (hc : Try.f43.body = some code) :
    GoesI Try.prog main (DT (ScZ z) Ch) Stop (G ((base 43).at { tmps := #[Pt lb 0, Pt tb 0] ++ Array.replicate 18 undef, defers := [] } [.code code]) cs) w := by
  obtain rfl := Option.some.inj hc
  clear hc
  simp only [Array.replicate_succ, Array.replicate_zero, List.push_toArray, List.append_toArray, List.nil_append, List.cons_append]
  refine goesI_seq (dt_idle _ _) ?_
  refine goesI_region (dt_idle _ _) ?_
  simp only [List.size_toArray, List.length_cons, List.length_nil, Nat.reduceAdd, Nat.zero_add, List.range, List.range.loop]
  (refine goesI_oper rfl rfl (by decide) (fun d K hK => ?_)
   go_simp
   refine hK _ _ ⟨dt_reads (fun e he => ?_), GoesI.at ?_ d⟩
   · have hm := mem_listed he
     simp [go_sem, *] at hm
   clear hK K)
  refine goesI_regionEnd (dt_idle _ _) ?_
  refine goesI_seq (dt_idle _ _) ?_
  refine goesI_block (dt_idle _ _) ?_
  refine goesI_loop (dt_idle _ _) ?_
  exact hk (fun _ => undef)
end Go.Proofs.Ytehingmdmijedaa.Gen

/- lock's Lock (36), in company, in pieces: it draws a ticket; it looks whose turn it is; it awaits a change; it was woken, or is stuck. -/
set_option linter.unusedSimpArgs false
set_option linter.unusedVariables false
namespace Go.Proofs.Ytehingmdmijedaa.Gen
open Go Go.Lift Go.Conc Go.RowKit

noncomputable def R36 : Code := seq2 (seq2 (Try.f36.body.getD .skip))
noncomputable def L36 : Code := loopC (blockC (seq1 R36))
noncomputable def T36 : Code := seq2 R36
noncomputable def ops361 : Array Oper := opsOf (seq1 (seq2 (Try.f36.body.getD .skip)))
noncomputable def ops362 : Array Oper := opsOf (seq1 (seq1 L36))
noncomputable def ops363 : Array Oper := opsOf (seq1 (blockC (seq2 L36)))
theorem fineT36 : fineCode Try.prog true LT T36 := fineCode_ask callT extT (by kernel_rfl)

/-- The frame where it has drawn a ticket. -/
noncomputable def kDrew (lb xb tb : Nat) (u : Nat → Value) (r : Value) : Frame :=
  (base 36).at ((⟨#[Pt lb 0, Pt tb 0, undef, undef, .bool false, u 5, Pt lb 0, Pt lb 0, Pt lb 0, Pt xb 0, Pt tb 0, u 11, u 12, u 13, u 14, u 15, u 16, u 17, u 18, u 19, u 20, u 21, u 22, u 23, u 24, u 25, u 26, u 27, u 28], []⟩ : Act).put (some 11) r) [.inRegion ops361 [6, 7], .code R36]
/-- The frame where it looks; its ticket is n. -/
noncomputable def kFr (lb tb : Nat) (n : Int) (u : Nat → Value) : Frame :=
  (base 36).at ⟨#[Pt lb 0, Pt tb 0, undef, undef, .bool false, I n, u 6, u 7, u 8, u 9, u 10, u 11, u 12, u 13, u 14, u 15, u 16, u 17, u 18, u 19, u 20, u 21, u 22, u 23, u 24, u 25, u 26, u 27, u 28], []⟩ [.code L36, .inLoop L36, .inBlock 0, .code T36]
/-- The frame where it has seen what stands there. -/
noncomputable def kSeen (lb cb tb : Nat) (n : Int) (u : Nat → Value) (r : Value) : Frame :=
  (base 36).at ((⟨#[Pt lb 0, Pt tb 0, undef, undef, .bool false, I n, u 6, u 7, u 8, u 9, u 10, u 11, u 12, Pt lb 0, Pt lb 0, Pt lb 1, Pt cb 0, Pt tb 0, u 18, u 19, u 20, u 21, u 22, u 23, u 24, u 25, u 26, u 27, u 28], []⟩ : Act).put (some 18) r) [.inRegion ops362 [6, 7], .code (seq2 (seq1 L36)), .code (seq2 L36), .inLoop L36, .inBlock 0, .code T36]
/-- The frame where it was woken, or is stuck. -/
noncomputable def kWoke (lb tb : Nat) (n : Int) (u : Nat → Value) (r : Value) : Frame :=
  (base 36).at ((⟨#[Pt lb 0, Pt tb 0, undef, undef, .bool false, I n, u 6, u 7, u 8, u 9, u 10, u 11, u 12, u 13, u 14, u 15, u 16, u 17, u 18, u 19, u 20, u 21, u 22, u 23, u 24, u 25, u 26, u 27, u 28], []⟩ : Act).put (some 27) r) [.inRegion ops363 [7], .code (seq2 (blockC (seq2 L36))), .inBlock 1, .inLoop L36, .inBlock 0, .code T36]

set_option maxHeartbeats 1000000 in
set_option maxRecDepth 100000 in
/-- It has been entered: it draws a ticket. -/
theorem lock_in {z : Nat → Option Nat} {Ch : Nat → Prop} {Stop : Goroutine → World → Prop} {h : Nat} {cont : Addr → Value} {S : TS} {K : List (Nat × Int)} {v w : World} {i j cb lb : Nat} {t : Thr} (x : Int) (cs : List Frame) (Hm : Goroutine → Prop)
    (hH : ∀ g, OpBack (h == 0) i j cb t.tb 5 (effAdd 1) (fun r => G (kDrew lb cb t.tb (fun _ => undef) r) cs) g → Hm g) (hlb : v.cell? ⟨lb, 0, none⟩ = some (Pt cb 0))
    (hvw : Rel z v w) (hn : NoRow Ch v) (hm : Mem z S K v) (ht : S.thr[i]? = some t) (hK : K[j]? = some (cb, x)) (hz : z t.tb = some 2) (hcont : cont ⟨t.tb, 2, none⟩ = .chan (some t.gc))
    (hstop : ∀ g w', GiveT z cont h S.bk t.gc Hm (Then z Ch S K v (waiting S i t 1 5 j) K) g w' → Stop g w') (code : Code) (hc : Try.f36.body = some code) :
    GoesI Try.prog (h == 0) (DT (ScZ z) Ch) Stop (G ((base 36).at { tmps := #[Pt lb 0, Pt t.tb 0] ++ Array.replicate 27 undef, defers := [] } [.code code]) cs) w := by
  have e0 : w.cell? ⟨lb, 0, none⟩ = some (Pt cb 0) := by rw [hvw.cell?]; exact hlb
  have HM : Hid (Mem z S K v) := ⟨hm⟩
  clear hm
  obtain rfl := Option.some.inj hc
  clear hc
  simp only [Array.replicate_succ, Array.replicate_zero, List.push_toArray, List.append_toArray, List.nil_append, List.cons_append]
  refine goesI_seq (dt_idle _ _) ?_
  refine goesI_region (dt_idle _ _) ?_
  simp only [List.size_toArray, List.length_cons, List.length_nil, Nat.reduceAdd, Nat.zero_add, List.range, List.range.loop]
  iterate 1
    (refine goesI_oper rfl rfl (by decide) (fun d K hK => ?_)
     go_simp
     refine hK _ _ ⟨dt_reads (fun e he => ?_), GoesI.at ?_ d⟩
     · have hm := mem_listed he
       simp [go_sem, *] at hm
       try exact ⟨_, _, hm⟩
     clear hK K)
  refine goesI_regionEnd (dt_idle _ _) ?_
  refine goesI_seq (dt_idle _ _) ?_
  refine goesI_region (dt_idle _ _) ?_
  simp only [List.size_toArray, List.length_cons, List.length_nil, Nat.reduceAdd, Nat.zero_add, List.range, List.range.loop]
  iterate 5
    (refine goesI_oper rfl rfl (by decide) (fun d K hK => ?_)
     go_simp
     refine hK _ _ ⟨dt_reads (fun e he => ?_), GoesI.at ?_ d⟩
     · have hm := mem_listed he
       simp [go_sem, *] at hm
       try exact ⟨_, _, hm⟩
     clear hK K)
  refine goesI_into (f := 24) (fn := Try.f24) (args := #[Pt cb 0, Pt t.tb 0, I 1]) (dt_idle _ _) rfl rfl (by decide) rfl (by simp [Act.eval]) Try.func24 (by decide) rfl ?_
  exact add_goes 1 x _ Hm rfl (fun g hg => hH g hg) hvw hn HM.out ht hK hz hcont hstop _ rfl

set_option maxHeartbeats 1000000 in
set_option maxRecDepth 100000 in
/-- It has its ticket. -/
theorem lock_ticket {z : Nat → Option Nat} {Ch : Nat → Prop} {Stop : Goroutine → World → Prop} {main : Bool} {w : World} {lb cb tb : Nat} (y : Int) (u : Nat → Value) (cs : List Frame)
    (hk : ∀ u, GoesI Try.prog main (DT (ScZ z) Ch) Stop (G (kFr lb tb (wrap64 (y - 1)) u) cs) w) :
    GoesI Try.prog main (DT (ScZ z) Ch) Stop (G (kDrew lb cb tb u (I y)) cs) w := by
  unfold kFr L36 T36 R36 Try.f36 seq2 seq1 blockC loopC at hk
  simp only [Option.getD_some] at hk
  unfold kDrew ops361 R36 Try.f36 seq2 seq1 opsOf
  simp only [Option.getD_some]
  walk_nrm
  iterate 2
    (refine goesI_oper rfl rfl (by decide) (fun d K hK => ?_)
     go_simp
     refine hK _ _ ⟨dt_reads (fun e he => ?_), GoesI.at ?_ d⟩
     · have hm := mem_listed he
       simp [go_sem, *] at hm
       try exact ⟨_, _, hm⟩
     clear hK K)
  rw [show IntKind.wrap .i64 (y - 1) = wrap64 (y - 1) from Go.IntWalk.i64_left _]
  refine goesI_regionEnd (dt_idle _ _) ?_
  refine goesI_seq (dt_idle _ _) ?_
  refine goesI_block (dt_idle _ _) ?_
  refine goesI_loop (dt_idle _ _) ?_
  exact hk (fun m => match m with | 6 => Pt lb 0 | 7 => Pt lb 0 | 8 => Pt lb 0 | 9 => Pt cb 0 | 10 => Pt tb 0 | 11 => I y | 12 => I (wrap64 (y - 1)) | m => u m)

set_option maxHeartbeats 1000000 in
set_option maxRecDepth 100000 in
theorem lock_loop {z : Nat → Option Nat} {Ch : Nat → Prop} {Stop : Goroutine → World → Prop} {h : Nat} {cont : Addr → Value} {S : TS} {K : List (Nat × Int)} {v w : World} {i j cb lb : Nat} {t : Thr} (n x : Int) (u : Nat → Value) (cs : List Frame) (Hm : Goroutine → Prop)
    (hH : ∀ g, OpBack (h == 0) i j cb t.tb 1 effLoad (fun r => G (kSeen lb cb t.tb n u r) cs) g → Hm g) (hlb : v.cell? ⟨lb, 1, none⟩ = some (Pt cb 0))
    (hvw : Rel z v w) (hn : NoRow Ch v) (hm : Mem z S K v) (ht : S.thr[i]? = some t) (hK : K[j]? = some (cb, x)) (hz : z t.tb = some 2) (hcont : cont ⟨t.tb, 2, none⟩ = .chan (some t.gc))
    (hstop : ∀ g w', GiveT z cont h S.bk t.gc Hm (Then z Ch S K v (waiting S i t 1 1 j) K) g w' → Stop g w') :
    GoesI Try.prog (h == 0) (DT (ScZ z) Ch) Stop (G (kFr lb t.tb n u) cs) w := by
  have e0 : w.cell? ⟨lb, 1, none⟩ = some (Pt cb 0) := by rw [hvw.cell?]; exact hlb
  have HM : Hid (Mem z S K v) := ⟨hm⟩
  clear hm
  unfold kFr L36 T36 R36 Try.f36 seq2 seq1 blockC loopC
  simp only [Option.getD_some]
  refine goesI_seq (dt_idle _ _) ?_
  refine goesI_seq (dt_idle _ _) ?_
  refine goesI_region (dt_idle _ _) ?_
  simp only [List.size_toArray, List.length_cons, List.length_nil, Nat.reduceAdd, Nat.zero_add, List.range, List.range.loop]
  iterate 5
    (refine goesI_oper rfl rfl (by decide) (fun d K hK => ?_)
     go_simp
     refine hK _ _ ⟨dt_reads (fun e he => ?_), GoesI.at ?_ d⟩
     · have hm := mem_listed he
       simp [go_sem, *] at hm
       try exact ⟨_, _, hm⟩
     clear hK K)
  refine goesI_into (f := 26) (fn := Try.f26) (args := #[Pt cb 0, Pt t.tb 0]) (dt_idle _ _) rfl rfl (by decide) rfl (by simp [Act.eval]) Try.func26 (by decide) rfl ?_
  exact load_goes x _ Hm rfl (fun g hg => hH g hg) hvw hn HM.out ht hK hz hcont hstop _ rfl

theorem res36 (tmps : Array Value) : ∃ v, (∀ w, (results Try.f36 tmps).run Try.prog w = .ok v w) ∧ ∀ w, (results Try.f36 tmps).events Try.prog w #[] = #[] :=
  ⟨_, fun w => results_tmp rfl _ _ _, fun w => by simp [results, go_sem]⟩

set_option maxHeartbeats 1000000 in
set_option maxRecDepth 100000 in
/-- It is called: it has the lock. -/
theorem lock_got {z : Nat → Option Nat} {Ch : Nat → Prop} {Stop : Goroutine → World → Prop} {main : Bool} {v w : World} {lb cb tb : Nat} (n : Int) (u : Nat → Value) (cs : List Frame) {bc : Frame} {ac : Act} {ops : Array Oper} {q : Nat} {rest : List Nat} {oc : Oper} {k : List Item} (hoc : ops[q]? = some oc)
    (hvw : Rel z v w) (hn : NoRow Ch v)
    (hk : ∀ v' w', Rel z v' w' → NoRow Ch v' → v'.heap = v.heap → v'.os = v.os → v'.output = v.output → GoesI Try.prog main (DT (ScZ z) Ch) Stop (G (bc.at (ac.put oc.dst (.bool true)) (.inRegion ops rest :: k)) cs) w') :
    GoesI Try.prog main (DT (ScZ z) Ch) Stop (G (kSeen lb cb tb n u (I n)) (bc.at ac (.inRegion ops (q :: rest) :: k) :: cs)) w := by
  unfold kSeen ops362 L36 T36 R36 Try.f36 seq2 seq1 blockC loopC opsOf
  simp only [Option.getD_some]
  walk_nrm
  iterate 2
    (refine goesI_oper rfl rfl (by decide) (fun d K hK => ?_)
     go_simp
     refine hK _ _ ⟨dt_reads (fun e he => ?_), GoesI.at ?_ d⟩
     · have hm := mem_listed he
       simp [go_sem, *] at hm
       try exact ⟨_, _, hm⟩
     clear hK K)
  refine goesI_regionEnd (dt_idle _ _) ?_
  refine goesI_cond (dt_idle _ _) (t := false) (by simp [Act.eval]) ?_
  simp only [if_true, if_false, Bool.false_eq_true]
  refine goesI_exit (dt_idle _ _) rfl ?_
  refine goesI_rest (f := 36) (fn := Try.f36) (c := T36) hE fineT hvw hn Try.func36 fineT36 rfl hoc res36 (fun τ => ?_) (fun r v' w' hR hr' hn' => ?_) (R := fun r w' => r = .bool true ∧ w'.heap = v.heap ∧ w'.os = v.os ∧ w'.output = v.output)
  · show Code.wp Try.prog (seq2 (seq2 (seq2 (Try.f36.body.getD .skip)))) _ _ _
    unfold Try.f36 seq2
    simp only [Option.getD_some]
    go_wp2_with fail
    go_ret
    exact ⟨_, rfl, rfl, rfl, rfl, rfl⟩
  · obtain ⟨rfl, h1, h2, h3⟩ := hR
    exact hk v' w' hr' hn' h1 h2 h3

/-- What it holds there. -/
def kVal (lb cb tb : Nat) (n x : Int) (j : Nat) (u : Nat → Value) : Nat → Value
  | 13 => Pt lb 0
  | 14 => Pt lb 0
  | 15 => Pt lb 1
  | 16 => Pt cb 0
  | 17 => Pt tb 0
  | 18 => I x
  | 19 => I n
  | 20 => .bool (x != n)
  | 21 => Pt tb 0
  | 22 => Pt lb 0
  | 23 => Pt lb 0
  | 24 => Pt lb 1
  | 25 => Pt cb 0
  | 26 => I j
  | k => u k

set_option maxHeartbeats 1000000 in
set_option maxRecDepth 100000 in
/-- Another one is called: it comes to its Await. -/
theorem lock_more {z : Nat → Option Nat} {Ch : Nat → Prop} {Stop : Goroutine → World → Prop} {main : Bool} {S : TS} {K : List (Nat × Int)} {v w : World} {j cb lb tb : Nat} (n x : Int) (hx : x ≠ n) (y : Int) (u : Nat → Value) (cs : List Frame) (hlb : v.cell? ⟨lb, 1, none⟩ = some (Pt cb 0))
    (hvw : Rel z v w) (hn : NoRow Ch v) (hm : Mem z S K v) (hK : K[j]? = some (cb, y))
    (hk : ∀ v' w' (bd : Frame) (ad : Act) (od : Array Oper) (qd : Nat) (rd : List Nat) (oe : Oper) (kd : List Item), Rel z v' w' → NoRow Ch v' → Evo z S K v S K v' → od[qd]? = some oe → (∀ r, bd.at (ad.put oe.dst r) (.inRegion od rd :: kd) = kWoke lb tb n (kVal lb cb tb n x j u) r) → ∀ code, Try.f60.body = some code →
      GoesI Try.prog main (DT (ScZ z) Ch) Stop (G ((base 60).at { tmps := #[Pt tb 0, I j] ++ Array.replicate (Try.f60.ntmps - 2) undef, defers := [] } [.code code]) (bd.at ad (.inRegion od (qd :: rd) :: kd) :: cs)) w') :
    GoesI Try.prog main (DT (ScZ z) Ch) Stop (G (kSeen lb cb tb n u (I x)) cs) w := by
  have e0 : w.cell? ⟨lb, 1, none⟩ = some (Pt cb 0) := by rw [hvw.cell?]; exact hlb
  have e1 : v.cell? ⟨cb, 0, none⟩ = some (I j) := (hm.cells hK).1
  have HM : Hid (Mem z S K v) := ⟨hm⟩
  clear hm
  unfold kWoke ops363 L36 T36 R36 Try.f36 seq2 seq1 blockC loopC opsOf kVal at hk
  simp only [Option.getD_some] at hk
  unfold kSeen ops362 L36 T36 R36 Try.f36 seq2 seq1 blockC loopC opsOf
  simp only [Option.getD_some]
  walk_nrm
  iterate 2
    (refine goesI_oper rfl rfl (by decide) (fun d K hK => ?_)
     go_simp
     refine hK _ _ ⟨dt_reads (fun e he => ?_), GoesI.at ?_ d⟩
     · have hm := mem_listed he
       simp [go_sem, *] at hm
       try exact ⟨_, _, hm⟩
     clear hK K)
  refine goesI_regionEnd (dt_idle _ _) ?_
  refine goesI_cond (dt_idle _ _) (t := true) (by simp [Act.eval, hx]) ?_
  simp only [if_true, if_false, Bool.false_eq_true]
  refine goesI_skip (dt_idle _ _) ?_
  refine goesI_block (dt_idle _ _) ?_
  refine goesI_seq (dt_idle _ _) ?_
  refine goesI_region (dt_idle _ _) ?_
  simp only [List.size_toArray, List.length_cons, List.length_nil, Nat.reduceAdd, Nat.zero_add, List.range, List.range.loop]
  iterate 5
    (refine goesI_oper rfl rfl (by decide) (fun d K hK => ?_)
     go_simp
     refine hK _ _ ⟨dt_reads (fun e he => ?_), GoesI.at ?_ d⟩
     · have hm := mem_listed he
       simp [go_sem, *] at hm
       try exact ⟨_, _, hm⟩
     clear hK K)
  refine goesI_call (f := 27) (fn := Try.f27) (args := #[Pt cb 0]) hE fineG rfl rfl (by decide) rfl (by simp [Act.eval]) Try.func27 (by kernel_rfl) rfl (fineFn_body fineG (by simp [LG, plainG]) Try.func27 rfl) (fun tmps => ⟨_, fun w => results_tmp rfl _ _ _, fun w => by simp [results, go_sem]⟩) hvw hn
    (R := fun r v4 => r = I j ∧ v4.heap = v.heap ∧ v4.os = v.os ∧ v4.output = v.output) (fun τ => ?_) (fun r v4 w4 hR hvw4 hn4 => ?_)
  · have e2 : (onTape v τ 0).cell? ⟨cb, 0, none⟩ = some (I j) := e1
    show Code.wp Try.prog (Try.f27.body.getD .skip) _ _ _
    unfold Try.f27
    simp only [Option.getD_some]
    go_wp2_with fail
    go_ret
    exact ⟨_, rfl, rfl, rfl, rfl, rfl⟩
  obtain ⟨rfl, h1, h2, h3⟩ := hR
  have hg : Grows v v4 := ⟨by rw [h1]; exact Nat.le_refl _, fun b _ => by rw [h1], h2, h3⟩
  walk_nrm
  refine goesI_into (f := 60) (fn := Try.f60) (args := #[Pt tb 0, I j]) (dt_idle _ _) rfl rfl (by decide) rfl (by simp [Act.eval]) Try.func60 (by decide) rfl ?_
  exact hk v4 w4 _ _ _ _ _ _ _ hvw4 hn4 (HM.out.grows hg) rfl (fun r => rfl) _ rfl

set_option maxHeartbeats 1000000 in
set_option maxRecDepth 100000 in
/-- Woken, it looks again. -/
theorem lock_again {z : Nat → Option Nat} {Ch : Nat → Prop} {Stop : Goroutine → World → Prop} {main : Bool} {w : World} {lb tb : Nat} (n : Int) (u : Nat → Value) (cs : List Frame)
    (hk : ∀ u, GoesI Try.prog main (DT (ScZ z) Ch) Stop (G (kFr lb tb n u) cs) w) :
    GoesI Try.prog main (DT (ScZ z) Ch) Stop (G (kWoke lb tb n u (.bool true)) cs) w := by
  unfold kFr L36 T36 R36 Try.f36 seq2 seq1 blockC loopC at hk
  simp only [Option.getD_some] at hk
  unfold kWoke ops363 L36 T36 R36 Try.f36 seq2 seq1 blockC loopC opsOf
  simp only [Option.getD_some]
  walk_nrm
  iterate 1
    (refine goesI_oper rfl rfl (by decide) (fun d K hK => ?_)
     go_simp
     refine hK _ _ ⟨dt_reads (fun e he => ?_), GoesI.at ?_ d⟩
     · have hm := mem_listed he
       simp [go_sem, *] at hm
       try exact ⟨_, _, hm⟩
     clear hK K)
  refine goesI_regionEnd (dt_idle _ _) ?_
  refine goesI_cond (dt_idle _ _) (t := false) rfl ?_
  simp only [if_true, if_false, Bool.false_eq_true]
  refine goesI_skip (dt_idle _ _) ?_
  refine goesI_inBlock (dt_idle _ _) ?_
  refine goesI_inLoop (dt_idle _ _) ?_
  exact hk (fun m => match m with | 27 => .bool true | 28 => .bool false | m => u m)

noncomputable def no36 : Code := condA (seq2 (blockC (seq2 L36)))
theorem fineNo36 : fineCode Try.prog true LT no36 := fineCode_ask callT extT (by kernel_rfl)
set_option maxHeartbeats 1000000 in
set_option maxRecDepth 100000 in
/-- Stuck, it answers false. -/
theorem lock_no {z : Nat → Option Nat} {Ch : Nat → Prop} {Stop : Goroutine → World → Prop} {main : Bool} {v w : World} {lb tb : Nat} (n : Int) (u : Nat → Value) (cs : List Frame) {bc : Frame} {ac : Act} {ops : Array Oper} {q : Nat} {rest : List Nat} {oc : Oper} {k : List Item} (hoc : ops[q]? = some oc)
    (hvw : Rel z v w) (hn : NoRow Ch v)
    (hk : ∀ v' w', Rel z v' w' → NoRow Ch v' → v'.heap = v.heap → v'.os = v.os → v'.output = v.output → GoesI Try.prog main (DT (ScZ z) Ch) Stop (G (bc.at (ac.put oc.dst (.bool false)) (.inRegion ops rest :: k)) cs) w') :
    GoesI Try.prog main (DT (ScZ z) Ch) Stop (G (kWoke lb tb n u (.bool false)) (bc.at ac (.inRegion ops (q :: rest) :: k) :: cs)) w := by
  unfold kWoke ops363 L36 T36 R36 Try.f36 seq2 seq1 blockC loopC opsOf
  simp only [Option.getD_some]
  walk_nrm
  iterate 1
    (refine goesI_oper rfl rfl (by decide) (fun d K hK => ?_)
     go_simp
     refine hK _ _ ⟨dt_reads (fun e he => ?_), GoesI.at ?_ d⟩
     · have hm := mem_listed he
       simp [go_sem, *] at hm
       try exact ⟨_, _, hm⟩
     clear hK K)
  refine goesI_regionEnd (dt_idle _ _) ?_
  refine goesI_cond (dt_idle _ _) (t := true) rfl ?_
  simp only [if_true, if_false, Bool.false_eq_true]
  refine goesI_outZ (c := no36) (f := 36) (fn := Try.f36) (L := LT) hE fineT hvw hn Try.func36 fineNo36 rfl hoc (R := fun r w' => r = .bool false ∧ w'.heap = v.heap ∧ w'.os = v.os ∧ w'.output = v.output) (fun τ => ?_) (fun r v' w' hR hr' hn' => ?_)
  · show Code.wp Try.prog (condA (seq2 (blockC (seq2 (loopC (blockC (seq1 (seq2 (seq2 (Try.f36.body.getD .skip)))))))))) _ _ _
    unfold Try.f36 condA seq2 seq1 blockC loopC
    simp only [Option.getD_some]
    go_wp2_with fail
    exact ⟨_, results_tmp rfl _ _ _, rfl, rfl, rfl, rfl⟩
  · obtain ⟨rfl, h1, h2, h3⟩ := hR
    exact hk v' w' hr' hn' h1 h2 h3
end Go.Proofs.Ytehingmdmijedaa.Gen
