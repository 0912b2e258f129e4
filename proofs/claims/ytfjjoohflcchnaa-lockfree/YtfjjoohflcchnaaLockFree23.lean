/- LockFree is true of the program at this commit: by one free thread alone, of two locks of no world, Lock, Try and Unlock answer as two numbers each say, whatever the calls; no conditions. Part 23 of 30. (Joined, by program, of: LokL, LokT, LokF, GLit.) -/
import Derived.Test.YtfjjoohflcchnaaLockFree08
import Derived.Test.YtfjjoohflcchnaaLockFree22
set_option linter.unusedSimpArgs false
set_option linter.unusedVariables false
namespace Go.Proofs.Ytfjjoohflcchnaa.Gen
open Go Go.Lift Go.Conc Go.RowKit

noncomputable def R36 : Code := seq2 (seq2 (Try.f38.body.getD .skip))
noncomputable def L36 : Code := loopC (blockC (seq1 R36))
noncomputable def T36 : Code := seq2 R36
noncomputable def ops361 : Array Oper := opsOf (seq1 (seq2 (Try.f38.body.getD .skip)))
noncomputable def ops362 : Array Oper := opsOf (seq1 (seq1 L36))
noncomputable def ops363 : Array Oper := opsOf (seq1 (blockC (seq2 L36)))
theorem fineT36 : fineCode Try.prog true LT T36 := fineCode_ask callT extT (by kernel_rfl)

/-- The frame where it has drawn a ticket. -/
noncomputable def kDrew (lb xb tb : Nat) (u : Nat → Value) (r : Value) : Frame :=
  (base 38).at ((⟨#[Pt lb 0, Pt tb 0, undef, undef, .bool false, u 5, Pt lb 0, Pt lb 0, Pt lb 0, Pt xb 0, Pt tb 0, u 11, u 12, u 13, u 14, u 15, u 16, u 17, u 18, u 19, u 20, u 21, u 22, u 23, u 24, u 25, u 26, u 27, u 28], []⟩ : Act).put (some 11) r) [.inRegion ops361 [6, 7], .code R36]
/-- The frame where it looks; its ticket is n. -/
noncomputable def kFr (lb tb : Nat) (n : Int) (u : Nat → Value) : Frame :=
  (base 38).at ⟨#[Pt lb 0, Pt tb 0, undef, undef, .bool false, I n, u 6, u 7, u 8, u 9, u 10, u 11, u 12, u 13, u 14, u 15, u 16, u 17, u 18, u 19, u 20, u 21, u 22, u 23, u 24, u 25, u 26, u 27, u 28], []⟩ [.code L36, .inLoop L36, .inBlock 0, .code T36]
/-- The frame where it has seen what stands there. -/
noncomputable def kSeen (lb cb tb : Nat) (n : Int) (u : Nat → Value) (r : Value) : Frame :=
  (base 38).at ((⟨#[Pt lb 0, Pt tb 0, undef, undef, .bool false, I n, u 6, u 7, u 8, u 9, u 10, u 11, u 12, Pt lb 0, Pt lb 0, Pt lb 1, Pt cb 0, Pt tb 0, u 18, u 19, u 20, u 21, u 22, u 23, u 24, u 25, u 26, u 27, u 28], []⟩ : Act).put (some 18) r) [.inRegion ops362 [6, 7], .code (seq2 (seq1 L36)), .code (seq2 L36), .inLoop L36, .inBlock 0, .code T36]
/-- The frame where it was woken, or is stuck. -/
noncomputable def kWoke (lb tb : Nat) (n : Int) (u : Nat → Value) (r : Value) : Frame :=
  (base 38).at ((⟨#[Pt lb 0, Pt tb 0, undef, undef, .bool false, I n, u 6, u 7, u 8, u 9, u 10, u 11, u 12, u 13, u 14, u 15, u 16, u 17, u 18, u 19, u 20, u 21, u 22, u 23, u 24, u 25, u 26, u 27, u 28], []⟩ : Act).put (some 27) r) [.inRegion ops363 [7], .code (seq2 (blockC (seq2 L36))), .inBlock 1, .inLoop L36, .inBlock 0, .code T36]

set_option maxHeartbeats 1000000 in
set_option maxRecDepth 100000 in
/-- It has been entered: it draws a ticket. -/
theorem lock_in {z : Nat → Option Nat} {Ch : Nat → Prop} {Stop : Goroutine → World → Prop} {h : Nat} {cont : Addr → Value} {S : TS} {K : List (Nat × Int)} {v w : World} {i j cb lb : Nat} {t : Thr} (x : Int) (cs : List Frame) (Hm : Goroutine → Prop)
    (hH : ∀ g, OpBack (h == 0) i j cb t.tb 5 (effAdd 1) (fun r => G (kDrew lb cb t.tb (fun _ => undef) r) cs) g → Hm g) (hlb : v.cell? ⟨lb, 0, none⟩ = some (Pt cb 0))
    (hvw : Rel z v w) (hn : NoRow Ch v) (hm : Mem z S K v) (ht : S.thr[i]? = some t) (hK : K[j]? = some (cb, x)) (hz : z t.tb = some 2) (hcont : cont ⟨t.tb, 2, none⟩ = .chan (some t.gc))
    (hstop : ∀ g w', GiveT z cont h S.bk t.gc Hm (Then z Ch S K v (waiting S i t 1 5 j) K) g w' → Stop g w') (code : Code) (hc : Try.f38.body = some code) :
    GoesI Try.prog (h == 0) (DT (ScZ z) Ch) Stop (G ((base 38).at { tmps := #[Pt lb 0, Pt t.tb 0] ++ Array.replicate 27 undef, defers := [] } [.code code]) cs) w := by
  have e0 : w.cell? ⟨lb, 0, none⟩ = some (Pt cb 0) := by rw [hvw.cell?]; exact hlb
  have HM : Hid (Mem z S K v) := ⟨hm⟩
  clear hm
  obtain rfl := Option.some.inj hc
  clear hc
  simp only [Array.replicate_succ, Array.replicate_zero, List.push_toArray, List.append_toArray, List.nil_append, List.cons_append]
  refine goesI_seq (dt_idle _ _) ?_
  refine goesI_region (dt_idle _ _) ?_
  simp only [List.size_toArray, List.length_cons, List.length_nil, Nat.reduceAdd, Nat.zero_add, List.range, List.range.loop]
  iterate 1
    (refine goesI_oper rfl rfl (by decide) (fun d K hK => ?_)
     go_simp
     refine hK _ _ ⟨dt_reads (fun e he => ?_), GoesI.at ?_ d⟩
     · have hm := mem_listed he
       simp [go_sem, *] at hm
       try exact ⟨_, _, hm⟩
     clear hK K)
  refine goesI_regionEnd (dt_idle _ _) ?_
  refine goesI_seq (dt_idle _ _) ?_
  refine goesI_region (dt_idle _ _) ?_
  simp only [List.size_toArray, List.length_cons, List.length_nil, Nat.reduceAdd, Nat.zero_add, List.range, List.range.loop]
  iterate 5
    (refine goesI_oper rfl rfl (by decide) (fun d K hK => ?_)
     go_simp
     refine hK _ _ ⟨dt_reads (fun e he => ?_), GoesI.at ?_ d⟩
     · have hm := mem_listed he
       simp [go_sem, *] at hm
       try exact ⟨_, _, hm⟩
     clear hK K)
  refine goesI_into (f := 26) (fn := Try.f26) (args := #[Pt cb 0, Pt t.tb 0, I 1]) (dt_idle _ _) rfl rfl (by decide) rfl (by simp [Act.eval]) Try.func26 (by decide) rfl ?_
  exact add_goes 1 x _ Hm rfl (fun g hg => hH g hg) hvw hn HM.out ht hK hz hcont hstop _ rfl

set_option maxHeartbeats 1000000 in
set_option maxRecDepth 100000 in
/-- It has its ticket. -/
theorem lock_ticket {z : Nat → Option Nat} {Ch : Nat → Prop} {Stop : Goroutine → World → Prop} {main : Bool} {w : World} {lb cb tb : Nat} (y : Int) (u : Nat → Value) (cs : List Frame)
    (hk : ∀ u, GoesI Try.prog main (DT (ScZ z) Ch) Stop (G (kFr lb tb (wrap64 (y - 1)) u) cs) w) :
    GoesI Try.prog main (DT (ScZ z) Ch) Stop (G (kDrew lb cb tb u (I y)) cs) w := by
  unfold kFr L36 T36 R36 Try.f38 seq2 seq1 blockC loopC at hk
  simp only [Option.getD_some] at hk
  unfold kDrew ops361 R36 Try.f38 seq2 seq1 opsOf
  simp only [Option.getD_some]
  walk_nrm
  iterate 2
    (refine goesI_oper rfl rfl (by decide) (fun d K hK => ?_)
     go_simp
     refine hK _ _ ⟨dt_reads (fun e he => ?_), GoesI.at ?_ d⟩
     · have hm := mem_listed he
       simp [go_sem, *] at hm
       try exact ⟨_, _, hm⟩
     clear hK K)
  rw [show IntKind.wrap .i64 (y - 1) = wrap64 (y - 1) from Go.IntWalk.i64_left _]
  refine goesI_regionEnd (dt_idle _ _) ?_
  refine goesI_seq (dt_idle _ _) ?_
  refine goesI_block (dt_idle _ _) ?_
  refine goesI_loop (dt_idle _ _) ?_
  exact hk (fun m => match m with | 6 => Pt lb 0 | 7 => Pt lb 0 | 8 => Pt lb 0 | 9 => Pt cb 0 | 10 => Pt tb 0 | 11 => I y | 12 => I (wrap64 (y - 1)) | m => u m)

set_option maxHeartbeats 1000000 in
set_option maxRecDepth 100000 in
theorem lock_loop {z : Nat → Option Nat} {Ch : Nat → Prop} {Stop : Goroutine → World → Prop} {h : Nat} {cont : Addr → Value} {S : TS} {K : List (Nat × Int)} {v w : World} {i j cb lb : Nat} {t : Thr} (n x : Int) (u : Nat → Value) (cs : List Frame) (Hm : Goroutine → Prop)
    (hH : ∀ g, OpBack (h == 0) i j cb t.tb 1 effLoad (fun r => G (kSeen lb cb t.tb n u r) cs) g → Hm g) (hlb : v.cell? ⟨lb, 1, none⟩ = some (Pt cb 0))
    (hvw : Rel z v w) (hn : NoRow Ch v) (hm : Mem z S K v) (ht : S.thr[i]? = some t) (hK : K[j]? = some (cb, x)) (hz : z t.tb = some 2) (hcont : cont ⟨t.tb, 2, none⟩ = .chan (some t.gc))
    (hstop : ∀ g w', GiveT z cont h S.bk t.gc Hm (Then z Ch S K v (waiting S i t 1 1 j) K) g w' → Stop g w') :
    GoesI Try.prog (h == 0) (DT (ScZ z) Ch) Stop (G (kFr lb t.tb n u) cs) w := by
  have e0 : w.cell? ⟨lb, 1, none⟩ = some (Pt cb 0) := by rw [hvw.cell?]; exact hlb
  have HM : Hid (Mem z S K v) := ⟨hm⟩
  clear hm
  unfold kFr L36 T36 R36 Try.f38 seq2 seq1 blockC loopC
  simp only [Option.getD_some]
  refine goesI_seq (dt_idle _ _) ?_
  refine goesI_seq (dt_idle _ _) ?_
  refine goesI_region (dt_idle _ _) ?_
  simp only [List.size_toArray, List.length_cons, List.length_nil, Nat.reduceAdd, Nat.zero_add, List.range, List.range.loop]
  iterate 5
    (refine goesI_oper rfl rfl (by decide) (fun d K hK => ?_)
     go_simp
     refine hK _ _ ⟨dt_reads (fun e he => ?_), GoesI.at ?_ d⟩
     · have hm := mem_listed he
       simp [go_sem, *] at hm
       try exact ⟨_, _, hm⟩
     clear hK K)
  refine goesI_into (f := 28) (fn := Try.f28) (args := #[Pt cb 0, Pt t.tb 0]) (dt_idle _ _) rfl rfl (by decide) rfl (by simp [Act.eval]) Try.func28 (by decide) rfl ?_
  exact load_goes x _ Hm rfl (fun g hg => hH g hg) hvw hn HM.out ht hK hz hcont hstop _ rfl

theorem res36 (tmps : Array Value) : ∃ v, (∀ w, (results Try.f38 tmps).run Try.prog w = .ok v w) ∧ ∀ w, (results Try.f38 tmps).events Try.prog w #[] = #[] :=
  ⟨_, fun w => results_tmp rfl _ _ _, fun w => by simp [results, go_sem]⟩

set_option maxHeartbeats 1000000 in
set_option maxRecDepth 100000 in
/-- It is called: it has the lock. -/
theorem lock_got {z : Nat → Option Nat} {Ch : Nat → Prop} {Stop : Goroutine → World → Prop} {main : Bool} {v w : World} {lb cb tb : Nat} (n : Int) (u : Nat → Value) (cs : List Frame) {bc : Frame} {ac : Act} {ops : Array Oper} {q : Nat} {rest : List Nat} {oc : Oper} {k : List Item} (hoc : ops[q]? = some oc)
    (hvw : Rel z v w) (hn : NoRow Ch v)
    (hk : ∀ v' w', Rel z v' w' → NoRow Ch v' → v'.heap = v.heap → v'.os = v.os → v'.output = v.output → GoesI Try.prog main (DT (ScZ z) Ch) Stop (G (bc.at (ac.put oc.dst (.bool true)) (.inRegion ops rest :: k)) cs) w') :
    GoesI Try.prog main (DT (ScZ z) Ch) Stop (G (kSeen lb cb tb n u (I n)) (bc.at ac (.inRegion ops (q :: rest) :: k) :: cs)) w := by
  unfold kSeen ops362 L36 T36 R36 Try.f38 seq2 seq1 blockC loopC opsOf
  simp only [Option.getD_some]
  walk_nrm
  iterate 2
    (refine goesI_oper rfl rfl (by decide) (fun d K hK => ?_)
     go_simp
     refine hK _ _ ⟨dt_reads (fun e he => ?_), GoesI.at ?_ d⟩
     · have hm := mem_listed he
       simp [go_sem, *] at hm
       try exact ⟨_, _, hm⟩
     clear hK K)
  refine goesI_regionEnd (dt_idle _ _) ?_
  refine goesI_cond (dt_idle _ _) (t := false) (by simp [Act.eval]) ?_
  simp only [if_true, if_false, Bool.false_eq_true]
  refine goesI_exit (dt_idle _ _) rfl ?_
  refine goesI_rest (f := 38) (fn := Try.f38) (c := T36) hE fineT hvw hn Try.func38 fineT36 rfl hoc res36 (fun τ => ?_) (fun r v' w' hR hr' hn' => ?_) (R := fun r w' => r = .bool true ∧ w'.heap = v.heap ∧ w'.os = v.os ∧ w'.output = v.output)
  · show Code.wp Try.prog (seq2 (seq2 (seq2 (Try.f38.body.getD .skip)))) _ _ _
    unfold Try.f38 seq2
    simp only [Option.getD_some]
    go_wp2_with fail
    go_ret
    exact ⟨_, rfl, rfl, rfl, rfl, rfl⟩
  · obtain ⟨rfl, h1, h2, h3⟩ := hR
    exact hk v' w' hr' hn' h1 h2 h3

/-- What it holds there. -/
def kVal (lb cb tb : Nat) (n x : Int) (j : Nat) (u : Nat → Value) : Nat → Value
  | 13 => Pt lb 0
  | 14 => Pt lb 0
  | 15 => Pt lb 1
  | 16 => Pt cb 0
  | 17 => Pt tb 0
  | 18 => I x
  | 19 => I n
  | 20 => .bool (x != n)
  | 21 => Pt tb 0
  | 22 => Pt lb 0
  | 23 => Pt lb 0
  | 24 => Pt lb 1
  | 25 => Pt cb 0
  | 26 => I j
  | k => u k

set_option maxHeartbeats 1000000 in
set_option maxRecDepth 100000 in
/-- Another one is called: it comes to its Await. -/
theorem lock_more {z : Nat → Option Nat} {Ch : Nat → Prop} {Stop : Goroutine → World → Prop} {main : Bool} {S : TS} {K : List (Nat × Int)} {v w : World} {j cb lb tb : Nat} (n x : Int) (hx : x ≠ n) (y : Int) (u : Nat → Value) (cs : List Frame) (hlb : v.cell? ⟨lb, 1, none⟩ = some (Pt cb 0))
    (hvw : Rel z v w) (hn : NoRow Ch v) (hm : Mem z S K v) (hK : K[j]? = some (cb, y))
    (hk : ∀ v' w' (bd : Frame) (ad : Act) (od : Array Oper) (qd : Nat) (rd : List Nat) (oe : Oper) (kd : List Item), Rel z v' w' → NoRow Ch v' → Evo z S K v S K v' → od[qd]? = some oe → (∀ r, bd.at (ad.put oe.dst r) (.inRegion od rd :: kd) = kWoke lb tb n (kVal lb cb tb n x j u) r) → ∀ code, Try.f65.body = some code →
      GoesI Try.prog main (DT (ScZ z) Ch) Stop (G ((base 65).at { tmps := #[Pt tb 0, I j] ++ Array.replicate (Try.f65.ntmps - 2) undef, defers := [] } [.code code]) (bd.at ad (.inRegion od (qd :: rd) :: kd) :: cs)) w') :
    GoesI Try.prog main (DT (ScZ z) Ch) Stop (G (kSeen lb cb tb n u (I x)) cs) w := by
  have e0 : w.cell? ⟨lb, 1, none⟩ = some (Pt cb 0) := by rw [hvw.cell?]; exact hlb
  have e1 : v.cell? ⟨cb, 0, none⟩ = some (I j) := (hm.cells hK).1
  have HM : Hid (Mem z S K v) := ⟨hm⟩
  clear hm
  unfold kWoke ops363 L36 T36 R36 Try.f38 seq2 seq1 blockC loopC opsOf kVal at hk
  simp only [Option.getD_some] at hk
  unfold kSeen ops362 L36 T36 R36 Try.f38 seq2 seq1 blockC loopC opsOf
  simp only [Option.getD_some]
  walk_nrm
  iterate 2
    (refine goesI_oper rfl rfl (by decide) (fun d K hK => ?_)
     go_simp
     refine hK _ _ ⟨dt_reads (fun e he => ?_), GoesI.at ?_ d⟩
     · have hm := mem_listed he
       simp [go_sem, *] at hm
       try exact ⟨_, _, hm⟩
     clear hK K)
  refine goesI_regionEnd (dt_idle _ _) ?_
  refine goesI_cond (dt_idle _ _) (t := true) (by simp [Act.eval, hx]) ?_
  simp only [if_true, if_false, Bool.false_eq_true]
  refine goesI_skip (dt_idle _ _) ?_
  refine goesI_block (dt_idle _ _) ?_
  refine goesI_seq (dt_idle _ _) ?_
  refine goesI_region (dt_idle _ _) ?_
  simp only [List.size_toArray, List.length_cons, List.length_nil, Nat.reduceAdd, Nat.zero_add, List.range, List.range.loop]
  iterate 5
    (refine goesI_oper rfl rfl (by decide) (fun d K hK => ?_)
     go_simp
     refine hK _ _ ⟨dt_reads (fun e he => ?_), GoesI.at ?_ d⟩
     · have hm := mem_listed he
       simp [go_sem, *] at hm
       try exact ⟨_, _, hm⟩
     clear hK K)
  refine goesI_call (f := 29) (fn := Try.f29) (args := #[Pt cb 0]) hE fineG rfl rfl (by decide) rfl (by simp [Act.eval]) Try.func29 (by kernel_rfl) rfl (fineFn_body fineG (by simp [LG, plainG]) Try.func29 rfl) (fun tmps => ⟨_, fun w => results_tmp rfl _ _ _, fun w => by simp [results, go_sem]⟩) hvw hn
    (R := fun r v4 => r = I j ∧ v4.heap = v.heap ∧ v4.os = v.os ∧ v4.output = v.output) (fun τ => ?_) (fun r v4 w4 hR hvw4 hn4 => ?_)
  · have e2 : (onTape v τ 0).cell? ⟨cb, 0, none⟩ = some (I j) := e1
    show Code.wp Try.prog (Try.f29.body.getD .skip) _ _ _
    unfold Try.f29
    simp only [Option.getD_some]
    go_wp2_with fail
    go_ret
    exact ⟨_, rfl, rfl, rfl, rfl, rfl⟩
  obtain ⟨rfl, h1, h2, h3⟩ := hR
  have hg : Grows v v4 := ⟨by rw [h1]; exact Nat.le_refl _, fun b _ => by rw [h1], h2, h3⟩
  walk_nrm
  refine goesI_into (f := 65) (fn := Try.f65) (args := #[Pt tb 0, I j]) (dt_idle _ _) rfl rfl (by decide) rfl (by simp [Act.eval]) Try.func65 (by decide) rfl ?_
  exact hk v4 w4 _ _ _ _ _ _ _ hvw4 hn4 (HM.out.grows hg) rfl (fun r => rfl) _ rfl

set_option maxHeartbeats 1000000 in
set_option maxRecDepth 100000 in
/-- Woken, it looks again. -/
theorem lock_again {z : Nat → Option Nat} {Ch : Nat → Prop} {Stop : Goroutine → World → Prop} {main : Bool} {w : World} {lb tb : Nat} (n : Int) (u : Nat → Value) (cs : List Frame)
    (hk : ∀ u, GoesI Try.prog main (DT (ScZ z) Ch) Stop (G (kFr lb tb n u) cs) w) :
    GoesI Try.prog main (DT (ScZ z) Ch) Stop (G (kWoke lb tb n u (.bool true)) cs) w := by
  unfold kFr L36 T36 R36 Try.f38 seq2 seq1 blockC loopC at hk
  simp only [Option.getD_some] at hk
  unfold kWoke ops363 L36 T36 R36 Try.f38 seq2 seq1 blockC loopC opsOf
  simp only [Option.getD_some]
  walk_nrm
  iterate 1
    (refine goesI_oper rfl rfl (by decide) (fun d K hK => ?_)
     go_simp
     refine hK _ _ ⟨dt_reads (fun e he => ?_), GoesI.at ?_ d⟩
     · have hm := mem_listed he
       simp [go_sem, *] at hm
       try exact ⟨_, _, hm⟩
     clear hK K)
  refine goesI_regionEnd (dt_idle _ _) ?_
  refine goesI_cond (dt_idle _ _) (t := false) rfl ?_
  simp only [if_true, if_false, Bool.false_eq_true]
  refine goesI_skip (dt_idle _ _) ?_
  refine goesI_inBlock (dt_idle _ _) ?_
  refine goesI_inLoop (dt_idle _ _) ?_
  exact hk (fun m => match m with | 27 => .bool true | 28 => .bool false | m => u m)

noncomputable def no36 : Code := condA (seq2 (blockC (seq2 L36)))
theorem fineNo36 : fineCode Try.prog true LT no36 := fineCode_ask callT extT (by kernel_rfl)
set_option maxHeartbeats 1000000 in
set_option maxRecDepth 100000 in
/-- Stuck, it answers false. -/
theorem lock_no {z : Nat → Option Nat} {Ch : Nat → Prop} {Stop : Goroutine → World → Prop} {main : Bool} {v w : World} {lb tb : Nat} (n : Int) (u : Nat → Value) (cs : List Frame) {bc : Frame} {ac : Act} {ops : Array Oper} {q : Nat} {rest : List Nat} {oc : Oper} {k : List Item} (hoc : ops[q]? = some oc)
    (hvw : Rel z v w) (hn : NoRow Ch v)
    (hk : ∀ v' w', Rel z v' w' → NoRow Ch v' → v'.heap = v.heap → v'.os = v.os → v'.output = v.output → GoesI Try.prog main (DT (ScZ z) Ch) Stop (G (bc.at (ac.put oc.dst (.bool false)) (.inRegion ops rest :: k)) cs) w') :
    GoesI Try.prog main (DT (ScZ z) Ch) Stop (G (kWoke lb tb n u (.bool false)) (bc.at ac (.inRegion ops (q :: rest) :: k) :: cs)) w := by
  unfold kWoke ops363 L36 T36 R36 Try.f38 seq2 seq1 blockC loopC opsOf
  simp only [Option.getD_some]
  walk_nrm
  iterate 1
    (refine goesI_oper rfl rfl (by decide) (fun d K hK => ?_)
     go_simp
     refine hK _ _ ⟨dt_reads (fun e he => ?_), GoesI.at ?_ d⟩
     · have hm := mem_listed he
       simp [go_sem, *] at hm
       try exact ⟨_, _, hm⟩
     clear hK K)
  refine goesI_regionEnd (dt_idle _ _) ?_
  refine goesI_cond (dt_idle _ _) (t := true) rfl ?_
  simp only [if_true, if_false, Bool.false_eq_true]
  refine goesI_outZ (c := no36) (f := 38) (fn := Try.f38) (L := LT) hE fineT hvw hn Try.func38 fineNo36 rfl hoc (R := fun r w' => r = .bool false ∧ w'.heap = v.heap ∧ w'.os = v.os ∧ w'.output = v.output) (fun τ => ?_) (fun r v' w' hR hr' hn' => ?_)
  · show Code.wp Try.prog (condA (seq2 (blockC (seq2 (loopC (blockC (seq1 (seq2 (seq2 (Try.f38.body.getD .skip)))))))))) _ _ _
    unfold Try.f38 condA seq2 seq1 blockC loopC
    simp only [Option.getD_some]
    go_wp2_with fail
    exact ⟨_, results_tmp rfl _ _ _, rfl, rfl, rfl, rfl⟩
  · obtain ⟨rfl, h1, h2, h3⟩ := hR
    exact hk v' w' hr' hn' h1 h2 h3
end Go.Proofs.Ytfjjoohflcchnaa.Gen

namespace Go.Proofs.Ytfjjoohflcchnaa.Gen
open Go Go.Lift Go.Conc Go.RowKit

noncomputable def R37 : Code := seq2 (seq2 (Try.f39.body.getD .skip))
noncomputable def ops371 : Array Oper := opsOf (seq1 (seq2 (Try.f39.body.getD .skip)))
noncomputable def ops372 : Array Oper := opsOf (seq1 R37)

/-- The frame where it has seen who is called. -/
noncomputable def tSeen (lb nb tb : Nat) (u : Nat → Value) (r : Value) : Frame :=
  (base 39).at ((⟨#[Pt lb 0, Pt tb 0, undef, undef, .bool false, u 5, Pt lb 0, Pt lb 0, Pt lb 1, Pt nb 0, Pt tb 0, u 11, u 12, u 13, u 14, u 15, u 16, u 17, u 18, u 19, u 20], []⟩ : Act).put (some 11) r) [.inRegion ops371 [6], .code R37]
/-- The frame where it has tried. -/
noncomputable def tTried (lb tb : Nat) (u : Nat → Value) (r : Value) : Frame :=
  (base 39).at ((⟨#[Pt lb 0, Pt tb 0, undef, undef, .bool false, u 5, u 6, u 7, u 8, u 9, u 10, u 11, u 12, u 13, u 14, u 15, u 16, u 17, u 18, u 19, u 20], []⟩ : Act).put (some 20) r) [.inRegion ops372 [9], .code (seq2 R37)]

set_option maxHeartbeats 1000000 in
set_option maxRecDepth 100000 in
/-- It has been entered: it looks. -/
theorem try_in {z : Nat → Option Nat} {Ch : Nat → Prop} {Stop : Goroutine → World → Prop} {h : Nat} {cont : Addr → Value} {S : TS} {K : List (Nat × Int)} {v w : World} {i j cb lb : Nat} {t : Thr} (x : Int) (cs : List Frame) (Hm : Goroutine → Prop)
    (hH : ∀ g, OpBack (h == 0) i j cb t.tb 1 effLoad (fun r => G (tSeen lb cb t.tb (fun _ => undef) r) cs) g → Hm g) (hlb : v.cell? ⟨lb, 1, none⟩ = some (Pt cb 0))
    (hvw : Rel z v w) (hn : NoRow Ch v) (hm : Mem z S K v) (ht : S.thr[i]? = some t) (hK : K[j]? = some (cb, x)) (hz : z t.tb = some 2) (hcont : cont ⟨t.tb, 2, none⟩ = .chan (some t.gc))
    (hstop : ∀ g w', GiveT z cont h S.bk t.gc Hm (Then z Ch S K v (waiting S i t 1 1 j) K) g w' → Stop g w') (code : Code) (hc : Try.f39.body = some code) :
    GoesI Try.prog (h == 0) (DT (ScZ z) Ch) Stop (G ((base 39).at { tmps := #[Pt lb 0, Pt t.tb 0] ++ Array.replicate 19 undef, defers := [] } [.code code]) cs) w := by
  have e0 : w.cell? ⟨lb, 1, none⟩ = some (Pt cb 0) := by rw [hvw.cell?]; exact hlb
  have HM : Hid (Mem z S K v) := ⟨hm⟩
  clear hm
  obtain rfl := Option.some.inj hc
  clear hc
  simp only [Array.replicate_succ, Array.replicate_zero, List.push_toArray, List.append_toArray, List.nil_append, List.cons_append]
  refine goesI_seq (dt_idle _ _) ?_
  refine goesI_region (dt_idle _ _) ?_
  simp only [List.size_toArray, List.length_cons, List.length_nil, Nat.reduceAdd, Nat.zero_add, List.range, List.range.loop]
  iterate 1
    (refine goesI_oper rfl rfl (by decide) (fun d K hK => ?_)
     go_simp
     refine hK _ _ ⟨dt_reads (fun e he => ?_), GoesI.at ?_ d⟩
     · have hm := mem_listed he
       simp [go_sem, *] at hm
       try exact ⟨_, _, hm⟩
     clear hK K)
  refine goesI_regionEnd (dt_idle _ _) ?_
  refine goesI_seq (dt_idle _ _) ?_
  refine goesI_region (dt_idle _ _) ?_
  simp only [List.size_toArray, List.length_cons, List.length_nil, Nat.reduceAdd, Nat.zero_add, List.range, List.range.loop]
  iterate 5
    (refine goesI_oper rfl rfl (by decide) (fun d K hK => ?_)
     go_simp
     refine hK _ _ ⟨dt_reads (fun e he => ?_), GoesI.at ?_ d⟩
     · have hm := mem_listed he
       simp [go_sem, *] at hm
       try exact ⟨_, _, hm⟩
     clear hK K)
  refine goesI_into (f := 28) (fn := Try.f28) (args := #[Pt cb 0, Pt t.tb 0]) (dt_idle _ _) rfl rfl (by decide) rfl (by simp [Act.eval]) Try.func28 (by decide) rfl ?_
  exact load_goes x _ Hm rfl (fun g hg => hH g hg) hvw hn HM.out ht hK hz hcont hstop _ rfl

/-- What it holds where it tries. -/
def tVal (lb nb cb tb : Nat) (a : Int) (u : Nat → Value) : Nat → Value
  | 5 => I a
  | 6 => Pt lb 0
  | 7 => Pt lb 0
  | 8 => Pt lb 1
  | 9 => Pt nb 0
  | 10 => Pt tb 0
  | 11 => I a
  | 12 => Pt lb 0
  | 13 => Pt lb 0
  | 14 => Pt lb 0
  | 15 => Pt cb 0
  | 16 => Pt tb 0
  | 17 => I a
  | 18 => I a
  | 19 => I (wrap64 (a + 1))
  | k => u k

set_option maxHeartbeats 1000000 in
set_option maxRecDepth 100000 in
/-- The ticket a is called: it tries to draw it. -/
theorem try_draw {z : Nat → Option Nat} {Ch : Nat → Prop} {Stop : Goroutine → World → Prop} {h : Nat} {cont : Addr → Value} {S : TS} {K : List (Nat × Int)} {v w : World} {i j cb nb lb : Nat} {t : Thr} (a x : Int) (u : Nat → Value) (cs : List Frame) (Hm : Goroutine → Prop)
    (hH : ∀ g, OpBack (h == 0) i j cb t.tb 4 (effCas a (wrap64 (a + 1))) (fun r => G (tTried lb t.tb (tVal lb nb cb t.tb a u) r) cs) g → Hm g) (hlb : v.cell? ⟨lb, 0, none⟩ = some (Pt cb 0))
    (hvw : Rel z v w) (hn : NoRow Ch v) (hm : Mem z S K v) (ht : S.thr[i]? = some t) (hK : K[j]? = some (cb, x)) (hz : z t.tb = some 2) (hcont : cont ⟨t.tb, 2, none⟩ = .chan (some t.gc))
    (hstop : ∀ g w', GiveT z cont h S.bk t.gc Hm (Then z Ch S K v (waiting S i t 1 4 j) K) g w' → Stop g w') :
    GoesI Try.prog (h == 0) (DT (ScZ z) Ch) Stop (G (tSeen lb nb t.tb u (I a)) cs) w := by
  have e0 : w.cell? ⟨lb, 0, none⟩ = some (Pt cb 0) := by rw [hvw.cell?]; exact hlb
  have HM : Hid (Mem z S K v) := ⟨hm⟩
  clear hm
  unfold tSeen ops371 R37 Try.f39 seq2 seq1 opsOf
  simp only [Option.getD_some]
  walk_nrm
  iterate 1
    (refine goesI_oper rfl rfl (by decide) (fun d K hK => ?_)
     go_simp
     refine hK _ _ ⟨dt_reads (fun e he => ?_), GoesI.at ?_ d⟩
     · have hm := mem_listed he
       simp [go_sem, *] at hm
       try exact ⟨_, _, hm⟩
     clear hK K)
  refine goesI_regionEnd (dt_idle _ _) ?_
  refine goesI_seq (dt_idle _ _) ?_
  refine goesI_region (dt_idle _ _) ?_
  simp only [List.size_toArray, List.length_cons, List.length_nil, Nat.reduceAdd, Nat.zero_add, List.range, List.range.loop]
  iterate 8
    (refine goesI_oper rfl rfl (by decide) (fun d K hK => ?_)
     go_simp
     refine hK _ _ ⟨dt_reads (fun e he => ?_), GoesI.at ?_ d⟩
     · have hm := mem_listed he
       simp [go_sem, *] at hm
       try exact ⟨_, _, hm⟩
     clear hK K)
  rw [show IntKind.wrap .i64 (a + 1) = wrap64 (a + 1) from Go.IntWalk.i64_left _]
  refine goesI_into (f := 25) (fn := Try.f25) (args := #[Pt cb 0, Pt t.tb 0, I a, I (wrap64 (a + 1))]) (dt_idle _ _) rfl rfl (by decide) rfl (by simp [Act.eval]) Try.func25 (by decide) rfl ?_
  exact cas_goes a (wrap64 (a + 1)) x _ Hm rfl (fun g hg => hH g hg) hvw hn HM.out ht hK hz hcont hstop _ rfl

set_option maxHeartbeats 1000000 in
set_option maxRecDepth 100000 in
/-- It did, or not. -/
theorem try_done {z : Nat → Option Nat} {Ch : Nat → Prop} {Stop : Goroutine → World → Prop} {main : Bool} {v w : World} {lb tb : Nat} (b : Bool) (u : Nat → Value) (cs : List Frame) {bc : Frame} {ac : Act} {ops : Array Oper} {q : Nat} {rest : List Nat} {oc : Oper} {k : List Item} (hoc : ops[q]? = some oc)
    (hvw : Rel z v w) (hn : NoRow Ch v)
    (hk : ∀ w', Rel z v w' → GoesI Try.prog main (DT (ScZ z) Ch) Stop (G (bc.at (ac.put oc.dst (.bool b)) (.inRegion ops rest :: k)) cs) w') :
    GoesI Try.prog main (DT (ScZ z) Ch) Stop (G (tTried lb tb u (.bool b)) (bc.at ac (.inRegion ops (q :: rest) :: k) :: cs)) w := by
  unfold tTried ops372 R37 Try.f39 seq2 seq1 opsOf
  simp only [Option.getD_some]
  walk_nrm
  iterate 1
    (refine goesI_oper rfl rfl (by decide) (fun d K hK => ?_)
     go_simp
     refine hK _ _ ⟨dt_reads (fun e he => ?_), GoesI.at ?_ d⟩
     · have hm := mem_listed he
       simp [go_sem, *] at hm
       try exact ⟨_, _, hm⟩
     clear hK K)
  refine goesI_regionEnd (dt_idle _ _) ?_
  refine GoesI.ctl rfl (fun _ => stepG_ret') (dt_idle _ _) ?_
  exact goesI_leaveZ (f := 39) (fn := Try.f39) (x := .bool b) hvw hn Try.func39 rfl hoc (by simp [results, go_sem, Try.f39]) (fun w' r' => hk w' r')
end Go.Proofs.Ytfjjoohflcchnaa.Gen

namespace Go.Proofs.Ytfjjoohflcchnaa.Gen
open Go Go.Lift Go.Conc Go.RowKit

section
variable {tb c c' : Nat} {x y : Int} {v v' v'' : World}
theorem Fto.stay (h : Fto tb c x v v') (m : Fm tb c x v) : v'.heap = v.heap := by
  apply Array.ext_getElem?
  intro b
  by_cases e : b = c
  · rw [e, h.fm.cel, m.cel]
  · exact h.old b e
theorem Fto.other (h : Fto tb c x v v') (m : Fm tb c' y v) (hne : c' ≠ c) : Fm tb c' y v' := ⟨h.fm.thr, by rw [h.old c' hne]; exact m.cel⟩
theorem Fto.cell (h : Fto tb c x v v') {b j : Nat} {u : Value} (hb : b ≠ c) (hc : v.cell? ⟨b, j, none⟩ = some u) : v'.cell? ⟨b, j, none⟩ = some u := by
  rw [World.cell?_of_block (w := v) (w' := v') (h.old b hb)]; exact hc
theorem Fto.then (h : Fto tb c x v v') (k : Fto tb c' y v' v'') (m : Fm tb c' y v') : Fto tb c x v v'' := h.same (k.stay m) k.os k.out
end

section
variable {Ch : Nat → Prop} {Stop : Goroutine → World → Prop} {main : Bool} {v w : World} {tb lb c0 c1 : Nat} {x y : Int}
set_option maxHeartbeats 1000000 in
set_option maxRecDepth 100000 in
theorem flock_look (u : Nat → Value) {cs : List Frame} {bc : Frame} {ac : Act} {ops : Array Oper} {q : Nat} {rest : List Nat} {oc : Oper} {k : List Item} (hoc : ops[q]? = some oc)
    (hvw : Rel zn v w) (hn : NoRow Ch v) (h1 : v.cell? ⟨lb, 1, none⟩ = some (Pt c1 0)) (m1 : Fm tb c1 y v)
    (hk : ∀ v' w', Rel zn v' w' → NoRow Ch v' → v'.heap = v.heap → v'.os = v.os → v'.output = v.output → GoesI Try.prog main (DT (ScZ zn) Ch) Stop (G (bc.at (ac.put oc.dst (.bool true)) (.inRegion ops rest :: k)) cs) w') :
    GoesI Try.prog main (DT (ScZ zn) Ch) Stop (G (kFr lb tb y u) (bc.at ac (.inRegion ops (q :: rest) :: k) :: cs)) w := by
  have e0 : w.cell? ⟨lb, 1, none⟩ = some (Pt c1 0) := by rw [hvw.cell?]; exact h1
  have hd : ∀ v2 w2, Rel zn v2 w2 → NoRow Ch v2 → v2.heap = v.heap → v2.os = v.os → v2.output = v.output → GoesI Try.prog main (DT (ScZ zn) Ch) Stop (G (kSeen lb c1 tb y u (I y)) (bc.at ac (.inRegion ops (q :: rest) :: k) :: cs)) w2 := fun v2 w2 r2 n2 a b c => lock_got y u cs hoc r2 n2 (fun v3 w3 r3 n3 a' b' c' => hk v3 w3 r3 n3 (a'.trans a) (b'.trans b) (c'.trans c))
  unfold kSeen ops362 L36 T36 R36 Try.f38 seq2 seq1 blockC loopC opsOf at hd
  simp only [Option.getD_some] at hd
  unfold kFr L36 T36 R36 Try.f38 seq2 seq1 blockC loopC
  simp only [Option.getD_some]
  refine goesI_seq (dt_idle _ _) ?_
  refine goesI_seq (dt_idle _ _) ?_
  refine goesI_region (dt_idle _ _) ?_
  simp only [List.size_toArray, List.length_cons, List.length_nil, Nat.reduceAdd, Nat.zero_add, List.range, List.range.loop]
  iterate 5
    (refine goesI_oper rfl rfl (by decide) (fun d K hK => ?_)
     go_simp
     refine hK _ _ ⟨dt_reads (fun e he => ?_), GoesI.at ?_ d⟩
     · have hm := mem_listed he
       simp [go_sem, *] at hm
       try exact ⟨_, _, hm⟩
     clear hK K)
  refine goesI_into (f := 28) (fn := Try.f28) (args := #[Pt c1 0, Pt tb 0]) (dt_idle _ _) rfl rfl (by decide) rfl (by simp [Act.eval]) Try.func28 (by decide) rfl ?_
  refine free17 y _ rfl hvw hn m1 (fun v2 w2 r2 n2 h2 => ?_) _ rfl
  exact hd v2 w2 r2 n2 (h2.stay m1) h2.os h2.out

set_option maxHeartbeats 1000000 in
set_option maxRecDepth 100000 in
/-- Lock where it need not wait. -/
theorem flock (hxy : wrap64 (wrap64 (x + 1) - 1) = y) {cs : List Frame} {bc : Frame} {ac : Act} {ops : Array Oper} {q : Nat} {rest : List Nat} {oc : Oper} {k : List Item} (hoc : ops[q]? = some oc)
    (hvw : Rel zn v w) (hn : NoRow Ch v) (h0 : v.cell? ⟨lb, 0, none⟩ = some (Pt c0 0)) (h1 : v.cell? ⟨lb, 1, none⟩ = some (Pt c1 0)) (m0 : Fm tb c0 x v) (m1 : Fm tb c1 y v) (hne : c1 ≠ c0) (hlb : lb ≠ c0)
    (hk : ∀ v' w', Rel zn v' w' → NoRow Ch v' → Fto tb c0 (wrap64 (x + 1)) v v' → GoesI Try.prog main (DT (ScZ zn) Ch) Stop (G (bc.at (ac.put oc.dst (.bool true)) (.inRegion ops rest :: k)) cs) w') (code : Code) (hc : Try.f38.body = some code) :
    GoesI Try.prog main (DT (ScZ zn) Ch) Stop (G ((base 38).at { tmps := #[Pt lb 0, Pt tb 0] ++ Array.replicate 27 undef, defers := [] } [.code code]) (bc.at ac (.inRegion ops (q :: rest) :: k) :: cs)) w := by
  have e0 : w.cell? ⟨lb, 0, none⟩ = some (Pt c0 0) := by rw [hvw.cell?]; exact h0
  have hd : ∀ v1 w1, Rel zn v1 w1 → NoRow Ch v1 → Fto tb c0 (wrap64 (x + 1)) v v1 → GoesI Try.prog main (DT (ScZ zn) Ch) Stop (G (kDrew lb c0 tb (fun _ => undef) (I (wrap64 (x + 1)))) (bc.at ac (.inRegion ops (q :: rest) :: k) :: cs)) w1 := fun v1 w1 r1 n1 f1 => lock_ticket (wrap64 (x + 1)) _ _ (fun u => by
    rw [hxy]
    exact flock_look u hoc r1 n1 (f1.cell hlb h1) (f1.other m1 hne) (fun v2 w2 r2 n2 a b c => hk v2 w2 r2 n2 (f1.same a b c)))
  unfold kDrew ops361 R36 Try.f38 seq2 seq1 opsOf at hd
  simp only [Option.getD_some] at hd
  obtain rfl := Option.some.inj hc
  clear hc
  simp only [Array.replicate_succ, Array.replicate_zero, List.push_toArray, List.append_toArray, List.nil_append, List.cons_append]
  refine goesI_seq (dt_idle _ _) ?_
  refine goesI_region (dt_idle _ _) ?_
  simp only [List.size_toArray, List.length_cons, List.length_nil, Nat.reduceAdd, Nat.zero_add, List.range, List.range.loop]
  iterate 1
    (refine goesI_oper rfl rfl (by decide) (fun d K hK => ?_)
     go_simp
     refine hK _ _ ⟨dt_reads (fun e he => ?_), GoesI.at ?_ d⟩
     · have hm := mem_listed he
       simp [go_sem, *] at hm
       try exact ⟨_, _, hm⟩
     clear hK K)
  refine goesI_regionEnd (dt_idle _ _) ?_
  refine goesI_seq (dt_idle _ _) ?_
  refine goesI_region (dt_idle _ _) ?_
  simp only [List.size_toArray, List.length_cons, List.length_nil, Nat.reduceAdd, Nat.zero_add, List.range, List.range.loop]
  iterate 5
    (refine goesI_oper rfl rfl (by decide) (fun d K hK => ?_)
     go_simp
     refine hK _ _ ⟨dt_reads (fun e he => ?_), GoesI.at ?_ d⟩
     · have hm := mem_listed he
       simp [go_sem, *] at hm
       try exact ⟨_, _, hm⟩
     clear hK K)
  refine goesI_into (f := 26) (fn := Try.f26) (args := #[Pt c0 0, Pt tb 0, I 1]) (dt_idle _ _) rfl rfl (by decide) rfl (by simp [Act.eval]) Try.func26 (by decide) rfl ?_
  refine free15 1 x _ rfl hvw hn m0 (fun v1 w1 r1 n1 f1 => ?_) _ rfl
  exact hd v1 w1 r1 n1 f1

set_option maxHeartbeats 1000000 in
set_option maxRecDepth 100000 in
/-- Try. -/
theorem ftry {cs : List Frame} {bc : Frame} {ac : Act} {ops : Array Oper} {q : Nat} {rest : List Nat} {oc : Oper} {k : List Item} (hoc : ops[q]? = some oc)
    (hvw : Rel zn v w) (hn : NoRow Ch v) (h0 : v.cell? ⟨lb, 0, none⟩ = some (Pt c0 0)) (h1 : v.cell? ⟨lb, 1, none⟩ = some (Pt c1 0)) (m0 : Fm tb c0 x v) (m1 : Fm tb c1 y v)
    (hk : ∀ v' w', Rel zn v' w' → NoRow Ch v' → Fto tb c0 (if x = y then wrap64 (y + 1) else x) v v' → GoesI Try.prog main (DT (ScZ zn) Ch) Stop (G (bc.at (ac.put oc.dst (.bool (decide (x = y)))) (.inRegion ops rest :: k)) cs) w') (code : Code) (hc : Try.f39.body = some code) :
    GoesI Try.prog main (DT (ScZ zn) Ch) Stop (G ((base 39).at { tmps := #[Pt lb 0, Pt tb 0] ++ Array.replicate 19 undef, defers := [] } [.code code]) (bc.at ac (.inRegion ops (q :: rest) :: k) :: cs)) w := by
  have e1 : w.cell? ⟨lb, 1, none⟩ = some (Pt c1 0) := by rw [hvw.cell?]; exact h1
  have hd : ∀ (u : Nat → Value) v2 w2, Rel zn v2 w2 → NoRow Ch v2 → Fto tb c0 (effCas y (wrap64 (y + 1)) x).2.1 v v2 → GoesI Try.prog main (DT (ScZ zn) Ch) Stop (G (tTried lb tb (tVal lb c1 c0 tb y (fun _ => undef)) (effCas y (wrap64 (y + 1)) x).2.2) (bc.at ac (.inRegion ops (q :: rest) :: k) :: cs)) w2 := fun u v2 w2 r2 n2 f2 => by
    have e2 : (effCas y (wrap64 (y + 1)) x).2.2 = .bool (decide (x = y)) := by
      unfold effCas
      by_cases e : x = y
      · rw [if_pos e]; simp [e]
      · rw [if_neg e]; simp [e]
    have e3 : (effCas y (wrap64 (y + 1)) x).2.1 = if x = y then wrap64 (y + 1) else x := by
      unfold effCas
      split <;> rfl
    rw [e3] at f2
    rw [e2]
    exact try_done (decide (x = y)) _ cs hoc r2 n2 (fun w3 r3 => hk v2 w3 r3 n2 f2)
  have hd2 : ∀ v1 w1, Rel zn v1 w1 → NoRow Ch v1 → v1.heap = v.heap → v1.os = v.os → v1.output = v.output → GoesI Try.prog main (DT (ScZ zn) Ch) Stop (G (tSeen lb c1 tb (fun _ => undef) (I y)) (bc.at ac (.inRegion ops (q :: rest) :: k) :: cs)) w1 := fun v1 w1 r1 n1 a1 b1 c1' => by
    have e0 : w1.cell? ⟨lb, 0, none⟩ = some (Pt c0 0) := by
      rw [r1.cell?, World.cell?_of_block (w := v) (w' := v1) (by rw [a1])]; exact h0
    have hd := hd (fun _ => undef)
    unfold tTried ops372 R37 Try.f39 seq2 seq1 opsOf at hd
    simp only [Option.getD_some] at hd
    unfold tSeen ops371 R37 Try.f39 seq2 seq1 opsOf
    simp only [Option.getD_some]
    walk_nrm
    iterate 1
      (refine goesI_oper rfl rfl (by decide) (fun d K hK => ?_)
       go_simp
       refine hK _ _ ⟨dt_reads (fun e he => ?_), GoesI.at ?_ d⟩
       · have hm := mem_listed he
         simp [go_sem, *] at hm
         try exact ⟨_, _, hm⟩
       clear hK K)
    refine goesI_regionEnd (dt_idle _ _) ?_
    refine goesI_seq (dt_idle _ _) ?_
    refine goesI_region (dt_idle _ _) ?_
    simp only [List.size_toArray, List.length_cons, List.length_nil, Nat.reduceAdd, Nat.zero_add, List.range, List.range.loop]
    iterate 8
      (refine goesI_oper rfl rfl (by decide) (fun d K hK => ?_)
       go_simp
       refine hK _ _ ⟨dt_reads (fun e he => ?_), GoesI.at ?_ d⟩
       · have hm := mem_listed he
         simp [go_sem, *] at hm
         try exact ⟨_, _, hm⟩
       clear hK K)
    rw [show IntKind.wrap .i64 (y + 1) = wrap64 (y + 1) from Go.IntWalk.i64_left _]
    refine goesI_into (f := 25) (fn := Try.f25) (args := #[Pt c0 0, Pt tb 0, I y, I (wrap64 (y + 1))]) (dt_idle _ _) rfl rfl (by decide) rfl (by simp [Act.eval]) Try.func25 (by decide) rfl ?_
    refine free14 y (wrap64 (y + 1)) x _ rfl r1 n1 (m0.same a1) (fun v2 w2 r2 n2 h2 => ?_) _ rfl
    exact hd v2 w2 r2 n2 (h2.base a1 b1 c1')
  clear hd
  unfold tSeen ops371 R37 Try.f39 seq2 seq1 opsOf at hd2
  simp only [Option.getD_some] at hd2
  obtain rfl := Option.some.inj hc
  clear hc
  simp only [Array.replicate_succ, Array.replicate_zero, List.push_toArray, List.append_toArray, List.nil_append, List.cons_append]
  refine goesI_seq (dt_idle _ _) ?_
  refine goesI_region (dt_idle _ _) ?_
  simp only [List.size_toArray, List.length_cons, List.length_nil, Nat.reduceAdd, Nat.zero_add, List.range, List.range.loop]
  iterate 1
    (refine goesI_oper rfl rfl (by decide) (fun d K hK => ?_)
     go_simp
     refine hK _ _ ⟨dt_reads (fun e he => ?_), GoesI.at ?_ d⟩
     · have hm := mem_listed he
       simp [go_sem, *] at hm
       try exact ⟨_, _, hm⟩
     clear hK K)
  refine goesI_regionEnd (dt_idle _ _) ?_
  refine goesI_seq (dt_idle _ _) ?_
  refine goesI_region (dt_idle _ _) ?_
  simp only [List.size_toArray, List.length_cons, List.length_nil, Nat.reduceAdd, Nat.zero_add, List.range, List.range.loop]
  iterate 5
    (refine goesI_oper rfl rfl (by decide) (fun d K hK => ?_)
     go_simp
     refine hK _ _ ⟨dt_reads (fun e he => ?_), GoesI.at ?_ d⟩
     · have hm := mem_listed he
       simp [go_sem, *] at hm
       try exact ⟨_, _, hm⟩
     clear hK K)
  refine goesI_into (f := 28) (fn := Try.f28) (args := #[Pt c1 0, Pt tb 0]) (dt_idle _ _) rfl rfl (by decide) rfl (by simp [Act.eval]) Try.func28 (by decide) rfl ?_
  refine free17 y _ rfl hvw hn m1 (fun v1 w1 r1 n1 f1 => ?_) _ rfl
  exact hd2 v1 w1 r1 n1 (f1.stay m1) f1.os f1.out

set_option maxHeartbeats 1000000 in
set_option maxRecDepth 100000 in
/-- Unlock. -/
theorem funlock {cs : List Frame} {bc : Frame} {ac : Act} {ops : Array Oper} {q : Nat} {rest : List Nat} {oc : Oper} {k : List Item} (hoc : ops[q]? = some oc)
    (hvw : Rel zn v w) (hn : NoRow Ch v) (h1 : v.cell? ⟨lb, 1, none⟩ = some (Pt c1 0)) (m1 : Fm tb c1 y v)
    (hk : ∀ v' w', Rel zn v' w' → NoRow Ch v' → Fto tb c1 (wrap64 (y + 1)) v v' → GoesI Try.prog main (DT (ScZ zn) Ch) Stop (G (bc.at (ac.put oc.dst (.tuple #[])) (.inRegion ops rest :: k)) cs) w') (code : Code) (hc : Try.f40.body = some code) :
    GoesI Try.prog main (DT (ScZ zn) Ch) Stop (G ((base 40).at { tmps := #[Pt lb 0, Pt tb 0] ++ Array.replicate 8 undef, defers := [] } [.code code]) (bc.at ac (.inRegion ops (q :: rest) :: k) :: cs)) w := by
  have e0 : w.cell? ⟨lb, 1, none⟩ = some (Pt c1 0) := by rw [hvw.cell?]; exact h1
  obtain rfl := Option.some.inj hc
  clear hc
  simp only [Array.replicate_succ, Array.replicate_zero, List.push_toArray, List.append_toArray, List.nil_append, List.cons_append]
  refine goesI_region (dt_idle _ _) ?_
  simp only [List.size_toArray, List.length_cons, List.length_nil, Nat.reduceAdd, Nat.zero_add, List.range, List.range.loop]
  iterate 5
    (refine goesI_oper rfl rfl (by decide) (fun d K hK => ?_)
     go_simp
     refine hK _ _ ⟨dt_reads (fun e he => ?_), GoesI.at ?_ d⟩
     · have hm := mem_listed he
       simp [go_sem, *] at hm
       try exact ⟨_, _, hm⟩
     clear hK K)
  refine goesI_into (f := 26) (fn := Try.f26) (args := #[Pt c1 0, Pt tb 0, I 1]) (dt_idle _ _) rfl rfl (by decide) rfl (by simp [Act.eval]) Try.func26 (by decide) rfl ?_
  refine free15 1 y _ rfl hvw hn m1 (fun v1 w1 r1 n1 f1 => ?_) _ rfl
  refine goesI_regionEnd (dt_idle _ _) ?_
  refine goesI_end (dt_idle _ _) ?_
  exact goesI_leaveZ (f := 40) (fn := Try.f40) (x := .tuple #[]) r1 n1 Try.func40 rfl hoc (results_none rfl _ _ _) (fun w' r' => hk v1 w' r' n1 f1)
end
end Go.Proofs.Ytfjjoohflcchnaa.Gen

namespace Go.Proofs.Ytfjjoohflcchnaa.Gen
open Go Go.Lift Go.Conc Go.RowKit
def lits (u : Nat → Value) : Nat → Nat → List Value
  | _, 0 => []
  | s, n + 1 => u s :: lits u (s + 1) n
theorem lits_get (u : Nat → Value) : ∀ (n s i : Nat), (lits u s n)[i]? = if i < n then some (u (s + i)) else none
  | 0, s, i => by simp [lits]
  | n + 1, s, 0 => by simp [lits]
  | n + 1, s, i + 1 => by
    have := lits_get u n (s + 1) i
    simp only [lits, List.getElem?_cons_succ, this, Nat.add_lt_add_iff_right]
    rw [show s + 1 + i = s + (i + 1) by omega]
theorem litN {n : Nat} {a : Act} (h : a.tmps.size = n) (hd : a.defers = []) : ∃ u : Nat → Value, a = { tmps := (lits u 0 n).toArray, defers := [] } ∧ ∀ i, a.tmps.getD i undef = u i := by
  obtain ⟨⟨l⟩, ds⟩ := a
  simp only at hd h
  subst hd
  refine ⟨fun i => (Array.mk l).getD i undef, ?_, fun i => rfl⟩
  have e : l = lits (fun i => (Array.mk l).getD i undef) 0 n := by
    apply List.ext_getElem?
    intro i
    rw [lits_get]
    have hl : l.length = n := h
    by_cases hi : i < n
    · rw [if_pos hi, List.getElem?_eq_getElem (by omega)]
      simp [Array.getD, hl, hi]
    · rw [if_neg hi, List.getElem?_eq_none (by omega)]
  exact congrArg (fun x => ({ tmps := x.toArray, defers := [] } : Act)) e
/-- Slots of a frame of n slots. -/
def Fl (n : Nat) (l : List (Nat × Value)) (a : Act) : Prop := a.tmps.size = n ∧ a.defers = [] ∧ ∀ p ∈ l, a.tmps.getD p.1 undef = p.2
theorem Fl.sub {n : Nat} {l l' : List (Nat × Value)} {a : Act} (h : Fl n l a) (hs : ∀ p ∈ l', p ∈ l) : Fl n l' a := ⟨h.1, h.2.1, fun p hp => h.2.2 p (hs p hp)⟩
theorem Fl.at {n : Nat} {l : List (Nat × Value)} {a : Act} (h : Fl n l a) (k : Nat) (v : Value) (hs : (k, v) ∈ l) : a.eval (.tmp k) = v := h.2.2 (k, v) hs
end Go.Proofs.Ytfjjoohflcchnaa.Gen
