/- LockAlone: for every schedule and all scripts, what threads are told together under the lock is what one thread would be told that makes the calls in the order of the tickets; no conditions. Part 25 of 34. (Joined, by program, of: LokL, LokT, Store, LokA.) -/
import Derived.Test.YtfjjoohflcchnaaLockAlone08
import Derived.Test.YtfjjoohflcchnaaLockAlone09
import Derived.Test.YtfjjoohflcchnaaLockAlone24
set_option linter.unusedSimpArgs false
set_option linter.unusedVariables false
namespace Go.Proofs.Ytfjjoohflcchnaa.Gen
open Go Go.Lift Go.Conc Go.RowKit

noncomputable def R36 : Code := seq2 (seq2 (Try.f38.body.getD .skip))
noncomputable def L36 : Code := loopC (blockC (seq1 R36))
noncomputable def T36 : Code := seq2 R36
noncomputable def ops361 : Array Oper := opsOf (seq1 (seq2 (Try.f38.body.getD .skip)))
noncomputable def ops362 : Array Oper := opsOf (seq1 (seq1 L36))
noncomputable def ops363 : Array Oper := opsOf (seq1 (blockC (seq2 L36)))
theorem fineT36 : fineCode Try.prog true LT T36 := fineCode_ask callT extT (by kernel_rfl)

/-- The frame where it has drawn a ticket. -/
noncomputable def kDrew (lb xb tb : Nat) (u : Nat → Value) (r : Value) : Frame :=
  (base 38).at ((⟨#[Pt lb 0, Pt tb 0, undef, undef, .bool false, u 5, Pt lb 0, Pt lb 0, Pt lb 0, Pt xb 0, Pt tb 0, u 11, u 12, u 13, u 14, u 15, u 16, u 17, u 18, u 19, u 20, u 21, u 22, u 23, u 24, u 25, u 26, u 27, u 28], []⟩ : Act).put (some 11) r) [.inRegion ops361 [6, 7], .code R36]
/-- The frame where it looks; its ticket is n. -/
noncomputable def kFr (lb tb : Nat) (n : Int) (u : Nat → Value) : Frame :=
  (base 38).at ⟨#[Pt lb 0, Pt tb 0, undef, undef, .bool false, I n, u 6, u 7, u 8, u 9, u 10, u 11, u 12, u 13, u 14, u 15, u 16, u 17, u 18, u 19, u 20, u 21, u 22, u 23, u 24, u 25, u 26, u 27, u 28], []⟩ [.code L36, .inLoop L36, .inBlock 0, .code T36]
/-- The frame where it has seen what stands there. -/
noncomputable def kSeen (lb cb tb : Nat) (n : Int) (u : Nat → Value) (r : Value) : Frame :=
  (base 38).at ((⟨#[Pt lb 0, Pt tb 0, undef, undef, .bool false, I n, u 6, u 7, u 8, u 9, u 10, u 11, u 12, Pt lb 0, Pt lb 0, Pt lb 1, Pt cb 0, Pt tb 0, u 18, u 19, u 20, u 21, u 22, u 23, u 24, u 25, u 26, u 27, u 28], []⟩ : Act).put (some 18) r) [.inRegion ops362 [6, 7], .code (seq2 (seq1 L36)), .code (seq2 L36), .inLoop L36, .inBlock 0, .code T36]
/-- The frame where it was woken, or is stuck. -/
noncomputable def kWoke (lb tb : Nat) (n : Int) (u : Nat → Value) (r : Value) : Frame :=
  (base 38).at ((⟨#[Pt lb 0, Pt tb 0, undef, undef, .bool false, I n, u 6, u 7, u 8, u 9, u 10, u 11, u 12, u 13, u 14, u 15, u 16, u 17, u 18, u 19, u 20, u 21, u 22, u 23, u 24, u 25, u 26, u 27, u 28], []⟩ : Act).put (some 27) r) [.inRegion ops363 [7], .code (seq2 (blockC (seq2 L36))), .inBlock 1, .inLoop L36, .inBlock 0, .code T36]

set_option maxHeartbeats 1000000 in
set_option maxRecDepth 100000 in
/-- It has been entered: it draws a ticket. -/
theorem lock_in {z : Nat → Option Nat} {Ch : Nat → Prop} {Stop : Goroutine → World → Prop} {h : Nat} {cont : Addr → Value} {S : TS} {K : List (Nat × Int)} {v w : World} {i j cb lb : Nat} {t : Thr} (x : Int) (cs : List Frame) (Hm : Goroutine → Prop)
    (hH : ∀ g, OpBack (h == 0) i j cb t.tb 5 (effAdd 1) (fun r => G (kDrew lb cb t.tb (fun _ => undef) r) cs) g → Hm g) (hlb : v.cell? ⟨lb, 0, none⟩ = some (Pt cb 0))
    (hvw : Rel z v w) (hn : NoRow Ch v) (hm : Mem z S K v) (ht : S.thr[i]? = some t) (hK : K[j]? = some (cb, x)) (hz : z t.tb = some 2) (hcont : cont ⟨t.tb, 2, none⟩ = .chan (some t.gc))
    (hstop : ∀ g w', GiveT z cont h S.bk t.gc Hm (Then z Ch S K v (waiting S i t 1 5 j) K) g w' → Stop g w') (code : Code) (hc : Try.f38.body = some code) :
    GoesI Try.prog (h == 0) (DT (ScZ z) Ch) Stop (G ((base 38).at { tmps := #[Pt lb 0, Pt t.tb 0] ++ Array.replicate 27 undef, defers := [] } [.code code]) cs) w := by
  have e0 : w.cell? ⟨lb, 0, none⟩ = some (Pt cb 0) := by rw [hvw.cell?]; exact hlb
  have HM : Hid (Mem z S K v) := ⟨hm⟩
  clear hm
  obtain rfl := Option.some.inj hc
  clear hc
  simp only [Array.replicate_succ, Array.replicate_zero, List.push_toArray, List.append_toArray, List.nil_append, List.cons_append]
  refine goesI_seq (dt_idle _ _) ?_
  refine goesI_region (dt_idle _ _) ?_
  simp only [List.size_toArray, List.length_cons, List.length_nil, Nat.reduceAdd, Nat.zero_add, List.range, List.range.loop]
  iterate 1
    (refine goesI_oper rfl rfl (by decide) (fun d K hK => ?_)
     go_simp
     refine hK _ _ ⟨dt_reads (fun e he => ?_), GoesI.at ?_ d⟩
     · have hm := mem_listed he
       simp [go_sem, *] at hm
       try exact ⟨_, _, hm⟩
     clear hK K)
  refine goesI_regionEnd (dt_idle _ _) ?_
  refine goesI_seq (dt_idle _ _) ?_
  refine goesI_region (dt_idle _ _) ?_
  simp only [List.size_toArray, List.length_cons, List.length_nil, Nat.reduceAdd, Nat.zero_add, List.range, List.range.loop]
  iterate 5
    (refine goesI_oper rfl rfl (by decide) (fun d K hK => ?_)
     go_simp
     refine hK _ _ ⟨dt_reads (fun e he => ?_), GoesI.at ?_ d⟩
     · have hm := mem_listed he
       simp [go_sem, *] at hm
       try exact ⟨_, _, hm⟩
     clear hK K)
  refine goesI_into (f := 26) (fn := Try.f26) (args := #[Pt cb 0, Pt t.tb 0, I 1]) (dt_idle _ _) rfl rfl (by decide) rfl (by simp [Act.eval]) Try.func26 (by decide) rfl ?_
  exact add_goes 1 x _ Hm rfl (fun g hg => hH g hg) hvw hn HM.out ht hK hz hcont hstop _ rfl

set_option maxHeartbeats 1000000 in
set_option maxRecDepth 100000 in
/-- It has its ticket. -/
theorem lock_ticket {z : Nat → Option Nat} {Ch : Nat → Prop} {Stop : Goroutine → World → Prop} {main : Bool} {w : World} {lb cb tb : Nat} (y : Int) (u : Nat → Value) (cs : List Frame)
    (hk : ∀ u, GoesI Try.prog main (DT (ScZ z) Ch) Stop (G (kFr lb tb (wrap64 (y - 1)) u) cs) w) :
    GoesI Try.prog main (DT (ScZ z) Ch) Stop (G (kDrew lb cb tb u (I y)) cs) w := by
  unfold kFr L36 T36 R36 Try.f38 seq2 seq1 blockC loopC at hk
  simp only [Option.getD_some] at hk
  unfold kDrew ops361 R36 Try.f38 seq2 seq1 opsOf
  simp only [Option.getD_some]
  walk_nrm
  iterate 2
    (refine goesI_oper rfl rfl (by decide) (fun d K hK => ?_)
     go_simp
     refine hK _ _ ⟨dt_reads (fun e he => ?_), GoesI.at ?_ d⟩
     · have hm := mem_listed he
       simp [go_sem, *] at hm
       try exact ⟨_, _, hm⟩
     clear hK K)
  rw [show IntKind.wrap .i64 (y - 1) = wrap64 (y - 1) from Go.IntWalk.i64_left _]
  refine goesI_regionEnd (dt_idle _ _) ?_
  refine goesI_seq (dt_idle _ _) ?_
  refine goesI_block (dt_idle _ _) ?_
  refine goesI_loop (dt_idle _ _) ?_
  exact hk (fun m => match m with | 6 => Pt lb 0 | 7 => Pt lb 0 | 8 => Pt lb 0 | 9 => Pt cb 0 | 10 => Pt tb 0 | 11 => I y | 12 => I (wrap64 (y - 1)) | m => u m)

set_option maxHeartbeats 1000000 in
set_option maxRecDepth 100000 in
theorem lock_loop {z : Nat → Option Nat} {Ch : Nat → Prop} {Stop : Goroutine → World → Prop} {h : Nat} {cont : Addr → Value} {S : TS} {K : List (Nat × Int)} {v w : World} {i j cb lb : Nat} {t : Thr} (n x : Int) (u : Nat → Value) (cs : List Frame) (Hm : Goroutine → Prop)
    (hH : ∀ g, OpBack (h == 0) i j cb t.tb 1 effLoad (fun r => G (kSeen lb cb t.tb n u r) cs) g → Hm g) (hlb : v.cell? ⟨lb, 1, none⟩ = some (Pt cb 0))
    (hvw : Rel z v w) (hn : NoRow Ch v) (hm : Mem z S K v) (ht : S.thr[i]? = some t) (hK : K[j]? = some (cb, x)) (hz : z t.tb = some 2) (hcont : cont ⟨t.tb, 2, none⟩ = .chan (some t.gc))
    (hstop : ∀ g w', GiveT z cont h S.bk t.gc Hm (Then z Ch S K v (waiting S i t 1 1 j) K) g w' → Stop g w') :
    GoesI Try.prog (h == 0) (DT (ScZ z) Ch) Stop (G (kFr lb t.tb n u) cs) w := by
  have e0 : w.cell? ⟨lb, 1, none⟩ = some (Pt cb 0) := by rw [hvw.cell?]; exact hlb
  have HM : Hid (Mem z S K v) := ⟨hm⟩
  clear hm
  unfold kFr L36 T36 R36 Try.f38 seq2 seq1 blockC loopC
  simp only [Option.getD_some]
  refine goesI_seq (dt_idle _ _) ?_
  refine goesI_seq (dt_idle _ _) ?_
  refine goesI_region (dt_idle _ _) ?_
  simp only [List.size_toArray, List.length_cons, List.length_nil, Nat.reduceAdd, Nat.zero_add, List.range, List.range.loop]
  iterate 5
    (refine goesI_oper rfl rfl (by decide) (fun d K hK => ?_)
     go_simp
     refine hK _ _ ⟨dt_reads (fun e he => ?_), GoesI.at ?_ d⟩
     · have hm := mem_listed he
       simp [go_sem, *] at hm
       try exact ⟨_, _, hm⟩
     clear hK K)
  refine goesI_into (f := 28) (fn := Try.f28) (args := #[Pt cb 0, Pt t.tb 0]) (dt_idle _ _) rfl rfl (by decide) rfl (by simp [Act.eval]) Try.func28 (by decide) rfl ?_
  exact load_goes x _ Hm rfl (fun g hg => hH g hg) hvw hn HM.out ht hK hz hcont hstop _ rfl

theorem res36 (tmps : Array Value) : ∃ v, (∀ w, (results Try.f38 tmps).run Try.prog w = .ok v w) ∧ ∀ w, (results Try.f38 tmps).events Try.prog w #[] = #[] :=
  ⟨_, fun w => results_tmp rfl _ _ _, fun w => by simp [results, go_sem]⟩

set_option maxHeartbeats 1000000 in
set_option maxRecDepth 100000 in
/-- It is called: it has the lock. -/
theorem lock_got {z : Nat → Option Nat} {Ch : Nat → Prop} {Stop : Goroutine → World → Prop} {main : Bool} {v w : World} {lb cb tb : Nat} (n : Int) (u : Nat → Value) (cs : List Frame) {bc : Frame} {ac : Act} {ops : Array Oper} {q : Nat} {rest : List Nat} {oc : Oper} {k : List Item} (hoc : ops[q]? = some oc)
    (hvw : Rel z v w) (hn : NoRow Ch v)
    (hk : ∀ v' w', Rel z v' w' → NoRow Ch v' → v'.heap = v.heap → v'.os = v.os → v'.output = v.output → GoesI Try.prog main (DT (ScZ z) Ch) Stop (G (bc.at (ac.put oc.dst (.bool true)) (.inRegion ops rest :: k)) cs) w') :
    GoesI Try.prog main (DT (ScZ z) Ch) Stop (G (kSeen lb cb tb n u (I n)) (bc.at ac (.inRegion ops (q :: rest) :: k) :: cs)) w := by
  unfold kSeen ops362 L36 T36 R36 Try.f38 seq2 seq1 blockC loopC opsOf
  simp only [Option.getD_some]
  walk_nrm
  iterate 2
    (refine goesI_oper rfl rfl (by decide) (fun d K hK => ?_)
     go_simp
     refine hK _ _ ⟨dt_reads (fun e he => ?_), GoesI.at ?_ d⟩
     · have hm := mem_listed he
       simp [go_sem, *] at hm
       try exact ⟨_, _, hm⟩
     clear hK K)
  refine goesI_regionEnd (dt_idle _ _) ?_
  refine goesI_cond (dt_idle _ _) (t := false) (by simp [Act.eval]) ?_
  simp only [if_true, if_false, Bool.false_eq_true]
  refine goesI_exit (dt_idle _ _) rfl ?_
  refine goesI_rest (f := 38) (fn := Try.f38) (c := T36) hE fineT hvw hn Try.func38 fineT36 rfl hoc res36 (fun τ => ?_) (fun r v' w' hR hr' hn' => ?_) (R := fun r w' => r = .bool true ∧ w'.heap = v.heap ∧ w'.os = v.os ∧ w'.output = v.output)
  · show Code.wp Try.prog (seq2 (seq2 (seq2 (Try.f38.body.getD .skip)))) _ _ _
    unfold Try.f38 seq2
    simp only [Option.getD_some]
    go_wp2_with fail
    go_ret
    exact ⟨_, rfl, rfl, rfl, rfl, rfl⟩
  · obtain ⟨rfl, h1, h2, h3⟩ := hR
    exact hk v' w' hr' hn' h1 h2 h3

/-- What it holds there. -/
def kVal (lb cb tb : Nat) (n x : Int) (j : Nat) (u : Nat → Value) : Nat → Value
  | 13 => Pt lb 0
  | 14 => Pt lb 0
  | 15 => Pt lb 1
  | 16 => Pt cb 0
  | 17 => Pt tb 0
  | 18 => I x
  | 19 => I n
  | 20 => .bool (x != n)
  | 21 => Pt tb 0
  | 22 => Pt lb 0
  | 23 => Pt lb 0
  | 24 => Pt lb 1
  | 25 => Pt cb 0
  | 26 => I j
  | k => u k

set_option maxHeartbeats 1000000 in
set_option maxRecDepth 100000 in
/-- Another one is called: it comes to its Await. -/
theorem lock_more {z : Nat → Option Nat} {Ch : Nat → Prop} {Stop : Goroutine → World → Prop} {main : Bool} {S : TS} {K : List (Nat × Int)} {v w : World} {j cb lb tb : Nat} (n x : Int) (hx : x ≠ n) (y : Int) (u : Nat → Value) (cs : List Frame) (hlb : v.cell? ⟨lb, 1, none⟩ = some (Pt cb 0))
    (hvw : Rel z v w) (hn : NoRow Ch v) (hm : Mem z S K v) (hK : K[j]? = some (cb, y))
    (hk : ∀ v' w' (bd : Frame) (ad : Act) (od : Array Oper) (qd : Nat) (rd : List Nat) (oe : Oper) (kd : List Item), Rel z v' w' → NoRow Ch v' → Evo z S K v S K v' → od[qd]? = some oe → (∀ r, bd.at (ad.put oe.dst r) (.inRegion od rd :: kd) = kWoke lb tb n (kVal lb cb tb n x j u) r) → ∀ code, Try.f65.body = some code →
      GoesI Try.prog main (DT (ScZ z) Ch) Stop (G ((base 65).at { tmps := #[Pt tb 0, I j] ++ Array.replicate (Try.f65.ntmps - 2) undef, defers := [] } [.code code]) (bd.at ad (.inRegion od (qd :: rd) :: kd) :: cs)) w') :
    GoesI Try.prog main (DT (ScZ z) Ch) Stop (G (kSeen lb cb tb n u (I x)) cs) w := by
  have e0 : w.cell? ⟨lb, 1, none⟩ = some (Pt cb 0) := by rw [hvw.cell?]; exact hlb
  have e1 : v.cell? ⟨cb, 0, none⟩ = some (I j) := (hm.cells hK).1
  have HM : Hid (Mem z S K v) := ⟨hm⟩
  clear hm
  unfold kWoke ops363 L36 T36 R36 Try.f38 seq2 seq1 blockC loopC opsOf kVal at hk
  simp only [Option.getD_some] at hk
  unfold kSeen ops362 L36 T36 R36 Try.f38 seq2 seq1 blockC loopC opsOf
  simp only [Option.getD_some]
  walk_nrm
  iterate 2
    (refine goesI_oper rfl rfl (by decide) (fun d K hK => ?_)
     go_simp
     refine hK _ _ ⟨dt_reads (fun e he => ?_), GoesI.at ?_ d⟩
     · have hm := mem_listed he
       simp [go_sem, *] at hm
       try exact ⟨_, _, hm⟩
     clear hK K)
  refine goesI_regionEnd (dt_idle _ _) ?_
  refine goesI_cond (dt_idle _ _) (t := true) (by simp [Act.eval, hx]) ?_
  simp only [if_true, if_false, Bool.false_eq_true]
  refine goesI_skip (dt_idle _ _) ?_
  refine goesI_block (dt_idle _ _) ?_
  refine goesI_seq (dt_idle _ _) ?_
  refine goesI_region (dt_idle _ _) ?_
  simp only [List.size_toArray, List.length_cons, List.length_nil, Nat.reduceAdd, Nat.zero_add, List.range, List.range.loop]
  iterate 5
    (refine goesI_oper rfl rfl (by decide) (fun d K hK => ?_)
     go_simp
     refine hK _ _ ⟨dt_reads (fun e he => ?_), GoesI.at ?_ d⟩
     · have hm := mem_listed he
       simp [go_sem, *] at hm
       try exact ⟨_, _, hm⟩
     clear hK K)
  refine goesI_call (f := 29) (fn := Try.f29) (args := #[Pt cb 0]) hE fineG rfl rfl (by decide) rfl (by simp [Act.eval]) Try.func29 (by kernel_rfl) rfl (fineFn_body fineG (by simp [LG, plainG]) Try.func29 rfl) (fun tmps => ⟨_, fun w => results_tmp rfl _ _ _, fun w => by simp [results, go_sem]⟩) hvw hn
    (R := fun r v4 => r = I j ∧ v4.heap = v.heap ∧ v4.os = v.os ∧ v4.output = v.output) (fun τ => ?_) (fun r v4 w4 hR hvw4 hn4 => ?_)
  · have e2 : (onTape v τ 0).cell? ⟨cb, 0, none⟩ = some (I j) := e1
    show Code.wp Try.prog (Try.f29.body.getD .skip) _ _ _
    unfold Try.f29
    simp only [Option.getD_some]
    go_wp2_with fail
    go_ret
    exact ⟨_, rfl, rfl, rfl, rfl, rfl⟩
  obtain ⟨rfl, h1, h2, h3⟩ := hR
  have hg : Grows v v4 := ⟨by rw [h1]; exact Nat.le_refl _, fun b _ => by rw [h1], h2, h3⟩
  walk_nrm
  refine goesI_into (f := 65) (fn := Try.f65) (args := #[Pt tb 0, I j]) (dt_idle _ _) rfl rfl (by decide) rfl (by simp [Act.eval]) Try.func65 (by decide) rfl ?_
  exact hk v4 w4 _ _ _ _ _ _ _ hvw4 hn4 (HM.out.grows hg) rfl (fun r => rfl) _ rfl

set_option maxHeartbeats 1000000 in
set_option maxRecDepth 100000 in
/-- Woken, it looks again. -/
theorem lock_again {z : Nat → Option Nat} {Ch : Nat → Prop} {Stop : Goroutine → World → Prop} {main : Bool} {w : World} {lb tb : Nat} (n : Int) (u : Nat → Value) (cs : List Frame)
    (hk : ∀ u, GoesI Try.prog main (DT (ScZ z) Ch) Stop (G (kFr lb tb n u) cs) w) :
    GoesI Try.prog main (DT (ScZ z) Ch) Stop (G (kWoke lb tb n u (.bool true)) cs) w := by
  unfold kFr L36 T36 R36 Try.f38 seq2 seq1 blockC loopC at hk
  simp only [Option.getD_some] at hk
  unfold kWoke ops363 L36 T36 R36 Try.f38 seq2 seq1 blockC loopC opsOf
  simp only [Option.getD_some]
  walk_nrm
  iterate 1
    (refine goesI_oper rfl rfl (by decide) (fun d K hK => ?_)
     go_simp
     refine hK _ _ ⟨dt_reads (fun e he => ?_), GoesI.at ?_ d⟩
     · have hm := mem_listed he
       simp [go_sem, *] at hm
       try exact ⟨_, _, hm⟩
     clear hK K)
  refine goesI_regionEnd (dt_idle _ _) ?_
  refine goesI_cond (dt_idle _ _) (t := false) rfl ?_
  simp only [if_true, if_false, Bool.false_eq_true]
  refine goesI_skip (dt_idle _ _) ?_
  refine goesI_inBlock (dt_idle _ _) ?_
  refine goesI_inLoop (dt_idle _ _) ?_
  exact hk (fun m => match m with | 27 => .bool true | 28 => .bool false | m => u m)

noncomputable def no36 : Code := condA (seq2 (blockC (seq2 L36)))
theorem fineNo36 : fineCode Try.prog true LT no36 := fineCode_ask callT extT (by kernel_rfl)
set_option maxHeartbeats 1000000 in
set_option maxRecDepth 100000 in
/-- Stuck, it answers false. -/
theorem lock_no {z : Nat → Option Nat} {Ch : Nat → Prop} {Stop : Goroutine → World → Prop} {main : Bool} {v w : World} {lb tb : Nat} (n : Int) (u : Nat → Value) (cs : List Frame) {bc : Frame} {ac : Act} {ops : Array Oper} {q : Nat} {rest : List Nat} {oc : Oper} {k : List Item} (hoc : ops[q]? = some oc)
    (hvw : Rel z v w) (hn : NoRow Ch v)
    (hk : ∀ v' w', Rel z v' w' → NoRow Ch v' → v'.heap = v.heap → v'.os = v.os → v'.output = v.output → GoesI Try.prog main (DT (ScZ z) Ch) Stop (G (bc.at (ac.put oc.dst (.bool false)) (.inRegion ops rest :: k)) cs) w') :
    GoesI Try.prog main (DT (ScZ z) Ch) Stop (G (kWoke lb tb n u (.bool false)) (bc.at ac (.inRegion ops (q :: rest) :: k) :: cs)) w := by
  unfold kWoke ops363 L36 T36 R36 Try.f38 seq2 seq1 blockC loopC opsOf
  simp only [Option.getD_some]
  walk_nrm
  iterate 1
    (refine goesI_oper rfl rfl (by decide) (fun d K hK => ?_)
     go_simp
     refine hK _ _ ⟨dt_reads (fun e he => ?_), GoesI.at ?_ d⟩
     · have hm := mem_listed he
       simp [go_sem, *] at hm
       try exact ⟨_, _, hm⟩
     clear hK K)
  refine goesI_regionEnd (dt_idle _ _) ?_
  refine goesI_cond (dt_idle _ _) (t := true) rfl ?_
  simp only [if_true, if_false, Bool.false_eq_true]
  refine goesI_outZ (c := no36) (f := 38) (fn := Try.f38) (L := LT) hE fineT hvw hn Try.func38 fineNo36 rfl hoc (R := fun r w' => r = .bool false ∧ w'.heap = v.heap ∧ w'.os = v.os ∧ w'.output = v.output) (fun τ => ?_) (fun r v' w' hR hr' hn' => ?_)
  · show Code.wp Try.prog (condA (seq2 (blockC (seq2 (loopC (blockC (seq1 (seq2 (seq2 (Try.f38.body.getD .skip)))))))))) _ _ _
    unfold Try.f38 condA seq2 seq1 blockC loopC
    simp only [Option.getD_some]
    go_wp2_with fail
    exact ⟨_, results_tmp rfl _ _ _, rfl, rfl, rfl, rfl⟩
  · obtain ⟨rfl, h1, h2, h3⟩ := hR
    exact hk v' w' hr' hn' h1 h2 h3
end Go.Proofs.Ytfjjoohflcchnaa.Gen

namespace Go.Proofs.Ytfjjoohflcchnaa.Gen
open Go Go.Lift Go.Conc Go.RowKit

noncomputable def R37 : Code := seq2 (seq2 (Try.f39.body.getD .skip))
noncomputable def ops371 : Array Oper := opsOf (seq1 (seq2 (Try.f39.body.getD .skip)))
noncomputable def ops372 : Array Oper := opsOf (seq1 R37)

/-- The frame where it has seen who is called. -/
noncomputable def tSeen (lb nb tb : Nat) (u : Nat → Value) (r : Value) : Frame :=
  (base 39).at ((⟨#[Pt lb 0, Pt tb 0, undef, undef, .bool false, u 5, Pt lb 0, Pt lb 0, Pt lb 1, Pt nb 0, Pt tb 0, u 11, u 12, u 13, u 14, u 15, u 16, u 17, u 18, u 19, u 20], []⟩ : Act).put (some 11) r) [.inRegion ops371 [6], .code R37]
/-- The frame where it has tried. -/
noncomputable def tTried (lb tb : Nat) (u : Nat → Value) (r : Value) : Frame :=
  (base 39).at ((⟨#[Pt lb 0, Pt tb 0, undef, undef, .bool false, u 5, u 6, u 7, u 8, u 9, u 10, u 11, u 12, u 13, u 14, u 15, u 16, u 17, u 18, u 19, u 20], []⟩ : Act).put (some 20) r) [.inRegion ops372 [9], .code (seq2 R37)]

set_option maxHeartbeats 1000000 in
set_option maxRecDepth 100000 in
/-- It has been entered: it looks. -/
theorem try_in {z : Nat → Option Nat} {Ch : Nat → Prop} {Stop : Goroutine → World → Prop} {h : Nat} {cont : Addr → Value} {S : TS} {K : List (Nat × Int)} {v w : World} {i j cb lb : Nat} {t : Thr} (x : Int) (cs : List Frame) (Hm : Goroutine → Prop)
    (hH : ∀ g, OpBack (h == 0) i j cb t.tb 1 effLoad (fun r => G (tSeen lb cb t.tb (fun _ => undef) r) cs) g → Hm g) (hlb : v.cell? ⟨lb, 1, none⟩ = some (Pt cb 0))
    (hvw : Rel z v w) (hn : NoRow Ch v) (hm : Mem z S K v) (ht : S.thr[i]? = some t) (hK : K[j]? = some (cb, x)) (hz : z t.tb = some 2) (hcont : cont ⟨t.tb, 2, none⟩ = .chan (some t.gc))
    (hstop : ∀ g w', GiveT z cont h S.bk t.gc Hm (Then z Ch S K v (waiting S i t 1 1 j) K) g w' → Stop g w') (code : Code) (hc : Try.f39.body = some code) :
    GoesI Try.prog (h == 0) (DT (ScZ z) Ch) Stop (G ((base 39).at { tmps := #[Pt lb 0, Pt t.tb 0] ++ Array.replicate 19 undef, defers := [] } [.code code]) cs) w := by
  have e0 : w.cell? ⟨lb, 1, none⟩ = some (Pt cb 0) := by rw [hvw.cell?]; exact hlb
  have HM : Hid (Mem z S K v) := ⟨hm⟩
  clear hm
  obtain rfl := Option.some.inj hc
  clear hc
  simp only [Array.replicate_succ, Array.replicate_zero, List.push_toArray, List.append_toArray, List.nil_append, List.cons_append]
  refine goesI_seq (dt_idle _ _) ?_
  refine goesI_region (dt_idle _ _) ?_
  simp only [List.size_toArray, List.length_cons, List.length_nil, Nat.reduceAdd, Nat.zero_add, List.range, List.range.loop]
  iterate 1
    (refine goesI_oper rfl rfl (by decide) (fun d K hK => ?_)
     go_simp
     refine hK _ _ ⟨dt_reads (fun e he => ?_), GoesI.at ?_ d⟩
     · have hm := mem_listed he
       simp [go_sem, *] at hm
       try exact ⟨_, _, hm⟩
     clear hK K)
  refine goesI_regionEnd (dt_idle _ _) ?_
  refine goesI_seq (dt_idle _ _) ?_
  refine goesI_region (dt_idle _ _) ?_
  simp only [List.size_toArray, List.length_cons, List.length_nil, Nat.reduceAdd, Nat.zero_add, List.range, List.range.loop]
  iterate 5
    (refine goesI_oper rfl rfl (by decide) (fun d K hK => ?_)
     go_simp
     refine hK _ _ ⟨dt_reads (fun e he => ?_), GoesI.at ?_ d⟩
     · have hm := mem_listed he
       simp [go_sem, *] at hm
       try exact ⟨_, _, hm⟩
     clear hK K)
  refine goesI_into (f := 28) (fn := Try.f28) (args := #[Pt cb 0, Pt t.tb 0]) (dt_idle _ _) rfl rfl (by decide) rfl (by simp [Act.eval]) Try.func28 (by decide) rfl ?_
  exact load_goes x _ Hm rfl (fun g hg => hH g hg) hvw hn HM.out ht hK hz hcont hstop _ rfl

/-- What it holds where it tries. -/
def tVal (lb nb cb tb : Nat) (a : Int) (u : Nat → Value) : Nat → Value
  | 5 => I a
  | 6 => Pt lb 0
  | 7 => Pt lb 0
  | 8 => Pt lb 1
  | 9 => Pt nb 0
  | 10 => Pt tb 0
  | 11 => I a
  | 12 => Pt lb 0
  | 13 => Pt lb 0
  | 14 => Pt lb 0
  | 15 => Pt cb 0
  | 16 => Pt tb 0
  | 17 => I a
  | 18 => I a
  | 19 => I (wrap64 (a + 1))
  | k => u k

set_option maxHeartbeats 1000000 in
set_option maxRecDepth 100000 in
/-- The ticket a is called: it tries to draw it. -/
theorem try_draw {z : Nat → Option Nat} {Ch : Nat → Prop} {Stop : Goroutine → World → Prop} {h : Nat} {cont : Addr → Value} {S : TS} {K : List (Nat × Int)} {v w : World} {i j cb nb lb : Nat} {t : Thr} (a x : Int) (u : Nat → Value) (cs : List Frame) (Hm : Goroutine → Prop)
    (hH : ∀ g, OpBack (h == 0) i j cb t.tb 4 (effCas a (wrap64 (a + 1))) (fun r => G (tTried lb t.tb (tVal lb nb cb t.tb a u) r) cs) g → Hm g) (hlb : v.cell? ⟨lb, 0, none⟩ = some (Pt cb 0))
    (hvw : Rel z v w) (hn : NoRow Ch v) (hm : Mem z S K v) (ht : S.thr[i]? = some t) (hK : K[j]? = some (cb, x)) (hz : z t.tb = some 2) (hcont : cont ⟨t.tb, 2, none⟩ = .chan (some t.gc))
    (hstop : ∀ g w', GiveT z cont h S.bk t.gc Hm (Then z Ch S K v (waiting S i t 1 4 j) K) g w' → Stop g w') :
    GoesI Try.prog (h == 0) (DT (ScZ z) Ch) Stop (G (tSeen lb nb t.tb u (I a)) cs) w := by
  have e0 : w.cell? ⟨lb, 0, none⟩ = some (Pt cb 0) := by rw [hvw.cell?]; exact hlb
  have HM : Hid (Mem z S K v) := ⟨hm⟩
  clear hm
  unfold tSeen ops371 R37 Try.f39 seq2 seq1 opsOf
  simp only [Option.getD_some]
  walk_nrm
  iterate 1
    (refine goesI_oper rfl rfl (by decide) (fun d K hK => ?_)
     go_simp
     refine hK _ _ ⟨dt_reads (fun e he => ?_), GoesI.at ?_ d⟩
     · have hm := mem_listed he
       simp [go_sem, *] at hm
       try exact ⟨_, _, hm⟩
     clear hK K)
  refine goesI_regionEnd (dt_idle _ _) ?_
  refine goesI_seq (dt_idle _ _) ?_
  refine goesI_region (dt_idle _ _) ?_
  simp only [List.size_toArray, List.length_cons, List.length_nil, Nat.reduceAdd, Nat.zero_add, List.range, List.range.loop]
  iterate 8
    (refine goesI_oper rfl rfl (by decide) (fun d K hK => ?_)
     go_simp
     refine hK _ _ ⟨dt_reads (fun e he => ?_), GoesI.at ?_ d⟩
     · have hm := mem_listed he
       simp [go_sem, *] at hm
       try exact ⟨_, _, hm⟩
     clear hK K)
  rw [show IntKind.wrap .i64 (a + 1) = wrap64 (a + 1) from Go.IntWalk.i64_left _]
  refine goesI_into (f := 25) (fn := Try.f25) (args := #[Pt cb 0, Pt t.tb 0, I a, I (wrap64 (a + 1))]) (dt_idle _ _) rfl rfl (by decide) rfl (by simp [Act.eval]) Try.func25 (by decide) rfl ?_
  exact cas_goes a (wrap64 (a + 1)) x _ Hm rfl (fun g hg => hH g hg) hvw hn HM.out ht hK hz hcont hstop _ rfl

set_option maxHeartbeats 1000000 in
set_option maxRecDepth 100000 in
/-- It did, or not. -/
theorem try_done {z : Nat → Option Nat} {Ch : Nat → Prop} {Stop : Goroutine → World → Prop} {main : Bool} {v w : World} {lb tb : Nat} (b : Bool) (u : Nat → Value) (cs : List Frame) {bc : Frame} {ac : Act} {ops : Array Oper} {q : Nat} {rest : List Nat} {oc : Oper} {k : List Item} (hoc : ops[q]? = some oc)
    (hvw : Rel z v w) (hn : NoRow Ch v)
    (hk : ∀ w', Rel z v w' → GoesI Try.prog main (DT (ScZ z) Ch) Stop (G (bc.at (ac.put oc.dst (.bool b)) (.inRegion ops rest :: k)) cs) w') :
    GoesI Try.prog main (DT (ScZ z) Ch) Stop (G (tTried lb tb u (.bool b)) (bc.at ac (.inRegion ops (q :: rest) :: k) :: cs)) w := by
  unfold tTried ops372 R37 Try.f39 seq2 seq1 opsOf
  simp only [Option.getD_some]
  walk_nrm
  iterate 1
    (refine goesI_oper rfl rfl (by decide) (fun d K hK => ?_)
     go_simp
     refine hK _ _ ⟨dt_reads (fun e he => ?_), GoesI.at ?_ d⟩
     · have hm := mem_listed he
       simp [go_sem, *] at hm
       try exact ⟨_, _, hm⟩
     clear hK K)
  refine goesI_regionEnd (dt_idle _ _) ?_
  refine GoesI.ctl rfl (fun _ => stepG_ret') (dt_idle _ _) ?_
  exact goesI_leaveZ (f := 39) (fn := Try.f39) (x := .bool b) hvw hn Try.func39 rfl hoc (by simp [results, go_sem, Try.f39]) (fun w' r' => hk w' r')
end Go.Proofs.Ytfjjoohflcchnaa.Gen

namespace Go.Proofs.Ytfjjoohflcchnaa
open Go Go.Lift Go.Conc Go.RowKit

def effStore (y x : Int) : (Int × Int) × Int × Value := ((x, y), y, .tuple #[])
noncomputable def rest12 : Code := seq2 (Try.f23.body.getD .skip)
theorem fine12 : fineCode Try.prog true LT rest12 := fineCode_ask callT extT (by kernel_rfl)

set_option maxHeartbeats 1000000 in
set_option maxRecDepth 100000 in
theorem tail12 {z : Nat → Option Nat} {S : TS} {K : List (Nat × Int)} {v : World} {i j cb : Nat} {t : Thr} {x : Int} {y : Int} (hm : Mem z S K v) (ht : S.thr[i]? = some t) (hK : K[j]? = some (cb, x)) (hn : (S.n + 1) * 40 ≤ 140737488355328) (a7 a8 a9 a10 a11 a12 : Value) :
    rest12.wp Try.prog (bodyPost Try.prog Try.f23 (fun e w' => ∃ r, e = .returned r ∧ (r = (effStore y x).2.2 ∧ ∃ tv, Evo z S K v (didS S tv i t (effStore y x).1.1 (effStore y x).1.2) (K.set j (cb, (effStore y x).2.1)) w')))
      { tmps := #[Pt cb 0, Pt t.tb 0, I y, undef, undef, undef, undef, a7, a8, a9, a10, a11, a12, undef, undef, undef, undef, undef, undef, undef, undef, undef], defers := [] } v := by
  obtain ⟨_, c1, f1⟩ := hm.cells hK
  have HM : Hid (Mem z S K v) := ⟨hm⟩
  have HW : Hid (Evo z S K v S (K.set j (cb, y)) (v.setCell ⟨cb, 1, none⟩ (I y))) := ⟨Evo.write hm hK _⟩
  clear hm hK
  simp only at c1 f1
  show Code.wp Try.prog (seq2 (Try.f23.body.getD .skip)) _ _ _
  unfold Try.f23 seq2
  simp only [Option.getD_some]
  go_wp2_with (first
    | (go_at_call 59; refine ((body25 cb x y _ c1 f1).calls Try.func59 rfl).mono ?_; rintro e w1 ⟨_, rfl, rfl, rfl⟩)
    | (go_at_call 61; refine ((body27 HW.out.mem.rep ht x y hn).calls Try.func61 rfl).mono ?_; rintro e w2 ⟨_, rfl, rfl, tv, hev⟩))
  exact ⟨rfl, _, results_none rfl _ _ _, _, rfl, rfl, tv, HW.out.did hev⟩

theorem res12 (tmps : Array Value) : ∃ v, (∀ w, (results Try.f23 tmps).run Try.prog w = .ok v w) ∧ ∀ w, (results Try.f23 tmps).events Try.prog w #[] = #[] :=
  ⟨_, fun _ => results_none rfl _ _ _, fun _ => by simp [results, go_sem]⟩

set_option maxHeartbeats 1000000 in
set_option maxRecDepth 100000 in
theorem store_goes {z : Nat → Option Nat} {Ch : Nat → Prop} {Stop : Goroutine → World → Prop} {h : Nat} {cont : Addr → Value} {S : TS} {K : List (Nat × Int)} {v w : World} {i j cb : Nat} {t : Thr} (y : Int) (x : Int) (cs : List Frame) (Hm : Goroutine → Prop) {bc : Frame} {ac : Act} {ops : Array Oper} {q : Nat} {rest : List Nat} {oc : Oper} {k : List Item} (hoc : ops[q]? = some oc)
    (hH : ∀ g, OpBack (h == 0) i j cb t.tb 2 (effStore y) (fun r => G (bc.at (ac.put oc.dst r) (.inRegion ops rest :: k)) cs) g → Hm g)
    (hvw : Rel z v w) (hn : NoRow Ch v) (hm : Mem z S K v) (ht : S.thr[i]? = some t) (hK : K[j]? = some (cb, x)) (hz : z t.tb = some 2) (hcont : cont ⟨t.tb, 2, none⟩ = .chan (some t.gc))
    (hstop : ∀ g w', GiveT z cont h S.bk t.gc Hm (Then z Ch S K v (waiting S i t 1 2 j) K) g w' → Stop g w') (code : Code) (hc : Try.f23.body = some code) :
    GoesI Try.prog (h == 0) (DT (ScZ z) Ch) Stop (G ((base 23).at { tmps := #[Pt cb 0, Pt t.tb 0, I y] ++ Array.replicate 19 undef, defers := [] } [.code code]) (bc.at ac (.inRegion ops (q :: rest) :: k) :: cs)) w := by
  obtain rfl := Option.some.inj hc
  clear hc
  have e0 : w.cell? ⟨cb, 0, none⟩ = some (I j) := by rw [hvw.cell?]; exact (hm.cells hK).1
  simp only [Array.replicate_succ, Array.replicate_zero, List.push_toArray, List.append_toArray, List.nil_append, List.cons_append]
  have HM : Hid (Mem z S K v) := ⟨hm⟩
  clear hm
  refine goesI_seq (dt_idle _ _) ?_
  refine goesI_region (dt_idle _ _) ?_
  simp only [List.size_toArray, List.length_cons, List.length_nil, Nat.reduceAdd, Nat.zero_add, List.range, List.range.loop]
  iterate 5
    (refine goesI_oper rfl rfl (by decide) (fun d K hK => ?_)
     go_simp
     refine hK _ _ ⟨dt_reads (fun e he => ?_), GoesI.at ?_ d⟩
     · have hm := mem_listed he
       simp [go_sem, *] at hm
       try exact ⟨_, _, hm⟩
     clear hK K)
  refine goesI_into (f := 60) (fn := Try.f60) (args := #[Pt t.tb 0, I j, I 2]) (dt_idle _ _) rfl rfl (by decide) rfl (by simp [Act.eval]) Try.func60 (by decide) rfl ?_
  refine turn_mem 2 j _ Hm rfl (fun g hg => hH g ?_) hvw hn HM.out ht hz hcont hstop _ rfl
  intro z1 Ch1 St yy w1 v1 S1 K1 t1 x1 r1 n1 m1 h1 htb hop hce hK1 hn1 hk
  refine hg _ St yy w1 (dt_idle _ _) ?_
  refine goesI_regionEnd (dt_idle _ _) ?_
  rw [← htb]
  refine goesI_rest (f := 23) (fn := Try.f23) (c := rest12) hE fineT r1 n1 Try.func23 fine12 rfl hoc res12 (fun τ => ?_) (fun r v' w' hR hr' hn' => ?_) (R := fun r w' => r = (effStore y x1).2.2 ∧ ∃ tv, Evo z1 S1 K1 v1 (didS S1 tv i t1 (effStore y x1).1.1 (effStore y x1).1.2) (K1.set j (cb, (effStore y x1).2.1)) w')
  · refine wp_mono (tail12 (m1.same (v' := onTape v1 τ 0) rfl) h1 hK1 hn1 _ _ _ _ _ _) (bp_mono fun r u hq => ⟨hq.1, hq.2.choose, hq.2.choose_spec.base rfl rfl rfl⟩)
  · obtain ⟨rfl, tv, he⟩ := hR
    exact hk v' w' tv hr' hn' he
end Go.Proofs.Ytfjjoohflcchnaa

namespace Go.Proofs.Ytfjjoohflcchnaa.Gen
open Go Go.Lift Go.Conc Go.RowKit

section
variable {P : Program} {main : Bool} {D : World → World → Array Event → Prop} {Stop : Goroutine → World → Prop} {b : Frame} {a : Act} {todo : List Item} {cs : List Frame} {w : World} {f : FuncId} {fn : Func} {ds : List Deferred}
/-- A function that was put off, with its arguments. -/
def dfun (f : FuncId) (args : Array Value) : Deferred := { target := .fn (.func f) #[], args := args }
theorem goesI_unwind_fun {c : Code} {args : Array Value} (hD : ∀ w, D w w #[]) (hd : a.defers = dfun f args :: ds) (hf : P.funcs[f]? = some fn) (hname : (fn.name == "runtime.NumGoroutine") = false) (hb : fn.body = some c)
    (h : GoesI P main D Stop (G ((baseD f).at { tmps := args ++ Array.replicate (fn.ntmps - args.size) undef, defers := [] } [.code c]) ({ b.at ⟨a.tmps, ds⟩ todo with mode := .returning } :: cs)) w) : GoesI P main D Stop (G { b.at a todo with mode := .returning } cs) w := by
  refine .ctl rfl (fun w => ?_) hD h
  have h1 : ¬ fn.name = "runtime.NumGoroutine" := by simpa using hname
  rw [← enter_atD args hf hb]
  simp [G, stepG, unwind, callDeferred, Frame.at, hd, dfun, invoke, callFunc, hf, h1, hb, GStep.after, seen_none]
/-- It comes back. -/
theorem goesI_leaveD {T : Array Value} {todo' : List Item} (hD : ∀ w, D w w #[]) (hf : P.funcs[f]? = some fn) (hr : fn.results = #[])
    (h : GoesI P main D Stop (G { b.at a todo with mode := .returning } cs) w) : GoesI P main D Stop (G { (baseD f).at ⟨T, []⟩ todo' with mode := .returning } ({ b.at a todo with mode := .returning } :: cs)) w := by
  refine .ctl rfl (fun w => ?_) hD h
  simp [G, stepG, unwind, doReturn, results, Frame.at, baseD, hf, hr, seen, GStep.after]
end

noncomputable def R852 : Code := seq2 (seq2 (Try.f94.body.getD .skip))
noncomputable def R853 : Code := seq2 R852
noncomputable def ops852 : Array Oper := opsOf (seq1 R852)
noncomputable def ops853 : Array Oper := opsOf (seq1 R853)
noncomputable def ops38 : Array Oper := opsOf (Try.f40.body.getD .skip)

/-- The frame where it has seen what is guarded. -/
noncomputable def aSeen (lb gb tb : Nat) (n : Int) (u : Nat → Value) (r : Value) : Frame :=
  (base 94).at ((⟨#[Pt lb 0, Pt tb 0, Pt gb 0, I n, undef, undef, undef, undef, I 0, u 9, u 10, u 11, u 12, u 13, u 14, u 15, u 16, u 17, u 18, u 19, u 20, u 21], [dfun 40 #[Pt lb 0, Pt tb 0]]⟩ : Act).put (some 14) r) [.inRegion ops852 [3], .code R853]
/-- The frame where it has written. -/
noncomputable def aPut (lb gb tb : Nat) (n x : Int) (u : Nat → Value) (r : Value) : Frame :=
  (base 94).at ((⟨#[Pt lb 0, Pt tb 0, Pt gb 0, I n, undef, undef, undef, undef, I 0, I x, u 10, u 11, u 12, u 13, u 14, u 15, u 16, u 17, u 18, u 19, u 20, u 21], [dfun 40 #[Pt lb 0, Pt tb 0]]⟩ : Act).put (some 20) r) [.inRegion ops853 [], .code (seq2 R853)]
/-- The frames where Unlock has called the next ticket. -/
noncomputable def aFree (lb nb tb : Nat) (r : Value) : Frame :=
  (baseD 40).at ((⟨#[Pt lb 0, Pt tb 0, undef, undef, Pt lb 0, Pt lb 0, Pt lb 1, Pt nb 0, Pt tb 0, undef], []⟩ : Act).put (some 9) r) [.inRegion ops38 []]
noncomputable def aEnd (lb gb tb : Nat) (n x : Int) (u : Nat → Value) : Frame :=
  { (base 94).at ⟨#[Pt lb 0, Pt tb 0, Pt gb 0, I n, undef, undef, undef, undef, I x, I x, u 10, u 11, u 12, u 13, u 14, u 15, u 16, u 17, u 18, u 19, u 20, u 21], []⟩ [.code .ret] with mode := .returning }

set_option maxHeartbeats 1000000 in
set_option maxRecDepth 100000 in
/-- It has been entered. -/
theorem addTo_in {z : Nat → Option Nat} {Ch : Nat → Prop} {Stop : Goroutine → World → Prop} {h : Nat} {cont : Addr → Value} {S : TS} {K : List (Nat × Int)} {v w : World} {i j cb lb : Nat} {t : Thr} (n x : Int) (cs : List Frame) (Hm : Goroutine → Prop)
    (hH : ∀ g u, OpBack (h == 0) i j cb t.tb 1 effLoad (fun r => G (aSeen lb cb t.tb n u r) cs) g → Hm g)
    (hvw : Rel z v w) (hn : NoRow Ch v) (hm : Mem z S K v) (ht : S.thr[i]? = some t) (hK : K[j]? = some (cb, x)) (hz : z t.tb = some 2) (hcont : cont ⟨t.tb, 2, none⟩ = .chan (some t.gc))
    (hstop : ∀ g w', GiveT z cont h S.bk t.gc Hm (Then z Ch S K v (waiting S i t 1 1 j) K) g w' → Stop g w') (code : Code) (hc : Try.f94.body = some code) :
    GoesI Try.prog (h == 0) (DT (ScZ z) Ch) Stop (G ((base 94).at { tmps := #[Pt lb 0, Pt t.tb 0, Pt cb 0, I n] ++ Array.replicate 18 undef, defers := [] } [.code code]) cs) w := by
  have HM : Hid (Mem z S K v) := ⟨hm⟩
  clear hm
  obtain rfl := Option.some.inj hc
  clear hc
  simp only [Array.replicate_succ, Array.replicate_zero, List.push_toArray, List.append_toArray, List.nil_append, List.cons_append]
  refine goesI_seq (dt_idle _ _) ?_
  refine goesI_region (dt_idle _ _) ?_
  simp only [List.size_toArray, List.length_cons, List.length_nil, Nat.reduceAdd, Nat.zero_add, List.range, List.range.loop]
  iterate 1
    (refine goesI_oper rfl rfl (by decide) (fun d K hK => ?_)
     go_simp
     refine hK _ _ ⟨dt_reads (fun e he => ?_), GoesI.at ?_ d⟩
     · have hm := mem_listed he
       simp [go_sem, *] at hm
       try exact ⟨_, _, hm⟩
     clear hK K)
  refine goesI_regionEnd (dt_idle _ _) ?_
  refine goesI_seq (dt_idle _ _) ?_
  refine goesI_region (dt_idle _ _) ?_
  simp only [List.size_toArray, List.length_cons, List.length_nil, Nat.reduceAdd, Nat.zero_add, List.range, List.range.loop]
  iterate 2
    (refine goesI_oper rfl rfl (by decide) (fun d K hK => ?_)
     go_simp
     refine hK _ _ ⟨dt_reads (fun e he => ?_), GoesI.at ?_ d⟩
     · have hm := mem_listed he
       simp [go_sem, *] at hm
       try exact ⟨_, _, hm⟩
     clear hK K)
  refine goesI_deferV (d := dfun 40 #[Pt lb 0, Pt t.tb 0]) (dt_idle _ _) rfl rfl (by decide) (fun w => by simp [go_sem, execOp, Act.eval, dfun]) (fun w => by simp [go_sem, execOp, Act.eval]) ?_
  walk_nrm
  refine goesI_regionEnd (dt_idle _ _) ?_
  refine goesI_seq (dt_idle _ _) ?_
  refine goesI_region (dt_idle _ _) ?_
  simp only [List.size_toArray, List.length_cons, List.length_nil, Nat.reduceAdd, Nat.zero_add, List.range, List.range.loop]
  iterate 2
    (refine goesI_oper rfl rfl (by decide) (fun d K hK => ?_)
     go_simp
     refine hK _ _ ⟨dt_reads (fun e he => ?_), GoesI.at ?_ d⟩
     · have hm := mem_listed he
       simp [go_sem, *] at hm
       try exact ⟨_, _, hm⟩
     clear hK K)
  refine goesI_into (f := 28) (fn := Try.f28) (args := #[Pt cb 0, Pt t.tb 0]) (dt_idle _ _) rfl rfl (by decide) rfl (by simp [Act.eval]) Try.func28 (by decide) rfl ?_
  exact load_goes x _ Hm rfl (fun g hg => hH g (fun m => match m with | 10 => Pt lb 0 | 11 => Pt t.tb 0 | 12 => Pt cb 0 | 13 => Pt t.tb 0 | _ => undef) hg) hvw hn HM.out ht hK hz hcont hstop _ rfl
end Go.Proofs.Ytfjjoohflcchnaa.Gen
