/- GateGoes: for every schedule and all rows of numbers, the Play of scripts in which each Enter has a Leave of its own behind it, ahead of the next Shut, leaves nobody stuck and nobody in; no conditions. Part 27 of 37. (Joined, by program, of: GatB, GatS, LatD, LatC, LatP.) -/
import Derived.Test.YtfjjoohflcchnaaGateGoes08
import Derived.Test.YtfjjoohflcchnaaGateGoes26
set_option linter.unusedSimpArgs false
set_option linter.unusedVariables false
namespace Go.Proofs.Ytfjjoohflcchnaa.Gen
open Go Go.Lift Go.Conc Go.RowKit

noncomputable def L90 : Code := loopC (blockC (seq2 (Try.f99.body.getD .skip)))
noncomputable def B90 : Code := blockC L90
noncomputable def ops901 : Array Oper := opsOf (seq1 B90)
noncomputable def ops904 : Array Oper := opsOf (seq1 (seq2 (seq2 B90)))

/-- The frame where it looks. -/
noncomputable def bFr (lb tb : Nat) (u : Nat → Value) : Frame :=
  (base 99).at ⟨#[Pt lb 0, Pt tb 0, undef, undef, .bool false, u 5, u 6, u 7, u 8, u 9, u 10, u 11, u 12, u 13, u 14, u 15, u 16, u 17, u 18, u 19, u 20, u 21, u 22, u 23], []⟩ [.code L90, .inLoop L90, .inBlock 0]
/-- The frame where it has seen what stands there. -/
noncomputable def bSeen (lb cb tb : Nat) (u : Nat → Value) (r : Value) : Frame :=
  (base 99).at ((⟨#[Pt lb 0, Pt tb 0, undef, undef, .bool false, u 5, Pt lb 0, Pt lb 0, Pt lb 0, Pt cb 0, Pt tb 0, u 11, u 12, u 13, u 14, u 15, u 16, u 17, u 18, u 19, u 20, u 21, u 22, u 23], []⟩ : Act).put (some 11) r) [.inRegion ops901 [6], .code (seq2 B90), .inBlock 1, .inLoop L90, .inBlock 0]
/-- The frame where it has tried. -/
noncomputable def bTried (lb tb : Nat) (u : Nat → Value) (r : Value) : Frame :=
  (base 99).at ((⟨#[Pt lb 0, Pt tb 0, undef, undef, .bool false, u 5, u 6, u 7, u 8, u 9, u 10, u 11, u 12, u 13, u 14, u 15, u 16, u 17, u 18, u 19, u 20, u 21, u 22, u 23], []⟩ : Act).put (some 23) r) [.inRegion ops904 [], .code (seq2 (seq2 (seq2 B90))), .inBlock 1, .inLoop L90, .inBlock 0]

set_option maxHeartbeats 1000000 in
set_option maxRecDepth 100000 in
theorem bar_loop {z : Nat → Option Nat} {Ch : Nat → Prop} {Stop : Goroutine → World → Prop} {h : Nat} {cont : Addr → Value} {S : TS} {K : List (Nat × Int)} {v w : World} {i j cb lb : Nat} {t : Thr} (x : Int) (u : Nat → Value) (cs : List Frame) (Hm : Goroutine → Prop)
    (hH : ∀ g, OpBack (h == 0) i j cb t.tb 1 effLoad (fun r => G (bSeen lb cb t.tb u r) cs) g → Hm g) (hlb : v.cell? ⟨lb, 0, none⟩ = some (Pt cb 0))
    (hvw : Rel z v w) (hn : NoRow Ch v) (hm : Mem z S K v) (ht : S.thr[i]? = some t) (hK : K[j]? = some (cb, x)) (hz : z t.tb = some 2) (hcont : cont ⟨t.tb, 2, none⟩ = .chan (some t.gc))
    (hstop : ∀ g w', GiveT z cont h S.bk t.gc Hm (Then z Ch S K v (waiting S i t 1 1 j) K) g w' → Stop g w') :
    GoesI Try.prog (h == 0) (DT (ScZ z) Ch) Stop (G (bFr lb t.tb u) cs) w := by
  have e0 : w.cell? ⟨lb, 0, none⟩ = some (Pt cb 0) := by rw [hvw.cell?]; exact hlb
  have HM : Hid (Mem z S K v) := ⟨hm⟩
  clear hm
  unfold bFr L90 Try.f99 seq2 blockC loopC
  simp only [Option.getD_some]
  refine goesI_block (dt_idle _ _) ?_
  refine goesI_seq (dt_idle _ _) ?_
  refine goesI_region (dt_idle _ _) ?_
  simp only [List.size_toArray, List.length_cons, List.length_nil, Nat.reduceAdd, Nat.zero_add, List.range, List.range.loop]
  iterate 5
    (refine goesI_oper rfl rfl (by decide) (fun d K hK => ?_)
     go_simp
     refine hK _ _ ⟨dt_reads (fun e he => ?_), GoesI.at ?_ d⟩
     · have hm := mem_listed he
       simp [go_sem, *] at hm
       try exact ⟨_, _, hm⟩
     clear hK K)
  refine goesI_into (f := 28) (fn := Try.f28) (args := #[Pt cb 0, Pt t.tb 0]) (dt_idle _ _) rfl rfl (by decide) rfl (by simp [Act.eval]) Try.func28 (by decide) rfl ?_
  exact load_goes x _ Hm rfl (fun g hg => hH g hg) hvw hn HM.out ht hK hz hcont hstop _ rfl

/-- It has been entered. -/
theorem bar_in {z : Nat → Option Nat} {Ch : Nat → Prop} {Stop : Goroutine → World → Prop} {main : Bool} {w : World} {lb tb : Nat} (cs : List Frame)
    (hk : ∀ u, GoesI Try.prog main (DT (ScZ z) Ch) Stop (G (bFr lb tb u) cs) w) (code : Code) (hc : Try.f99.body = some code) :
    GoesI Try.prog main (DT (ScZ z) Ch) Stop (G ((base 99).at { tmps := #[Pt lb 0, Pt tb 0] ++ Array.replicate 22 undef, defers := [] } [.code code]) cs) w := by
  obtain rfl := Option.some.inj hc
  clear hc
  simp only [Array.replicate_succ, Array.replicate_zero, List.push_toArray, List.append_toArray, List.nil_append, List.cons_append]
  refine goesI_seq (dt_idle _ _) ?_
  refine goesI_region (dt_idle _ _) ?_
  simp only [List.size_toArray, List.length_cons, List.length_nil, Nat.reduceAdd, Nat.zero_add, List.range, List.range.loop]
  (refine goesI_oper rfl rfl (by decide) (fun d K hK => ?_)
   go_simp
   refine hK _ _ ⟨dt_reads (fun e he => ?_), GoesI.at ?_ d⟩
   · have hm := mem_listed he
     simp [go_sem, *] at hm
   clear hK K)
  refine goesI_regionEnd (dt_idle _ _) ?_
  refine goesI_block (dt_idle _ _) ?_
  refine goesI_loop (dt_idle _ _) ?_
  exact hk (fun _ => undef)

noncomputable def low90 : Code := condA (seq2 (seq1 (seq2 B90)))
theorem fineLow90 : fineCode Try.prog true LT low90 := fineCode_ask callT extT (by kernel_rfl)
set_option maxHeartbeats 1000000 in
set_option maxRecDepth 100000 in
/-- It stands at nothing: ErrLatchLow. -/
theorem bar_low {z : Nat → Option Nat} {Ch : Nat → Prop} {Stop : Goroutine → World → Prop} {main : Bool} {v w : World} {lb cb tb : Nat} (x : Int) (hx : bits .and .i64 x 1 ≠ 0) (u : Nat → Value) (cs : List Frame) {bc : Frame} {ac : Act} {ops : Array Oper} {q : Nat} {rest : List Nat} {oc : Oper} {k : List Item} (hoc : ops[q]? = some oc)
    (hvw : Rel z v w) (hn : NoRow Ch v)
    (hk : ∀ v' w', Rel z v' w' → NoRow Ch v' → v'.heap = v.heap → v'.os = v.os → v'.output = v.output → GoesI Try.prog main (DT (ScZ z) Ch) Stop (G (bc.at (ac.put oc.dst (.bool false)) (.inRegion ops rest :: k)) cs) w') :
    GoesI Try.prog main (DT (ScZ z) Ch) Stop (G (bSeen lb cb tb u (I x)) (bc.at ac (.inRegion ops (q :: rest) :: k) :: cs)) w := by
  unfold bSeen ops901 B90 L90 Try.f99 seq2 seq1 blockC loopC opsOf
  simp only [Option.getD_some]
  walk_nrm
  (refine goesI_oper rfl rfl (by decide) (fun d K hK => ?_)
   go_simp
   refine hK _ _ ⟨dt_reads (fun e he => ?_), GoesI.at ?_ d⟩
   · have hm := mem_listed he
     simp [go_sem, *] at hm
   clear hK K)
  refine goesI_regionEnd (dt_idle _ _) ?_
  refine goesI_seq (dt_idle _ _) ?_
  refine goesI_seq (dt_idle _ _) ?_
  refine goesI_region (dt_idle _ _) ?_
  simp only [List.size_toArray, List.length_cons, List.length_nil, Nat.reduceAdd, Nat.zero_add, List.range, List.range.loop]
  iterate 3
    (refine goesI_oper rfl rfl (by decide) (fun d K hK => ?_)
     go_simp
     refine hK _ _ ⟨dt_reads (fun e he => ?_), GoesI.at ?_ d⟩
     · have hm := mem_listed he
       simp [go_sem, *] at hm
     clear hK K)
  refine goesI_regionEnd (dt_idle _ _) ?_
  refine goesI_cond (dt_idle _ _) (t := true) (by simp [Act.eval, hx]) ?_
  simp only [if_true, if_false, Bool.false_eq_true]
  refine goesI_outZ (c := low90) (f := 99) (fn := Try.f99) (L := LT) hE fineT hvw hn Try.func99 fineLow90 rfl hoc (R := fun r w' => r = .bool false ∧ w'.heap = v.heap ∧ w'.os = v.os ∧ w'.output = v.output) (fun τ => ?_) (fun r v' w' hR hr' hn' => ?_)
  · show Code.wp Try.prog (condA (seq2 (seq1 (seq2 (blockC (loopC (blockC (seq2 (Try.f99.body.getD .skip))))))))) _ _ _
    unfold Try.f99 condA seq2 seq1 blockC loopC
    simp only [Option.getD_some]
    go_wp2_with fail
    exact ⟨_, results_tmp rfl _ _ _, rfl, rfl, rfl, rfl⟩
  · obtain ⟨rfl, h1, h2, h3⟩ := hR
    exact hk v' w' hr' hn' h1 h2 h3

/-- What it holds where it tries. -/
def bVal (lb cb tb : Nat) (x : Int) (u : Nat → Value) : Nat → Value
  | 5 => I x
  | 6 => Pt lb 0
  | 7 => Pt lb 0
  | 8 => Pt lb 0
  | 9 => Pt cb 0
  | 10 => Pt tb 0
  | 11 => I x
  | 12 => I x
  | 13 => I 0
  | 14 => .bool false
  | 15 => Pt lb 0
  | 16 => Pt lb 0
  | 17 => Pt lb 0
  | 18 => Pt cb 0
  | 19 => Pt tb 0
  | 20 => I x
  | 21 => I x
  | 22 => I (wrap64 (x + 1))
  | k => u k

set_option maxHeartbeats 1000000 in
set_option maxRecDepth 100000 in
/-- Something stands there: it tries to count it down. -/
theorem bar_try {z : Nat → Option Nat} {Ch : Nat → Prop} {Stop : Goroutine → World → Prop} {h : Nat} {cont : Addr → Value} {S : TS} {K : List (Nat × Int)} {v w : World} {i j cb lb : Nat} {t : Thr} (x : Int) (hx : bits .and .i64 x 1 = 0) (y : Int) (u : Nat → Value) (cs : List Frame) (Hm : Goroutine → Prop)
    (hH : ∀ g, OpBack (h == 0) i j cb t.tb 4 (effCas x (wrap64 (x + 1))) (fun r => G (bTried lb t.tb (bVal lb cb t.tb x u) r) cs) g → Hm g) (hlb : v.cell? ⟨lb, 0, none⟩ = some (Pt cb 0))
    (hvw : Rel z v w) (hn : NoRow Ch v) (hm : Mem z S K v) (ht : S.thr[i]? = some t) (hK : K[j]? = some (cb, y)) (hz : z t.tb = some 2) (hcont : cont ⟨t.tb, 2, none⟩ = .chan (some t.gc))
    (hstop : ∀ g w', GiveT z cont h S.bk t.gc Hm (Then z Ch S K v (waiting S i t 1 4 j) K) g w' → Stop g w') :
    GoesI Try.prog (h == 0) (DT (ScZ z) Ch) Stop (G (bSeen lb cb t.tb u (I x)) cs) w := by
  have e0 : w.cell? ⟨lb, 0, none⟩ = some (Pt cb 0) := by rw [hvw.cell?]; exact hlb
  have HM : Hid (Mem z S K v) := ⟨hm⟩
  clear hm
  unfold bSeen ops901 B90 L90 Try.f99 seq2 seq1 blockC loopC opsOf
  simp only [Option.getD_some]
  walk_nrm
  (refine goesI_oper rfl rfl (by decide) (fun d K hK => ?_)
   go_simp
   refine hK _ _ ⟨dt_reads (fun e he => ?_), GoesI.at ?_ d⟩
   · have hm := mem_listed he
     simp [go_sem, *] at hm
   clear hK K)
  refine goesI_regionEnd (dt_idle _ _) ?_
  refine goesI_seq (dt_idle _ _) ?_
  refine goesI_seq (dt_idle _ _) ?_
  refine goesI_region (dt_idle _ _) ?_
  simp only [List.size_toArray, List.length_cons, List.length_nil, Nat.reduceAdd, Nat.zero_add, List.range, List.range.loop]
  iterate 3
    (refine goesI_oper rfl rfl (by decide) (fun d K hK => ?_)
     go_simp
     refine hK _ _ ⟨dt_reads (fun e he => ?_), GoesI.at ?_ d⟩
     · have hm := mem_listed he
       simp [go_sem, *] at hm
     clear hK K)
  refine goesI_regionEnd (dt_idle _ _) ?_
  refine goesI_cond (dt_idle _ _) (t := false) (by simp [Act.eval, hx]) ?_
  simp only [if_true, if_false, Bool.false_eq_true]
  refine goesI_skip (dt_idle _ _) ?_
  refine goesI_seq (dt_idle _ _) ?_
  refine goesI_region (dt_idle _ _) ?_
  simp only [List.size_toArray, List.length_cons, List.length_nil, Nat.reduceAdd, Nat.zero_add, List.range, List.range.loop]
  iterate 8
    (refine goesI_oper rfl rfl (by decide) (fun d K hK => ?_)
     go_simp
     refine hK _ _ ⟨dt_reads (fun e he => ?_), GoesI.at ?_ d⟩
     · have hm := mem_listed he
       simp [go_sem, *] at hm
       try exact ⟨_, _, hm⟩
     clear hK K)
  rw [show IntKind.wrap .i64 (x + 1) = wrap64 (x + 1) from Go.IntWalk.i64_left _]
  refine goesI_into (f := 25) (fn := Try.f25) (args := #[Pt cb 0, Pt t.tb 0, I x, I (wrap64 (x + 1))]) (dt_idle _ _) rfl rfl (by decide) rfl (by simp [Act.eval]) Try.func25 (by decide) rfl ?_
  exact cas_goes x (wrap64 (x + 1)) y _ Hm rfl (fun g hg => hH g hg) hvw hn HM.out ht hK hz hcont hstop _ rfl

noncomputable def won90 : Code := condA (seq2 (seq2 (seq2 B90)))
theorem fineWon90 : fineCode Try.prog true LT won90 := fineCode_ask callT extT (by kernel_rfl)
set_option maxHeartbeats 1000000 in
set_option maxRecDepth 100000 in
/-- It did. -/
theorem bar_won {z : Nat → Option Nat} {Ch : Nat → Prop} {Stop : Goroutine → World → Prop} {main : Bool} {v w : World} {lb tb : Nat} (u : Nat → Value) (cs : List Frame) {bc : Frame} {ac : Act} {ops : Array Oper} {q : Nat} {rest : List Nat} {oc : Oper} {k : List Item} (hoc : ops[q]? = some oc)
    (hvw : Rel z v w) (hn : NoRow Ch v)
    (hk : ∀ v' w', Rel z v' w' → NoRow Ch v' → v'.heap = v.heap → v'.os = v.os → v'.output = v.output → GoesI Try.prog main (DT (ScZ z) Ch) Stop (G (bc.at (ac.put oc.dst (.bool true)) (.inRegion ops rest :: k)) cs) w') :
    GoesI Try.prog main (DT (ScZ z) Ch) Stop (G (bTried lb tb u (.bool true)) (bc.at ac (.inRegion ops (q :: rest) :: k) :: cs)) w := by
  unfold bTried ops904 B90 L90 Try.f99 seq2 seq1 blockC loopC opsOf
  simp only [Option.getD_some]
  walk_nrm
  refine goesI_regionEnd (dt_idle _ _) ?_
  refine goesI_cond (dt_idle _ _) (t := true) rfl ?_
  simp only [if_true, if_false, Bool.false_eq_true]
  refine goesI_outZ (c := won90) (f := 99) (fn := Try.f99) (L := LT) hE fineT hvw hn Try.func99 fineWon90 rfl hoc (R := fun r w' => r = .bool true ∧ w'.heap = v.heap ∧ w'.os = v.os ∧ w'.output = v.output) (fun τ => ?_) (fun r v' w' hR hr' hn' => ?_)
  · show Code.wp Try.prog (condA (seq2 (seq2 (seq2 (blockC (loopC (blockC (seq2 (Try.f99.body.getD .skip))))))))) _ _ _
    unfold Try.f99 condA seq2 blockC loopC
    simp only [Option.getD_some]
    go_wp2_with fail
    exact ⟨_, results_tmp rfl _ _ _, rfl, rfl, rfl, rfl⟩
  · obtain ⟨rfl, h1, h2, h3⟩ := hR
    exact hk v' w' hr' hn' h1 h2 h3

set_option maxHeartbeats 1000000 in
set_option maxRecDepth 100000 in
/-- Another was ahead of it: it looks again. -/
theorem bar_again {z : Nat → Option Nat} {Ch : Nat → Prop} {Stop : Goroutine → World → Prop} {main : Bool} {w : World} {lb tb : Nat} (u : Nat → Value) (cs : List Frame)
    (hk : ∀ u, GoesI Try.prog main (DT (ScZ z) Ch) Stop (G (bFr lb tb u) cs) w) :
    GoesI Try.prog main (DT (ScZ z) Ch) Stop (G (bTried lb tb u (.bool false)) cs) w := by
  unfold bFr L90 Try.f99 seq2 blockC loopC at hk
  simp only [Option.getD_some] at hk
  unfold bTried ops904 B90 L90 Try.f99 seq2 seq1 blockC loopC opsOf
  simp only [Option.getD_some]
  walk_nrm
  refine goesI_regionEnd (dt_idle _ _) ?_
  refine goesI_cond (dt_idle _ _) (t := false) rfl ?_
  simp only [if_true, if_false, Bool.false_eq_true]
  refine goesI_skip (dt_idle _ _) ?_
  refine goesI_inBlock (dt_idle _ _) ?_
  refine goesI_inLoop (dt_idle _ _) ?_
  exact hk (fun m => match m with | 23 => .bool false | m => u m)
end Go.Proofs.Ytfjjoohflcchnaa.Gen

namespace Go.Proofs.Ytfjjoohflcchnaa.Gen
open Go Go.Lift Go.Conc Go.RowKit

noncomputable def R71 : Code := seq2 (seq2 (Try.f76.body.getD .skip))
noncomputable def L71 : Code := loopC (blockC (seq1 R71))
noncomputable def T71 : Code := seq2 R71
noncomputable def ops711 : Array Oper := opsOf (seq1 (seq2 (Try.f76.body.getD .skip)))
noncomputable def ops712 : Array Oper := opsOf (seq1 (seq1 L71))
noncomputable def ops713 : Array Oper := opsOf (seq1 (blockC (seq2 L71)))
theorem fineT71 : fineCode Try.prog true LT T71 := fineCode_ask callT extT (by kernel_rfl)
/-- The frame where bar has answered. -/
noncomputable def sBar (lb tb : Nat) (u : Nat → Value) (r : Value) : Frame :=
  (base 76).at ((⟨#[Pt lb 0, Pt tb 0, undef, undef, .bool false, I 0, u 6, Pt lb 0, Pt tb 0, u 9, u 10, u 11, u 12, u 13, u 14, u 15, u 16, u 17, u 18, u 19, u 20, u 21, u 22, u 23, u 24, u 25], []⟩ : Act).put (some 9) r) [.inRegion ops711 [3], .code R71]
/-- The frame where it looks. -/
noncomputable def sFr (fi : Bool) (lb tb : Nat) (u : Nat → Value) : Frame :=
  (base 76).at ⟨#[Pt lb 0, Pt tb 0, undef, undef, .bool false, I 0, .bool fi, u 7, u 8, u 9, u 10, u 11, u 12, u 13, u 14, u 15, u 16, u 17, u 18, u 19, u 20, u 21, u 22, u 23, u 24, u 25], []⟩ [.code L71, .inLoop L71, .inBlock 0, .code T71]
/-- The frame where it has seen what stands there. -/
noncomputable def sSeen (fi : Bool) (lb cb tb : Nat) (u : Nat → Value) (r : Value) : Frame :=
  (base 76).at ((⟨#[Pt lb 0, Pt tb 0, undef, undef, .bool false, I 0, .bool fi, u 7, u 8, u 9, Pt lb 0, Pt lb 0, Pt lb 0, Pt cb 0, Pt tb 0, u 15, u 16, u 17, u 18, u 19, u 20, u 21, u 22, u 23, u 24, u 25], []⟩ : Act).put (some 15) r) [.inRegion ops712 [6], .code (seq2 (seq1 L71)), .code (seq2 L71), .inLoop L71, .inBlock 0, .code T71]
/-- The frame where it was woken, or is stuck. -/
noncomputable def sWoke (fi : Bool) (lb tb : Nat) (u : Nat → Value) (r : Value) : Frame :=
  (base 76).at ((⟨#[Pt lb 0, Pt tb 0, undef, undef, .bool false, I 0, .bool fi, u 7, u 8, u 9, u 10, u 11, u 12, u 13, u 14, u 15, u 16, u 17, u 18, u 19, u 20, u 21, u 22, u 23, u 24, u 25], []⟩ : Act).put (some 23) r) [.inRegion ops713 [7], .code (seq2 (blockC (seq2 L71))), .inBlock 1, .inLoop L71, .inBlock 0, .code T71]

set_option maxHeartbeats 1000000 in
set_option maxRecDepth 100000 in
/-- It has been entered: it bars. -/
theorem shut_in {z : Nat → Option Nat} {Ch : Nat → Prop} {Stop : Goroutine → World → Prop} {main : Bool} {w : World} {lb tb : Nat} (cs : List Frame)
    (hk : ∀ (bd : Frame) (ad : Act) (od : Array Oper) (qd : Nat) (rd : List Nat) (oe : Oper) (kd : List Item), od[qd]? = some oe → (∀ r, bd.at (ad.put oe.dst r) (.inRegion od rd :: kd) = sBar lb tb (fun _ => undef) r) → ∀ code, Try.f99.body = some code →
      GoesI Try.prog main (DT (ScZ z) Ch) Stop (G ((base 99).at { tmps := #[Pt lb 0, Pt tb 0] ++ Array.replicate 22 undef, defers := [] } [.code code]) (bd.at ad (.inRegion od (qd :: rd) :: kd) :: cs)) w) (code : Code) (hc : Try.f76.body = some code) :
    GoesI Try.prog main (DT (ScZ z) Ch) Stop (G ((base 76).at { tmps := #[Pt lb 0, Pt tb 0] ++ Array.replicate 24 undef, defers := [] } [.code code]) cs) w := by
  obtain rfl := Option.some.inj hc
  clear hc
  simp only [Array.replicate_succ, Array.replicate_zero, List.push_toArray, List.append_toArray, List.nil_append, List.cons_append]
  unfold sBar ops711 R71 Try.f76 seq2 seq1 opsOf at hk
  simp only [Option.getD_some] at hk
  refine goesI_seq (dt_idle _ _) ?_
  refine goesI_region (dt_idle _ _) ?_
  simp only [List.size_toArray, List.length_cons, List.length_nil, Nat.reduceAdd, Nat.zero_add, List.range, List.range.loop]
  iterate 2
    (refine goesI_oper rfl rfl (by decide) (fun d K hK => ?_)
     go_simp
     refine hK _ _ ⟨dt_reads (fun e he => ?_), GoesI.at ?_ d⟩
     · have hm := mem_listed he
       simp [go_sem, *] at hm
       try exact ⟨_, _, hm⟩
     clear hK K)
  refine goesI_regionEnd (dt_idle _ _) ?_
  refine goesI_seq (dt_idle _ _) ?_
  refine goesI_region (dt_idle _ _) ?_
  simp only [List.size_toArray, List.length_cons, List.length_nil, Nat.reduceAdd, Nat.zero_add, List.range, List.range.loop]
  iterate 2
    (refine goesI_oper rfl rfl (by decide) (fun d K hK => ?_)
     go_simp
     refine hK _ _ ⟨dt_reads (fun e he => ?_), GoesI.at ?_ d⟩
     · have hm := mem_listed he
       simp [go_sem, *] at hm
       try exact ⟨_, _, hm⟩
     clear hK K)
  refine goesI_into (f := 99) (fn := Try.f99) (args := #[Pt lb 0, Pt tb 0]) (dt_idle _ _) rfl rfl (by decide) rfl (by simp [Act.eval]) Try.func99 (by decide) rfl ?_
  exact hk _ _ _ _ _ _ _ rfl (fun r => rfl) _ rfl
set_option maxHeartbeats 1000000 in
set_option maxRecDepth 100000 in
/-- Behind bar. -/
theorem shut_bar {z : Nat → Option Nat} {Ch : Nat → Prop} {Stop : Goroutine → World → Prop} {main : Bool} {w : World} {lb tb : Nat} {fi : Bool} (u : Nat → Value) (cs : List Frame)
    (hk : ∀ u, GoesI Try.prog main (DT (ScZ z) Ch) Stop (G (sFr fi lb tb u) cs) w) :
    GoesI Try.prog main (DT (ScZ z) Ch) Stop (G (sBar lb tb u (.bool fi)) cs) w := by
  unfold sFr L71 T71 R71 Try.f76 seq2 seq1 blockC loopC at hk
  simp only [Option.getD_some] at hk
  unfold sBar ops711 R71 Try.f76 seq2 seq1 opsOf
  simp only [Option.getD_some]
  walk_nrm
  iterate 1
    (refine goesI_oper rfl rfl (by decide) (fun d K hK => ?_)
     go_simp
     refine hK _ _ ⟨dt_reads (fun e he => ?_), GoesI.at ?_ d⟩
     · have hm := mem_listed he
       simp [go_sem, *] at hm
       try exact ⟨_, _, hm⟩
     clear hK K)
  refine goesI_regionEnd (dt_idle _ _) ?_
  refine goesI_seq (dt_idle _ _) ?_
  refine goesI_block (dt_idle _ _) ?_
  refine goesI_loop (dt_idle _ _) ?_
  exact hk (fun m => match m with | 7 => Pt lb 0 | 8 => Pt tb 0 | 9 => .bool fi | m => u m)

set_option maxHeartbeats 1000000 in
set_option maxRecDepth 100000 in
theorem shut_loop {z : Nat → Option Nat} {Ch : Nat → Prop} {Stop : Goroutine → World → Prop} {fi : Bool} {h : Nat} {cont : Addr → Value} {S : TS} {K : List (Nat × Int)} {v w : World} {i j cb lb : Nat} {t : Thr} (x : Int) (u : Nat → Value) (cs : List Frame) (Hm : Goroutine → Prop)
    (hH : ∀ g, OpBack (h == 0) i j cb t.tb 1 effLoad (fun r => G (sSeen fi lb cb t.tb u r) cs) g → Hm g) (hlb : v.cell? ⟨lb, 0, none⟩ = some (Pt cb 0))
    (hvw : Rel z v w) (hn : NoRow Ch v) (hm : Mem z S K v) (ht : S.thr[i]? = some t) (hK : K[j]? = some (cb, x)) (hz : z t.tb = some 2) (hcont : cont ⟨t.tb, 2, none⟩ = .chan (some t.gc))
    (hstop : ∀ g w', GiveT z cont h S.bk t.gc Hm (Then z Ch S K v (waiting S i t 1 1 j) K) g w' → Stop g w') :
    GoesI Try.prog (h == 0) (DT (ScZ z) Ch) Stop (G (sFr fi lb t.tb u) cs) w := by
  have e0 : w.cell? ⟨lb, 0, none⟩ = some (Pt cb 0) := by rw [hvw.cell?]; exact hlb
  have HM : Hid (Mem z S K v) := ⟨hm⟩
  clear hm
  unfold sFr L71 T71 R71 Try.f76 seq2 seq1 blockC loopC
  simp only [Option.getD_some]
  refine goesI_seq (dt_idle _ _) ?_
  refine goesI_seq (dt_idle _ _) ?_
  refine goesI_region (dt_idle _ _) ?_
  simp only [List.size_toArray, List.length_cons, List.length_nil, Nat.reduceAdd, Nat.zero_add, List.range, List.range.loop]
  iterate 5
    (refine goesI_oper rfl rfl (by decide) (fun d K hK => ?_)
     go_simp
     refine hK _ _ ⟨dt_reads (fun e he => ?_), GoesI.at ?_ d⟩
     · have hm := mem_listed he
       simp [go_sem, *] at hm
       try exact ⟨_, _, hm⟩
     clear hK K)
  refine goesI_into (f := 28) (fn := Try.f28) (args := #[Pt cb 0, Pt t.tb 0]) (dt_idle _ _) rfl rfl (by decide) rfl (by simp [Act.eval]) Try.func28 (by decide) rfl ?_
  exact load_goes x _ Hm rfl (fun g hg => hH g hg) hvw hn HM.out ht hK hz hcont hstop _ rfl

set_option maxHeartbeats 1000000 in
set_option maxRecDepth 100000 in
/-- It stands at nothing: it answers true. -/
theorem shut_done {z : Nat → Option Nat} {Ch : Nat → Prop} {Stop : Goroutine → World → Prop} {fi : Bool} {main : Bool} {v w : World} {lb cb tb : Nat} (u : Nat → Value) (cs : List Frame) {bc : Frame} {ac : Act} {ops : Array Oper} {q : Nat} {rest : List Nat} {oc : Oper} {k : List Item} (hoc : ops[q]? = some oc)
    (hvw : Rel z v w) (hn : NoRow Ch v)
    (hk : ∀ v' w', Rel z v' w' → NoRow Ch v' → v'.heap = v.heap → v'.os = v.os → v'.output = v.output → GoesI Try.prog main (DT (ScZ z) Ch) Stop (G (bc.at (ac.put oc.dst (.tuple #[.bool fi, I 0])) (.inRegion ops rest :: k)) cs) w') :
    GoesI Try.prog main (DT (ScZ z) Ch) Stop (G (sSeen fi lb cb tb u (I 1)) (bc.at ac (.inRegion ops (q :: rest) :: k) :: cs)) w := by
  unfold sSeen ops712 L71 T71 R71 Try.f76 seq2 seq1 blockC loopC opsOf
  simp only [Option.getD_some]
  walk_nrm
  (refine goesI_oper rfl rfl (by decide) (fun d K hK => ?_)
   go_simp
   refine hK _ _ ⟨dt_reads (fun e he => ?_), GoesI.at ?_ d⟩
   · have hm := mem_listed he
     simp [go_sem, *] at hm
   clear hK K)
  refine goesI_regionEnd (dt_idle _ _) ?_
  refine goesI_cond (dt_idle _ _) (t := false) (by simp [Act.eval]) ?_
  simp only [if_true, if_false, Bool.false_eq_true]
  refine goesI_exit (dt_idle _ _) rfl ?_
  refine goesI_outZ (f := 76) (fn := Try.f76) (c := T71) (L := LT) hE fineT hvw hn Try.func76 fineT71 rfl hoc (R := fun r w' => r = .tuple #[.bool fi, I 0] ∧ w'.heap = v.heap ∧ w'.os = v.os ∧ w'.output = v.output) (fun τ => ?_) (fun r v' w' hR hr' hn' => ?_)
  · show Code.wp Try.prog (seq2 (seq2 (seq2 (Try.f76.body.getD .skip)))) _ _ _
    unfold Try.f76 seq2
    simp only [Option.getD_some]
    go_wp2_with fail
    exact ⟨_, results_tmp2 rfl _ _ _, rfl, rfl, rfl, rfl⟩
  · obtain ⟨rfl, h1, h2, h3⟩ := hR
    exact hk v' w' hr' hn' h1 h2 h3

/-- What it holds there. -/
def sVal (lb cb tb : Nat) (x : Int) (j : Nat) (u : Nat → Value) : Nat → Value
  | 10 => Pt lb 0
  | 11 => Pt lb 0
  | 12 => Pt lb 0
  | 13 => Pt cb 0
  | 14 => Pt tb 0
  | 15 => I x
  | 16 => .bool (x != 1)
  | 17 => Pt tb 0
  | 18 => Pt lb 0
  | 19 => Pt lb 0
  | 20 => Pt lb 0
  | 21 => Pt cb 0
  | 22 => I j
  | k => u k

set_option maxHeartbeats 1000000 in
set_option maxRecDepth 100000 in
/-- Something stands there: it comes to its Await. -/
theorem shut_more {z : Nat → Option Nat} {Ch : Nat → Prop} {Stop : Goroutine → World → Prop} {fi : Bool} {main : Bool} {S : TS} {K : List (Nat × Int)} {v w : World} {j cb lb tb : Nat} (x : Int) (hx : x ≠ 1) (y : Int) (u : Nat → Value) (cs : List Frame) (hlb : v.cell? ⟨lb, 0, none⟩ = some (Pt cb 0))
    (hvw : Rel z v w) (hn : NoRow Ch v) (hm : Mem z S K v) (hK : K[j]? = some (cb, y))
    (hk : ∀ v' w' (bd : Frame) (ad : Act) (od : Array Oper) (qd : Nat) (rd : List Nat) (oe : Oper) (kd : List Item), Rel z v' w' → NoRow Ch v' → Evo z S K v S K v' → od[qd]? = some oe → (∀ r, bd.at (ad.put oe.dst r) (.inRegion od rd :: kd) = sWoke fi lb tb (sVal lb cb tb x j u) r) → ∀ code, Try.f65.body = some code →
      GoesI Try.prog main (DT (ScZ z) Ch) Stop (G ((base 65).at { tmps := #[Pt tb 0, I j] ++ Array.replicate (Try.f65.ntmps - 2) undef, defers := [] } [.code code]) (bd.at ad (.inRegion od (qd :: rd) :: kd) :: cs)) w') :
    GoesI Try.prog main (DT (ScZ z) Ch) Stop (G (sSeen fi lb cb tb u (I x)) cs) w := by
  have e0 : w.cell? ⟨lb, 0, none⟩ = some (Pt cb 0) := by rw [hvw.cell?]; exact hlb
  have e1 : v.cell? ⟨cb, 0, none⟩ = some (I j) := (hm.cells hK).1
  have HM : Hid (Mem z S K v) := ⟨hm⟩
  clear hm
  unfold sWoke ops713 L71 T71 R71 Try.f76 seq2 seq1 blockC loopC opsOf sVal at hk
  simp only [Option.getD_some] at hk
  unfold sSeen ops712 L71 T71 R71 Try.f76 seq2 seq1 blockC loopC opsOf
  simp only [Option.getD_some]
  walk_nrm
  (refine goesI_oper rfl rfl (by decide) (fun d K hK => ?_)
   go_simp
   refine hK _ _ ⟨dt_reads (fun e he => ?_), GoesI.at ?_ d⟩
   · have hm := mem_listed he
     simp [go_sem, *] at hm
   clear hK K)
  refine goesI_regionEnd (dt_idle _ _) ?_
  refine goesI_cond (dt_idle _ _) (t := true) (by simp [Act.eval, hx]) ?_
  simp only [if_true, if_false, Bool.false_eq_true]
  refine goesI_skip (dt_idle _ _) ?_
  refine goesI_block (dt_idle _ _) ?_
  refine goesI_seq (dt_idle _ _) ?_
  refine goesI_region (dt_idle _ _) ?_
  simp only [List.size_toArray, List.length_cons, List.length_nil, Nat.reduceAdd, Nat.zero_add, List.range, List.range.loop]
  iterate 5
    (refine goesI_oper rfl rfl (by decide) (fun d K hK => ?_)
     go_simp
     refine hK _ _ ⟨dt_reads (fun e he => ?_), GoesI.at ?_ d⟩
     · have hm := mem_listed he
       simp [go_sem, *] at hm
       try exact ⟨_, _, hm⟩
     clear hK K)
  refine goesI_call (f := 29) (fn := Try.f29) (args := #[Pt cb 0]) hE fineG rfl rfl (by decide) rfl (by simp [Act.eval]) Try.func29 (by kernel_rfl) rfl (fineFn_body fineG (by simp [LG, plainG]) Try.func29 rfl) (fun tmps => ⟨_, fun w => results_tmp rfl _ _ _, fun w => by simp [results, go_sem]⟩) hvw hn
    (R := fun r v4 => r = I j ∧ v4.heap = v.heap ∧ v4.os = v.os ∧ v4.output = v.output) (fun τ => ?_) (fun r v4 w4 hR hvw4 hn4 => ?_)
  · have e2 : (onTape v τ 0).cell? ⟨cb, 0, none⟩ = some (I j) := e1
    show Code.wp Try.prog (Try.f29.body.getD .skip) _ _ _
    unfold Try.f29
    simp only [Option.getD_some]
    go_wp2_with fail
    go_ret
    exact ⟨_, rfl, rfl, rfl, rfl, rfl⟩
  obtain ⟨rfl, h1, h2, h3⟩ := hR
  have hg : Grows v v4 := ⟨by rw [h1]; exact Nat.le_refl _, fun b _ => by rw [h1], h2, h3⟩
  walk_nrm
  refine goesI_into (f := 65) (fn := Try.f65) (args := #[Pt tb 0, I j]) (dt_idle _ _) rfl rfl (by decide) rfl (by simp [Act.eval]) Try.func65 (by decide) rfl ?_
  exact hk v4 w4 _ _ _ _ _ _ _ hvw4 hn4 (HM.out.grows hg) rfl (fun r => rfl) _ rfl

set_option maxHeartbeats 1000000 in
set_option maxRecDepth 100000 in
/-- Woken, it looks again. -/
theorem shut_again {z : Nat → Option Nat} {Ch : Nat → Prop} {Stop : Goroutine → World → Prop} {fi : Bool} {main : Bool} {w : World} {lb tb : Nat} (u : Nat → Value) (cs : List Frame)
    (hk : ∀ u, GoesI Try.prog main (DT (ScZ z) Ch) Stop (G (sFr fi lb tb u) cs) w) :
    GoesI Try.prog main (DT (ScZ z) Ch) Stop (G (sWoke fi lb tb u (.bool true)) cs) w := by
  unfold sFr L71 T71 R71 Try.f76 seq2 seq1 blockC loopC at hk
  simp only [Option.getD_some] at hk
  unfold sWoke ops713 L71 T71 R71 Try.f76 seq2 seq1 blockC loopC opsOf
  simp only [Option.getD_some]
  walk_nrm
  (refine goesI_oper rfl rfl (by decide) (fun d K hK => ?_)
   go_simp
   refine hK _ _ ⟨dt_reads (fun e he => ?_), GoesI.at ?_ d⟩
   · have hm := mem_listed he
     simp [go_sem, *] at hm
   clear hK K)
  refine goesI_regionEnd (dt_idle _ _) ?_
  refine goesI_cond (dt_idle _ _) (t := false) rfl ?_
  simp only [if_true, if_false, Bool.false_eq_true]
  refine goesI_skip (dt_idle _ _) ?_
  refine goesI_inBlock (dt_idle _ _) ?_
  refine goesI_inLoop (dt_idle _ _) ?_
  exact hk (fun m => match m with | 23 => .bool true | 24 => .bool false | m => u m)

noncomputable def no71 : Code := condA (seq2 (blockC (seq2 L71)))
theorem fineNo71 : fineCode Try.prog true LT no71 := fineCode_ask callT extT (by kernel_rfl)
set_option maxHeartbeats 1000000 in
set_option maxRecDepth 100000 in
/-- Stuck, it answers false. -/
theorem shut_no {z : Nat → Option Nat} {Ch : Nat → Prop} {Stop : Goroutine → World → Prop} {fi : Bool} {main : Bool} {v w : World} {lb tb : Nat} (u : Nat → Value) (cs : List Frame) {bc : Frame} {ac : Act} {ops : Array Oper} {q : Nat} {rest : List Nat} {oc : Oper} {k : List Item} (hoc : ops[q]? = some oc)
    (hvw : Rel z v w) (hn : NoRow Ch v)
    (hk : ∀ v' w', Rel z v' w' → NoRow Ch v' → v'.heap = v.heap → v'.os = v.os → v'.output = v.output → GoesI Try.prog main (DT (ScZ z) Ch) Stop (G (bc.at (ac.put oc.dst (.tuple #[.bool false, I 4])) (.inRegion ops rest :: k)) cs) w') :
    GoesI Try.prog main (DT (ScZ z) Ch) Stop (G (sWoke fi lb tb u (.bool false)) (bc.at ac (.inRegion ops (q :: rest) :: k) :: cs)) w := by
  unfold sWoke ops713 L71 T71 R71 Try.f76 seq2 seq1 blockC loopC opsOf
  simp only [Option.getD_some]
  walk_nrm
  (refine goesI_oper rfl rfl (by decide) (fun d K hK => ?_)
   go_simp
   refine hK _ _ ⟨dt_reads (fun e he => ?_), GoesI.at ?_ d⟩
   · have hm := mem_listed he
     simp [go_sem, *] at hm
   clear hK K)
  refine goesI_regionEnd (dt_idle _ _) ?_
  refine goesI_cond (dt_idle _ _) (t := true) rfl ?_
  simp only [if_true, if_false, Bool.false_eq_true]
  refine goesI_outZ (c := no71) (f := 76) (fn := Try.f76) (L := LT) hE fineT hvw hn Try.func76 fineNo71 rfl hoc (R := fun r w' => r = .tuple #[.bool false, I 4] ∧ w'.heap = v.heap ∧ w'.os = v.os ∧ w'.output = v.output) (fun τ => ?_) (fun r v' w' hR hr' hn' => ?_)
  · show Code.wp Try.prog (condA (seq2 (blockC (seq2 (loopC (blockC (seq1 (seq2 (seq2 (Try.f76.body.getD .skip)))))))))) _ _ _
    unfold Try.f76 condA seq2 seq1 blockC loopC
    simp only [Option.getD_some]
    go_wp2_with fail
    exact ⟨_, results_tmp2 rfl _ _ _, rfl, rfl, rfl, rfl⟩
  · obtain ⟨rfl, h1, h2, h3⟩ := hR
    exact hk v' w' hr' hn' h1 h2 h3
end Go.Proofs.Ytfjjoohflcchnaa.Gen

namespace Go.Proofs.Ytfjjoohflcchnaa.Gen
open Go Go.Lift Go.Conc Go.RowKit

end Go.Proofs.Ytfjjoohflcchnaa.Gen

namespace Go.Proofs.Ytfjjoohflcchnaa.Gen
open Go Go.Lift Go.Conc Go.RowKit

/-- What was called has answered r: the call answers y. -/
def ABack (main : Bool) (cu : Goroutine) (cl : Goroutine) : Prop :=
  ∀ (z : Nat → Option Nat) (Ch : Nat → Prop) (Stop : Goroutine → World → Prop) (w v : World), Rel z v w → NoRow Ch v →
    (∀ v' w', Rel z v' w' → NoRow Ch v' → v'.heap = v.heap → v'.os = v.os → v'.output = v.output → GoesI Try.prog main (DT (ScZ z) Ch) Stop cl w') →
    GoesI Try.prog main (DT (ScZ z) Ch) Stop cu w

end Go.Proofs.Ytfjjoohflcchnaa.Gen

namespace Go.Proofs.Ytfjjoohflcchnaa.Gen
open Go Go.Lift Go.Conc Go.RowKit

end Go.Proofs.Ytfjjoohflcchnaa.Gen
