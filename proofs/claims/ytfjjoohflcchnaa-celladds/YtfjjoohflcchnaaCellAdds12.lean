/- CellAdds returns true, whatever the schedule, the start and the numbers, and leaves what it was given as it was: of the law's statement as given, with no condition of our own. Part 12 of 34. (Joined, by program, of: AwaitNo, Until, Carry, Play5, Carry2, Carry3.) -/
import Derived.Test.YtfjjoohflcchnaaCellAdds10
import Derived.Test.YtfjjoohflcchnaaCellAdds11
set_option linter.unusedSimpArgs false
set_option linter.unusedVariables false
namespace Go.Proofs.Ytfjjoohflcchnaa
open Go Go.Lift Go.Conc Go.RowKit

def condA : Code → Code
  | .cond _ a _ => a
  | c => c
noncomputable def no31 : Code := condA (seq2 (seq1 (seq2 (seq2 (Try.f65.body.getD .skip)))))
theorem fineNo31 : fineCode Try.prog true LT no31 := fineCode_ask callT extT (by kernel_rfl)

set_option maxHeartbeats 1000000 in
set_option maxRecDepth 100000 in
theorem await_no {z : Nat → Option Nat} {Ch : Nat → Prop} {Stop : Goroutine → World → Prop} {main : Bool} {S : TS} {K : List (Nat × Int)} {v w : World} {i : Nat} {t : Thr} (c : Int) (cs : List Frame) {bc : Frame} {ac : Act} {ops : Array Oper} {q : Nat} {rest : List Nat} {oc : Oper} {k : List Item} (hoc : ops[q]? = some oc)
    (hvw : Rel z v w) (hn : NoRow Ch v) (hm : Mem z S K v) (hs : S.stk = true) (ht : S.thr[i]? = some t)
    (hk : ∀ v' w', Rel z v' w' → NoRow Ch v' → Evo z S K v S K v' → GoesI Try.prog main (DT (ScZ z) Ch) Stop (G (bc.at (ac.put oc.dst (.bool false)) (.inRegion ops rest :: k)) cs) w') (code : Code) (hc : Try.f65.body = some code) :
    GoesI Try.prog main (DT (ScZ z) Ch) Stop (G ((base 65).at { tmps := #[Pt t.tb 0, I c] ++ Array.replicate 33 undef, defers := [] } [.code code]) (bc.at ac (.inRegion ops (q :: rest) :: k) :: cs)) w := by
  obtain rfl := Option.some.inj hc
  clear hc
  have e0 : w.cell? ⟨t.tb, 0, none⟩ = some (Pt S.wb 0) := by rw [hvw.cell?]; exact (hm.rep.cell ht).1
  have e6 : w.cell? ⟨S.wb, 6, none⟩ = some (.bool true) := by rw [hvw.cell?, ← hs]; exact hm.rep.wcell.2.2.2.2.2.2.1
  simp only [Array.replicate_succ, Array.replicate_zero, List.push_toArray, List.append_toArray, List.nil_append, List.cons_append]
  have HM : Hid (Mem z S K v) := ⟨hm⟩
  clear hm
  refine goesI_seq (dt_idle _ _) ?_
  refine goesI_region (dt_idle _ _) ?_
  simp only [List.size_toArray, List.length_cons, List.length_nil, Nat.reduceAdd, Nat.zero_add, List.range, List.range.loop]
  (refine goesI_oper rfl rfl (by decide) (fun d K hK => ?_)
   go_simp
   refine hK _ _ ⟨dt_reads (fun e he => ?_), GoesI.at ?_ d⟩
   · have hm := mem_listed he
     simp [go_sem, *] at hm
   clear hK K)
  refine goesI_regionEnd (dt_idle _ _) ?_
  refine goesI_seq (dt_idle _ _) ?_
  refine goesI_seq (dt_idle _ _) ?_
  refine goesI_region (dt_idle _ _) ?_
  simp only [List.size_toArray, List.length_cons, List.length_nil, Nat.reduceAdd, Nat.zero_add, List.range, List.range.loop]
  iterate 4
    (refine goesI_oper rfl rfl (by decide) (fun d K hK => ?_)
     go_simp
     refine hK _ _ ⟨dt_reads (fun e he => ?_), GoesI.at ?_ d⟩
     · have hm := mem_listed he
       simp [go_sem, *] at hm
       try exact ⟨_, _, hm⟩
     clear hK K)
  refine goesI_opZ (L := LT) rfl rfl (by decide) (fineOp_ask callT extT (by kernel_rfl)) hvw hn (x := .bool false) (v' := v) ?_ rfl (fun w1 hvw1 _ => ?_)
  · go_simp
  clear e0 e6 hvw
  have e0 : w1.cell? ⟨t.tb, 0, none⟩ = some (Pt S.wb 0) := by rw [hvw1.cell?]; exact (HM.out.rep.cell ht).1
  have e6 : w1.cell? ⟨S.wb, 6, none⟩ = some (.bool true) := by rw [hvw1.cell?, ← hs]; exact HM.out.rep.wcell.2.2.2.2.2.2.1
  refine goesI_regionEnd (dt_idle _ _) ?_
  refine goesI_cond (dt_idle _ _) (t := false) rfl ?_
  simp only [if_true, if_false, Bool.false_eq_true]
  refine goesI_skip (dt_idle _ _) ?_
  refine goesI_seq (dt_idle _ _) ?_
  refine goesI_seq (dt_idle _ _) ?_
  refine goesI_region (dt_idle _ _) ?_
  simp only [List.size_toArray, List.length_cons, List.length_nil, Nat.reduceAdd, Nat.zero_add, List.range, List.range.loop]
  iterate 7
    (refine goesI_oper rfl rfl (by decide) (fun d K hK => ?_)
     go_simp
     refine hK _ _ ⟨dt_reads (fun e he => ?_), GoesI.at ?_ d⟩
     · have hm := mem_listed he
       simp [go_sem, *] at hm
       try exact ⟨_, _, hm⟩
     clear hK K)
  refine goesI_regionEnd (dt_idle _ _) ?_
  refine goesI_cond (dt_idle _ _) (t := true) rfl ?_
  simp only [if_true, if_false, Bool.false_eq_true]
  refine goesI_outZ (c := no31) (f := 65) (fn := Try.f65) (L := LT) hE fineT hvw1 hn Try.func65 fineNo31 rfl hoc (R := fun r w' => r = .bool false ∧ Evo z S K v S K w') (fun τ => ?_) (fun r v' w' hR hr' hn' => ?_)
  · have HV : Hid (Evo z S K v S K (onTape v τ 0)) := ⟨(Evo.refl HM.out).same rfl rfl rfl⟩
    show Code.wp Try.prog (condA (seq2 (seq1 (seq2 (seq2 (Try.f65.body.getD .skip)))))) _ _ _
    unfold Try.f65 condA seq2 seq1
    simp only [Option.getD_some]
    go_wp2_with fail
    exact ⟨_, results_tmp rfl _ _ _, rfl, HV.out⟩
  · obtain ⟨rfl, he⟩ := hR
    exact hk v' w' hr' hn' he
end Go.Proofs.Ytfjjoohflcchnaa

namespace Go.Proofs.Ytfjjoohflcchnaa
open Go Go.Lift Go.Conc Go.RowKit

def blockC : Code → Code
  | .block _ c => c
  | c => c
def loopC : Code → Code
  | .loop c => c
  | c => c
noncomputable def L16 : Code := loopC (blockC (seq1 (seq2 (Try.f27.body.getD .skip))))
noncomputable def T16 : Code := seq2 (seq2 (Try.f27.body.getD .skip))
noncomputable def ops161 : Array Oper := opsOf (seq1 (seq1 L16))
noncomputable def ops162 : Array Oper := opsOf (seq1 (blockC (seq2 L16)))
theorem fineT16 : fineCode Try.prog true LT T16 := fineCode_ask callT extT (by kernel_rfl)

/-- The frame where it looks. -/
noncomputable def uFr (cb tb : Nat) (n : Int) (u : Nat → Value) : Frame :=
  (base 27).at ⟨#[Pt cb 0, Pt tb 0, I n, undef, undef, undef, .bool false, u 7, u 8, u 9, u 10, u 11, u 12, u 13, u 14, u 15, u 16, u 17, u 18], []⟩ [.code L16, .inLoop L16, .inBlock 0, .code T16]
/-- The frame where it has seen what stands there. -/
noncomputable def uSeen (cb tb : Nat) (n : Int) (u : Nat → Value) (r : Value) : Frame :=
  (base 27).at ((⟨#[Pt cb 0, Pt tb 0, I n, undef, undef, undef, .bool false, Pt cb 0, Pt tb 0, u 9, u 10, u 11, u 12, u 13, u 14, u 15, u 16, u 17, u 18], []⟩ : Act).put (some 9) r) [.inRegion ops161 [3, 4], .code (seq2 (seq1 L16)), .code (seq2 L16), .inLoop L16, .inBlock 0, .code T16]

set_option maxHeartbeats 1000000 in
set_option maxRecDepth 100000 in
theorem until_loop {z : Nat → Option Nat} {Ch : Nat → Prop} {Stop : Goroutine → World → Prop} {h : Nat} {cont : Addr → Value} {S : TS} {K : List (Nat × Int)} {v w : World} {i j cb : Nat} {t : Thr} (n x : Int) (u : Nat → Value) (cs : List Frame) (Hm : Goroutine → Prop)
    (hH : ∀ g, OpBack (h == 0) i j cb t.tb 1 effLoad (fun r => G (uSeen cb t.tb n u r) cs) g → Hm g)
    (hvw : Rel z v w) (hn : NoRow Ch v) (hm : Mem z S K v) (ht : S.thr[i]? = some t) (hK : K[j]? = some (cb, x)) (hz : z t.tb = some 2) (hcont : cont ⟨t.tb, 2, none⟩ = .chan (some t.gc))
    (hstop : ∀ g w', GiveT z cont h S.bk t.gc Hm (Then z Ch S K v (waiting S i t 1 1 j) K) g w' → Stop g w') :
    GoesI Try.prog (h == 0) (DT (ScZ z) Ch) Stop (G (uFr cb t.tb n u) cs) w := by
  unfold uFr L16 T16 Try.f27 seq2 seq1 blockC loopC
  simp only [Option.getD_some]
  refine goesI_seq (dt_idle _ _) ?_
  refine goesI_seq (dt_idle _ _) ?_
  refine goesI_region (dt_idle _ _) ?_
  simp only [List.size_toArray, List.length_cons, List.length_nil, Nat.reduceAdd, Nat.zero_add, List.range, List.range.loop]
  iterate 2
    (refine goesI_oper rfl rfl (by decide) (fun d K hK => ?_)
     go_simp
     refine hK _ _ ⟨dt_reads (fun e he => ?_), GoesI.at ?_ d⟩
     · have hm := mem_listed he
       simp [go_sem, *] at hm
     clear hK K)
  refine goesI_into (f := 28) (fn := Try.f28) (args := #[Pt cb 0, Pt t.tb 0]) (dt_idle _ _) rfl rfl (by decide) rfl (by simp [Act.eval]) Try.func28 (by decide) rfl ?_
  exact load_goes x _ Hm rfl (fun g hg => hH g hg) hvw hn hm ht hK hz hcont hstop _ rfl

/-- It has been entered. -/
theorem until_in {z : Nat → Option Nat} {Ch : Nat → Prop} {Stop : Goroutine → World → Prop} {main : Bool} {w : World} {cb tb : Nat} (n : Int) (cs : List Frame)
    (hk : ∀ u, GoesI Try.prog main (DT (ScZ z) Ch) Stop (G (uFr cb tb n u) cs) w) (code : Code) (hc : Try.f27.body = some code) :
    GoesI Try.prog main (DT (ScZ z) Ch) Stop (G ((base 27).at { tmps := #[Pt cb 0, Pt tb 0, I n] ++ Array.replicate 16 undef, defers := [] } [.code code]) cs) w := by
  obtain rfl := Option.some.inj hc
  clear hc
  simp only [Array.replicate_succ, Array.replicate_zero, List.push_toArray, List.append_toArray, List.nil_append, List.cons_append]
  refine goesI_seq (dt_idle _ _) ?_
  refine goesI_region (dt_idle _ _) ?_
  simp only [List.size_toArray, List.length_cons, List.length_nil, Nat.reduceAdd, Nat.zero_add, List.range, List.range.loop]
  (refine goesI_oper rfl rfl (by decide) (fun d K hK => ?_)
   go_simp
   refine hK _ _ ⟨dt_reads (fun e he => ?_), GoesI.at ?_ d⟩
   · have hm := mem_listed he
     simp [go_sem, *] at hm
   clear hK K)
  refine goesI_regionEnd (dt_idle _ _) ?_
  refine goesI_seq (dt_idle _ _) ?_
  refine goesI_block (dt_idle _ _) ?_
  refine goesI_loop (dt_idle _ _) ?_
  exact hk (fun _ => undef)
end Go.Proofs.Ytfjjoohflcchnaa

namespace Go.Proofs.Ytfjjoohflcchnaa
open Go Go.Lift Go.Conc Go.RowKit

noncomputable def L34 : Code := loopC (blockC (seq2 (seq2 (Try.f85.body.getD .skip))))
/-- The frame at the loop's head: so many calls are done (ii), and whether one was stuck (sk). -/
noncomputable def cFr (tb : Nat) (csl F asl : Value) (n ii : Nat) (sk : Bool) (u : Nat → Value) : Frame :=
  (base 85).at ⟨#[Pt tb 0, csl, F, asl, undef, undef, undef, undef, .bool sk, u 9, u 10, csl, I n, I ii, u 14, u 15, u 16, u 17, u 18, u 19, u 20, u 21, u 22, u 23] ++ #[u 24, u 25, u 26, u 27, u 28, u 29, u 30, u 31, u 32, u 33, u 34, u 35, u 36, u 37, u 38, u 39, u 40, u 41, u 42, u 43, u 44, u 45, u 46, u 47], []⟩ [.code L34, .inLoop L34, .inBlock 0]

set_option maxHeartbeats 1000000 in
set_option maxRecDepth 100000 in
theorem carry_in {z : Nat → Option Nat} {Ch : Nat → Prop} {Stop : Goroutine → World → Prop} {main : Bool} {w : World} {tb : Nat} (F asl : Value) (p : Option Addr) (n cap : Nat) (cs : List Frame)
    (hk : ∀ u, GoesI Try.prog main (DT (ScZ z) Ch) Stop (G (cFr tb (.slice p n cap) F asl n 0 false u) cs) w) (code : Code) (hc : Try.f85.body = some code) :
    GoesI Try.prog main (DT (ScZ z) Ch) Stop (G ((base 85).at { tmps := #[Pt tb 0, .slice p n cap, F, asl] ++ Array.replicate 44 undef, defers := [] } [.code code]) cs) w := by
  obtain rfl := Option.some.inj hc
  clear hc
  simp only [Array.replicate_succ, Array.replicate_zero, List.push_toArray, List.append_toArray, List.nil_append, List.cons_append]
  refine goesI_seq (dt_idle _ _) ?_
  refine goesI_region (dt_idle _ _) ?_
  simp only [List.size_toArray, List.length_cons, List.length_nil, Nat.reduceAdd, Nat.zero_add, List.range, List.range.loop]
  (refine goesI_oper rfl rfl (by decide) (fun d K hK => ?_)
   go_simp
   refine hK _ _ ⟨dt_reads (fun e he => ?_), GoesI.at ?_ d⟩
   · have hm := mem_listed he
     simp [go_sem, *] at hm
   clear hK K)
  refine goesI_regionEnd (dt_idle _ _) ?_
  refine goesI_seq (dt_idle _ _) ?_
  refine goesI_region (dt_idle _ _) ?_
  simp only [List.size_toArray, List.length_cons, List.length_nil, Nat.reduceAdd, Nat.zero_add, List.range, List.range.loop]
  iterate 3
    (refine goesI_oper rfl rfl (by decide) (fun d K hK => ?_)
     go_simp
     refine hK _ _ ⟨dt_reads (fun e he => ?_), GoesI.at ?_ d⟩
     · have hm := mem_listed he
       simp [go_sem, *] at hm
     clear hK K)
  refine goesI_regionEnd (dt_idle _ _) ?_
  refine goesI_block (dt_idle _ _) ?_
  refine goesI_loop (dt_idle _ _) ?_
  have hk := hk (fun _ => undef)
  unfold cFr L34 Try.f85 seq2 blockC loopC at hk
  simp only [Option.getD_some, List.append_toArray, List.cons_append, List.nil_append] at hk
  exact hk

set_option maxHeartbeats 1000000 in
set_option maxRecDepth 100000 in
/-- All calls are done: it leaves. -/
theorem carry_end {z : Nat → Option Nat} {Ch : Nat → Prop} {Stop : Goroutine → World → Prop} {main : Bool} {w : World} {tb : Nat} (csl F asl : Value) (n : Nat) (sk : Bool) (u : Nat → Value) (cs : List Frame) {bc : Frame} {ac : Act} {ops : Array Oper} {q : Nat} {rest : List Nat} {oc : Oper} {k : List Item} (hoc : ops[q]? = some oc)
    (hk : GoesI Try.prog main (DT (ScZ z) Ch) Stop (G (bc.at (ac.put oc.dst (.tuple #[])) (.inRegion ops rest :: k)) cs) w) :
    GoesI Try.prog main (DT (ScZ z) Ch) Stop (G (cFr tb csl F asl n n sk u) (bc.at ac (.inRegion ops (q :: rest) :: k) :: cs)) w := by
  unfold cFr L34 Try.f85 seq2 blockC loopC
  simp only [Option.getD_some, List.append_toArray, List.cons_append, List.nil_append]
  refine goesI_seq (dt_idle _ _) ?_
  refine goesI_region (dt_idle _ _) ?_
  simp only [List.size_toArray, List.length_cons, List.length_nil, Nat.reduceAdd, Nat.zero_add, List.range, List.range.loop]
  (refine goesI_oper rfl rfl (by decide) (fun d K hK => ?_)
   go_simp
   refine hK _ _ ⟨dt_reads (fun e he => ?_), GoesI.at ?_ d⟩
   · have hm := mem_listed he
     simp [go_sem, *] at hm
   clear hK K)
  refine goesI_regionEnd (dt_idle _ _) ?_
  refine goesI_seq (dt_idle _ _) ?_
  refine goesI_cond (dt_idle _ _) (t := false) (by simp [Act.eval]) ?_
  simp only [if_true, if_false, Bool.false_eq_true]
  refine goesI_exit (dt_idle _ _) rfl ?_
  refine goesI_end (dt_idle _ _) ?_
  exact goesI_leave (b := base 85) (fn := Try.f85) rfl rfl Try.func85 (fun w => results_none rfl _ _ _) (fun w => by simp [results, go_sem]) hoc (dt_idle _ _) hk
end Go.Proofs.Ytfjjoohflcchnaa

namespace Go.Proofs.Ytfjjoohflcchnaa
open Go Go.Lift Go.Conc Go.RowKit

/-- The place that a number names among so many. -/
def which (a : Int) (n : Nat) : Nat := (if a.tmod n < 0 then a.tmod n + n else a.tmod n).toNat
theorem which_lt (a : Int) {n : Nat} (h : 0 < n) : which a n < n := by
  unfold which
  have h1 := Int.tmod_lt_of_pos a (show (0 : Int) < n by omega)
  have h2 : -(n : Int) < a.tmod n := Int.lt_tmod_of_pos a (by omega)
  split <;> omega

theorem which_pos {a : Int} {n : Nat} (h : 0 ≤ a.tmod n) : a.tmod n = (which a n : Int) := by
  unfold which
  rw [if_neg (by omega), Int.toNat_of_nonneg h]
theorem which_neg {a : Int} {n : Nat} (h : a.tmod n < 0) (h0 : 0 < n) (hb : (n : Int) < 9223372036854775808) : wrap64 (a.tmod n + n) = (which a n : Int) := by
  have h2 : -(n : Int) < a.tmod n := Int.lt_tmod_of_pos a (by omega)
  unfold which
  rw [if_pos h, Int.toNat_of_nonneg (by omega)]
  unfold wrap64
  omega

set_option maxHeartbeats 1000000 in
set_option maxRecDepth 100000 in
theorem body22 (a : Int) (n : Nat) (h0 : 0 < n) (hb : (n : Int) < 9223372036854775808) (ha : -9223372036854775808 ≤ a ∧ a < 9223372036854775808) (w : World) : Body Try.f56 #[I a, I n] w (fun v w' => v = I (which a n) ∧ w' = w) := by
  intro code hb'
  obtain rfl := Option.some.inj hb'
  clear hb'
  simp only [Try.ntmps56, List.size_toArray, List.length_cons, List.length_nil, Nat.reduceAdd, Nat.reduceSub, Array.replicate_succ, Array.replicate_zero, List.push_toArray, List.append_toArray, List.nil_append, List.cons_append]
  have hne : ¬ ((n : Int) = 0) := by omega
  have HB : Hid ((n : Int) < 9223372036854775808 ∧ -9223372036854775808 ≤ a ∧ a < 9223372036854775808 ∧ 0 < n) := ⟨⟨hb, ha.1, ha.2, h0⟩⟩
  clear hb ha h0
  go_wp2_with fail
  all_goals
    go_ret
    rename_i h
    first
      | exact ⟨_, rfl, congrArg I (which_pos h), rfl⟩
      | exact ⟨_, rfl, congrArg I (which_neg h HB.out.2.2.2 HB.out.1), rfl⟩

noncomputable def play0 : Code := seq1 (Try.f55.body.getD .skip)
theorem finePlay0 : fineCode Try.prog true LT play0 := fineCode_ask callT extT (by kernel_rfl)
noncomputable def ops21 : Array Oper := opsOf (seq1 (seq2 (Try.f55.body.getD .skip)))
/-- What the closure's second statement computes ahead of the call. -/
def val21 (csl agg : Value) (N rb j cb tb m : Nat) (ca : Int) : Nat → Value
  | 0 => csl
  | 1 => Pt N 1
  | 2 => I ca
  | 3 => csl
  | 4 => I m
  | 5 => I j
  | 6 => Pt rb j
  | 7 => Pt cb 0
  | 8 => Pt tb 0
  | 9 => agg
  | _ => undef
theorem lead21 : leadsOn .any ops21 10 = true := by kernel_rfl
theorem text21 : inText .any ops21 10 = true := by kernel_rfl
theorem mix21 : Try.prog.follows .mixedOrders = true := by kernel_rfl
theorem fineOps21 (i : Nat) (hi : i < 10) (o : Oper) (ho : ops21[i]? = some o) : fineOp Try.prog true LT o := by
  have h : ((ops21.extract 0 10).all fun o => plainOp Try.prog true o.op || askCall plainFs plainXs o.op) = true := by kernel_rfl
  refine fineOp_ask callT extT ((Array.all_eq_true_iff_forall_mem.1 h) o ?_)
  have : (ops21.extract 0 10)[i]? = some o := by
    have hs := (Array.getElem?_eq_some_iff.1 ho).1
    rw [Array.getElem?_extract, if_pos (by omega)]
    simpa using ho
  exact Array.mem_of_getElem? this
theorem rest21 (t : Nat) : Region.linearise.go .any ops21 (ops21.size - 10) t (listedN ops21.size 10) [] = [10, 11] := by
  have e1 : ((List.range ops21.size).filter fun i => !(listedN ops21.size 10).getD i true && ((ops21[i]?).map (·.after.all fun e => !Region.binds .any e || (listedN ops21.size 10).getD e.on false)).getD false) = [10] := by kernel_rfl
  have e2 : ((List.range ops21.size).filter fun i => !((listedN ops21.size 10).setIfInBounds 10 true).getD i true && ((ops21[i]?).map (·.after.all fun e => !Region.binds .any e || ((listedN ops21.size 10).setIfInBounds 10 true).getD e.on false)).getD false) = [11] := by kernel_rfl
  have e0 : ops21.size - 10 = 2 := by kernel_rfl
  rw [e0]
  unfold Region.linearise.go
  simp only [e1, List.length_cons, List.length_nil, Nat.zero_add, Nat.mod_one, List.getElem?_cons_zero]
  unfold Region.linearise.go
  simp only [e2, List.length_cons, List.length_nil, Nat.zero_add, Nat.mod_one, List.getElem?_cons_zero]
  rfl

theorem fineFn_body {P : Program} {L : FuncId → Prop} {f : FuncId} {fn : Func} {c : Code} (hL : ∀ g, L g → fineFn P true L g) (hf : L f) (h1 : P.funcs[f]? = some fn) (h2 : fn.body = some c) : fineCode P true L c := by
  obtain ⟨fn', c', h3, h4, h5, _⟩ := hL f hf
  rw [h1] at h3
  cases h3
  rw [h2] at h4
  cases h4
  exact h5
theorem dst21 (i : Nat) (hi : i < 10) (o : Oper) (ho : ops21[i]? = some o) : o.dst = some (6 + i) := by
  have h : ((List.range 10).all fun i => (ops21[i]?).map (·.dst) == some (some (6 + i))) = true := by kernel_rfl
  have := (List.all_eq_true.1 h) i (by simpa using hi)
  rw [ho] at this
  simpa using this
theorem guard21 (i : Nat) (hi : i < 12) (o : Oper) (ho : ops21[i]? = some o) : o.guard = none := by
  have h : ((List.range 12).all fun i => ((ops21[i]?).map (·.guard.isNone)) == some true) = true := by kernel_rfl
  have := (List.all_eq_true.1 h) i (by simpa using hi)
  rw [ho] at this
  simpa using this
theorem op21 {i : Nat} {o : Oper} {p : Op} (h : (ops21[i]?).map (·.op) = some p) (ho : ops21[i]? = some o) : o.op = p := by
  rw [ho] at h
  exact Option.some.inj h
theorem after21 {i j : Nat} {o : Oper} (h : ((ops21[i]?).map (fun o => o.after.toList.any fun e => e.on == j && Region.binds .any e)) = some true) (ho : ops21[i]? = some o) {l : Array Bool} (hd : ∀ e ∈ o.after.toList, Region.binds .any e = true → l.getD e.on false = true) : l.getD j false = true := by
  rw [ho] at h
  simp only [Option.map_some, Option.some.injEq, List.any_eq_true, Bool.and_eq_true, beq_iff_eq] at h
  obtain ⟨e, he, rfl, hb⟩ := h
  exact hd e he hb

end Go.Proofs.Ytfjjoohflcchnaa

namespace Go.Proofs.Ytfjjoohflcchnaa
open Go Go.Lift Go.Conc Go.RowKit

noncomputable def ops347 : Array Oper := opsOf (seq1 (seq2 (seq2 (seq2 (blockC (seq1 (seq2 (seq2 L34))))))))
noncomputable def R89 : Code := seq2 (seq2 (seq2 (seq2 (blockC (seq1 (seq2 (seq2 L34)))))))
noncomputable def R10 : Code := seq2 (seq2 (seq2 L34))
/-- What the frame holds where the closure is called: the call's box lies at N. -/
noncomputable def cAct (tb : Nat) (csl F asl : Value) (rb ro n ii N : Nat) (x : Value) (u : Nat → Value) : Act :=
  ⟨#[Pt tb 0, csl, F, asl, undef, undef, undef, undef, .bool false, I ii, Pt N 0, csl, I n, I ii, .bool true, I ii, Pt rb (ro + ii * 4), x, .bool false, u 19, u 20, u 21, u 22, Pt tb 0] ++ #[I ii, .tuple #[], asl, I ii, F, Pt tb 0, x, u 31, u 32, u 33, u 34, u 35, u 36, u 37, u 38, u 39, u 40, u 41, u 42, u 43, u 44, u 45, u 46, u 47], []⟩

set_option maxHeartbeats 2000000 in
set_option maxRecDepth 100000 in
theorem carry_step {z : Nat → Option Nat} {Ch : Nat → Prop} {Stop : Goroutine → World → Prop} {main : Bool} {S : TS} {K : List (Nat × Int)} {v w : World} {i : Nat} {t : Thr} (asl : Value) (f : FuncId) (fn : Func) (cp : Array Value) (hf : Try.prog.funcs[f]? = some fn) (hname : (fn.name == "runtime.NumGoroutine") = false) (cf : Code) (hcf : fn.body = some cf) (rb ro n cap ii : Nat) (po ca cb cc : Int) (u : Nat → Value) (cs : List Frame) (hi : ii < n)
    (h0 : v.cell? ⟨rb, ro + ii * 4, none⟩ = some (I po)) (h1 : v.cell? ⟨rb, ro + ii * 4 + 1, none⟩ = some (I ca)) (h2 : v.cell? ⟨rb, ro + ii * 4 + 2, none⟩ = some (I cb)) (h3 : v.cell? ⟨rb, ro + ii * 4 + 3, none⟩ = some (I cc))
    (hvw : Rel z v w) (hn : NoRow Ch v) (hm : Mem z S K v) (ht : S.thr[i]? = some t) (hl : (S.n + 1) * 40 ≤ 140737488355328)
    (hk : ∀ v' w' tv, Rel z v' w' → NoRow Ch v' → Evo z S K v (noted S tv i 9 (-1) ii 0) K v' → v'.heap[v.heap.size]? = some (.cells #[I po, I ca, I cb, I cc] 39 (0, 0)) →
      GoesI Try.prog main (DT (ScZ z) Ch) Stop (G ((base f).at { tmps := (#[Pt t.tb 0, .agg #[I po, I ca, I cb, I cc]] ++ cp) ++ Array.replicate (fn.ntmps - (#[Pt t.tb 0, .agg #[I po, I ca, I cb, I cc]] ++ cp).size) undef, defers := [] } [.code cf])
        ((base 85).at (cAct t.tb (.slice (some ⟨rb, ro, none⟩) n cap) (.func (.func f) #[] cp) asl rb ro n ii v.heap.size (.agg #[I po, I ca, I cb, I cc]) u) [.inRegion ops347 [5, 6, 7], .code R89, .inBlock 1, .code R10, .inLoop L34, .inBlock 0] :: cs)) w') :
    GoesI Try.prog main (DT (ScZ z) Ch) Stop (G (cFr t.tb (.slice (some ⟨rb, ro, none⟩) n cap) (.func (.func f) #[] cp) asl n ii false u) cs) w := by
  have hi' : (ii : Int) < (n : Int) := by omega
  have hq : ¬ fn.name = "runtime.NumGoroutine" := by simpa using hname
  have HM : Hid (Mem z S K v) := ⟨hm⟩
  clear hm
  unfold cAct ops347 R89 R10 L34 Try.f85 seq2 seq1 blockC loopC opsOf at hk
  simp only [Option.getD_some, List.append_toArray, List.cons_append, List.nil_append] at hk
  unfold cFr L34 Try.f85 seq2 blockC loopC
  simp only [Option.getD_some, List.append_toArray, List.cons_append, List.nil_append]
  refine goesI_seq (dt_idle _ _) ?_
  refine goesI_region (dt_idle _ _) ?_
  simp only [List.size_toArray, List.length_cons, List.length_nil, Nat.reduceAdd, Nat.zero_add, List.range, List.range.loop]
  (refine goesI_oper rfl rfl (by decide) (fun d K hK => ?_)
   go_simp
   refine hK _ _ ⟨dt_reads (fun e he => ?_), GoesI.at ?_ d⟩
   · have hm := mem_listed he
     simp [go_sem, *] at hm
   clear hK K)
  refine goesI_regionEnd (dt_idle _ _) ?_
  refine goesI_seq (dt_idle _ _) ?_
  refine goesI_cond (dt_idle _ _) (t := true) (by simp [Act.eval, hi]) ?_
  simp only [if_true, if_false, Bool.false_eq_true]
  refine goesI_skip (dt_idle _ _) ?_
  refine goesI_seq (dt_idle _ _) ?_
  refine goesI_block (dt_idle _ _) ?_
  refine goesI_seq (dt_idle _ _) ?_
  refine goesI_region (dt_idle _ _) ?_
  simp only [List.size_toArray, List.length_cons, List.length_nil, Nat.reduceAdd, Nat.zero_add, List.range, List.range.loop]
  iterate 2
    (refine goesI_oper rfl rfl (by decide) (fun d K hK => ?_)
     go_simp
     refine hK _ _ ⟨dt_reads (fun e he => ?_), GoesI.at ?_ d⟩
     · have hm := mem_listed he
       simp [go_sem, *] at hm
       try exact ⟨_, _, hm⟩
       try (rcases hm with rfl | rfl | rfl | rfl <;> exact ⟨_, _, rfl⟩)
     clear hK K)
  refine goesI_opZ (L := LT) rfl rfl (by decide) (fineOp_ask callT extT (by kernel_rfl)) hvw hn (x := .agg #[I po, I ca, I cb, I cc]) (v' := v) (by go_simp) rfl (fun w1 hvw1 _ => ?_)
  refine goesI_opZ (L := LT) rfl rfl (by decide) (fineOp_ask callT extT (by kernel_rfl)) hvw1 hn (x := Pt v.heap.size 0) (v' := { v with heap := v.heap.push (.cells #[I 0, I 0, I 0, I 0] 39) }) (by go_simp) rfl (fun w2 hvw2 hn2 => ?_)
  walk_nrm
  (refine goesI_oper rfl rfl (by decide) (fun d K hK => ?_)
   go_simp
   refine hK _ _ ⟨dt_reads (fun e he => ?_), GoesI.at ?_ d⟩
   · have hm := mem_listed he
     simp [go_sem, *] at hm
   clear hK K)
  have hB : ({ v with heap := v.heap.push (.cells #[I 0, I 0, I 0, I 0] 39) } : World).heap[v.heap.size]? = some (.cells #[I 0, I 0, I 0, I 0] 39) := Array.getElem?_push_size
  generalize hV : ({ v with heap := v.heap.push (.cells #[I 0, I 0, I 0, I 0] 39) } : World) = V at hvw2 hn2 hB
  generalize hN : v.heap.size = N at hk hB ⊢
  have g0 : V.cell? ⟨N, 0, none⟩ = some (I 0) := by simp [World.cell?, hB]
  have g1 : V.cell? ⟨N, 1, none⟩ = some (I 0) := by simp [World.cell?, hB]
  have g2 : V.cell? ⟨N, 2, none⟩ = some (I 0) := by simp [World.cell?, hB]
  have g3 : V.cell? ⟨N, 3, none⟩ = some (I 0) := by simp [World.cell?, hB]
  have p0 : V.frozen? ⟨N, 0, none⟩ = false := by simp [World.frozen?, hB]
  have p1 : V.frozen? ⟨N, 1, none⟩ = false := by simp [World.frozen?, hB]
  have p2 : V.frozen? ⟨N, 2, none⟩ = false := by simp [World.frozen?, hB]
  have p3 : V.frozen? ⟨N, 3, none⟩ = false := by simp [World.frozen?, hB]
  refine goesI_doZ (L := LT) rfl rfl (by decide) (fineOp_ask callT extT (by kernel_rfl)) hvw2 hn2 (v' := (((V.setCell ⟨N, 0, none⟩ (I po)).setCell ⟨N, 1, none⟩ (I ca)).setCell ⟨N, 2, none⟩ (I cb)).setCell ⟨N, 3, none⟩ (I cc)) (by go_simp) rfl (fun w3 hvw3 hn3 => ?_)
  have hrow : ((((V.setCell ⟨N, 0, none⟩ (I po)).setCell ⟨N, 1, none⟩ (I ca)).setCell ⟨N, 2, none⟩ (I cb)).setCell ⟨N, 3, none⟩ (I cc)).heap[N]? = some (.cells #[I po, I ca, I cb, I cc] 39 (0, 0)) := by
    have := heap_setCell_same (o := 3) (heap_setCell_same (o := 2) (heap_setCell_same (o := 1) (heap_setCell_same (o := 0) hB (I po)) (I ca)) (I cb)) (I cc)
    simpa using this
  have hg : Grows v ((((V.setCell ⟨N, 0, none⟩ (I po)).setCell ⟨N, 1, none⟩ (I ca)).setCell ⟨N, 2, none⟩ (I cb)).setCell ⟨N, 3, none⟩ (I cc)) := by
    refine ⟨by rw [← hV]; simp [World.setCell], fun b hb => ?_, by rw [← hV]; rfl, by rw [← hV]; rfl⟩
    have hbN : b ≠ N := by omega
    rw [Below.heap_setCell _ _ _ _ hbN, Below.heap_setCell _ _ _ _ hbN, Below.heap_setCell _ _ _ _ hbN, Below.heap_setCell _ _ _ _ hbN, ← hV]
    show (v.heap.push _)[b]? = _
    rw [Array.getElem?_push, if_neg (by omega)]
  generalize ((((V.setCell ⟨N, 0, none⟩ (I po)).setCell ⟨N, 1, none⟩ (I ca)).setCell ⟨N, 2, none⟩ (I cb)).setCell ⟨N, 3, none⟩ (I cc)) = V3 at hvw3 hn3 hrow hg
  have HE : Hid (Evo z S K v S K V3) := ⟨HM.out.grows hg⟩
  clear hV hB g0 g1 g2 g3 p0 p1 p2 p3 hvw2 hn2 hvw1 hvw
  refine goesI_regionEnd (dt_idle _ _) ?_
  refine goesI_seq (dt_idle _ _) ?_
  refine goesI_seq (dt_idle _ _) ?_
  refine goesI_region (dt_idle _ _) ?_
  simp only [List.size_toArray, List.length_cons, List.length_nil, Nat.reduceAdd, Nat.zero_add, List.range, List.range.loop]
  (refine goesI_oper rfl rfl (by decide) (fun d K hK => ?_)
   go_simp
   refine hK _ _ ⟨dt_reads (fun e he => ?_), GoesI.at ?_ d⟩
   · have hm := mem_listed he
     simp [go_sem, *] at hm
   clear hK K)
  refine goesI_regionEnd (dt_idle _ _) ?_
  refine goesI_cond (dt_idle _ _) (t := false) rfl ?_
  simp only [if_true, if_false, Bool.false_eq_true]
  refine goesI_skip (dt_idle _ _) ?_
  refine goesI_seq (dt_idle _ _) ?_
  refine goesI_region (dt_idle _ _) ?_
  simp only [List.size_toArray, List.length_cons, List.length_nil, Nat.reduceAdd, Nat.zero_add, List.range, List.range.loop]
  iterate 2
    (refine goesI_oper rfl rfl (by decide) (fun d K hK => ?_)
     go_simp
     refine hK _ _ ⟨dt_reads (fun e he => ?_), GoesI.at ?_ d⟩
     · have hm := mem_listed he
       simp [go_sem, *] at hm
       try exact ⟨_, _, hm⟩
       try (rcases hm with rfl | rfl | rfl | rfl <;> exact ⟨_, _, rfl⟩)
     clear hK K)
  refine goesI_call (f := 106) (fn := Try.f106) (args := #[Pt t.tb 0, I 9, I ii, I 0]) hE fineT rfl rfl (by decide) rfl (by simp [Act.eval]) Try.func106 (by kernel_rfl) rfl (fineFn_body fineT (by simp [LT, plainFs]) Try.func106 rfl) (fun tmps => ⟨_, fun w => results_none rfl _ _ _, fun w => by simp [results, go_sem]⟩) hvw3 hn3
    (R := fun r v4 => r = .tuple #[] ∧ ∃ tv, Ev z S V3 (noted S tv i 9 (-1) ii 0) v4) (fun τ => ?_) (fun r v4 w4 hR hvw4 hn4 => ?_)
  · exact wp_mono (body43 (v := onTape V3 τ 0) (HE.out.mem.rep.same rfl) ht 9 ii 0 hl _ rfl) (bp_mono fun r x hq => ⟨hq.1, hq.2.choose, hq.2.choose_spec.base rfl rfl rfl⟩)
  obtain ⟨rfl, tv, hev⟩ := hR
  have HE4 : Hid (Evo z S K v (noted S tv i 9 (-1) ii 0) K v4) := ⟨HE.out.trans (Evo.of_ev HE.out.mem hev rfl)⟩
  have hNo : ¬ Own S K N := fun hO => by have := HM.out.lt hO; omega
  have hrow4 : v4.heap[N]? = some (.cells #[I po, I ca, I cb, I cc] 39 (0, 0)) := by
    rw [hev.fr.block N (Array.getElem?_eq_some_iff.1 hrow).1 (fun hI => hNo (.inl hI))]
    exact hrow
  clear hev hrow hg HE hvw3 hn3
  have k0 : w4.cell? ⟨N, 0, none⟩ = some (I po) := by rw [hvw4.cell?]; simp [World.cell?, hrow4]
  have k1 : w4.cell? ⟨N, 1, none⟩ = some (I ca) := by rw [hvw4.cell?]; simp [World.cell?, hrow4]
  have k2 : w4.cell? ⟨N, 2, none⟩ = some (I cb) := by rw [hvw4.cell?]; simp [World.cell?, hrow4]
  have k3 : w4.cell? ⟨N, 3, none⟩ = some (I cc) := by rw [hvw4.cell?]; simp [World.cell?, hrow4]
  have hk := hk v4 w4 tv hvw4 hn4 HE4.out hrow4
  walk_nrm
  refine goesI_regionEnd (dt_idle _ _) ?_
  refine goesI_seq (dt_idle _ _) ?_
  refine goesI_region (dt_idle _ _) ?_
  simp only [List.size_toArray, List.length_cons, List.length_nil, Nat.reduceAdd, Nat.zero_add, List.range, List.range.loop]
  iterate 5
    (refine goesI_oper rfl rfl (by decide) (fun d K hK => ?_)
     go_simp
     refine hK _ _ ⟨dt_reads (fun e he => ?_), GoesI.at ?_ d⟩
     · have hm := mem_listed he
       simp [go_sem, *] at hm
       try exact ⟨_, _, hm⟩
       try (rcases hm with rfl | rfl | rfl | rfl <;> exact ⟨_, _, rfl⟩)
     clear hK K)
  refine goesI_enter (f := f) (args := #[Pt t.tb 0, .agg #[I po, I ca, I cb, I cc]] ++ cp) rfl rfl (by decide) (fun w => ?_) (fun w => ?_) (dt_idle _ _) hf hcf ?_
  · simp [execOp, resolve, Deferred.ofValue, Act.eval, invoke, callFunc, hf, hq, hcf]
  · refine listed_none ?_
    simp [go_sem, execOp, resolve, Deferred.ofValue, Act.eval, invoke, callFunc, hf, hq, hcf]
  exact hk
end Go.Proofs.Ytfjjoohflcchnaa

namespace Go.Proofs.Ytfjjoohflcchnaa
open Go Go.Lift Go.Conc Go.RowKit

set_option maxHeartbeats 2000000 in
set_option maxRecDepth 100000 in
theorem carry_back {z : Nat → Option Nat} {Ch : Nat → Prop} {Stop : Goroutine → World → Prop} {main : Bool} {S : TS} {K : List (Nat × Int)} {v w : World} {i : Nat} {t : Thr} (csl F : Value) (rb ro ab n cap2 ii N : Nat) (X : Value) (e x y0 y1 : Int) (u : Nat → Value) (cs : List Frame) (hi : ii < n) (hb : (n : Int) < 9223372036854775808)
    (a0 : v.cell? ⟨ab, ii * 2, none⟩ = some (I y0)) (a1 : v.cell? ⟨ab, ii * 2 + 1, none⟩ = some (I y1)) (f0 : v.frozen? ⟨ab, ii * 2, none⟩ = false) (f1 : v.frozen? ⟨ab, ii * 2 + 1, none⟩ = false) (hbo : ¬ Own S K ab)
    (hvw : Rel z v w) (hn : NoRow Ch v) (hm : Mem z S K v) (ht : S.thr[i]? = some t) (hl : (S.n + 1) * 40 ≤ 140737488355328)
    (hk : ∀ v' w' tv u', Rel z v' w' → NoRow Ch v' → EvoP (· = ab) z S K v (noted S tv i 10 (-1) ii e) K v' → v'.heap[ab]? = ((v.setCell ⟨ab, ii * 2, none⟩ (I e)).setCell ⟨ab, ii * 2 + 1, none⟩ (I x)).heap[ab]? →
      GoesI Try.prog main (DT (ScZ z) Ch) Stop (G (cFr t.tb csl F (.slice (some ⟨ab, 0, none⟩) n cap2) n (ii + 1) (e == 4) u') cs) w') :
    GoesI Try.prog main (DT (ScZ z) Ch) Stop (G ((base 85).at ((cAct t.tb csl F (.slice (some ⟨ab, 0, none⟩) n cap2) rb ro n ii N X u).put (some 31) (.agg #[I e, I x])) [.inRegion ops347 [6, 7], .code R89, .inBlock 1, .code R10, .inLoop L34, .inBlock 0]) cs) w := by
  have hi' : (ii : Int) < (n : Int) := by omega
  have hlt : ab < v.heap.size := World.block_lt_of_cell? _ _ a0
  have HM : Hid (Mem z S K v) := ⟨hm⟩
  have HW : Hid (IntKind.i64.wrap ((ii : Int) + 1) = ((ii + 1 : Nat) : Int)) := ⟨by rw [IntKind.wrap_i64]; omega⟩
  clear hm hb
  unfold cAct ops347 R89 R10 L34 Try.f85 seq2 seq1 blockC loopC opsOf
  simp only [Option.getD_some, List.append_toArray, List.cons_append, List.nil_append]
  walk_nrm
  (refine goesI_oper rfl rfl (by decide) (fun d K hK => ?_)
   go_simp
   refine hK _ _ ⟨dt_reads (fun e he => ?_), GoesI.at ?_ d⟩
   · have hm := mem_listed he
     simp [go_sem, *] at hm
   clear hK K)
  refine goesI_doZ (L := LT) rfl rfl (by decide) (fineOp_ask callT extT (by kernel_rfl)) hvw hn (v' := (v.setCell ⟨ab, ii * 2, none⟩ (I e)).setCell ⟨ab, ii * 2 + 1, none⟩ (I x)) (by go_simp) rfl (fun w2 hvw2 hn2 => ?_)
  have HE : Hid (EvoP (· = ab) z S K v S K ((v.setCell ⟨ab, ii * 2, none⟩ (I e)).setCell ⟨ab, ii * 2 + 1, none⟩ (I x))) := ⟨HM.out.other hbo (fun b hb => by rw [Below.heap_setCell _ _ _ _ hb, Below.heap_setCell _ _ _ _ hb]) (by simp [World.setCell]) rfl rfl⟩
  have e0 : ((v.setCell ⟨ab, ii * 2, none⟩ (I e)).setCell ⟨ab, ii * 2 + 1, none⟩ (I x)).cell? ⟨ab, ii * 2, none⟩ = some (I e) := by
    rw [World.cell?_setCell_other _ _ _ _ (by simp)]
    exact World.cell?_setCell_same _ _ _ (by rw [a0])
  have hs2 : ab < ((v.setCell ⟨ab, ii * 2, none⟩ (I e)).setCell ⟨ab, ii * 2 + 1, none⟩ (I x)).heap.size := by simpa [World.setCell] using hlt
  generalize ((v.setCell ⟨ab, ii * 2, none⟩ (I e)).setCell ⟨ab, ii * 2 + 1, none⟩ (I x)) = V at hvw2 hn2 HE e0 hs2 hk
  have q0 : w2.cell? ⟨ab, ii * 2, none⟩ = some (I e) := by rw [hvw2.cell?]; exact e0
  clear a0 a1 f0 f1 hvw
  refine goesI_regionEnd (dt_idle _ _) ?_
  refine goesI_seq (dt_idle _ _) ?_
  refine goesI_region (dt_idle _ _) ?_
  simp only [List.size_toArray, List.length_cons, List.length_nil, Nat.reduceAdd, Nat.zero_add, List.range, List.range.loop]
  iterate 7
    (refine goesI_oper rfl rfl (by decide) (fun d K hK => ?_)
     go_simp
     refine hK _ _ ⟨dt_reads (fun e he => ?_), GoesI.at ?_ d⟩
     · have hm := mem_listed he
       simp [go_sem, *] at hm
       try exact ⟨_, _, hm⟩
       try (rcases hm with rfl | rfl | rfl | rfl <;> exact ⟨_, _, rfl⟩)
     clear hK K)
  refine goesI_call (f := 106) (fn := Try.f106) (args := #[Pt t.tb 0, I 10, I ii, I e]) hE fineT rfl rfl (by decide) rfl (by simp [Act.eval]) Try.func106 (by kernel_rfl) rfl (fineFn_body fineT (by simp [LT, plainFs]) Try.func106 rfl) (fun tmps => ⟨_, fun w => results_none rfl _ _ _, fun w => by simp [results, go_sem]⟩) hvw2 hn2
    (R := fun r v4 => r = .tuple #[] ∧ ∃ tv, Ev z S V (noted S tv i 10 (-1) ii e) v4) (fun τ => ?_) (fun r v4 w4 hR hvw4 hn4 => ?_)
  · exact wp_mono (body43 (v := onTape V τ 0) (HE.out.mem.rep.same rfl) ht 10 ii e hl _ rfl) (bp_mono fun r x hq => ⟨hq.1, hq.2.choose, hq.2.choose_spec.base rfl rfl rfl⟩)
  obtain ⟨rfl, tv, hev⟩ := hR
  have HE4 : Hid (EvoP (· = ab) z S K v (noted S tv i 10 (-1) ii e) K v4) := ⟨HE.out.trans (Evo.of_ev HE.out.mem hev rfl).toP⟩
  have hsame : v4.heap[ab]? = V.heap[ab]? := hev.fr.block ab hs2 (fun hI => hbo (.inl hI))
  have k0 : w4.cell? ⟨ab, ii * 2, none⟩ = some (I e) := by
    rw [hvw4.cell?, World.cell?_of_block hsame]
    exact e0
  clear hev HE hvw2 hn2 q0 e0 hs2
  have hk := hk v4 w4 tv (fun m => match m with
    | 9 => I ii | 10 => Pt N 0 | 14 => .bool true | 15 => I ii | 16 => Pt rb (ro + ii * 4) | 17 => X | 18 => .bool false | 23 => Pt t.tb 0 | 24 => I ii | 25 => .tuple #[] | 26 => .slice (some ⟨ab, 0, none⟩) n cap2 | 27 => I ii | 28 => F | 29 => Pt t.tb 0 | 30 => X | 31 => .agg #[I e, I x] | 32 => Pt ab (ii * 2)
    | 33 => Pt t.tb 0 | 34 => I ii | 35 => .slice (some ⟨ab, 0, none⟩) n cap2 | 36 => I ii | 37 => Pt ab (ii * 2) | 38 => Pt ab (ii * 2) | 39 => I e | 40 => .tuple #[] | 41 => .slice (some ⟨ab, 0, none⟩) n cap2 | 42 => I ii | 43 => Pt ab (ii * 2) | 44 => Pt ab (ii * 2) | 45 => I e | 46 => .bool (e == 4) | 47 => I ((ii + 1 : Nat) : Int) | m => u m) hvw4 hn4 HE4.out hsame
  unfold cFr L34 Try.f85 seq2 blockC loopC at hk
  simp only [Option.getD_some, List.append_toArray, List.cons_append, List.nil_append] at hk
  rw [← HW.out] at hk
  clear HE4 hvw4 hn4
  walk_nrm
  refine goesI_regionEnd (dt_idle _ _) ?_
  refine goesI_region (dt_idle _ _) ?_
  simp only [List.size_toArray, List.length_cons, List.length_nil, Nat.reduceAdd, Nat.zero_add, List.range, List.range.loop]
  iterate 7
    (refine goesI_oper rfl rfl (by decide) (fun d K hK => ?_)
     go_simp
     refine hK _ _ ⟨dt_reads (fun e he => ?_), GoesI.at ?_ d⟩
     · have hm := mem_listed he
       simp [go_sem, *] at hm
       try exact ⟨_, _, hm⟩
       try (rcases hm with rfl | rfl | rfl | rfl <;> exact ⟨_, _, rfl⟩)
     clear hK K)
  refine goesI_regionEnd (dt_idle _ _) ?_
  refine goesI_inBlock (dt_idle _ _) ?_
  refine goesI_region (dt_idle _ _) ?_
  simp only [List.size_toArray, List.length_cons, List.length_nil, Nat.reduceAdd, Nat.zero_add, List.range, List.range.loop]
  iterate 2
    (refine goesI_oper rfl rfl (by decide) (fun d K hK => ?_)
     go_simp
     refine hK _ _ ⟨dt_reads (fun e he => ?_), GoesI.at ?_ d⟩
     · have hm := mem_listed he
       simp [go_sem, *] at hm
       try exact ⟨_, _, hm⟩
       try (rcases hm with rfl | rfl | rfl | rfl <;> exact ⟨_, _, rfl⟩)
     clear hK K)
  refine goesI_regionEnd (dt_idle _ _) ?_
  refine goesI_inLoop (dt_idle _ _) ?_
  exact hk
end Go.Proofs.Ytfjjoohflcchnaa
