/- CellAdds returns true, whatever the schedule, the start and the numbers, and leaves what it was given as it was: of the law's statement as given, with no condition of our own. Part 21 of 34. (Joined, by program, of: Hire3, Main35, Drive1.) -/
import Derived.Test.YtfjjoohflcchnaaCellAdds20
set_option linter.unusedSimpArgs false
set_option linter.unusedVariables false
namespace Go.Lift
open Go.Conc
/-- It stands at a go statement. -/
theorem hire_at {P : Program} {K : World → Prop} {Still : Loc → Prop} {h : Nat} {o : Option Seat} {F : Goroutine → World → Prop} {b : Frame} {a : Act} {kk : List Item} {cs : List Frame} {ops : Array Oper} {i : Nat} {rest : List Nat} {op : Oper} {w : World} {d : Deferred} {f : Fn} {c : Array Value} (nh B₀ : Nat)
    (ho : ops[i]? = some op) (hw : Region.wanted op (yielded ops a.tmps) = true) (hk : b.kind ≠ .early) (hr : ∀ w, (execOp a.eval op).run P w = .ok (.spawn d) w) (hd : d.target = .fn f c) (he : ∀ w, (execOp a.eval op).events P w #[] = #[]) (hF : F (born P d) w) (hB₀ : B₀ ≤ w.heap.size)
    (hI : ∀ B, B₀ ≤ B → ∀ T, Deaf T h = 0 → Idle P K Still B T h nh (G (b.at (a.put op.dst undef) (.inRegion ops rest :: kk)) cs) o) : AtHire P K Still h o F (G (b.at a (.inRegion ops (i :: rest) :: kk)) cs) w :=
  ⟨rfl, _, born P d, #[], nh, B₀, hB₀, hF, fun d' => by rw [stepG_spawn ho hw hk (hr _) hd, listed_none (he _)], fun B _ e he => by simp at he, hI⟩
end Go.Lift
namespace Go.Proofs.Ytfjjoohflcchnaa
open Go Go.Lift Go.Conc Go.RowKit

set_option maxHeartbeats 2000000 in
set_option maxRecDepth 100000 in
/-- The new thread's row is made: one step that lists nothing. -/
theorem hire_box {main : Bool} (wb : Nat) (bsl F : Value) (n ii bb gc : Nat) (u : Nat → Value) (cs : List Frame) (w : World) :
    stepG Try.prog main (G (bFr1 wb bsl F n ii bb gc u) cs) w = .go (G (bFr2 wb bsl F n ii bb gc w.heap.size u) cs) (w.alloc (.cells (trow wb ii gc 0 0 0 0) 97)) #[] := by
  unfold bFr1 bFr2 ops3514 R15 R18 HB D35 HL B35 Try.f86 seq2 seq1 blockC loopC opsOf
  simp only [Option.getD_some, List.append_toArray, List.cons_append, List.nil_append]
  rw [stepG_value (v := Pt w.heap.size 0) (w' := w.alloc (.cells (trow wb ii gc 0 0 0 0) 97)) rfl rfl (by decide) (by go_simp), listed_none (by simp [go_sem, execOp])]
  rfl

/-- What the go statement makes. -/
abbrev d49 (tb : Nat) (F : Value) : Deferred := { target := .fn (.func 112) #[], args := #[Pt tb 0, F] }
theorem eR15 : R15 = .seq r15 R1617 := by kernel_rfl
noncomputable def ops3517 : Array Oper := opsOf (seq2 R1617)

/-- Served, main goes on to the loop's head. -/
def HBack (wb : Nat) (bsl : Value) (n ii : Nat) (cs : List Frame) (g : Goroutine) : Prop := ∀ (D : World → World → Array Event → Prop) (Stop : Goroutine → World → Prop) (x : Value) (w : World), (∀ w, D w w #[]) → (∀ u, GoesI Try.prog true D Stop (G (hFr wb bsl n ii u) cs) w) → GoesI Try.prog true D Stop (Go.Conc.served g x) w
set_option maxHeartbeats 2000000 in
set_option maxRecDepth 100000 in
/-- Served at its receive, main goes on to the loop's head. -/
theorem back35 (wb : Nat) (bsl F : Value) (n ii bb gc tb bk : Nat) (hb : (n : Int) < 9223372036854775808) (hi : ii < n) (u : Nat → Value) (cs : List Frame) :
    HBack wb bsl n (ii + 1) cs (G ((base 86).at ⟨#[Pt wb 0, bsl, undef, undef, u 4, u 5, u 6, I ii, F, Pt tb 0, u 10, u 11, u 12, u 13, u 14, u 15, u 16, u 17, u 18, u 19, u 20, u 21, u 22, u 23, u 24, u 25, u 26, u 27, u 28, u 29, bsl] ++ #[I n, I ii, .bool true, I ii, Pt bb ii, F, Pt wb 0, I ii, .chan (some gc), .agg (trow wb ii gc 0 0 0 0), Pt tb 0, u 42, u 43, u 44, u 45, u 46, u 47, u 48, u 49, u 50, u 51, Pt tb 0, F, Pt wb 0, Pt wb 0, Pt wb 8, .chan (some bk), u 58, u 59, u 60, u 61], []⟩ [.inRegion ops3517 [4], .inBlock 3, .code R18, .inLoop HL, .inBlock 2, .code D35]) cs) := by
  have HW : IntKind.i64.wrap ((ii : Int) + 1) = ((ii + 1 : Nat) : Int) := by rw [IntKind.wrap_i64]; omega
  intro D Stop x w hD h
  have h := h (fun m => match m with | 7 => I ii | 8 => F | 9 => Pt tb 0 | 33 => .bool true | 34 => I ii | 35 => Pt bb ii | 36 => F | 37 => Pt wb 0 | 38 => I ii | 39 => .chan (some gc) | 40 => .agg (trow wb ii gc 0 0 0 0) | 41 => Pt tb 0 | 52 => Pt tb 0 | 53 => F | 54 => Pt wb 0 | 55 => Pt wb 0 | 56 => Pt wb 8 | 57 => .chan (some bk) | 58 => x | 59 => I ((ii + 1 : Nat) : Int) | m => u m)
  unfold ops3517 R1617 R15 R18 HB D35 HL B35 Try.f86 seq2 seq1 blockC loopC opsOf
  unfold hFr D35 HL B35 Try.f86 seq2 seq1 blockC loopC at h
  simp only [Option.getD_some, List.append_toArray, List.cons_append, List.nil_append] at h ⊢
  rw [served_fr, Frame.finish_at]
  refine goesI_regionEnd hD ?_
  refine goesI_inBlock hD ?_
  refine goesI_region hD ?_
  simp only [List.size_toArray, List.length_cons, List.length_nil, Nat.reduceAdd, Nat.zero_add, List.range, List.range.loop]
  refine goesI_value (v := fun _ => I ((ii + 1 : Nat) : Int)) (w' := fun d => w.at d) rfl rfl (by decide) (fun d => by go_simp) (fun d => by rw [listed_none (by simp [go_sem, execOp])]; exact hD _) (fun d => GoesI.at ?_ d)
  refine goesI_value (v := fun _ => I ((ii + 1 : Nat) : Int)) (w' := fun d => w.at d) rfl rfl (by decide) (fun d => by go_simp) (fun d => by rw [listed_none (by simp [go_sem, execOp])]; exact hD _) (fun d => GoesI.at ?_ d)
  refine goesI_regionEnd hD ?_
  refine goesI_inLoop hD ?_
  exact h

set_option maxHeartbeats 2000000 in
set_option maxRecDepth 100000 in
theorem hire_b {z : Nat → Option Nat} {Ch : Nat → Prop} {Stop : Goroutine → World → Prop} {cont : Addr → Value} {v w : World} (wb n ii bb gc tb bk : Nat) (bsl F tv : Value) (k bs : Nat) (xs : List Value) (u : Nat → Value) (cs : List Frame) (Hm : Goroutine → Prop)
    (hH : ∀ g, HBack wb bsl n (ii + 1) cs g → Hm g) (hb : (n : Int) < 9223372036854775808) (hi : ii < n)
    (hvw : Rel z v w) (hn : NoRow Ch v) (h4 : v.cell? ⟨wb, 4, none⟩ = some tv) (hf : v.frozen? ⟨wb, 4, none⟩ = false) (hown : v.ownsRow bs 46 1 tv k xs) (hne : tv.ownBlock ≠ some wb) (hk : (k + 1) * 8 ≤ 140737488355328) (hbase : bs ≤ v.heap.size) (hz : z wb = some 8) (hcont : cont ⟨wb, 8, none⟩ = .chan (some bk))
    (hstop : ∀ g w', Lift.AtHire Try.prog (KC (ScZ z) cont) (StillC (ScZ z)) 0 (some (Seat.one bk (.agg #[]) false Hm)) (fun child w' => child = born Try.prog (d49 tb F) ∧ ∃ v', Rel z v' w' ∧ NoRow Ch v' ∧ Threaded wb tv k bs xs (Pt tb 0) v v') g w' → Stop g w') :
    GoesI Try.prog true (DT (ScZ z) Ch) Stop (G (bFr2 wb bsl F n ii bb gc tb u) cs) w := by
  have HO : Hid (v.ownsRow bs 46 1 tv k xs) := ⟨hown⟩
  have q4 : wb < v.heap.size := World.block_lt_of_cell? _ _ h4
  clear hown
  have hop : (ops3514.getD 5 default).op = .assign (.tmp 41) := by kernel_rfl
  have hds : (ops3514.getD 5 default).dst = some 9 := by kernel_rfl
  have hgd : (ops3514.getD 5 default).guard = none := by kernel_rfl
  have hoo : ops3514[5]? = some (ops3514.getD 5 default) := by kernel_rfl
  unfold bFr2
  simp only [List.append_toArray, List.cons_append, List.nil_append]
  refine goesI_value (o := ops3514.getD 5 default) (v := fun _ => Pt tb 0) (w' := fun d => w.at d) hoo (by unfold Region.wanted; rw [hgd]) (by decide) (fun d => by unfold execOp; rw [hop]; simp [go_sem, Act.eval]) (fun d => by rw [listed_none (by unfold execOp; rw [hop]; simp [go_sem])]; exact dt_idle _ _ _) (fun d => GoesI.at ?_ d)
  rw [hds]
  clear hop hds hgd hoo
  refine goesI_regionEnd (dt_idle _ _) ?_
  rw [eR15]
  refine goesI_seq (dt_idle _ _) ?_
  rw [show (Act.put { tmps := (#[Pt wb 0, bsl, undef, undef, u 4, u 5, u 6, I ii, F, u 9, u 10, u 11, u 12, u 13, u 14, u 15, u 16, u 17, u 18, u 19, u 20, u 21, u 22, u 23, u 24, u 25, u 26, u 27, u 28, u 29, bsl, I n, I ii, .bool true, I ii, Pt bb ii, F, Pt wb 0, I ii, .chan (some gc), .agg (trow wb ii gc 0 0 0 0), Pt tb 0, u 42, u 43, u 44, u 45, u 46, u 47, u 48, u 49, u 50, u 51, u 52, u 53, u 54, u 55, u 56, u 57, u 58, u 59, u 60, u 61]), defers := [] } (some 9) (Pt tb 0)) = { tmps := (#[Pt wb 0, bsl, undef, undef, u 4, u 5, u 6, I ii, F, Pt tb 0, u 10, u 11, u 12, u 13, u 14, u 15, u 16, u 17, u 18, u 19, u 20, u 21, u 22, u 23, u 24, u 25, u 26, u 27, u 28, u 29, bsl] ++ #[I n, I ii, .bool true, I ii, Pt bb ii, F, Pt wb 0, I ii, .chan (some gc), .agg (trow wb ii gc 0 0 0 0), Pt tb 0, u 42, u 43, u 44, u 45, u 46, u 47, u 48, u 49, u 50, u 51, u 52, u 53, u 54, u 55, u 56, u 57, u 58, u 59, u 60, u 61]), defers := [] } from by kernel_rfl]
  refine goesI_plain (z := z) (wr := true) (L := LT) (I := NoRow Ch) hE fineT noRow_keeps (fun v v' w w' es hi hr ho he => dt_of_z v v' w w' es hi hr ho he) hvw fineR15 rfl (by simp [base]) hn
    (Q := fun a w' => (∃ u : Nat → Value, a = { tmps := #[Pt wb 0, bsl, undef, undef, u 4, u 5, u 6, I ii, F, Pt tb 0, u 10, u 11, u 12, u 13, u 14, u 15, u 16, u 17, u 18, u 19, u 20, u 21, u 22, u 23, u 24, u 25, u 26, u 27, u 28, u 29, bsl] ++ #[I n, I ii, .bool true, I ii, Pt bb ii, F, Pt wb 0, I ii, .chan (some gc), .agg (trow wb ii gc 0 0 0 0), Pt tb 0, u 42, u 43, u 44, u 45, u 46, u 47, u 48, u 49, u 50, u 51, u 52, u 53, u 54, u 55, u 56, u 57, u 58, u 59, u 60, u 61], defers := [] }) ∧ Threaded wb tv k bs xs (Pt tb 0) v w') (fun τ => ?_) ?_
  · refine wp_mono (r15_wp (v := onTape v τ 0) wb n ii bb gc tb bsl F tv k bs xs u h4 hf HO.out hne hk hbase) (fun e a w' hq => ⟨hq.1, hq.2.1, ?_⟩)
    obtain ⟨g, cap, q1, q2, q3, q5⟩ := hq.2.2
    exact ⟨g, cap, q1, q2, q3, ⟨q5.os, q5.output, q5.size, q5.block⟩⟩
  rintro a' v' w' ⟨⟨u', rfl⟩, hT⟩ hr' hn' -
  have hwbl : wb < w'.heap.size := by
    obtain ⟨g, cap, q1, q2, q3, q5⟩ := hT
    rw [hr'.size]
    exact Nat.lt_of_lt_of_le q4 q5.size
  have HF : Hid (∃ v', Rel z v' w' ∧ NoRow Ch v' ∧ Threaded wb tv k bs xs (Pt tb 0) v v') := ⟨⟨v', hr', hn', hT⟩⟩
  have hbk := back35 wb bsl F n ii bb gc tb bk hb hi u' cs
  clear hT hr' hn' hvw hn h4 hf HO hne hk hbase q4
  unfold ops3517 R1617 R15 R18 HB D35 HL B35 Try.f86 seq2 seq1 blockC loopC opsOf at hbk
  unfold R1617 R15 R18 HB D35 HL B35 Try.f86 seq2 seq1 blockC loopC
  simp only [Option.getD_some, List.append_toArray, List.cons_append, List.nil_append] at hbk ⊢
  refine goesI_seq (dt_idle _ _) ?_
  refine goesI_region (dt_idle _ _) ?_
  simp only [List.size_toArray, List.length_cons, List.length_nil, Nat.reduceAdd, Nat.zero_add, List.range, List.range.loop]
  iterate 2
    (refine goesI_oper rfl rfl (by decide) (fun d K hK => ?_)
     go_simp
     refine hK _ _ ⟨dt_reads (fun e he => ?_), GoesI.at ?_ d⟩
     · have hm := mem_listed he
       simp [go_sem, *] at hm
       try exact ⟨_, _, hm⟩
     clear hK K)
  refine GoesI.stop fun d => hstop _ _ (hire_at (h := 0) (d := d49 tb F) 7 (wb + 1) rfl rfl (by decide) (fun w => by simp [go_sem, execOp, resolve, Act.eval]) rfl (fun w => by simp [go_sem, execOp, resolve, Act.eval]) ⟨rfl, ?_⟩ (Nat.succ_le_of_lt hwbl) (fun B hB T hT => ?_))
  · obtain ⟨v', k1, k2⟩ := HF.out
    exact ⟨v', k1.re rfl rfl rfl rfl rfl rfl, k2⟩
  · clear HF hstop hwbl
    refine .inl ⟨6, w', rfl, ?_⟩
    k_c stepG_region_end
    k_reg
    iterate 3
      (k_in
       refine goes_oper_k rfl rfl (by decide) (fun K hK => ?_)
       go_simp
       refine hK _ _ ⟨⟨rfl, fun e he => by (have hm := mem_listed he; simp [go_sem, *] at hm)⟩, ?_⟩
       clear hK K)
    k_in
    have q2 := h₁ ⟨wb, 8, none⟩ ⟨rfl, hz⟩
    rw [hcont] at q2
    refine goes_oper_k rfl rfl (by decide) (fun K hK => ?_)
    go_simp
    refine hK _ _ ⟨⟨rfl, fun e he => by (have hm := mem_listed he; simp [go_sem, *] at hm; subst hm; exact evC_read _ ⟨_, rfl, rfl, hz⟩ (by simp; omega))⟩, ?_⟩
    clear hK K
    refine Goes.stop fun w₂ h₂ => ⟨_, atIn_of (s := Seat.one bk (.agg #[]) false Hm) rfl rfl (by decide) (fun w => ?_) (fun w => ?_) (hH _ hbk)⟩
    · simp [go_sem, execOp, rcase, Act.eval, Seat.one]
    · simp [go_sem, execOp, Act.eval]
end Go.Proofs.Ytfjjoohflcchnaa

namespace Go.Proofs.Ytfjjoohflcchnaa
open Go Go.Lift Go.Conc Go.RowKit

/-- The head of the loop of turns. -/
noncomputable def tFr (wb : Nat) (u : Nat → Value) : Frame := (base 86).at ⟨#[Pt wb 0, u 1, u 2, u 3, u 4, u 5, u 6, u 7, u 8, u 9, u 10, u 11, u 12, u 13, u 14, u 15, u 16, u 17, u 18, u 19, u 20, u 21, u 22, u 23, u 24, u 25, u 26, u 27, u 28, u 29, u 30] ++ #[u 31, u 32, u 33, u 34, u 35, u 36, u 37, u 38, u 39, u 40, u 41, u 42, u 43, u 44, u 45, u 46, u 47, u 48, u 49, u 50, u 51, u 52, u 53, u 54, u 55, u 56, u 57, u 58, u 59, u 60, u 61], []⟩ [.code TL, .inLoop TL, .inBlock 4]

set_option maxHeartbeats 2000000 in
set_option maxRecDepth 100000 in
/-- All are hired. -/
theorem hire_done {z : Nat → Option Nat} {Ch : Nat → Prop} {Stop : Goroutine → World → Prop} {main : Bool} {w : World} {wb : Nat} (bsl : Value) (n : Nat) (u : Nat → Value) (cs : List Frame)
    (hk : ∀ u', GoesI Try.prog main (DT (ScZ z) Ch) Stop (G (tFr wb u') cs) w) : GoesI Try.prog main (DT (ScZ z) Ch) Stop (G (hFr wb bsl n n u) cs) w := by
  have hi' : ¬ (n : Int) < (n : Int) := by omega
  have hk := hk (fun m => match m with | 1 => bsl | 2 => undef | 3 => undef | 30 => bsl | 31 => I n | 32 => I n | 33 => .bool false | m => u m)
  unfold tFr TL D35 B35 Try.f86 seq2 blockC loopC at hk
  unfold hFr D35 HL B35 Try.f86 seq2 seq1 blockC loopC
  simp only [Option.getD_some, List.append_toArray, List.cons_append, List.nil_append] at hk ⊢
  refine goesI_seq (dt_idle _ _) ?_
  refine goesI_region (dt_idle _ _) ?_
  simp only [List.size_toArray, List.length_cons, List.length_nil, Nat.reduceAdd, Nat.zero_add, List.range, List.range.loop]
  iterate 1
    (refine goesI_oper rfl rfl (by decide) (fun d K hK => ?_)
     go_simp
     refine hK _ _ ⟨dt_reads (fun e he => ?_), GoesI.at ?_ d⟩
     · have hm := mem_listed he
       simp [go_sem, *] at hm
       try exact ⟨_, _, hm⟩
     clear hK K)
  refine goesI_regionEnd (dt_idle _ _) ?_
  refine goesI_seq (dt_idle _ _) ?_
  refine goesI_cond (dt_idle _ _) (t := false) rfl ?_
  simp only [if_true, if_false, Bool.false_eq_true]
  refine goesI_exit (dt_idle _ _) rfl ?_
  refine goesI_block (dt_idle _ _) ?_
  refine goesI_loop (dt_idle _ _) ?_
  exact hk

set_option maxHeartbeats 2000000 in
set_option maxRecDepth 100000 in
/-- A turn is asked for. -/
theorem turn_in {z : Nat → Option Nat} {Ch : Nat → Prop} {Stop : Goroutine → World → Prop} {main : Bool} {w : World} {wb : Nat} (u : Nat → Value) (cs : List Frame)
    (hk : ∀ (bd : Frame) (ad : Act) (od : Array Oper) (qd : Nat) (rd : List Nat) (oe : Oper) (kd : List Item), od[qd]? = some oe →
      (∀ (z : Nat → Option Nat) (Ch : Nat → Prop) (Stop : Goroutine → World → Prop) (w : World), (∀ u', GoesI Try.prog main (DT (ScZ z) Ch) Stop (G (tFr wb u') cs) w) → GoesI Try.prog main (DT (ScZ z) Ch) Stop (G (bd.at (ad.put oe.dst (.bool true)) (.inRegion od rd :: kd)) cs) w) →
      (∀ (z : Nat → Option Nat) (Ch : Nat → Prop) (Stop : Goroutine → World → Prop) (w : World) (bc : Frame) (ac : Act) (ops : Array Oper) (q : Nat) (rest : List Nat) (oc : Oper) (k : List Item) (cs' : List Frame), cs = bc.at ac (.inRegion ops (q :: rest) :: k) :: cs' → ops[q]? = some oc → GoesI Try.prog main (DT (ScZ z) Ch) Stop (G (bc.at (ac.put oc.dst (.tuple #[])) (.inRegion ops rest :: k)) cs') w →
        GoesI Try.prog main (DT (ScZ z) Ch) Stop (G (bd.at (ad.put oe.dst (.bool false)) (.inRegion od rd :: kd)) cs) w) → ∀ code, Try.f113.body = some code →
      GoesI Try.prog main (DT (ScZ z) Ch) Stop (G ((base 113).at { tmps := #[Pt wb 0] ++ Array.replicate 72 undef, defers := [] } [.code code]) (bd.at ad (.inRegion od (qd :: rd) :: kd) :: cs)) w) :
    GoesI Try.prog main (DT (ScZ z) Ch) Stop (G (tFr wb u) cs) w := by
  unfold tFr TL D35 B35 Try.f86 seq2 blockC loopC
  simp only [Option.getD_some, List.append_toArray, List.cons_append, List.nil_append]
  refine goesI_seq (dt_idle _ _) ?_
  refine goesI_seq (dt_idle _ _) ?_
  refine goesI_region (dt_idle _ _) ?_
  simp only [List.size_toArray, List.length_cons, List.length_nil, Nat.reduceAdd, Nat.zero_add, List.range, List.range.loop]
  iterate 1
    (refine goesI_oper rfl rfl (by decide) (fun d K hK => ?_)
     go_simp
     refine hK _ _ ⟨dt_reads (fun e he => ?_), GoesI.at ?_ d⟩
     · have hm := mem_listed he
       simp [go_sem, *] at hm
       try exact ⟨_, _, hm⟩
     clear hK K)
  refine goesI_into (f := 113) (fn := Try.f113) (args := #[Pt wb 0]) (dt_idle _ _) rfl rfl (by decide) rfl (by simp [Act.eval]) Try.func113 (by decide) rfl ?_
  refine hk _ _ _ _ _ _ _ rfl (fun z Ch Stop w hg => ?_) (fun z Ch Stop w bc ac ops q rest oc k cs' hcs ho hg => ?_) _ rfl
  · have hg := hg (fun m => match m with | 60 => Pt wb 0 | 61 => .bool true | m => u m)
    unfold tFr TL D35 B35 Try.f86 seq2 blockC loopC at hg
    simp only [Option.getD_some, List.append_toArray, List.cons_append, List.nil_append] at hg
    refine goesI_regionEnd (dt_idle _ _) ?_
    refine goesI_cond (dt_idle _ _) (t := true) rfl ?_
    simp only [if_true, if_false, Bool.false_eq_true]
    refine goesI_skip (dt_idle _ _) ?_
    refine goesI_block (dt_idle _ _) ?_
    refine goesI_skip (dt_idle _ _) ?_
    refine goesI_inBlock (dt_idle _ _) ?_
    refine goesI_inLoop (dt_idle _ _) ?_
    exact hg
  · subst hcs
    refine goesI_regionEnd (dt_idle _ _) ?_
    refine goesI_cond (dt_idle _ _) (t := false) rfl ?_
    simp only [if_true, if_false, Bool.false_eq_true]
    refine goesI_exit (dt_idle _ _) rfl ?_
    refine goesI_end (dt_idle _ _) ?_
    refine goesI_leave (b := base 86) (fn := Try.f86) rfl ?_ Try.func86 (fun w => results_none rfl _ _ _) (fun w => by simp [results, go_sem]) ho (dt_idle _ _) hg
    show (Act.put _ _ _).defers = []
    unfold Act.put
    split <;> rfl

theorem ran_ev {z : Nat → Option Nat} {S : TS} {v : World} (h : Rep z S v) : Ev z S v { S with ran := true } (v.setCell ⟨S.wb, 7, none⟩ (.bool true)) := by
  have hst : ∀ k b, blk S k = some b → k ≠ 0 → (v.setCell ⟨S.wb, 7, none⟩ (.bool true)).heap[b]? = v.heap[b]? := fun k b hk h0 => Below.heap_setCell _ _ _ _ (fun e => h0 (h.apart k 0 b hk (by rw [e]; rfl)))
  have hblk : ∀ k, blk { S with ran := true } k = blk S k := fun k => by match k with | 0 => rfl | 1 => rfl | 2 => rfl | 3 => rfl | 4 => rfl | k + 5 => rfl
  refine ⟨⟨?_, fun i t ht => ?_, own_stay (fun b hb => hst 3 b hb (by omega)) h.own, own_stay (fun b hb => hst 1 b hb (by omega)) h.chg, own_stay (fun b hb => hst 2 b hb (by omega)) h.ths, own_stay (fun b hb => hst 4 b hb (by omega)) h.sch, ?_, fun j k b hj hk => ?_, h.kept⟩, ⟨rfl, rfl, by simp [World.setCell], fun b hb hs => Below.heap_setCell _ _ _ _ (fun e => hs ⟨0, by rw [e]; rfl⟩)⟩, fun b ⟨k, hk⟩ => .inl ⟨k, by rw [← hblk]; exact hk⟩⟩
  · have := heap_setCell_same (o := 7) h.wor (.bool true)
    simpa using this
  · rw [hst (i + 5) t.tb (by simp only [blk]; rw [show S.thr[i]? = some t from ht]; rfl) (by omega)]
    exact h.thr i t ht
  · show S.base ≤ _
    simpa [World.setCell] using h.bs
  · exact h.apart j k b (by rw [← hblk]; exact hj) (by rw [← hblk]; exact hk)

set_option maxHeartbeats 2000000 in
set_option maxRecDepth 100000 in
/-- Run's entry, of a world that has not run. -/
theorem run35_in {z : Nat → Option Nat} {Ch : Nat → Prop} {Stop : Goroutine → World → Prop} {main : Bool} {S : TS} {K : List (Nat × Int)} {v w : World} (p : Option Addr) (n cap : Nat) (cs : List Frame)
    (hvw : Rel z v w) (hn : NoRow Ch v) (hm : Mem z S K v) (hr : S.ran = false)
    (hk : ∀ v' w' u, Rel z v' w' → NoRow Ch v' → Evo z S K v { S with ran := true } K v' → GoesI Try.prog main (DT (ScZ z) Ch) Stop (G (hFr S.wb (.slice p n cap) n 0 u) cs) w') (code : Code) (hc : Try.f86.body = some code) :
    GoesI Try.prog main (DT (ScZ z) Ch) Stop (G ((base 86).at { tmps := #[Pt S.wb 0, .slice p n cap] ++ Array.replicate 60 undef, defers := [] } [.code code]) cs) w := by
  have hc0 : code = B35 := by
    unfold B35
    rw [hc]
    rfl
  subst hc0
  clear hc
  have e7 : w.cell? ⟨S.wb, 7, none⟩ = some (.bool false) := by rw [hvw.cell?, hm.rep.wcell.2.2.2.2.2.2.2.1, hr]
  have c7 : v.cell? ⟨S.wb, 7, none⟩ = some (.bool false) := by rw [hm.rep.wcell.2.2.2.2.2.2.2.1, hr]
  have f7 : v.frozen? ⟨S.wb, 7, none⟩ = false := fz_off hm.rep 7 (by omega)
  have HE : Hid (Evo z S K v { S with ran := true } K (v.setCell ⟨S.wb, 7, none⟩ (.bool true))) := ⟨Evo.of_ev hm (ran_ev hm.rep) rfl⟩
  clear hm hr
  unfold B35 Try.f86
  simp only [Option.getD_some, Array.replicate_succ, Array.replicate_zero, List.push_toArray, List.append_toArray, List.nil_append, List.cons_append]
  refine goesI_seq (dt_idle _ _) ?_
  refine goesI_seq (dt_idle _ _) ?_
  refine goesI_region (dt_idle _ _) ?_
  simp only [List.size_toArray, List.length_cons, List.length_nil, Nat.reduceAdd, Nat.zero_add, List.range, List.range.loop]
  iterate 1
    (refine goesI_oper rfl rfl (by decide) (fun d K hK => ?_)
     go_simp
     refine hK _ _ ⟨dt_reads (fun e he => ?_), GoesI.at ?_ d⟩
     · have hm := mem_listed he
       simp [go_sem, *] at hm
       try exact ⟨_, _, hm⟩
     clear hK K)
  refine goesI_opZ (L := LT) rfl rfl (by decide) (fineOp_ask callT extT (by kernel_rfl)) hvw hn (x := .bool false) (v' := v) (by go_simp) rfl (fun w1 hvw1 _ => ?_)
  replace e7 : w1.cell? ⟨S.wb, 7, none⟩ = some (.bool false) := by rw [hvw1.cell?]; exact c7
  clear hvw
  rename Rel z v w1 => hvw
  refine goesI_regionEnd (dt_idle _ _) ?_
  refine goesI_cond (dt_idle _ _) (t := false) rfl ?_
  simp only [if_true, if_false, Bool.false_eq_true]
  refine goesI_skip (dt_idle _ _) ?_
  refine goesI_seq (dt_idle _ _) ?_
  refine goesI_seq (dt_idle _ _) ?_
  refine goesI_region (dt_idle _ _) ?_
  simp only [List.size_toArray, List.length_cons, List.length_nil, Nat.reduceAdd, Nat.zero_add, List.range, List.range.loop]
  iterate 4
    (refine goesI_oper rfl rfl (by decide) (fun d K hK => ?_)
     go_simp
     refine hK _ _ ⟨dt_reads (fun e he => ?_), GoesI.at ?_ d⟩
     · have hm := mem_listed he
       simp [go_sem, *] at hm
       try exact ⟨_, _, hm⟩
     clear hK K)
  refine goesI_regionEnd (dt_idle _ _) ?_
  refine goesI_cond (dt_idle _ _) (t := false) rfl ?_
  simp only [if_true, if_false, Bool.false_eq_true]
  refine goesI_skip (dt_idle _ _) ?_
  refine goesI_seq (dt_idle _ _) ?_
  refine goesI_region (dt_idle _ _) ?_
  simp only [List.size_toArray, List.length_cons, List.length_nil, Nat.reduceAdd, Nat.zero_add, List.range, List.range.loop]
  iterate 3
    (refine goesI_oper rfl rfl (by decide) (fun d K hK => ?_)
     go_simp
     refine hK _ _ ⟨dt_reads (fun e he => ?_), GoesI.at ?_ d⟩
     · have hm := mem_listed he
       simp [go_sem, *] at hm
       try exact ⟨_, _, hm⟩
     clear hK K)
  clear e7
  refine goesI_doZ (L := LT) rfl rfl (by decide) (fineOp_ask callT extT (by kernel_rfl)) hvw hn (v' := v.setCell ⟨S.wb, 7, none⟩ (.bool true)) (by go_simp) rfl (fun w2 hr2 hn2 => ?_)
  refine goesI_regionEnd (dt_idle _ _) ?_
  refine goesI_seq (dt_idle _ _) ?_
  refine goesI_seq (dt_idle _ _) ?_
  refine goesI_region (dt_idle _ _) ?_
  simp only [List.size_toArray, List.length_cons, List.length_nil, Nat.reduceAdd, Nat.zero_add, List.range, List.range.loop]
  iterate 3
    (refine goesI_oper rfl rfl (by decide) (fun d K hK => ?_)
     go_simp
     refine hK _ _ ⟨dt_reads (fun e he => ?_), GoesI.at ?_ d⟩
     · have hm := mem_listed he
       simp [go_sem, *] at hm
       try exact ⟨_, _, hm⟩
     clear hK K)
  refine goesI_regionEnd (dt_idle _ _) ?_
  refine goesI_block (dt_idle _ _) ?_
  refine goesI_loop (dt_idle _ _) ?_
  have hk := hk _ w2 (fun m => match m with | 10 => Pt S.wb 0 | 11 => .bool false | 23 => Pt S.wb 0 | 24 => Pt S.wb 0 | 25 => Pt S.wb 7 | 26 => .bool false | 27 => Pt S.wb 0 | 28 => Pt S.wb 0 | 29 => Pt S.wb 7 | _ => undef) hr2 hn2 HE.out
  unfold hFr D35 HL B35 Try.f86 seq2 seq1 blockC loopC at hk
  simp only [Option.getD_some, List.append_toArray, List.cons_append, List.nil_append] at hk
  exact hk
end Go.Proofs.Ytfjjoohflcchnaa

namespace Go.Proofs.Ytfjjoohflcchnaa
open Go Go.Lift Go.Conc Go.RowKit
open Go.ConcN (upd upd_same upd_ne)

/-- A thread's row tells where it sits. -/
def FitsN (nk : Nat) : Ph → Thr → Prop
  | .turn (c :: _) _ _, t => t.op = opn c.po ∧ t.ce = which c.ca nk
  | .turn [] _ _, _ => False
  | .wait (c :: _) _ _, _ => c.po = 6
  | .wait [] _ _, _ => False
  | .done _, t => t.st = 3
theorem FitsN.fits {X : Fix} {l : Ph} {t : Thr} (h : FitsN X.kb.length l t) : Fits X l t := by
  match l, h with
  | .turn (c :: _) _ _, h => exact h
  | .turn [] _ _, _ => trivial
  | .wait _ _ _, _ => trivial
  | .done _, _ => trivial
theorem set_get {S : TS} {i : Nat} {t t' : Thr} (ht : S.thr[i]? = some t) : (S.thr.set i t')[i]? = some t' := by
  have hi : i < S.thr.length := (List.getElem?_eq_some_iff.1 ht).1
  rw [List.getElem?_set, if_pos rfl, if_pos hi]
theorem flow_fits (i nk : Nat) : ∀ (rest : List Cl) (ii : Nat) (sk : Bool) (ans : List (Int × Int)) (S : TS) (t : Thr), S.thr[i]? = some t → ∃ t', (flow i nk rest ii sk ans S).1.thr[i]? = some t' ∧ FitsN nk (flow i nk rest ii sk ans S).2 t'
  | [], ii, sk, ans, S, t, ht => ⟨{ thrI S i with st := 3 }, set_get ht, rfl⟩
  | c :: rest, ii, true, ans, S, t, ht => flow_fits i nk rest (ii + 1) true _ S t ht
  | c :: rest, ii, false, ans, S, t, ht => by
    rw [flow_cons]
    split
    · exact ⟨_, set_get (S := noted S undef i 9 (-1) ii 0) ht, rfl, rfl⟩
    · exact flow_fits i nk rest (ii + 1) false _ _ t ht
theorem back_fits (i nk : Nat) (rest : List Cl) (ii : Nat) (ans : List (Int × Int)) (e x : Int) (S : TS) (K : List (Nat × Int)) (t : Thr) (ht : S.thr[i]? = some t) : ∃ t', (back i nk rest ii ans e x S K).1.thr[i]? = some t' ∧ FitsN nk (back i nk rest ii ans e x S K).2.2 t' :=
  flow_fits i nk rest (ii + 1) _ _ (noted S undef i 10 (-1) ii e) t ht
theorem did_thr {S : TS} {i : Nat} {tv : Value} {t t0 : Thr} {b a : Int} (ht : S.thr[i]? = some t0) : (didS S tv i t b a).thr[i]? = some t0 := by
  unfold didS
  split <;> exact ht
theorem resume_fits (i nk : Nat) (c : Cl) (rest : List Cl) (ii : Nat) (ans : List (Int × Int)) (S : TS) (K : List (Nat × Int)) (t : Thr) (ht : S.thr[i]? = some t) (l : Ph) (hl : l = .turn (c :: rest) ii ans ∨ l = .wait (c :: rest) ii ans) (hf : FitsN nk l t) : ∃ t', (resume i nk l S K).1.thr[i]? = some t' ∧ FitsN nk (resume i nk l S K).2.2 t' := by
  rcases hl with rfl | rfl
  · rw [resume_turn]
    split
    · rename_i hc
      split
      · exact back_fits _ _ _ _ _ _ _ _ _ t (did_thr ht)
      · exact ⟨_, set_get (did_thr ht), hc.1⟩
    · exact back_fits _ _ _ _ _ _ _ _ _ t (did_thr ht)
  · rw [resume_wait]
    split
    · exact back_fits _ _ _ _ _ _ _ _ _ t ht
    · exact ⟨_, set_get (S := noted S undef i 6 (which c.ca nk) 0 0) ht, by
        have h6 : c.po = 6 := hf
        exact ⟨by rw [h6]; rfl, rfl⟩⟩

/-- .. and how it waits. -/
def StN : Ph → Thr → Prop
  | .turn _ _ _, t => t.st = 1
  | .wait _ _ _, t => t.st = 2
  | .done _, t => t.st = 3
theorem flow_st (i nk : Nat) : ∀ (rest : List Cl) (ii : Nat) (sk : Bool) (ans : List (Int × Int)) (S : TS) (t : Thr), S.thr[i]? = some t → ∃ t', (flow i nk rest ii sk ans S).1.thr[i]? = some t' ∧ StN (flow i nk rest ii sk ans S).2 t'
  | [], ii, sk, ans, S, t, ht => ⟨{ thrI S i with st := 3 }, set_get ht, rfl⟩
  | c :: rest, ii, true, ans, S, t, ht => flow_st i nk rest (ii + 1) true _ S t ht
  | c :: rest, ii, false, ans, S, t, ht => by
    rw [flow_cons]
    split
    · exact ⟨_, set_get (S := noted S undef i 9 (-1) ii 0) ht, rfl⟩
    · exact flow_st i nk rest (ii + 1) false _ _ t ht
theorem resume_st (i nk : Nat) (c : Cl) (rest : List Cl) (ii : Nat) (ans : List (Int × Int)) (S : TS) (K : List (Nat × Int)) (t : Thr) (ht : S.thr[i]? = some t) (l : Ph) (hl : l = .turn (c :: rest) ii ans ∨ l = .wait (c :: rest) ii ans) : ∃ t', (resume i nk l S K).1.thr[i]? = some t' ∧ StN (resume i nk l S K).2.2 t' := by
  have hb : ∀ (e x : Int) (S : TS) (K : List (Nat × Int)), S.thr[i]? = some t → ∃ t', (back i nk rest ii ans e x S K).1.thr[i]? = some t' ∧ StN (back i nk rest ii ans e x S K).2.2 t' := fun e x S K ht => flow_st i nk rest (ii + 1) _ _ (noted S undef i 10 (-1) ii e) t ht
  rcases hl with rfl | rfl
  · rw [resume_turn]
    split
    · split
      · exact hb _ _ _ _ (did_thr ht)
      · exact ⟨_, set_get (did_thr ht), rfl⟩
    · exact hb _ _ _ _ (did_thr ht)
  · rw [resume_wait]
    split
    · exact hb _ _ _ _ ht
    · exact ⟨_, set_get (S := noted S undef i 6 (which c.ca nk) 0 0) ht, rfl⟩

/-- The run's state: the world, its cells, where the threads sit. -/
structure PSt where
  S : TS
  K : List (Nat × Int)
  l : Nat → Ph
/-- Who goes next. -/
def nextI (S : TS) : Nat := ((rdyIds S S.thr.length)[pickAt S (rdyIds S S.thr.length)]?).getD 0
/-- A turn; none: all have ended. -/
def pturn (nk : Nat) (p : PSt) : Option PSt :=
  if rdyIds p.S p.S.thr.length = [] then
    if waits2 p.S p.S.thr.length then some ⟨stuckS p.S undef, p.K, p.l⟩ else none
  else
    some ⟨(resume (nextI p.S) nk (p.l (nextI p.S)) (going p.S (nextI p.S) (thrI p.S (nextI p.S))) p.K).1, (resume (nextI p.S) nk (p.l (nextI p.S)) (going p.S (nextI p.S) (thrI p.S (nextI p.S))) p.K).2.1, upd p.l (nextI p.S) (resume (nextI p.S) nk (p.l (nextI p.S)) (going p.S (nextI p.S) (thrI p.S (nextI p.S))) p.K).2.2⟩

section
variable {z : Nat → Option Nat} {Ch : Nat → Prop} {cont : Addr → Value} {v w : World} {c : Nat}
theorem kc_chan (hz : z c = none) (h : KC (ScZ z) cont w) (cap : Nat) (buf : Array Value) (cl : Bool) (a b : Nat) (tm : Bool) : KC (ScZ z) cont (w.setChan c cap buf cl a b tm) := fun x hx => by
  have hne : c ≠ x.block := fun e => by rw [e, hx.2] at hz; cases hz
  rw [World.cell?_of_block (heap_setChan_ne w cap buf cl a b tm hne)]
  exact h x hx
theorem rel_chan (hr : Rel z v w) (hz : z c = none) (cap : Nat) (buf : Array Value) (cl : Bool) (a b : Nat) (tm : Bool) (d : Nat) : Rel z (v.setChan c cap buf cl a b tm) ((w.at d).setChan c cap buf cl a b tm) := by
  refine ⟨fun r => ?_, fun r n x e f hzr hh => ?_, fun r n hzr => by simpa [World.setChan] using hr.low r n hzr, hr.os, hr.output⟩
  · by_cases e : c = r
    · subst e
      rw [hz]
      have hs := hr.size
      by_cases hlt : c < v.heap.size
      · have hlw : c < (w.at d).heap.size := by show c < w.heap.size; omega
        rw [heap_setChan_self (w.at d) (Array.getElem?_eq_getElem hlw), heap_setChan_self v (Array.getElem?_eq_getElem hlt)]
        rfl
      · have : ¬ c < w.heap.size := by omega
        simp [World.setChan, World.at, hlt, this]
    · rw [heap_setChan_ne _ _ _ _ _ _ _ e, heap_setChan_ne _ _ _ _ _ _ _ e]
      exact hr.heap r
  · have hne : c ≠ r := fun e => by rw [e, hzr] at hz; cases hz
    rw [heap_setChan_ne _ _ _ _ _ _ _ hne] at hh
    exact hr.kept r n x e f hzr hh
theorem has_chan {M : Nat → Option Obj} (h : Has M v) (hrow : ∀ b o, M b = some o → ∃ x e f, o = .cells x e f) (hc : ∃ o, v.heap[c]? = some o ∧ ∀ x e f, o ≠ .cells x e f) (cap : Nat) (buf : Array Value) (cl : Bool) (a b : Nat) (tm : Bool) : Has M (v.setChan c cap buf cl a b tm) := fun y o ho => by
  have hne : c ≠ y := fun e => by
    subst e
    obtain ⟨x, e, f, rfl⟩ := hrow _ o ho
    obtain ⟨o', h1, h2⟩ := hc
    rw [h _ _ ho] at h1
    cases h1
    exact h2 _ _ _ rfl
  rw [heap_setChan_ne _ _ _ _ _ _ _ hne]
  exact h y o ho
end
end Go.Proofs.Ytfjjoohflcchnaa
