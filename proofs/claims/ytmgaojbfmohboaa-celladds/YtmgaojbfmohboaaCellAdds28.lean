/- The statement CellAdds of the package butlerlaw02 (cell), in full form: for every input the law answers true, and its arguments read behind the call as before; no conditions. Part 28 of 36. (Joined, by program, of: CallD, Run20d, Lone, Play8, Play8b.) -/
import Derived.Test.YtmgaojbfmohboaaCellAdds20
import Derived.Test.YtmgaojbfmohboaaCellAdds27

/- A call of a script with an Op that there is not (cell.call): ErrArg, without a step; made by wip/tools/gencalld.py. -/
set_option linter.unusedSimpArgs false
set_option linter.unusedVariables false
namespace Go.Proofs.Ytmgaojbfmohboaa
open Go Go.Lift Go.Conc Go.RowKit

set_option maxHeartbeats 2000000 in
set_option maxRecDepth 100000 in
theorem calld : CallDef := by
  intro z Ch Stop main v w cb tb po ca n cc cs bc ac ops q rest oc k hoc hpo hvw hn hk code hc
  have n1 : ¬ po = 1 := by omega
  have n2 : ¬ po = 2 := by omega
  have n3 : ¬ po = 3 := by omega
  have n4 : ¬ po = 4 := by omega
  have n5 : ¬ po = 5 := by omega
  have n6 : ¬ po = 6 := by omega
  clear hpo
  have hw0 : code = .seq call0 (seq2 (Try.f23.body.getD .skip)) := by
    rw [hc]; obtain rfl := Option.some.inj hc; rfl
  subst hw0
  clear hc
  refine goesI_seq (dt_idle _ _) ?_
  refine goesI_plain (z := z) (wr := true) (L := LT) (I := NoRow Ch) hE fineT noRow_keeps (fun v v' w w' es hi hr ho he => dt_of_z v v' w w' es hi hr ho he) hvw fineCall0 rfl (by simp [base]) hn
    (Q := fun a w' => a = { tmps := #[Pt cb 0, Pt tb 0, .agg #[I po, I ca, I n, I cc], undef, undef, Pt v.heap.size 0, Pt (v.heap.size + 1) 0] ++ Array.replicate 53 undef, defers := [] } ∧
      w'.heap = (v.heap.push (.cells #[I po, I ca, I n, I cc] 39)).push (.cells #[I 0, I 0] 42) ∧ w'.os = v.os ∧ w'.output = v.output) (fun τ => ?_) ?_
  · clear n1 n2 n3 n4 n5 n6
    show Code.wp Try.prog (seq1 (Try.f23.body.getD .skip)) _ _ _
    unfold Try.f23 seq1
    simp only [Option.getD_some, Array.replicate_succ, Array.replicate_zero, List.push_toArray, List.append_toArray, List.nil_append, List.cons_append]
    go_wp2_with fail
    exact ⟨rfl, rfl, rfl, rfl⟩
  rintro a' v' w' ⟨rfl, hv1, hv2, hv3⟩ hr' hn' -
  have hsz : v'.heap.size = v.heap.size + 2 := by rw [hv1]; simp
  have hg : Grows v v' := ⟨by omega, fun b hb => by rw [hv1, Array.getElem?_push, if_neg (by simp; omega), Array.getElem?_push, if_neg (by omega)], hv2, hv3⟩
  have hbox : v'.heap[v.heap.size]? = some (.cells #[I po, I ca, I n, I cc] 39) := by rw [hv1, Array.getElem?_push, if_neg (by simp)]; exact Array.getElem?_push_size
  have hans : v'.heap[v.heap.size + 1]? = some (.cells #[I 0, I 0] 42) := by rw [hv1, Array.getElem?_push, if_pos (by simp)]
  have b0 : w'.cell? ⟨v.heap.size, 0, none⟩ = some (I po) := by rw [hr'.cell?]; simp [World.cell?, hbox]
  have HV : Hid (Grows v v' ∧ v'.heap[v.heap.size + 1]? = some (.cells #[I 0, I 0] 42) ∧ NoRow Ch v') := ⟨⟨hg, hans, hn'⟩⟩
  clear hv1 hv2 hv3 hsz hg hbox hans hn' hvw hn
  generalize hN : v.heap.size = N at b0 HV ⊢
  simp only [Array.replicate_succ, Array.replicate_zero, List.push_toArray, List.append_toArray, List.nil_append, List.cons_append]
  show GoesI Try.prog main (DT (ScZ z) Ch) Stop (G ((base 23).at _ [.code (seq2 (Try.f23.body.getD .skip))]) _) w'
  unfold Try.f23 seq2
  simp only [Option.getD_some]
  refine goesI_seq (dt_idle _ _) ?_
  refine goesI_seq (dt_idle _ _) ?_
  refine goesI_region (dt_idle _ _) ?_
  simp only [List.size_toArray, List.length_cons, List.length_nil, Nat.reduceAdd, Nat.zero_add, List.range, List.range.loop]
  iterate 2
    (refine goesI_oper rfl rfl (by decide) (fun d K hK => ?_)
     go_simp
     refine hK _ _ ⟨dt_reads (fun e he => ?_), GoesI.at ?_ d⟩
     · have hm := mem_listed he
       simp [go_sem, *] at hm
       try exact ⟨_, _, hm⟩
     clear hK K)
  refine goesI_regionEnd (dt_idle _ _) ?_
  refine goesI_block (dt_idle _ _) ?_
  refine goesI_seq (dt_idle _ _) ?_
  refine goesI_region (dt_idle _ _) ?_
  simp only [List.size_toArray, List.length_cons, List.length_nil, Nat.reduceAdd, Nat.zero_add, List.range, List.range.loop]
  iterate 2
    (refine goesI_oper rfl rfl (by decide) (fun d K hK => ?_)
     go_simp
     refine hK _ _ ⟨dt_reads (fun e he => ?_), GoesI.at ?_ d⟩
     · have hm := mem_listed he
       simp [go_sem, *] at hm
       try exact ⟨_, _, hm⟩
     clear hK K)
  refine goesI_regionEnd (dt_idle _ _) ?_
  refine goesI_cond (dt_idle _ _) (t := false) (by simp [Act.eval, n1, n2, n3, n4, n5, n6]) ?_
  simp only [if_true, if_false, Bool.false_eq_true]
  refine goesI_seq (dt_idle _ _) ?_
  refine goesI_region (dt_idle _ _) ?_
  simp only [List.size_toArray, List.length_cons, List.length_nil, Nat.reduceAdd, Nat.zero_add, List.range, List.range.loop]
  iterate 2
    (refine goesI_oper rfl rfl (by decide) (fun d K hK => ?_)
     go_simp
     refine hK _ _ ⟨dt_reads (fun e he => ?_), GoesI.at ?_ d⟩
     · have hm := mem_listed he
       simp [go_sem, *] at hm
       try exact ⟨_, _, hm⟩
     clear hK K)
  refine goesI_regionEnd (dt_idle _ _) ?_
  refine goesI_cond (dt_idle _ _) (t := false) (by simp [Act.eval, n1, n2, n3, n4, n5, n6]) ?_
  simp only [if_true, if_false, Bool.false_eq_true]
  refine goesI_seq (dt_idle _ _) ?_
  refine goesI_region (dt_idle _ _) ?_
  simp only [List.size_toArray, List.length_cons, List.length_nil, Nat.reduceAdd, Nat.zero_add, List.range, List.range.loop]
  iterate 2
    (refine goesI_oper rfl rfl (by decide) (fun d K hK => ?_)
     go_simp
     refine hK _ _ ⟨dt_reads (fun e he => ?_), GoesI.at ?_ d⟩
     · have hm := mem_listed he
       simp [go_sem, *] at hm
       try exact ⟨_, _, hm⟩
     clear hK K)
  refine goesI_regionEnd (dt_idle _ _) ?_
  refine goesI_cond (dt_idle _ _) (t := false) (by simp [Act.eval, n1, n2, n3, n4, n5, n6]) ?_
  simp only [if_true, if_false, Bool.false_eq_true]
  refine goesI_seq (dt_idle _ _) ?_
  refine goesI_region (dt_idle _ _) ?_
  simp only [List.size_toArray, List.length_cons, List.length_nil, Nat.reduceAdd, Nat.zero_add, List.range, List.range.loop]
  iterate 2
    (refine goesI_oper rfl rfl (by decide) (fun d K hK => ?_)
     go_simp
     refine hK _ _ ⟨dt_reads (fun e he => ?_), GoesI.at ?_ d⟩
     · have hm := mem_listed he
       simp [go_sem, *] at hm
       try exact ⟨_, _, hm⟩
     clear hK K)
  refine goesI_regionEnd (dt_idle _ _) ?_
  refine goesI_cond (dt_idle _ _) (t := false) (by simp [Act.eval, n1, n2, n3, n4, n5, n6]) ?_
  simp only [if_true, if_false, Bool.false_eq_true]
  refine goesI_seq (dt_idle _ _) ?_
  refine goesI_region (dt_idle _ _) ?_
  simp only [List.size_toArray, List.length_cons, List.length_nil, Nat.reduceAdd, Nat.zero_add, List.range, List.range.loop]
  iterate 2
    (refine goesI_oper rfl rfl (by decide) (fun d K hK => ?_)
     go_simp
     refine hK _ _ ⟨dt_reads (fun e he => ?_), GoesI.at ?_ d⟩
     · have hm := mem_listed he
       simp [go_sem, *] at hm
       try exact ⟨_, _, hm⟩
     clear hK K)
  refine goesI_regionEnd (dt_idle _ _) ?_
  refine goesI_cond (dt_idle _ _) (t := false) (by simp [Act.eval, n1, n2, n3, n4, n5, n6]) ?_
  simp only [if_true, if_false, Bool.false_eq_true]
  refine goesI_seq (dt_idle _ _) ?_
  refine goesI_region (dt_idle _ _) ?_
  simp only [List.size_toArray, List.length_cons, List.length_nil, Nat.reduceAdd, Nat.zero_add, List.range, List.range.loop]
  iterate 2
    (refine goesI_oper rfl rfl (by decide) (fun d K hK => ?_)
     go_simp
     refine hK _ _ ⟨dt_reads (fun e he => ?_), GoesI.at ?_ d⟩
     · have hm := mem_listed he
       simp [go_sem, *] at hm
       try exact ⟨_, _, hm⟩
     clear hK K)
  refine goesI_regionEnd (dt_idle _ _) ?_
  refine goesI_cond (dt_idle _ _) (t := false) (by simp [Act.eval, n1, n2, n3, n4, n5, n6]) ?_
  simp only [if_true, if_false, Bool.false_eq_true]
  refine goesI_skip (dt_idle _ _) ?_
  refine goesI_inBlock (dt_idle _ _) ?_
  refine goesI_seq (dt_idle _ _) ?_
  refine goesI_region (dt_idle _ _) ?_
  simp only [List.size_toArray, List.length_cons, List.length_nil, Nat.reduceAdd, Nat.zero_add, List.range, List.range.loop]
  iterate 1
    (refine goesI_oper rfl rfl (by decide) (fun d K hK => ?_)
     go_simp
     refine hK _ _ ⟨dt_reads (fun e he => ?_), GoesI.at ?_ d⟩
     · have hm := mem_listed he
       simp [go_sem, *] at hm
       try exact ⟨_, _, hm⟩
     clear hK K)
  have c0 : v'.cell? ⟨N + 1, 0, none⟩ = some (I 0) := by simp [World.cell?, HV.out.2.1]
  have c1 : v'.cell? ⟨N + 1, 1, none⟩ = some (I 0) := by simp [World.cell?, HV.out.2.1]
  have f0 : v'.frozen? ⟨N + 1, 0, none⟩ = false := by simp [World.frozen?, HV.out.2.1]
  have f1 : v'.frozen? ⟨N + 1, 1, none⟩ = false := by simp [World.frozen?, HV.out.2.1]
  clear b0 n1 n2 n3 n4 n5 n6
  refine goesI_doZ (L := LT) rfl rfl (by decide) (fineOp_ask callT extT (by kernel_rfl)) hr' HV.out.2.2 (v' := (v'.setCell ⟨N + 1, 0, none⟩ (I 1)).setCell ⟨N + 1, 1, none⟩ (I 0)) (by go_simp) rfl (fun w2 hr2 hn2 => ?_)
  have hrow : ((v'.setCell ⟨N + 1, 0, none⟩ (I 1)).setCell ⟨N + 1, 1, none⟩ (I 0)).heap[N + 1]? = some (.cells #[I 1, I 0] 42 (0, 0)) := by
    have := heap_setCell_same (o := 1) (heap_setCell_same (o := 0) HV.out.2.1 (I 1)) (I 0)
    simpa using this
  have hG : Grows v ((v'.setCell ⟨N + 1, 0, none⟩ (I 1)).setCell ⟨N + 1, 1, none⟩ (I 0)) := ⟨by have := HV.out.1.size; simpa [World.setCell] using this, fun b hb => by
    rw [Below.heap_setCell _ _ _ _ (by show b ≠ N + 1; omega), Below.heap_setCell _ _ _ _ (by show b ≠ N + 1; omega)]
    exact HV.out.1.old b hb, HV.out.1.os, HV.out.1.output⟩
  refine goesI_regionEnd (dt_idle _ _) ?_
  refine GoesI.ctl rfl (fun _ => stepG_ret') (dt_idle _ _) ?_
  refine goesI_leaveZ (f := 23) (fn := Try.f23) (x := .agg #[I 1, I 0]) hr2 hn2 Try.func23 rfl hoc ?_ (fun w' r' => hk _ w' r' hn2 hG)
  generalize ((v'.setCell ⟨N + 1, 0, none⟩ (I 1)).setCell ⟨N + 1, 1, none⟩ (I 0)) = V at hrow
  have k0 : V.cell? ⟨N + 1, 0, none⟩ = some (I 1) := by simp [World.cell?, hrow]
  have k1 : V.cell? ⟨N + 1, 1, none⟩ = some (I 0) := by simp [World.cell?, hrow]
  simp [results, go_sem, Try.f23, *]
end Go.Proofs.Ytmgaojbfmohboaa

/- play.Run, whole, by the machine. -/
set_option linter.unusedSimpArgs false
set_option linter.unusedVariables false
namespace Go.Proofs.Ytmgaojbfmohboaa
open Go Go.Lift Go.Conc Go.RowKit

section
variable {S : TS} {K : List (Nat × Int)} {xb rk ck n : Nat} {pc : Nat → Option Addr} {ln cp rb : Nat → Nat} {cl : Nat → List Cl}

/-- The scripts. -/
abbrev scrs (N n xb rk ck : Nat) (K : List (Nat × Int)) (pc : Nat → Option Addr) (ln cp rb : Nat → Nat) (cl : Nat → List Cl) : List Scr := (List.range' 0 n).map (scrOf N n xb rk ck (K.map (·.1)) pc ln cp rb cl)

/-- What lies there behind it. -/
structure Out20 (w : World) (S : TS) (K : List (Nat × Int)) (n : Nat) (ln : Nat → Nat) (S' : TS) (K' : List (Nat × Int)) (l : Nat → Ph) (w' : World) : Prop where
  mem : Mem zn S' K' w'
  size : w.heap.size ≤ w'.heap.size
  old : ∀ b, b < w.heap.size → ¬ Own S K b → b ≠ S.bk → w'.heap[b]? = w.heap[b]? ∧ ¬ Own S' K' b
  rows : ∀ j, j < n → w'.cell? ⟨w.heap.size + 1, j, none⟩ = some (.slice (some ⟨w.heap.size + 4 + 3 * j + 2, 0, none⟩) (ln j) (ln j))
  ans : ∀ j, j < n → (l j).ans.length = ln j ∧ (0 < ln j → w'.heap[w.heap.size + 4 + 3 * j + 2]? = some (.cells (arow (l j).ans).toArray 42 (0, 0))) ∧ ∃ a, l j = .done a
  os : w'.os = w.os
  out : w'.output = w.output

set_option maxHeartbeats 1000000 in
theorem run20_all {sb so cap : Nat} {cs : List Frame} {bc : Frame} {ac : Act} {ops : Array Oper} {q0 : Nat} {rest : List Nat} {oc : Oper} {k0 : List Item} (hoc : ops[q0]? = some oc) {w : World} {T : Trace} {gs : Array Goroutine} {q : Nat → Nat} (sl : Option (Nat × Nat)) (NT : Nat) (A : Alone gs w T q)
    (hg : gs[0]? = some (G ((base 20).at { tmps := #[Pt S.wb 0, .slice (some ⟨sb, so, none⟩) n cap, .func (.func 21) #[] #[Pt xb 0]] ++ Array.replicate 36 undef, defers := [] } [.code B20]) (bc.at ac (.inRegion ops (q0 :: rest) :: k0) :: cs)))
    (hm : Mem zn S K w) (hthr : S.thr = []) (hran : S.ran = false) (hbk : Open w S.bk) (t : Told w S K xb rk ck n pc ln cp rb cl) (hs : ∀ k, k < n → w.cell? ⟨sb, so + k, none⟩ = some (.slice (pc k) (ln k) (cp k))) (hsb : sb < w.heap.size) (hn8 : n ≤ 8)
    (hlen : S.n + 2 * lens (scrs w.heap.size n xb rk ck K pc ln cp rb cl) ≤ 1000000) (hsl : S.sched.length ≤ 4611686018427387904) (hsc : ∀ x ∈ S.sched, -9223372036854775808 ≤ x ∧ x < 9223372036854775808) (l0 : Nat → Ph)
    (hturn : ∀ S1 l1, Hires K.length 0 (scrs w.heap.size n xb rk ck K pc ln cp rb cl) (nv { S with ran := true }) l0 S1 l1 → ∃ m p', m ≤ NT ∧ Turns K.length m ⟨S1, K, l1⟩ p' ∧ p'.S.n * 40 ≤ 140737488355328) :
    ∃ (N' : Nat) (gs' : Array Goroutine) (w' : World) (sl' : Option (Nat × Nat)) (T' : Trace) (q' : Nat → Nat) (S' : TS) (S1 : TS) (l1 : Nat → Ph) (m : Nat) (p' : PSt),
      runNT Try.prog N' (crowd gs w sl) T = (.next (crowd gs' w' sl'), T') ∧ gs'.size = gs.size + n ∧ gs'[0]? = some (G (bc.at (ac.put oc.dst (.slice (some ⟨w.heap.size + 1, 0, none⟩) n n)) (.inRegion ops rest :: k0)) cs) ∧
      Alone gs' w' T' q' ∧ nv S' = p'.S ∧ Hires K.length 0 (scrs w.heap.size n xb rk ck K pc ln cp rb cl) (nv { S with ran := true }) l0 S1 l1 ∧ Turns K.length m ⟨S1, K, l1⟩ p' ∧ Out20 w S K n ln S' p'.K p'.l w' := by
  have hG : GoesI Try.prog true (DT (ScZ zn) (fun _ => False)) (fun g w' => ∃ (bd : Frame) (ad : Act) (od : Array Oper) (qd : Nat) (rd : List Nat) (oe : Oper) (kd : List Item), Set20 w xb n pc ln cp w' ∧ od[qd]? = some oe ∧
      (∀ (Ch : Nat → Prop) (Stop : Goroutine → World → Prop) (w1 : World) (x : Value), w1.cell? ⟨w.heap.size + 2, 0, none⟩ = some x → (∀ d, GoesI Try.prog true (DT (ScZ zn) Ch) Stop (G (bc.at (ac.put oc.dst x) (.inRegion ops rest :: k0)) cs) (w1.at d)) → GoesI Try.prog true (DT (ScZ zn) Ch) Stop (G (bd.at (ad.put oe.dst (.tuple #[])) (.inRegion od rd :: kd)) (bc.at ac (.inRegion ops (q0 :: rest) :: k0) :: cs)) w1) ∧
      g = G ((base 35).at { tmps := #[Pt S.wb 0, .slice (some ⟨w.heap.size + 3, 0, none⟩) n n] ++ Array.replicate 60 undef, defers := [] } [.code B35]) (bd.at ad (.inRegion od (qd :: rd) :: kd) :: bc.at ac (.inRegion ops (q0 :: rest) :: k0) :: cs)) (G ((base 20).at { tmps := #[Pt S.wb 0, .slice (some ⟨sb, so, none⟩) n cap, .func (.func 21) #[] #[Pt xb 0]] ++ Array.replicate 36 undef, defers := [] } [.code B20]) (bc.at ac (.inRegion ops (q0 :: rest) :: k0) :: cs)) w := by
    refine run20_in S.wb xb sb so n cap hn8 pc ln cp (fun k hk => (t.len k hk).2) hs cs hoc hsb (Rel.refl w) (fun c hc => hc.elim) (fun v' w' bd ad od qd rd oe kd hr hn hset ho hback => GoesI.stop fun d => ⟨bd, ad, od, qd, rd, oe, kd, ?_, ho, hback, rfl⟩)
    have e : (w'.at d).heap = v'.heap := hr.eq
    exact ⟨by rw [e]; exact hset.size, by rw [e]; exact hset.p2, hset.rrow.of_block (by rw [e]), by rw [e]; exact hset.p3, hset.brow.of_block (by rw [e]), fun j hj => by rw [e]; exact hset.blk j hj, fun b hb => by rw [e]; exact hset.old b hb, hr.os.trans hset.os, hr.output.trans hset.out⟩
  obtain ⟨N1, gs1, a1, w1, sl1, T1, q1, r1, z1, h1, ⟨bd, ad, od, qd, rd, oe, kd, hset, hoe, hback, rfl⟩, A1⟩ := alone_goes A hg sl hG
  have hbkl : S.bk < w.heap.size := by obtain ⟨c, m, h⟩ := hbk; exact (Array.getElem?_eq_some_iff.1 h).1
  have hm1 : Mem zn S K w1 := (hm.grows ⟨by rw [hset.size]; omega, hset.old, hset.os, hset.out⟩).mem
  have hbk1 : Open w1 S.bk := by
    obtain ⟨c, m, h⟩ := hbk
    exact ⟨c, m, by rw [hset.old _ hbkl]; exact h⟩
  obtain ⟨B1, hB1, hP1⟩ := A1.past
  have sc := scripts_of hm hbk t hset n 0 (by omega) (allM S K w1) (futOf w.heap.size n ln 0) (fun b _ => rfl) (fun b => Iff.rfl)
  obtain ⟨N2, gs2, w2, sl2, T2, q2, B2, S2, X2, Mm2, S1, l1, m, p', r2, z2, h2, hL2, hP2, hB2, hm2, hnv, hH, hT, hHas, hMo, hio, hXs, hPM, hMa, hMb⟩ := run35_all calld hoe (K := K) (S := S) (w := w1) sl1 (Mm := ⟨allM S K w1, w1.os, w1.output⟩) (Fut := futOf w.heap.size n ln 0) (ss := scrs w.heap.size n xb rk ck K pc ln cp rb cl) NT A1.left hP1 hB1 h1 hm1 hthr hran hbk1 allM_has (fun b hb => (allM_own hb).1) (by
      show allM S K w1 S.bk = none
      unfold allM
      rw [if_pos (.inr rfl)]) ⟨rfl, rfl⟩ (fun b ⟨i, _, hi, h0, e⟩ => by
      subst e
      show allM S K w1 _ ≠ none
      rw [allM_at (fun h => by have := hm.lt h; omega) (by omega), (hset.blk i hi).2.2]
      simp) sc (by simp) hn8 hlen hsl hsc l0 hturn
  have hXj : ∀ j, j < n → ∃ h tb gc b0, X2 j = (scrOf w.heap.size n xb rk ck (K.map (·.1)) pc ln cp rb cl j).X h tb gc b0 := fun j hj => by
    have := hXs j (scrOf w.heap.size n xb rk ck (K.map (·.1)) pc ln cp rb cl j) (by simp [scrs, hj])
    rw [Nat.zero_add] at this
    exact this
  have hab : ∀ j, j < n → 0 < ln j → (X2 j).ab = w.heap.size + 4 + 3 * j + 2 := fun j hj h0 => by
    obtain ⟨h, tb, gc, b0, e⟩ := hXj j hj
    rw [e]
    show (if ln j = 0 then b0 else _) = _
    rw [if_neg (by omega)]
  have hkeep : ∀ b o, allM S K w1 b = some o → (∀ j, j < n → b ≠ w.heap.size + 4 + 3 * j + 2) → w2.heap[b]? = some o ∧ ¬ Own S2 p'.K b := fun b o hb hne => by
    have h9 : Mm2.M b = some o := by
      rcases hMb b o hb with h | ⟨j, hj, h3, h4⟩
      · exact h
      · exfalso
        by_cases h0 : 0 < ln j
        · exact hne j hj (h3.trans (hab j hj h0))
        · obtain ⟨h, tb, gc, b0, e⟩ := hXj j hj
          rw [e] at h3 h4
          apply h4
          rw [h3]
          show (if ln j = 0 then b0 else _) = b0
          rw [if_pos (by omega)]
    exact ⟨hHas b o h9, hMo b (by rw [h9]; simp)⟩
  have hnew : ∀ b o, w.heap.size ≤ b → w1.heap[b]? = some o → (∀ j, j < n → b ≠ w.heap.size + 4 + 3 * j + 2) → w2.heap[b]? = some o := fun b o hb h hne => (hkeep b o (by rw [allM_at (fun h => by have := hm.lt h; omega) (by omega)]; exact h) hne).1
  have c2 : w2.cell? ⟨w.heap.size + 2, 0, none⟩ = some (.slice (some ⟨w.heap.size + 1, 0, none⟩) n n) := by
    unfold World.cell?
    rw [hnew _ _ (by show _ ≤ w.heap.size + 2; omega) hset.p3 (fun j hj => by show w.heap.size + 2 ≠ _; omega)]
    rfl
  have A2 : Alone gs2 w2 T2 q2 := ⟨hL2, B2, hB2, hP2⟩
  obtain ⟨N3, gs3, a3, w3, sl3, T3, q3, r3, z3, h3, ⟨rfl, d3, rfl⟩, A3⟩ := alone_goes A2 h2 sl2 (hback (fun _ => False) (fun g w' => g = G (bc.at (ac.put oc.dst (.slice (some ⟨w.heap.size + 1, 0, none⟩) n n)) (.inRegion ops rest :: k0)) cs ∧ ∃ d, w' = w2.at d) w2 _ c2 (fun d => GoesI.stop fun d' => ⟨rfl, d', rfl⟩))
  refine ⟨N1 + N2 + N3, gs3, w2.at d3, sl3, T3, q3, S2, S1, l1, m, p', runNT_then (runNT_then r1 r2) r3, by omega, h3, A3, hnv, hH, hT, ⟨?_, ?_, fun b hb ho hk => ?_, fun j hj => ?_, fun j hj => ?_, ?_, ?_⟩⟩
  · exact (hm2.grows (v' := w2.at d3) ⟨Nat.le_refl _, fun _ _ => rfl, rfl, rfl⟩).mem
  · show w.heap.size ≤ w2.heap.size
    have := (Array.getElem?_eq_some_iff.1 (hnew _ _ (by omega : w.heap.size ≤ w.heap.size + 2) hset.p3 (fun j hj => by omega))).1
    omega
  · have e : w.heap[b]? = some w.heap[b] := Array.getElem?_eq_getElem hb
    have := hkeep b _ (by rw [allM_at ho hk, hset.old b hb]; exact e) (fun j hj => by omega)
    exact ⟨this.1.trans e.symm, this.2⟩
  · have hl := hset.rrow.lt
    have e : w1.heap[w.heap.size + 1]? = some w1.heap[w.heap.size + 1] := Array.getElem?_eq_getElem hl
    have h9 := hnew _ _ (by omega) e (fun j hj => by omega)
    show w2.cell? _ = _
    rw [World.cell?_of_block (w := w1) (w' := w2) (by show w2.heap[w.heap.size + 1]? = w1.heap[w.heap.size + 1]?; rw [h9, e])]
    exact hset.rrow.cell hj
  · obtain ⟨hpm, hd⟩ := hPM j hj
    obtain ⟨h, tb, gc, b0, e⟩ := hXj j hj
    have hc : (X2 j).calls.length = ln j := by rw [e]; exact (t.len j hj).1
    refine ⟨hpm.len.trans hc, fun h0 => ?_, hd⟩
    have := hpm.row (by rw [hc]; exact h0)
    rw [hab j hj h0] at this
    rw [e] at this
    exact this
  · exact hio.1.trans hset.os
  · exact hio.2.trans hset.out
end
end Go.Proofs.Ytmgaojbfmohboaa

/- What main calls where it is alone is plain. -/
set_option linter.unusedSimpArgs false
set_option linter.unusedVariables false
namespace Go.Proofs.Ytmgaojbfmohboaa
open Go Go.Lift Go.Conc Go.RowKit

def plainO : List FuncId := [22, 25, 27, 28, 29, 30, 38, 43, 51, 7, 9, 10, 11, 18, 19, 24, 32]
def LO (f : FuncId) : Prop := f ∈ plainO
theorem callO : ∀ f ∈ plainO, Callable Try.prog LO f := by
  intro f hf
  have hf' := hf
  simp only [plainO, List.mem_cons, List.not_mem_nil, or_false] at hf
  rcases hf with rfl | rfl | rfl | rfl | rfl | rfl | rfl | rfl | rfl | rfl | rfl | rfl | rfl | rfl | rfl | rfl | rfl
  · exact ⟨hf', Try.f22, Try.func22, by kernel_rfl, by kernel_rfl⟩
  · exact ⟨hf', Try.f25, Try.func25, by kernel_rfl, by kernel_rfl⟩
  · exact ⟨hf', Try.f27, Try.func27, by kernel_rfl, by kernel_rfl⟩
  · exact ⟨hf', Try.f28, Try.func28, by kernel_rfl, by kernel_rfl⟩
  · exact ⟨hf', Try.f29, Try.func29, by kernel_rfl, by kernel_rfl⟩
  · exact ⟨hf', Try.f30, Try.func30, by kernel_rfl, by kernel_rfl⟩
  · exact ⟨hf', Try.f38, Try.func38, by kernel_rfl, by kernel_rfl⟩
  · exact ⟨hf', Try.f43, Try.func43, by kernel_rfl, by kernel_rfl⟩
  · exact ⟨hf', Try.f51, Try.func51, by kernel_rfl, by kernel_rfl⟩
  · exact ⟨hf', Try.f7, Try.func7, by kernel_rfl, by kernel_rfl⟩
  · exact ⟨hf', Try.f9, Try.func9, by kernel_rfl, by kernel_rfl⟩
  · exact ⟨hf', Try.f10, Try.func10, by kernel_rfl, by kernel_rfl⟩
  · exact ⟨hf', Try.f11, Try.func11, by kernel_rfl, by kernel_rfl⟩
  · exact ⟨hf', Try.f18, Try.func18, by kernel_rfl, by kernel_rfl⟩
  · exact ⟨hf', Try.f19, Try.func19, by kernel_rfl, by kernel_rfl⟩
  · exact ⟨hf', Try.f24, Try.func24, by kernel_rfl, by kernel_rfl⟩
  · exact ⟨hf', Try.f32, Try.func32, by kernel_rfl, by kernel_rfl⟩
theorem fineO : ∀ f, LO f → fineFn Try.prog true LO f := by
  intro f hf
  simp only [LO, plainO, List.mem_cons, List.not_mem_nil, or_false] at hf
  rcases hf with rfl | rfl | rfl | rfl | rfl | rfl | rfl | rfl | rfl | rfl | rfl | rfl | rfl | rfl | rfl | rfl | rfl
  · exact fineFn_ask callO extT Try.func22 (c := Try.f22.body.getD .skip) (by rfl) (by kernel_rfl)
  · exact fineFn_ask callO extT Try.func25 (c := Try.f25.body.getD .skip) (by rfl) (by kernel_rfl)
  · exact fineFn_ask callO extT Try.func27 (c := Try.f27.body.getD .skip) (by rfl) (by kernel_rfl)
  · exact fineFn_ask callO extT Try.func28 (c := Try.f28.body.getD .skip) (by rfl) (by kernel_rfl)
  · exact fineFn_ask callO extT Try.func29 (c := Try.f29.body.getD .skip) (by rfl) (by kernel_rfl)
  · exact fineFn_ask callO extT Try.func30 (c := Try.f30.body.getD .skip) (by rfl) (by kernel_rfl)
  · exact fineFn_ask callO extT Try.func38 (c := Try.f38.body.getD .skip) (by rfl) (by kernel_rfl)
  · exact fineFn_ask callO extT Try.func43 (c := Try.f43.body.getD .skip) (by rfl) (by kernel_rfl)
  · exact fineFn_ask callO extT Try.func51 (c := Try.f51.body.getD .skip) (by rfl) (by kernel_rfl)
  · exact fineFn_ask callO extT Try.func7 (c := Try.f7.body.getD .skip) (by rfl) (by kernel_rfl)
  · exact fineFn_ask callO extT Try.func9 (c := Try.f9.body.getD .skip) (by rfl) (by kernel_rfl)
  · exact fineFn_ask callO extT Try.func10 (c := Try.f10.body.getD .skip) (by rfl) (by kernel_rfl)
  · exact fineFn_ask callO extT Try.func11 (c := Try.f11.body.getD .skip) (by rfl) (by kernel_rfl)
  · exact fineFn_ask callO extT Try.func18 (c := Try.f18.body.getD .skip) (by rfl) (by kernel_rfl)
  · exact fineFn_ask callO extT Try.func19 (c := Try.f19.body.getD .skip) (by rfl) (by kernel_rfl)
  · exact fineFn_ask callO extT Try.func24 (c := Try.f24.body.getD .skip) (by rfl) (by kernel_rfl)
  · exact fineFn_ask callO extT Try.func32 (c := Try.f32.body.getD .skip) (by rfl) (by kernel_rfl)
end Go.Proofs.Ytmgaojbfmohboaa

/- cell.Play (8), main alone: up to its call of play.Run. -/
set_option linter.unusedSimpArgs false
set_option linter.unusedVariables false
namespace Go.Proofs.Ytmgaojbfmohboaa
open Go Go.Lift Go.Conc Go.RowKit

noncomputable def B8 : Code := Try.f8.body.getD .skip
noncomputable def p80 : Code := seq1 B8
noncomputable def p81 : Code := seq1 (seq2 B8)
noncomputable def p82 : Code := seq1 (seq2 (seq2 B8))
noncomputable def p83 : Code := seq1 (seq2 (seq2 (seq2 B8)))
noncomputable def p84 : Code := seq1 (seq2 (seq2 (seq2 (seq2 B8))))
noncomputable def R8 : Code := seq2 (seq2 (seq2 (seq2 (seq2 B8))))
theorem eB8 : B8 = .seq p80 (.seq p81 (.seq p82 (.seq p83 (.seq p84 R8)))) := by kernel_rfl
theorem fine80 : fineCode Try.prog true LO p80 := fineCode_ask callO extT (by kernel_rfl)
theorem fine81 : fineCode Try.prog true LO p81 := fineCode_ask callO extT (by kernel_rfl)
theorem fine82 : fineCode Try.prog true LO p82 := fineCode_ask callO extT (by kernel_rfl)
theorem fine83 : fineCode Try.prog true LO p83 := fineCode_ask callO extT (by kernel_rfl)
theorem fine84 : fineCode Try.prog true LO p84 := fineCode_ask callO extT (by kernel_rfl)

theorem info44 : (Try.prog.info? 44).map (fun i => (i.zero, i.size, i.bytes)) = some (some (.pointer none), 1, 8) := by kernel_rfl
theorem mk60 (n : Nat) (hn : n ≤ 17592186043904) (w : World) :
    (Instr.makeSlice 60 (.int .i64 (n : Int)) (.int .i64 (n : Int))).run Try.prog w = .ok (.slice (some ⟨w.heap.size, 0, none⟩) n n) (w.alloc (.cells (madeCells #[.pointer none] n) 44)) := by
  obtain ⟨i, hq, hz, hs, hb⟩ := info_parts info44
  have := run_make (P := Try.prog) w 60 44 i _ Try.underlying60 hq hz .i64 .i64 (n : Int) (n : Int) (by omega) (by omega) (by rw [hb]; omega) (by omega)
  rw [hs] at this
  rw [this]
  simp [Value.cells]

section
variable {S : TS} {v : World} {wb vb vo m vcap sb so n cap : Nat}

set_option maxHeartbeats 2000000 in
set_option maxRecDepth 100000 in
theorem p80_wp :
    p80.wp Try.prog (fun e a w' => e = .normal ∧ a = { tmps := #[Pt wb 0, .slice (some ⟨vb, vo, none⟩) m vcap, .slice (some ⟨sb, so, none⟩) n cap, undef, undef, undef, .slice none 0 0, I 0] ++ Array.replicate 34 undef, defers := [] } ∧ w'.heap = v.heap ∧ w'.os = v.os ∧ w'.output = v.output)
      { tmps := #[Pt wb 0, .slice (some ⟨vb, vo, none⟩) m vcap, .slice (some ⟨sb, so, none⟩) n cap] ++ Array.replicate 39 undef, defers := [] } v := by
  show Code.wp Try.prog (seq1 (Try.f8.body.getD .skip)) _ _ _
  unfold Try.f8 seq1
  simp only [Option.getD_some, Array.replicate_succ, Array.replicate_zero, List.push_toArray, List.append_toArray, List.nil_append, List.cons_append]
  go_wp2_with fail
  try exact ⟨rfl, rfl, rfl⟩

set_option maxHeartbeats 2000000 in
set_option maxRecDepth 100000 in
theorem p81_wp (h : Rep zn S v) (pc : Nat → Option Addr) (ln cp : Nat → Nat) (hs : ∀ k, k < n → v.cell? ⟨sb, so + k, none⟩ = some (.slice (pc k) (ln k) (cp k))) (hln : ∀ k, k < n → ln k ≤ 64) (hn : 0 < n ∧ n ≤ 8) (hr : S.ran = false) :
    p81.wp Try.prog (fun e a w' => e = .normal ∧ a = { tmps := #[Pt S.wb 0, .slice (some ⟨vb, vo, none⟩) m vcap, .slice (some ⟨sb, so, none⟩) n cap, undef, undef, undef, .slice none 0 0, I 0, I 0, undef, undef, undef, Pt S.wb 0, .slice (some ⟨sb, so, none⟩) n cap, I 0, I 0, .bool false] ++ Array.replicate 25 undef, defers := [] } ∧ w'.heap = v.heap ∧ w'.os = v.os ∧ w'.output = v.output)
      { tmps := #[Pt S.wb 0, .slice (some ⟨vb, vo, none⟩) m vcap, .slice (some ⟨sb, so, none⟩) n cap, undef, undef, undef, .slice none 0 0, I 0] ++ Array.replicate 34 undef, defers := [] } v := by
  have h19 := (body19 h (some ⟨sb, so, none⟩) n cap (by omega) pc ln cp (fun k hk => ⟨sb, so, rfl, hs k hk⟩)).calls Try.func19 rfl
  have he : checkE n S.ran = 0 := by unfold checkE; rw [if_neg (by rw [hr]; rintro (h | h | h) <;> first | omega | cases h)]
  have H19 : Hid (Calls Try.prog 19 #[Pt S.wb 0, .slice (some ⟨sb, so, none⟩) n cap] v (fun e w' => e = .returned (I 0) ∧ w' = v)) := ⟨h19.mono (by
    rintro e w' ⟨r, rfl, rfl, ⟨⟨k, hk, h1⟩, _⟩ | ⟨_, rfl⟩⟩
    · exact absurd (hln k hk) (by omega)
    · rw [he]; exact ⟨rfl, rfl⟩)⟩
  clear h19 h hs hln hn hr he
  show Code.wp Try.prog (seq1 (seq2 (Try.f8.body.getD .skip))) _ _ _
  unfold Try.f8 seq1 seq2
  simp only [Option.getD_some, Array.replicate_succ, Array.replicate_zero, List.push_toArray, List.append_toArray, List.nil_append, List.cons_append]
  go_wp2_with (first
    | (go_at_call 19; refine H19.out.mono ?_; rintro e w1 ⟨rfl, rfl⟩))
  try exact ⟨rfl, rfl, rfl⟩

set_option maxHeartbeats 2000000 in
set_option maxRecDepth 100000 in
theorem p82_wp (hm : 0 < m) :
    p82.wp Try.prog (fun e a w' => e = .normal ∧ a = { tmps := #[Pt wb 0, .slice (some ⟨vb, vo, none⟩) m vcap, .slice (some ⟨sb, so, none⟩) n cap, undef, undef, undef, .slice none 0 0, I 0, I 0, undef, undef, undef, Pt wb 0, .slice (some ⟨sb, so, none⟩) n cap, I 0, I 0, .bool false, undef, .slice (some ⟨vb, vo, none⟩) m vcap, I m, .bool false] ++ Array.replicate 21 undef, defers := [] } ∧ w'.heap = v.heap ∧ w'.os = v.os ∧ w'.output = v.output)
      { tmps := #[Pt wb 0, .slice (some ⟨vb, vo, none⟩) m vcap, .slice (some ⟨sb, so, none⟩) n cap, undef, undef, undef, .slice none 0 0, I 0, I 0, undef, undef, undef, Pt wb 0, .slice (some ⟨sb, so, none⟩) n cap, I 0, I 0, .bool false] ++ Array.replicate 25 undef, defers := [] } v := by
  have hm' : ((m : Int) == 0) = false := by simp; omega
  have hm2 : ¬ (m = 0) := by omega
  show Code.wp Try.prog (seq1 (seq2 (seq2 (Try.f8.body.getD .skip)))) _ _ _
  unfold Try.f8 seq1 seq2
  simp only [Option.getD_some, Array.replicate_succ, Array.replicate_zero, List.push_toArray, List.append_toArray, List.nil_append, List.cons_append]
  go_wp2_with fail
  try exact ⟨rfl, rfl, rfl⟩

set_option maxHeartbeats 2000000 in
set_option maxRecDepth 100000 in
theorem p83_wp (hm : m ≤ 17592186043904) :
    p83.wp Try.prog (fun e a w' => e = .normal ∧ a = { tmps := #[Pt wb 0, .slice (some ⟨vb, vo, none⟩) m vcap, .slice (some ⟨sb, so, none⟩) n cap, undef, undef, undef, .slice none 0 0, I 0, I 0, Pt (v.heap.size + 1) 0, undef, undef, Pt wb 0, .slice (some ⟨sb, so, none⟩) n cap, I 0, I 0, .bool false, undef, .slice (some ⟨vb, vo, none⟩) m vcap, I m, .bool false, .slice (some ⟨vb, vo, none⟩) m vcap, I m, .slice (some ⟨v.heap.size, 0, none⟩) m m] ++ Array.replicate 18 undef, defers := [] } ∧ w'.heap = (v.heap.push (.cells (madeCells #[.pointer none] m) 44)).push (.cells #[.slice (some ⟨v.heap.size, 0, none⟩) m m] 60) ∧ w'.os = v.os ∧ w'.output = v.output)
      { tmps := #[Pt wb 0, .slice (some ⟨vb, vo, none⟩) m vcap, .slice (some ⟨sb, so, none⟩) n cap, undef, undef, undef, .slice none 0 0, I 0, I 0, undef, undef, undef, Pt wb 0, .slice (some ⟨sb, so, none⟩) n cap, I 0, I 0, .bool false, undef, .slice (some ⟨vb, vo, none⟩) m vcap, I m, .bool false] ++ Array.replicate 21 undef, defers := [] } v := by
  have hmk := mk60 m hm
  show Code.wp Try.prog (seq1 (seq2 (seq2 (seq2 (Try.f8.body.getD .skip))))) _ _ _
  unfold Try.f8 seq1 seq2
  simp only [Option.getD_some, Array.replicate_succ, Array.replicate_zero, List.push_toArray, List.append_toArray, List.nil_append, List.cons_append]
  go_wp2_with fail
  exact ⟨rfl, rfl, rfl⟩
end
end Go.Proofs.Ytmgaojbfmohboaa

/- cell.Play's loop that makes the cells, walked alone. -/
set_option linter.unusedSimpArgs false
set_option linter.unusedVariables false
namespace Go.Proofs.Ytmgaojbfmohboaa
open Go Go.Lift Go.Conc Go.RowKit

theorem mem_stay {z : Nat → Option Nat} {S : TS} {K : List (Nat × Int)} {v v' : World} (h : Mem z S K v) (hs : v.heap.size ≤ v'.heap.size) (hst : ∀ b, Own S K b → v'.heap[b]? = v.heap[b]?) : Mem z S K v' := by
  have hits : ∀ k b, blk S k = some b → v'.heap[b]? = v.heap[b]? := fun k b hk => hst b (.inl ⟨k, hk⟩)
  exact ⟨⟨by rw [hits 0 S.wb rfl]; exact h.rep.wor, fun i t ht => by rw [hits (i + 5) t.tb (by simp [blk, ht])]; exact h.rep.thr i t ht, own_stay (fun b hb => hits 3 b hb) h.rep.own, own_stay (fun b hb => hits 1 b hb) h.rep.chg, own_stay (fun b hb => hits 2 b hb) h.rep.ths, own_stay (fun b hb => hits 4 b hb) h.rep.sch,
      Nat.le_trans h.rep.bs hs, h.rep.apart, h.rep.kept⟩, fun j c hc => by rw [hst c.1 (.inr ⟨j, c, hc, rfl⟩)]; exact h.cel j c hc, h.far, h.inj, h.len⟩

/-- The world with k cells. -/
def cellsS (S : TS) (cv : Value) (k : Nat) : TS := { S with cv := cv, chg := List.replicate k 0 }
/-- k cells are made. -/
structure Made (v : World) (S : TS) (xs : List Int) (N m k : Nat) (u : World) : Prop where
  at_ : ∃ (cv : Value) (K : List (Nat × Int)), Mem zn (cellsS S cv k) K u ∧ K.map (·.2) = xs.take k ∧ u.rowIs N 44 m (fun j => if j < k then Pt (K.getD j (0, 0)).1 0 else .pointer none) ∧ ∀ b, Own (cellsS S cv k) K b → Own S [] b ∨ v.heap.size ≤ b
  fr : Fr (fun b => Own S [] b ∨ b = N) v u

theorem made_next {v wr u w1 : World} {S : TS} {xs : List Int} {N m k cb : Nat} {x : Int} {cv cv' : Value} {K : List (Nat × Int)} (hN : N < v.heap.size) (hNo : ¬ Own S [] N) (hK : K.map (·.2) = xs.take k) (hrow : wr.rowIs N 44 m (fun j => if j < k then Pt (K.getD j (0, 0)).1 0 else .pointer none)) (hown : ∀ b, Own (cellsS S cv k) K b → Own S [] b ∨ v.heap.size ≤ b) (hfr : Fr (fun b => Own S [] b ∨ b = N) v wr) (hkl : K.length = k) (hk : k < m)
    (hx : xs[k]? = some x) (hm1 : Mem zn (celledS (cellsS S cv k) cv') (K ++ [(cb, x)]) w1) (hf1 : Fr (Own (cellsS S cv k) K) wr w1) (hn1 : ∀ b, Own (celledS (cellsS S cv k) cv') (K ++ [(cb, x)]) b → Own (cellsS S cv k) K b ∨ wr.heap.size ≤ b)
    (hu : u.heap = (w1.setCell ⟨N, k, none⟩ (Pt cb 0)).heap) (ho : u.os = w1.os) (hout : u.output = w1.output) : Made v S xs N m (k + 1) u := by
  have e : celledS (cellsS S cv k) cv' = cellsS S cv' (k + 1) := by
    unfold celledS cellsS
    simp only [List.replicate_succ']
  rw [e] at hm1 hn1
  have hsz : v.heap.size ≤ wr.heap.size := hfr.size
  have hown' : ∀ b, Own (cellsS S cv' (k + 1)) (K ++ [(cb, x)]) b → Own S [] b ∨ v.heap.size ≤ b := fun b hb => by
    rcases hn1 b hb with h | h
    · exact hown b h
    · exact .inr (by omega)
  have hNo1 : ¬ Own (cellsS S cv k) K N := fun h => (hown N h).elim hNo (fun h => by omega)
  have hNo2 : ¬ Own (cellsS S cv' (k + 1)) (K ++ [(cb, x)]) N := fun h => (hown' N h).elim hNo (fun h => by omega)
  have hs1 : u.heap.size = w1.heap.size := by rw [hu]; simp [World.setCell]
  have hst : ∀ b, b ≠ N → u.heap[b]? = w1.heap[b]? := fun b hb => by rw [hu]; exact Below.heap_setCell _ _ _ _ hb
  refine ⟨⟨cv', K ++ [(cb, x)], mem_stay hm1 (by omega) (fun b hb => hst b (fun e => hNo2 (e ▸ hb))), ?_, ?_, hown'⟩, ?_⟩
  · rw [List.map_append, hK, List.map_cons, List.map_nil]
    rw [List.take_add_one, hx]
    rfl
  · have h1 : w1.rowIs N 44 m (fun j => if j < k then Pt (K.getD j (0, 0)).1 0 else .pointer none) := hrow.of_block (hf1.block N (by omega) hNo1)
    have h2 := (h1.set k (Pt cb 0)).of_block (w' := u) (by rw [hu])
    refine h2.congr fun j hj => ?_
    by_cases e : j = k
    · subst e
      rw [if_pos rfl, if_pos (by omega)]
      simp [List.getD, hkl]
    · rw [if_neg e]
      by_cases hl : j < k
      · rw [if_pos hl, if_pos (by omega)]
        simp [List.getD, List.getElem?_append_left (show j < K.length by omega)]
      · rw [if_neg hl, if_neg (by omega)]
  · refine ⟨ho.trans (hf1.os.trans hfr.os), hout.trans (hf1.output.trans hfr.output), by have := hf1.size; omega, fun b hb hs => ?_⟩
    rw [hst b (fun e => hs (.inr e)), hf1.block b (by omega) (fun h => (hown b h).elim (fun h => hs (.inl h)) (fun h => by omega)), hfr.block b hb hs]

section
variable {S : TS} {v : World} {wb vb vo m vcap sb so n cap N : Nat}
set_option maxHeartbeats 4000000 in
set_option maxRecDepth 100000 in
theorem p84_wp (hm : Mem zn S [] v) (hch : S.chg = []) (xs : List Int) (hxl : xs.length = m) (hm1 : m ≤ 17592186043904) (hv : ∀ k x, xs[k]? = some x → v.cell? ⟨vb, vo + k, none⟩ = some (I x)) (hvo : ¬ Own S [] vb) (hvN : vb ≠ N) (hrow : v.rowIs N 44 m (fun _ => .pointer none)) (hbox : v.cell? ⟨N + 1, 0, none⟩ = some (.slice (some ⟨N, 0, none⟩) m m)) (hNo : ¬ Own S [] N ∧ ¬ Own S [] (N + 1)) :
    p84.wp Try.prog (fun e a w' => e = .normal ∧ (∃ u : Nat → Value, a = { tmps := #[Pt S.wb 0, .slice (some ⟨vb, vo, none⟩) m vcap, .slice (some ⟨sb, so, none⟩) n cap, undef, undef, undef, .slice none 0 0, I 0, I 0, Pt (N + 1) 0, u 10, u 11, Pt S.wb 0, .slice (some ⟨sb, so, none⟩) n cap, I 0, I 0, .bool false, undef, .slice (some ⟨vb, vo, none⟩) m vcap, I m, .bool false, .slice (some ⟨vb, vo, none⟩) m vcap, I m, .slice (some ⟨N, 0, none⟩) m m, u 24, u 25, u 26, u 27, u 28, u 29, u 30, u 31, u 32, u 33, u 34, u 35, u 36, u 37, undef, undef, undef, undef], defers := [] }) ∧ Made v S xs N m m w')
      { tmps := #[Pt S.wb 0, .slice (some ⟨vb, vo, none⟩) m vcap, .slice (some ⟨sb, so, none⟩) n cap, undef, undef, undef, .slice none 0 0, I 0, I 0, Pt (N + 1) 0, undef, undef, Pt S.wb 0, .slice (some ⟨sb, so, none⟩) n cap, I 0, I 0, .bool false, undef, .slice (some ⟨vb, vo, none⟩) m vcap, I m, .bool false, .slice (some ⟨vb, vo, none⟩) m vcap, I m, .slice (some ⟨N, 0, none⟩) m m] ++ Array.replicate 18 undef, defers := [] } v := by
  have H0 : Hid (Made v S xs N m 0 v) := ⟨⟨⟨S.cv, [], by
    have : cellsS S S.cv 0 = S := by unfold cellsS; rw [List.replicate_zero, ← hch]
    rw [this]
    exact ⟨hm, rfl, hrow.congr fun i _ => by simp, fun b hb => .inl hb⟩⟩, Fr.refl _ _⟩⟩
  have HV : Hid (∀ k x, xs[k]? = some x → v.cell? ⟨vb, vo + k, none⟩ = some (I x)) := ⟨hv⟩
  have HN : Hid (N < v.heap.size ∧ N + 1 < v.heap.size) := ⟨⟨hrow.lt, World.block_lt_of_cell? _ _ hbox⟩⟩
  have HB : Hid (v.cell? ⟨N + 1, 0, none⟩ = some (.slice (some ⟨N, 0, none⟩) m m)) := ⟨hbox⟩
  have HO : Hid (¬ Own S [] N ∧ ¬ Own S [] (N + 1) ∧ ¬ Own S [] vb ∧ vb ≠ N ∧ m ≤ 17592186043904 ∧ xs.length = m) := ⟨⟨hNo.1, hNo.2, hvo, hvN, hm1, hxl⟩⟩
  clear hm hv hrow hbox hNo hvo hvN hch hxl hm1
  show Code.wp Try.prog (seq1 (seq2 (seq2 (seq2 (seq2 (Try.f8.body.getD .skip)))))) _ _ _
  unfold Try.f8 seq1 seq2
  simp only [Option.getD_some, Array.replicate_succ, Array.replicate_zero, List.push_toArray, List.append_toArray, List.nil_append, List.cons_append]
  go_wp2_with fail
  go_loopw [26] (fun i u => ∃ k : Nat, k ≤ m ∧ i = .int .i64 k ∧ Made v S xs N m k u) (fun i _ => m - (intOf i).toNat)
  case atStart => exact ⟨0, Nat.zero_le _, rfl, H0.out⟩
  case round =>
    obtain ⟨k, hk, rfl, hL⟩ := hrel
    have HL : Hid (Made v S xs N m k wr) := ⟨hL⟩
    by_cases hlt : k < m
    · obtain ⟨cv, K, hmem, hK, hrow, hown⟩ := hL.at_
      have hfr := hL.fr
      obtain ⟨x, hx⟩ : ∃ x, xs[k]? = some x := ⟨_, List.getElem?_eq_getElem (by have := HO.out.2.2.2.2.2; omega)⟩
      have hvk : wr.cell? ⟨vb, vo + k, none⟩ = some (I x) := by
        have := HV.out k x hx
        rw [World.cell?_of_block (hfr.block vb (World.block_lt_of_cell? _ _ this) (fun h => h.elim HO.out.2.2.1 HO.out.2.2.2.1))]
        exact this
      have hbx : wr.cell? ⟨N + 1, 0, none⟩ = some (.slice (some ⟨N, 0, none⟩) m m) := by
        rw [World.cell?_of_block (hfr.block (N + 1) HN.out.2 (fun h => h.elim HO.out.2.1 (fun h => by omega)))]
        exact HB.out
      have hkl : K.length = k := by
        have := hmem.len
        simpa [cellsS] using this.symm
      have h10 := (body10 (hmem.grows (v' := wr.drew) ⟨Nat.le_refl _, fun _ _ => rfl, rfl, rfl⟩).mem x (by have := HO.out.2.2.2.2.1; simp [cellsS]; omega)).calls Try.func10 rfl
      have H10 : Hid (Calls Try.prog 10 #[Pt S.wb 0, I x] wr.drew (fun e w' => ∃ r, e = .returned r ∧ ∃ cb cv', r = Pt cb 0 ∧ w'.cell? ⟨N + 1, 0, none⟩ = some (.slice (some ⟨N, 0, none⟩) m m) ∧ (w'.cell? ⟨N, k, none⟩ = some (.pointer none) ∧ w'.frozen? ⟨N, k, none⟩ = false) ∧ Hid (∀ u, u.heap = (w'.setCell ⟨N, k, none⟩ (Pt cb 0)).heap → u.os = w'.os → u.output = w'.output → Made v S xs N m (k + 1) u))) := ⟨h10.mono (by
        rintro e w' ⟨r, rfl, cb, cv', rfl, hm1, hf1, hn1⟩
        have hwr : wr.drew.heap.size = wr.heap.size := rfl
        have hN2 := HN.out
        have hs := hfr.size
        have no : ∀ b, b < v.heap.size → ¬ Own S [] b → ¬ Own (cellsS S cv k) K b := fun b hb ho h => (hown b h).elim ho (fun h => by omega)
        refine ⟨_, rfl, cb, cv', rfl, ?_, ⟨?_, ?_⟩, ⟨fun u h1 h2 h3 => ?_⟩⟩
        · rw [World.cell?_of_block (w := wr.drew) (w' := w') (hf1.block (N + 1) (by omega) (no _ hN2.2 HO.out.2.1))]
          exact hbx
        · rw [World.cell?_of_block (w := wr.drew) (w' := w') (hf1.block N (by omega) (no _ hN2.1 HO.out.1))]
          have := hrow.cell hlt
          rw [if_neg (by omega)] at this
          exact this
        · rw [World.frozen?_of_block (w := wr.drew) (w' := w') (hf1.block N (by omega) (no _ hN2.1 HO.out.1))]
          exact hrow.frozen k
        · exact made_next hN2.1 HO.out.1 hK hrow hown hfr hkl hlt hx hm1 ⟨hf1.os, hf1.output, hf1.size, hf1.block⟩ hn1 h1 h2 h3)⟩
      clear h10 hmem hK hrow hown hfr hL hx hkl
      have hlt' : (k : Int) < (m : Int) := by omega
      have hNN : N + 1 ≠ N := by omega
      go_wp2_with fail
      go_region_held3 (fun u => u.cell? ⟨N + 1, 0, none⟩ = some (.slice (some ⟨N, 0, none⟩) m m))
        (first | (exact hcx) | (simp [go_sem, *]; done))
        (first
          | (go_at_call 10; refine H10.out.mono ?_; rintro e w5 ⟨_, rfl, cb, cv', rfl, hcx, ⟨hcn, hfn⟩, hnx⟩))
      clear H10 hvk hbx
      have hmb : m ≤ 17592186043904 := HO.out.2.2.2.2.1
      go_wp2_with fail
      go_roundw
      case rel => exact ⟨k + 1, by omega, by go_num, hnx.out _ rfl rfl rfl⟩
      case measure => simp [intOf]; omega
    · have hkk : k = m := by omega
      subst hkk
      clear hL
      go_wp2_with fail
      exact ⟨⟨fun m => match m with | 10 => u10 | 11 => u11 | 24 => .slice (some ⟨vb, vo, none⟩) k vcap | 25 => I k | 26 => I k | 27 => .bool false | 28 => u28 | 29 => u29 | 30 => u30 | 31 => u31 | 32 => u32 | 33 => u33 | 34 => u34 | 35 => u35 | 36 => u36 | 37 => u37 | _ => undef, by simp⟩, HL.out⟩
end
end Go.Proofs.Ytmgaojbfmohboaa
