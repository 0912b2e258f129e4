/- LatchAlone is true of the program at this commit: by one free thread alone, of a latch of no world, Down and Wait answer as a number says that is counted down, whatever the number and the calls; no conditions. Part 13 of 35. (Joined, by program, of: Play5, Pick.) -/
import Derived.Test.YtehingmdmijedaaLatchAlone11
import Derived.Test.YtehingmdmijedaaLatchAlone12
import Derived.WalkLawsBesides

/- What a Play of cells does for a call of a script (cell.Play's closure), in company: a call that adds. -/
set_option linter.unusedSimpArgs false
set_option linter.unusedVariables false
namespace Go.Proofs.Ytehingmdmijedaa
open Go Go.Lift Go.Conc Go.RowKit

/-- The place that a number names among so many. -/
def which (a : Int) (n : Nat) : Nat := (if a.tmod n < 0 then a.tmod n + n else a.tmod n).toNat
theorem which_lt (a : Int) {n : Nat} (h : 0 < n) : which a n < n := by
  unfold which
  have h1 := Int.tmod_lt_of_pos a (show (0 : Int) < n by omega)
  have h2 : -(n : Int) < a.tmod n := Int.lt_tmod_of_pos a (by omega)
  split <;> omega

theorem which_pos {a : Int} {n : Nat} (h : 0 ≤ a.tmod n) : a.tmod n = (which a n : Int) := by
  unfold which
  rw [if_neg (by omega), Int.toNat_of_nonneg h]
theorem which_neg {a : Int} {n : Nat} (h : a.tmod n < 0) (h0 : 0 < n) (hb : (n : Int) < 9223372036854775808) : wrap64 (a.tmod n + n) = (which a n : Int) := by
  have h2 : -(n : Int) < a.tmod n := Int.lt_tmod_of_pos a (by omega)
  unfold which
  rw [if_pos h, Int.toNat_of_nonneg (by omega)]
  unfold wrap64
  omega

set_option maxHeartbeats 1000000 in
set_option maxRecDepth 100000 in
theorem body22 (a : Int) (n : Nat) (h0 : 0 < n) (hb : (n : Int) < 9223372036854775808) (ha : -9223372036854775808 ≤ a ∧ a < 9223372036854775808) (w : World) : Body Try.f51 #[I a, I n] w (fun v w' => v = I (which a n) ∧ w' = w) := by
  intro code hb'
  obtain rfl := Option.some.inj hb'
  clear hb'
  simp only [Try.ntmps51, List.size_toArray, List.length_cons, List.length_nil, Nat.reduceAdd, Nat.reduceSub, Array.replicate_succ, Array.replicate_zero, List.push_toArray, List.append_toArray, List.nil_append, List.cons_append]
  have hne : ¬ ((n : Int) = 0) := by omega
  have HB : Hid ((n : Int) < 9223372036854775808 ∧ -9223372036854775808 ≤ a ∧ a < 9223372036854775808 ∧ 0 < n) := ⟨⟨hb, ha.1, ha.2, h0⟩⟩
  clear hb ha h0
  go_wp2_with fail
  all_goals
    go_ret
    rename_i h
    first
      | exact ⟨_, rfl, congrArg I (which_pos h), rfl⟩
      | exact ⟨_, rfl, congrArg I (which_neg h HB.out.2.2.2 HB.out.1), rfl⟩

/-- Served at its turn, the closure's call of a script comes back with its answer; it has laid it in memory of its own twice (ab, pb). -/
def PlayBack (main : Bool) (i j cb tb pb ab : Nat) (opn : Int) (eff : Int → (Int × Int) × Int × Value) (ans : Value → Array Value) (cl : Value → Goroutine) (g : Goroutine) : Prop :=
  ∀ (z : Nat → Option Nat) (Ch : Nat → Prop) (Stop : Goroutine → World → Prop) (y : Value) (w v : World) (S : TS) (K : List (Nat × Int)) (t : Thr) (x : Int), Rel z v w → NoRow Ch v → Mem z S K v → S.thr[i]? = some t → t.tb = tb → t.op = opn → t.ce = (j : Int) → K[j]? = some (cb, x) → (S.n + 1) * 40 ≤ 140737488355328 →
    v.heap[ab]? = some (.cells #[I 0, I 0] 42 (0, 0)) → ¬ Own S K ab → v.heap[pb]? = some (.cells #[I 0, I 0] 42 (0, 0)) → ¬ Own S K pb → pb ≠ ab →
    (∀ v' w' tv, Rel z v' w' → NoRow Ch v' → EvoP (fun b => b = ab ∨ b = pb) z S K v (didS S tv i t (eff x).1.1 (eff x).1.2) (K.set j (cb, (eff x).2.1)) v' → GoesI Try.prog main (DT (ScZ z) Ch) Stop (cl (.agg (ans (eff x).2.2))) w') →
    GoesI Try.prog main (DT (ScZ z) Ch) Stop (Go.Conc.served g y) w

noncomputable def play0 : Code := seq1 (Try.f50.body.getD .skip)
theorem finePlay0 : fineCode Try.prog true LT play0 := fineCode_ask callT extT (by kernel_rfl)
noncomputable def ops21 : Array Oper := opsOf (seq1 (seq2 (Try.f50.body.getD .skip)))
/-- What the closure's second statement computes ahead of the call. -/
def val21 (csl agg : Value) (N rb j cb tb m : Nat) (ca : Int) : Nat → Value
  | 0 => csl
  | 1 => Pt N 1
  | 2 => I ca
  | 3 => csl
  | 4 => I m
  | 5 => I j
  | 6 => Pt rb j
  | 7 => Pt cb 0
  | 8 => Pt tb 0
  | 9 => agg
  | _ => undef
theorem lead21 : leadsOn .any ops21 10 = true := by kernel_rfl
theorem text21 : inText .any ops21 10 = true := by kernel_rfl
theorem mix21 : Try.prog.follows .mixedOrders = true := by kernel_rfl
theorem fineOps21 (i : Nat) (hi : i < 10) (o : Oper) (ho : ops21[i]? = some o) : fineOp Try.prog true LT o := by
  have h : ((ops21.extract 0 10).all fun o => plainOp Try.prog true o.op || askCall plainFs plainXs o.op) = true := by kernel_rfl
  refine fineOp_ask callT extT ((Array.all_eq_true_iff_forall_mem.1 h) o ?_)
  have : (ops21.extract 0 10)[i]? = some o := by
    have hs := (Array.getElem?_eq_some_iff.1 ho).1
    rw [Array.getElem?_extract, if_pos (by omega)]
    simpa using ho
  exact Array.mem_of_getElem? this
theorem rest21 (t : Nat) : Region.linearise.go .any ops21 (ops21.size - 10) t (listedN ops21.size 10) [] = [10, 11] := by
  have e1 : ((List.range ops21.size).filter fun i => !(listedN ops21.size 10).getD i true && ((ops21[i]?).map (·.after.all fun e => !Region.binds .any e || (listedN ops21.size 10).getD e.on false)).getD false) = [10] := by kernel_rfl
  have e2 : ((List.range ops21.size).filter fun i => !((listedN ops21.size 10).setIfInBounds 10 true).getD i true && ((ops21[i]?).map (·.after.all fun e => !Region.binds .any e || ((listedN ops21.size 10).setIfInBounds 10 true).getD e.on false)).getD false) = [11] := by kernel_rfl
  have e0 : ops21.size - 10 = 2 := by kernel_rfl
  rw [e0]
  unfold Region.linearise.go
  simp only [e1, List.length_cons, List.length_nil, Nat.zero_add, Nat.mod_one, List.getElem?_cons_zero]
  unfold Region.linearise.go
  simp only [e2, List.length_cons, List.length_nil, Nat.zero_add, Nat.mod_one, List.getElem?_cons_zero]
  rfl

theorem fineFn_body {P : Program} {L : FuncId → Prop} {f : FuncId} {fn : Func} {c : Code} (hL : ∀ g, L g → fineFn P true L g) (hf : L f) (h1 : P.funcs[f]? = some fn) (h2 : fn.body = some c) : fineCode P true L c := by
  obtain ⟨fn', c', h3, h4, h5, _⟩ := hL f hf
  rw [h1] at h3
  cases h3
  rw [h2] at h4
  cases h4
  exact h5
theorem dst21 (i : Nat) (hi : i < 10) (o : Oper) (ho : ops21[i]? = some o) : o.dst = some (6 + i) := by
  have h : ((List.range 10).all fun i => (ops21[i]?).map (·.dst) == some (some (6 + i))) = true := by kernel_rfl
  have := (List.all_eq_true.1 h) i (by simpa using hi)
  rw [ho] at this
  simpa using this
theorem guard21 (i : Nat) (hi : i < 12) (o : Oper) (ho : ops21[i]? = some o) : o.guard = none := by
  have h : ((List.range 12).all fun i => ((ops21[i]?).map (·.guard.isNone)) == some true) = true := by kernel_rfl
  have := (List.all_eq_true.1 h) i (by simpa using hi)
  rw [ho] at this
  simpa using this
theorem op21 {i : Nat} {o : Oper} {p : Op} (h : (ops21[i]?).map (·.op) = some p) (ho : ops21[i]? = some o) : o.op = p := by
  rw [ho] at h
  exact Option.some.inj h
theorem after21 {i j : Nat} {o : Oper} (h : ((ops21[i]?).map (fun o => o.after.toList.any fun e => e.on == j && Region.binds .any e)) = some true) (ho : ops21[i]? = some o) {l : Array Bool} (hd : ∀ e ∈ o.after.toList, Region.binds .any e = true → l.getD e.on false = true) : l.getD j false = true := by
  rw [ho] at h
  simp only [Option.map_some, Option.some.injEq, List.any_eq_true, Bool.and_eq_true, beq_iff_eq] at h
  obtain ⟨e, he, rfl, hb⟩ := h
  exact hd e he hb

set_option maxHeartbeats 1000000 in
set_option maxRecDepth 100000 in
theorem play5_goes {z : Nat → Option Nat} {Ch : Nat → Prop} {Stop : Goroutine → World → Prop} {h : Nat} {cont : Addr → Value} {S : TS} {K : List (Nat × Int)} {v w : World} {i cb xb rb cap : Nat} {t : Thr} (ca n cc x : Int) (hca : -9223372036854775808 ≤ ca ∧ ca < 9223372036854775808) (hKl : 0 < K.length ∧ (K.length : Int) < 9223372036854775808)
    (hx0 : v.cell? ⟨xb, 0, none⟩ = some (.slice (some ⟨rb, 0, none⟩) K.length cap)) (hx1 : v.cell? ⟨rb, which ca K.length, none⟩ = some (Pt cb 0)) (cs : List Frame) (Hm : Goroutine → Prop) {bc : Frame} {ac : Act} {ops : Array Oper} {q : Nat} {rest : List Nat} {oc : Oper} {k : List Item} (hoc : ops[q]? = some oc)
    (hH : ∀ g, PlayBack (h == 0) i (which ca K.length) cb t.tb (v.heap.size + 1) (v.heap.size + 3) 5 (effAdd n) (fun r => #[I 0, r]) (fun r => G (bc.at (ac.put oc.dst r) (.inRegion ops rest :: k)) cs) g → Hm g)
    (hvw : Rel z v w) (hn : NoRow Ch v) (hm : Mem z S K v) (ht : S.thr[i]? = some t) (hK : K[which ca K.length]? = some (cb, x)) (hz : z t.tb = some 2) (hcont : cont ⟨t.tb, 2, none⟩ = .chan (some t.gc))
    (hstop : ∀ v1 g w', Grows v v1 → v1.heap[v.heap.size + 1]? = some (.cells #[I 0, I 0] 42 (0, 0)) → v1.heap[v.heap.size + 3]? = some (.cells #[I 0, I 0] 42 (0, 0)) → GiveT z cont h S.bk t.gc Hm (Then z Ch S K v1 (waiting S i t 1 5 (which ca K.length)) K) g w' → Stop g w') (code : Code) (hc : Try.f50.body = some code) :
    GoesI Try.prog (h == 0) (DT (ScZ z) Ch) Stop (G ((base 50).at { tmps := #[Pt t.tb 0, .agg #[I 5, I ca, I n, I cc], Pt xb 0] ++ Array.replicate 14 undef, defers := [] } [.code code]) (bc.at ac (.inRegion ops (q :: rest) :: k) :: cs)) w := by
  have hw0 : code = .seq play0 (seq2 (Try.f50.body.getD .skip)) := by
    rw [hc]; obtain rfl := Option.some.inj hc; rfl
  subst hw0
  clear hc
  refine goesI_seq (dt_idle _ _) ?_
  refine goesI_plain (z := z) (wr := true) (L := LT) (I := NoRow Ch) hE fineT noRow_keeps (fun v v' w w' es hi hr ho he => dt_of_z v v' w w' es hi hr ho he) hvw finePlay0 rfl (by simp [base]) hn
    (Q := fun a w' => a = { tmps := #[Pt t.tb 0, .agg #[I 5, I ca, I n, I cc], Pt xb 0, undef, Pt v.heap.size 0, Pt (v.heap.size + 1) 0] ++ Array.replicate 11 undef, defers := [] } ∧
      w'.heap = (v.heap.push (.cells #[I 5, I ca, I n, I cc] 39)).push (.cells #[I 0, I 0] 42) ∧ w'.os = v.os ∧ w'.output = v.output) (fun τ => ?_) ?_
  · show Code.wp Try.prog (seq1 (Try.f50.body.getD .skip)) _ _ _
    unfold Try.f50 seq1
    simp only [Option.getD_some, Array.replicate_succ, Array.replicate_zero, List.push_toArray, List.append_toArray, List.nil_append, List.cons_append]
    go_wp2_with fail
    exact ⟨rfl, rfl, rfl, rfl⟩
  rintro a' v' w' ⟨rfl, hv1, hv2, hv3⟩ hr' hn' -
  have hsz : v'.heap.size = v.heap.size + 2 := by rw [hv1]; simp
  have hg : Grows v v' := ⟨by omega, fun b hb => by rw [hv1, Array.getElem?_push, if_neg (by simp; omega), Array.getElem?_push, if_neg (by omega)], hv2, hv3⟩
  have hbox : v'.heap[v.heap.size]? = some (.cells #[I 5, I ca, I n, I cc] 39) := by rw [hv1, Array.getElem?_push, if_neg (by simp)]; exact Array.getElem?_push_size
  have hans : v'.heap[v.heap.size + 1]? = some (.cells #[I 0, I 0] 42) := by rw [hv1, Array.getElem?_push, if_pos (by simp)]
  have b0 : v'.cell? ⟨v.heap.size, 0, none⟩ = some (I 5) := by simp [World.cell?, hbox]
  have b1 : v'.cell? ⟨v.heap.size, 1, none⟩ = some (I ca) := by simp [World.cell?, hbox]
  have b2 : v'.cell? ⟨v.heap.size, 2, none⟩ = some (I n) := by simp [World.cell?, hbox]
  have b3 : v'.cell? ⟨v.heap.size, 3, none⟩ = some (I cc) := by simp [World.cell?, hbox]
  have x0 := hg.cell hx0
  have x1 := hg.cell hx1
  have hev := hm.grows hg
  have hj : which ca K.length < K.length := which_lt ca hKl.1
  simp only [Array.replicate_succ, Array.replicate_zero, List.push_toArray, List.append_toArray, List.nil_append, List.cons_append]
  have hs2 : seq2 (Try.f50.body.getD .skip) = .seq (.region 1 ops21 true) .ret := rfl
  rw [hs2]
  refine goesI_seq (dt_idle _ _) ?_
  refine goesI_region_quiet (n := 10) (val := val21 (.slice (some ⟨rb, 0, none⟩) K.length cap) (.agg #[I 5, I ca, I n, I cc]) v.heap.size rb (which ca K.length) cb t.tb K.length ca) (J := fun w => Rel z v' w) mix21 (fun w d hJ => hJ.re rfl rfl rfl rfl rfl rfl) (fun w => dt_draw _ _ w) lead21 text21 (on := ops21[10]'(by decide)) rfl ?_ ?_ ?_
    { tmps := #[Pt t.tb 0, .agg #[I 5, I ca, I n, I cc], Pt xb 0, undef, Pt v.heap.size 0, Pt (v.heap.size + 1) 0, .slice (some ⟨rb, 0, none⟩) K.length cap, Pt v.heap.size 1, I ca, .slice (some ⟨rb, 0, none⟩) K.length cap, I K.length, I (which ca K.length), Pt rb (which ca K.length), Pt cb 0, Pt t.tb 0, .agg #[I 5, I ca, I n, I cc], undef], defers := [] } ?_ ?_ hr'
  · intro i1 j1 oi oj t1 h1 h2 h3 h4 h5 h6
    rw [dst21 i1 h1 oi h3] at h5
    rw [dst21 j1 h2 oj h4] at h6
    have := Option.some.inj (h5.trans h6.symm)
    omega
  · intro i1 o1 t1 h1 h2 h3
    rw [dst21 i1 h1 o1 h2] at h3
    have := Option.some.inj h3
    subst this
    show (6 + i1 : Nat) < 17
    omega
  · intro i' o rest' listed a w1 hi ho hdep hagr hJ hgo
    have ev : ∀ j, j < 10 → listed.getD j false = true → a.eval (.tmp (6 + j)) = val21 (.slice (some ⟨rb, 0, none⟩) K.length cap) (.agg #[I 5, I ca, I n, I cc]) v.heap.size rb (which ca K.length) cb t.tb K.length ca j := fun j hj hl =>
      hagr.eval hj (o := ops21[j]'(by have : ops21.size = 12 := rfl; omega)) (Array.getElem?_eq_getElem _) hl (dst21 j hj _ (Array.getElem?_eq_getElem _))
    have ev0 : ∀ t' : Nat, t' < 6 → a.eval (.tmp t') = _ := fun t' ht' => hagr.eval0 (t := t') (fun j o hj ho e => by
      rw [dst21 j hj o ho] at e
      have : (6 + j : Nat) = t' := Option.some.inj e
      omega)
    have e0 : a.eval (.tmp 0) = Pt t.tb 0 := ev0 0 (by omega)
    have e2 : a.eval (.tmp 2) = Pt xb 0 := ev0 2 (by omega)
    have e4 : a.eval (.tmp 4) = Pt v.heap.size 0 := ev0 4 (by omega)
    have hw : Region.wanted o (yielded ops21 a.tmps) = true := by simp [Region.wanted, guard21 i' (by omega) o ho]
    by_cases h5 : i' = 5
    · subst h5
      have hop := op21 (p := .call { callee := .value (.func 51), args := #[.tmp 8, .tmp 10], argTypes := #[3, 3] }) rfl ho
      have l2 := ev 2 (by omega) (after21 (by kernel_rfl) ho hdep)
      have l4 := ev 4 (by omega) (after21 (by kernel_rfl) ho hdep)
      refine goesI_call (f := 51) (fn := Try.f51) (args := #[I ca, I K.length]) hE fineT ho hw (by simp [base]) hop (by simp only [List.map_toArray, List.map_cons, List.map_nil]; rw [l2, l4]; rfl) Try.func51 (by kernel_rfl) rfl (fineFn_body fineT (by simp [LT, plainFs]) Try.func51 rfl) (fun tmps => ⟨_, fun w => results_tmp rfl _ _ _, fun w => by simp [results, go_sem]⟩) hJ hn'
        (R := fun r u => r = I (which ca K.length) ∧ u.heap = v'.heap ∧ u.os = v'.os ∧ u.output = v'.output) (fun τ => ?_) (fun r u w2 hR hr2 _ => ?_)
      · exact wp_mono (body22 ca K.length hKl.1 hKl.2 hca (onTape v' τ 0) _ rfl) (bp_mono fun r u hq => ⟨hq.1, by rw [hq.2]; rfl, by rw [hq.2]; rfl, by rw [hq.2]; rfl⟩)
      · obtain ⟨rfl, q1, q2, q3⟩ := hR
        exact hgo w2 (hr2.re q1.symm rfl q2.symm rfl q3.symm rfl)
    · have hrun : (execOp a.eval o).run Try.prog v' = .ok (.value (val21 (.slice (some ⟨rb, 0, none⟩) K.length cap) (.agg #[I 5, I ca, I n, I cc]) v.heap.size rb (which ca K.length) cb t.tb K.length ca i')) v' := by
        have hjl : ((which ca K.length : Nat) : Int) < (K.length : Int) := by omega
        match i', hi, h5, ho with
        | 0, _, _, ho => have hop := op21 (p := .load 81 (.tmp 2)) rfl ho; unfold execOp; rw [hop]; simp only [e2]; simp [go_sem, x0, val21]
        | 1, _, _, ho => have hop := op21 (p := .fieldAddr 39 (.tmp 4) 1) rfl ho; unfold execOp; rw [hop]; simp only [e4]; simp [go_sem, val21]
        | 2, _, _, ho => have hop := op21 (p := .load 3 (.tmp 7)) rfl ho; have l : a.eval (.tmp 7) = Pt v.heap.size 1 := ev 1 (by omega) (after21 (by kernel_rfl) ho hdep); unfold execOp; rw [hop]; simp only [l]; simp [go_sem, b1, val21]
        | 3, _, _, ho => have hop := op21 (p := .load 81 (.tmp 2)) rfl ho; unfold execOp; rw [hop]; simp only [e2]; simp [go_sem, x0, val21]
        | 4, _, _, ho => have hop := op21 (p := .call { callee := .builtin .len, args := #[.tmp 9], argTypes := #[81] }) rfl ho; have l : a.eval (.tmp 9) = .slice (some ⟨rb, 0, none⟩) K.length cap := ev 3 (by omega) (after21 (by kernel_rfl) ho hdep); unfold execOp; rw [hop]; simp only [resolve, List.map_toArray, List.map_cons, List.map_nil, l]; simp [go_sem, val21]
        | 5, _, h5, _ => exact absurd rfl h5
        | 6, _, _, ho => have hop := op21 (p := .indexAddr 81 (.tmp 6) (.tmp 11)) rfl ho; have l : a.eval (.tmp 6) = .slice (some ⟨rb, 0, none⟩) K.length cap := ev 0 (by omega) (after21 (by kernel_rfl) ho hdep); have l' : a.eval (.tmp 11) = I (which ca K.length) := ev 5 (by omega) (after21 (by kernel_rfl) ho hdep); unfold execOp; rw [hop]; simp only [l, l']; simp [go_sem, val21, hjl]
        | 7, _, _, ho => have hop := op21 (p := .load 44 (.tmp 12)) rfl ho; have l : a.eval (.tmp 12) = Pt rb (which ca K.length) := ev 6 (by omega) (after21 (by kernel_rfl) ho hdep); unfold execOp; rw [hop]; simp only [l]; simp [go_sem, x1, val21]
        | 8, _, _, ho => have hop := op21 (p := .move (.tmp 0)) rfl ho; unfold execOp; rw [hop]; simp only [e0]; simp [go_sem, val21]
        | 9, _, _, ho => have hop := op21 (p := .load 39 (.tmp 4)) rfl ho; unfold execOp; rw [hop]; simp only [e4]; simp [go_sem, b0, b1, b2, b3, val21]
      exact goesI_opZ ho hw (by simp [base]) (fineOps21 i' hi o ho) hJ hn' hrun rfl (fun w2 hr2 _ => hgo w2 hr2)
  · refine ⟨rfl, rfl, fun j o t' hj ho _ hd => ?_, fun t' hne => ?_⟩
    · rw [dst21 j hj o ho] at hd
      have : (6 + j : Nat) = t' := Option.some.inj hd
      subst this
      match j, hj with
      | 0, _ => rfl
      | 1, _ => rfl
      | 2, _ => rfl
      | 3, _ => rfl
      | 4, _ => rfl
      | 5, _ => rfl
      | 6, _ => rfl
      | 7, _ => rfl
      | 8, _ => rfl
      | 9, _ => rfl
    · have hcase : ∀ m : Nat, m < 10 → t' ≠ 6 + m := fun m hm e => by
        have hs : m < ops21.size := by have : ops21.size = 12 := rfl; omega
        refine hne m (ops21[m]'hs) hm (Array.getElem?_eq_getElem hs) ?_ ((dst21 m hm _ (Array.getElem?_eq_getElem hs)).trans (by rw [e]))
        rw [Array.getD_eq_getD_getElem?, listedN_get hs]
        simp [hm]
      match t', hcase with
      | 0, _ => rfl
      | 1, _ => rfl
      | 2, _ => rfl
      | 3, _ => rfl
      | 4, _ => rfl
      | 5, _ => rfl
      | 6, h => exact absurd rfl (h 0 (by omega))
      | 7, h => exact absurd rfl (h 1 (by omega))
      | 8, h => exact absurd rfl (h 2 (by omega))
      | 9, h => exact absurd rfl (h 3 (by omega))
      | 10, h => exact absurd rfl (h 4 (by omega))
      | 11, h => exact absurd rfl (h 5 (by omega))
      | 12, h => exact absurd rfl (h 6 (by omega))
      | 13, h => exact absurd rfl (h 7 (by omega))
      | 14, h => exact absurd rfl (h 8 (by omega))
      | 15, h => exact absurd rfl (h 9 (by omega))
      | 16, _ => rfl
      | m + 17, _ => rfl
  · intro tt w1 hJ
    rw [rest21]
    refine goesI_into (f := 52) (fn := Try.f52) (args := #[Pt cb 0, Pt t.tb 0, .agg #[I 5, I ca, I n, I cc]]) (dt_idle _ _) (o := ops21[10]'(by decide)) rfl rfl (by decide) rfl (by simp [Act.eval]) Try.func52 (by decide) rfl ?_
    have e3 : v'.heap.size + 1 = v.heap.size + 3 := by omega
    refine call5_goes ca n cc x _ (fun _ => Hm) rfl (fun g hg => hH g ?_) hJ hn' hev.mem ht hK hz hcont (fun v1 g w2 hg1 hab hgv => hstop v1 g w2 ⟨Nat.le_trans hg.size hg1.size, fun b hb => (hg1.old b (Nat.lt_of_lt_of_le hb hg.size)).trans (hg.old b hb), hg1.os.trans hg.os, hg1.output.trans hg.output⟩ ?_ (by rw [← e3]; exact hab) (give_mono ?_ hgv)) _ rfl
    · rw [e3] at hg
      intro z1 Ch1 St y w1 v1 S1 K1 t1 x1 r1 n1 m1 h1 htb hop hce hK1 hn1 hab hown hpb hownp hne hk
      refine hg z1 Ch1 St y w1 v1 S1 K1 t1 x1 r1 n1 m1 h1 htb hop hce hK1 hn1 hab hown (fun v2 w2 tv r2 n2 ev => ?_)
      have hlt : v.heap.size + 1 < v1.heap.size := (Array.getElem?_eq_some_iff.1 hpb).1
      have hpb2 : v2.heap[v.heap.size + 1]? = some (.cells #[I 0, I 0] 42 (0, 0)) := by rw [ev.fr.block _ hlt (fun h => h.elim hownp hne)]; exact hpb
      have hown2 : ¬ Own (didS S1 tv i t1 (effAdd n x1).1.1 (effAdd n x1).1.2) (K1.set (which ca K.length) (cb, (effAdd n x1).2.1)) (v.heap.size + 1) := fun hO => (ev.new _ hO).elim hownp (fun hle => by omega)
      have q0 : v2.cell? ⟨v.heap.size + 1, 0, none⟩ = some (I 0) := by simp [World.cell?, hpb2]
      have q1 : v2.cell? ⟨v.heap.size + 1, 1, none⟩ = some (I 0) := by simp [World.cell?, hpb2]
      have p0 : v2.frozen? ⟨v.heap.size + 1, 0, none⟩ = false := by simp [World.frozen?, hpb2]
      have p1 : v2.frozen? ⟨v.heap.size + 1, 1, none⟩ = false := by simp [World.frozen?, hpb2]
      have e3 := (ev.wider (Pr' := fun b => b = v.heap.size + 3 ∨ b = v.heap.size + 1) (fun b _ hb => .inl hb)).trans ((ev.mem.other (v' := (v2.setCell ⟨v.heap.size + 1, 0, none⟩ (I 0)).setCell ⟨v.heap.size + 1, 1, none⟩ (I (wrap64 (x1 + n)))) hown2 (fun b hb => by rw [Below.heap_setCell _ _ _ _ hb, Below.heap_setCell _ _ _ _ hb]) (by simp [World.setCell]) rfl rfl).wider (fun b _ hb => .inr hb))
      have hrow : ((v2.setCell ⟨v.heap.size + 1, 0, none⟩ (I 0)).setCell ⟨v.heap.size + 1, 1, none⟩ (I (wrap64 (x1 + n)))).heap[v.heap.size + 1]? = some (.cells #[I 0, I (wrap64 (x1 + n))] 42 (0, 0)) := by
        have := heap_setCell_same (o := 1) (heap_setCell_same (o := 0) hpb2 (I 0)) (I (wrap64 (x1 + n)))
        simpa using this
      refine goesI_doZ (L := LT) (o := ops21[11]'(by decide)) rfl rfl (by decide) (fineOp_ask callT extT (by kernel_rfl)) r2 n2 (v' := (v2.setCell ⟨v.heap.size + 1, 0, none⟩ (I 0)).setCell ⟨v.heap.size + 1, 1, none⟩ (I (wrap64 (x1 + n)))) ?_ rfl (fun w3 r3 n3 => ?_)
      · have hop : (ops21[11]'(by decide)).op = .store 42 (.tmp 5) (.tmp 16) := rfl
        have hd : (ops21[10]'(by decide)).dst = some 16 := rfl
        unfold execOp
        rw [hop, hd]
        simp [go_sem, Act.eval, Act.put, q0, q1, p0, p1, effAdd]
      · refine goesI_regionEnd (dt_idle _ _) ?_
        refine GoesI.ctl rfl (fun _ => stepG_ret') (dt_idle _ _) ?_
        refine goesI_leaveZ (f := 50) (fn := Try.f50) (x := .agg #[I 0, I (wrap64 (x1 + n))]) r3 n3 Try.func50 rfl hoc ?_ (fun w' r' => hk _ w' tv r' n3 e3)
        generalize ((v2.setCell ⟨v.heap.size + 1, 0, none⟩ (I 0)).setCell ⟨v.heap.size + 1, 1, none⟩ (I (wrap64 (x1 + n)))) = V at hrow
        have k0 : V.cell? ⟨v.heap.size + 1, 0, none⟩ = some (I 0) := by simp [World.cell?, hrow]
        have k1 : V.cell? ⟨v.heap.size + 1, 1, none⟩ = some (I (wrap64 (x1 + n))) := by simp [World.cell?, hrow]
        have hd : (ops21[10]'(by decide)).dst = some 16 := rfl
        have hd' : (ops21[11]'(by decide)).dst = none := rfl
        rw [hd, hd']
        simp [results, go_sem, Try.f50, Act.put, k0, k1]
    · rw [hg1.old _ (by omega)]; exact hans
    · intro hF; exact hF
end Go.Proofs.Ytehingmdmijedaa

/- Who goes (turn.pick), walked alone. -/
set_option linter.unusedSimpArgs false
set_option linter.unusedVariables false
namespace Go.Proofs.Ytehingmdmijedaa
open Go Go.Lift Go.Conc Go.RowKit

/-- Numbers of the world's row are written. -/
theorem world_set {z : Nat → Option Nat} {S : TS} {v : World} (h : Rep z S v) (u : Nat) (l : Int) (b : Bool) (o : Nat) (x : Value) (hw : (wrow S).setIfInBounds o x = wrow { S with us := u, la := l, stk := b }) : Ev z S v { S with us := u, la := l, stk := b } (v.setCell ⟨S.wb, o, none⟩ x) := by
  have hst : ∀ k b, blk S k = some b → k ≠ 0 → (v.setCell ⟨S.wb, o, none⟩ x).heap[b]? = v.heap[b]? := fun k b hk h0 => Below.heap_setCell _ _ _ _ (fun e => h0 (h.apart k 0 b hk (by rw [e]; rfl)))
  refine ⟨⟨?_, fun i t ht => ?_, own_stay (fun b hb => hst 3 b hb (by omega)) h.own, own_stay (fun b hb => hst 1 b hb (by omega)) h.chg, own_stay (fun b hb => hst 2 b hb (by omega)) h.ths, own_stay (fun b hb => hst 4 b hb (by omega)) h.sch, ?_, fun j k b hj hk => ?_, h.kept⟩, ⟨rfl, rfl, by simp [World.setCell], fun b _ hs => Below.heap_setCell _ _ _ _ (fun e => hs ⟨0, by rw [e]; rfl⟩)⟩, fun b ⟨k, hk⟩ => .inl ⟨k, ?_⟩⟩
  · have := heap_setCell_same (o := o) h.wor x
    rw [hw] at this
    exact this
  · rw [hst (i + 5) t.tb (by simp only [blk]; rw [show S.thr[i]? = some t from ht]; rfl) (by omega)]
    exact h.thr i t ht
  · show S.base ≤ _
    simpa [World.setCell] using h.bs
  · refine h.apart j k b ?_ ?_
    · rw [← hj]; match j with | 0 => rfl | 1 => rfl | 2 => rfl | 3 => rfl | 4 => rfl | j + 5 => rfl
    · rw [← hk]; match k with | 0 => rfl | 1 => rfl | 2 => rfl | 3 => rfl | 4 => rfl | k + 5 => rfl
  · rw [← hk]; match k with | 0 => rfl | 1 => rfl | 2 => rfl | 3 => rfl | 4 => rfl | k + 5 => rfl

/-- A slice of pointers, read. -/
def PtrRow (w : World) (v : Value) (bs : List Nat) : Prop := ∃ g cap, v = .slice (some ⟨g, 0, none⟩) bs.length cap ∧ ∀ (k b : Nat), bs[k]? = some b → w.cell? ⟨g, k, none⟩ = some (Pt b 0)
/-- Which of those that could go goes. -/
def pickAt (S : TS) (ids : List Nat) : Nat := if S.us < S.sched.length then which (S.sched.getD S.us 0) ids.length else (ids.findIdx? (fun (i : Nat) => decide (S.la < (i : Int)))).getD 0
def picked (S : TS) : TS := if S.us < S.sched.length then { S with us := S.us + 1 } else S

theorem find_at {l : List Nat} {a : Int} {k i : Nat} (h1 : l[k]? = some i) (h2 : a < (i : Int)) (h3 : ∀ (j i : Nat), j < k → l[j]? = some i → (i : Int) ≤ a) : l.findIdx? (fun (i : Nat) => decide (a < (i : Int))) = some k := by
  have hk := (List.getElem?_eq_some_iff.1 h1).1
  rw [List.findIdx?_eq_some_iff_getElem]
  refine ⟨hk, ?_, fun j hj => ?_⟩
  · have : l[k] = i := by rw [List.getElem?_eq_getElem hk] at h1; exact Option.some.inj h1
    simp [this, h2]
  · have := h3 j _ hj (List.getElem?_eq_getElem (by omega))
    simpa using this
theorem find_none {l : List Nat} {a : Int} (h3 : ∀ (j i : Nat), j < l.length → l[j]? = some i → (i : Int) ≤ a) : l.findIdx? (fun (i : Nat) => decide (a < (i : Int))) = none := by
  rw [List.findIdx?_eq_none_iff]
  intro x hx
  obtain ⟨j, hj, rfl⟩ := List.mem_iff_getElem.1 hx
  have := h3 j _ hj (List.getElem?_eq_getElem hj)
  simpa using this

set_option maxHeartbeats 1000000 in
set_option maxRecDepth 100000 in
theorem body72 {z : Nat → Option Nat} {S : TS} {v : World} (h : Rep z S v) (lv : Value) (ids bs : List Nat) (hl : PtrRow v lv bs) (hlw : ∀ g, lv.ownBlock = some g → ¬ Its S g) (hlen : bs.length = ids.length) (hids : ∀ (k i b : Nat), ids[k]? = some i → bs[k]? = some b → ∃ t, S.thr[i]? = some t ∧ t.tb = b) (h0 : 0 < ids.length) (hm : ids.length ≤ 8) (hus : S.sched.length ≤ 4611686018427387904) (hsc : ∀ x ∈ S.sched, -9223372036854775808 ≤ x ∧ x < 9223372036854775808) :
    Body Try.f129 #[Pt S.wb 0, lv] v (fun r v' => (∃ b, bs[pickAt S ids]? = some b ∧ r = Pt b 0) ∧ Ev z S v (picked S) v') := by
  obtain ⟨g, cap, rfl, hrow⟩ := hl
  intro code hb
  obtain rfl := Option.some.inj hb
  clear hb
  simp only [Try.ntmps129, List.size_toArray, List.length_cons, List.length_nil, Nat.reduceAdd, Nat.reduceSub, Array.replicate_succ, Array.replicate_zero, List.push_toArray, List.append_toArray, List.nil_append, List.cons_append]
  obtain ⟨w0, w1, w2, _⟩ := h.wcell
  obtain ⟨p, pc, hp⟩ := own_form h.sch
  rw [hp] at w0
  have f1 := fz_off h 1 (by omega)
  by_cases hu : S.us < S.sched.length
  · obtain ⟨sg, scap, e1, e2, e3⟩ := ints_cell h.sch (List.getElem?_eq_getElem hu)
    rw [hp] at e1
    cases e1
    have hx := hsc _ (List.getElem_mem hu)
    have HX : Hid (S.sched.getD S.us 0 = S.sched[S.us]) := ⟨by simp [List.getD_eq_getElem?_getD, List.getElem?_eq_getElem hu]⟩
    generalize hxs : S.sched[S.us] = x at e2 hx HX
    have HW : Hid (∀ V : World, V.heap = v.heap → V.os = v.os → V.output = v.output → Ev z S v (picked S) (V.setCell ⟨S.wb, 1, none⟩ (I (wrap64 ((S.us : Int) + 1))))) := ⟨fun V q1 q2 q3 => by
      have ew : wrap64 ((S.us : Int) + 1) = (S.us : Int) + 1 := IntWalk.wrap64_in _ (by omega)
      rw [ew]
      have := ((Ev.refl h).same q1 q2 q3).trans (world_set (h.same q1) (S.us + 1) S.la S.stk 1 (I ((S.us : Int) + 1)) (by simp))
      unfold picked
      rw [if_pos hu]
      exact this⟩
    have HU : Hid (S.us < S.sched.length) := ⟨hu⟩
    have HR : Hid (∀ (k b : Nat), bs[k]? = some b → v.cell? ⟨g, k, none⟩ = some (Pt b 0)) := ⟨hrow⟩
    have hu' : (S.us : Int) < (S.sched.length : Int) := by omega
    have hn0 : ¬ ((bs.length : Int) = 0) := by omega
    have HH : Hid (-9223372036854775808 ≤ x ∧ x < 9223372036854775808) := ⟨hx⟩
    clear hrow hids hsc hxs hx h hus
    have hgw : g ≠ S.wb := fun e => hlw g rfl ⟨0, by rw [e]; rfl⟩
    have hgw' : S.wb ≠ g := fun e => hgw e.symm
    obtain ⟨k, hk⟩ : ∃ k, which x bs.length = k := ⟨_, rfl⟩
    have hkl : k < bs.length := by rw [← hk]; exact which_lt x (by omega)
    have hcell := HR.out k _ (List.getElem?_eq_getElem hkl)
    have HK : Hid (pickAt S ids = k ∧ bs[k]? = some bs[k]) := ⟨⟨by unfold pickAt; rw [if_pos hu, HX.out, ← hlen]; exact hk, List.getElem?_eq_getElem hkl⟩⟩
    generalize bs[k] = b at hcell HK
    have hkz : (0 : Int) ≤ (k : Int) := by omega
    have hkl' : (k : Int) < (bs.length : Int) := by omega
    by_cases hneg : x.tmod (bs.length : Int) < 0
    · have hwr : wrap64 (x.tmod (bs.length : Int) + (bs.length : Int)) = (k : Int) := by rw [← hk]; exact which_neg hneg (by omega) (by omega)
      clear hlen h0 hm hlw hk hu hkl
      generalize bs.length = nn at *
      go_wp2_with fail
      go_quiet (fail)
      go_wp2_with fail
      go_quiet (fail)
      go_wp2_with fail
      go_ret
      exact ⟨_, rfl, ⟨b, by rw [HK.out.1]; exact HK.out.2, rfl⟩, HW.out _ rfl rfl rfl⟩
    · have hpos : x.tmod (bs.length : Int) = (k : Int) := by rw [← hk]; exact which_pos (by omega)
      clear hlen h0 hm hlw hk hu hkl hneg
      generalize bs.length = nn at *
      go_wp2_with fail
      go_quiet (fail)
      go_wp2_with fail
      go_quiet (fail)
      go_wp2_with fail
      go_ret
      exact ⟨_, rfl, ⟨b, by rw [HK.out.1]; exact HK.out.2, rfl⟩, HW.out _ rfl rfl rfl⟩
  · have hu' : (decide (S.us < S.sched.length)) = false := by simpa using (by omega : S.sched.length ≤ S.us)
    have HE : Hid (∀ n, Ev z S v (picked S) (v.drewN n)) := ⟨fun n => by unfold picked; rw [if_neg hu]; exact (Ev.refl h).same rfl rfl rfl⟩
    have HP : Hid (pickAt S ids = (ids.findIdx? (fun (i : Nat) => decide (S.la < (i : Int)))).getD 0) := ⟨by unfold pickAt; rw [if_neg hu]⟩
    have HC : Hid (∀ k, k < bs.length → ∃ (i b : Nat), ids[k]? = some i ∧ bs[k]? = some b ∧ v.cell? ⟨g, k, none⟩ = some (Pt b 0) ∧ v.cell? ⟨b, 1, none⟩ = some (I i)) := ⟨fun k hk => by
      have h1 : ids[k]? = some ids[k] := List.getElem?_eq_getElem (by omega)
      have h2 : bs[k]? = some bs[k] := List.getElem?_eq_getElem hk
      obtain ⟨t, ht, htb⟩ := hids k _ _ h1 h2
      exact ⟨_, _, h1, h2, hrow k _ h2, by rw [← htb]; exact (h.cell ht).2.1⟩⟩
    have HL : Hid (bs.length = ids.length ∧ 0 < ids.length) := ⟨⟨hlen, h0⟩⟩
    have hnb : bs.length ≤ 8 := by omega
    clear hrow hids hsc hlen h0 hm hlw h hus f1
    go_wp2_with fail
    go_quiet (fail)
    go_wp2_with fail
    go_loopw [50] (fun i u => ∃ k : Nat, k ≤ bs.length ∧ i = .int .i64 k ∧ (∀ (j i : Nat), j < k → ids[j]? = some i → (i : Int) ≤ S.la) ∧ ∃ q, u = v.drewN q) (fun i _ => bs.length - (intOf i).toNat)
    case atStart => exact ⟨0, Nat.zero_le _, rfl, fun j _ hj => absurd hj (Nat.not_lt_zero _), _, rfl⟩
    case round =>
      obtain ⟨k, hk, rfl, hso, qn, rfl⟩ := hrel
      have HSO : Hid (∀ (j i : Nat), j < k → ids[j]? = some i → (i : Int) ≤ S.la) := ⟨hso⟩
      clear hso
      by_cases hlt : k < bs.length
      · obtain ⟨i1, b1, h1, h2, h3, h4⟩ := HC.out k hlt
        have H12 : Hid (ids[k]? = some i1 ∧ bs[k]? = some b1) := ⟨⟨h1, h2⟩⟩
        clear h1 h2
        have hlt' : (k : Int) < (bs.length : Int) := by omega
        by_cases hla : S.la < (i1 : Int)
        · have HLA : Hid (S.la < (i1 : Int)) := ⟨hla⟩
          go_wp2_with fail
          go_quiet (fail)
          go_wp2_with fail
          go_ret
          refine ⟨_, rfl, ⟨b1, ?_, rfl⟩, by rw [World.drewN_drewN]; exact HE.out _⟩
          have : ids.findIdx? (fun (i : Nat) => decide (S.la < (i : Int))) = some k := find_at H12.out.1 HLA.out HSO.out
          rw [HP.out, this]
          exact H12.out.2
        · have HLA : Hid ((i1 : Int) ≤ S.la) := ⟨by omega⟩
          have hla' : (decide (S.la < (i1 : Int))) = false := by simpa using hla
          clear hla
          go_wp2_with fail
          go_quiet (fail)
          go_wp2_with fail
          go_roundw
          case rel => exact ⟨k + 1, by omega, by go_num, fun j i hj hi => by
            by_cases e : j = k
            · subst e; rw [H12.out.1] at hi; cases hi; exact HLA.out
            · exact HSO.out j i (by omega) hi, _, rfl⟩
          case measure => simp [intOf]; omega
      · have hkk : k = bs.length := by omega
        subst hkk
        obtain ⟨i1, b1, h1, h2, h3, h4⟩ := HC.out 0 (by have := HL.out; omega)
        have H12 : Hid (ids[0]? = some i1 ∧ bs[0]? = some b1) := ⟨⟨h1, h2⟩⟩
        have hz : (0 : Int) < (bs.length : Int) := by have := HL.out; omega
        have hz' : 0 < bs.length := by have := HL.out; omega
        clear h1 h2
        go_wp2_with fail
        go_ret
        refine ⟨_, rfl, ⟨b1, ?_, rfl⟩, HE.out _⟩
        have : ids.findIdx? (fun (i : Nat) => decide (S.la < (i : Int))) = none := find_none (fun j i hj hi => HSO.out j i (by have := HL.out; omega) hi)
        rw [HP.out, this]
        exact H12.out.2
end Go.Proofs.Ytehingmdmijedaa
