/- The statement CellAdds of the package butlerlaw02 (cell), in full form: for every input the law answers true, and its arguments read behind the call as before; no conditions. Part 13 of 36. (Joined, by program, of: Play5, Carry2, Carry3.) -/
import Derived.Test.YtmgaojbfmohboaaCellAdds11
import Derived.Test.YtmgaojbfmohboaaCellAdds12

/- What a Play of cells does for a call of a script (cell.Play's closure), in company: a call that adds. -/
set_option linter.unusedSimpArgs false
set_option linter.unusedVariables false
namespace Go.Proofs.Ytmgaojbfmohboaa
open Go Go.Lift Go.Conc Go.RowKit

/-- The place that a number names among so many. -/
def which (a : Int) (n : Nat) : Nat := (if a.tmod n < 0 then a.tmod n + n else a.tmod n).toNat
theorem which_lt (a : Int) {n : Nat} (h : 0 < n) : which a n < n := by
  unfold which
  have h1 := Int.tmod_lt_of_pos a (show (0 : Int) < n by omega)
  have h2 : -(n : Int) < a.tmod n := Int.lt_tmod_of_pos a (by omega)
  split <;> omega

theorem which_pos {a : Int} {n : Nat} (h : 0 ≤ a.tmod n) : a.tmod n = (which a n : Int) := by
  unfold which
  rw [if_neg (by omega), Int.toNat_of_nonneg h]
theorem which_neg {a : Int} {n : Nat} (h : a.tmod n < 0) (h0 : 0 < n) (hb : (n : Int) < 9223372036854775808) : wrap64 (a.tmod n + n) = (which a n : Int) := by
  have h2 : -(n : Int) < a.tmod n := Int.lt_tmod_of_pos a (by omega)
  unfold which
  rw [if_pos h, Int.toNat_of_nonneg (by omega)]
  unfold wrap64
  omega

set_option maxHeartbeats 1000000 in
set_option maxRecDepth 100000 in
theorem body22 (a : Int) (n : Nat) (h0 : 0 < n) (hb : (n : Int) < 9223372036854775808) (ha : -9223372036854775808 ≤ a ∧ a < 9223372036854775808) (w : World) : Body Try.f22 #[I a, I n] w (fun v w' => v = I (which a n) ∧ w' = w) := by
  intro code hb'
  obtain rfl := Option.some.inj hb'
  clear hb'
  simp only [Try.ntmps22, List.size_toArray, List.length_cons, List.length_nil, Nat.reduceAdd, Nat.reduceSub, Array.replicate_succ, Array.replicate_zero, List.push_toArray, List.append_toArray, List.nil_append, List.cons_append]
  have hne : ¬ ((n : Int) = 0) := by omega
  have HB : Hid ((n : Int) < 9223372036854775808 ∧ -9223372036854775808 ≤ a ∧ a < 9223372036854775808 ∧ 0 < n) := ⟨⟨hb, ha.1, ha.2, h0⟩⟩
  clear hb ha h0
  go_wp2_with fail
  all_goals
    go_ret
    rename_i h
    first
      | exact ⟨_, rfl, congrArg I (which_pos h), rfl⟩
      | exact ⟨_, rfl, congrArg I (which_neg h HB.out.2.2.2 HB.out.1), rfl⟩

/-- Served at its turn, the closure's call of a script comes back with its answer; it has laid it in memory of its own twice (ab, pb). -/
def PlayBack (main : Bool) (i j cb tb pb ab : Nat) (opn : Int) (eff : Int → (Int × Int) × Int × Value) (ans : Value → Array Value) (cl : Value → Goroutine) (g : Goroutine) : Prop :=
  ∀ (z : Nat → Option Nat) (Ch : Nat → Prop) (Stop : Goroutine → World → Prop) (y : Value) (w v : World) (S : TS) (K : List (Nat × Int)) (t : Thr) (x : Int), Rel z v w → NoRow Ch v → Mem z S K v → S.thr[i]? = some t → t.tb = tb → t.op = opn → t.ce = (j : Int) → K[j]? = some (cb, x) → (S.n + 1) * 40 ≤ 140737488355328 →
    v.heap[ab]? = some (.cells #[I 0, I 0] 42 (0, 0)) → ¬ Own S K ab → v.heap[pb]? = some (.cells #[I 0, I 0] 42 (0, 0)) → ¬ Own S K pb → pb ≠ ab →
    (∀ v' w' tv, Rel z v' w' → NoRow Ch v' → EvoP (fun b => b = ab ∨ b = pb) z S K v (didS S tv i t (eff x).1.1 (eff x).1.2) (K.set j (cb, (eff x).2.1)) v' → GoesI Try.prog main (DT (ScZ z) Ch) Stop (cl (.agg (ans (eff x).2.2))) w') →
    GoesI Try.prog main (DT (ScZ z) Ch) Stop (Go.Conc.served g y) w

noncomputable def play0 : Code := seq1 (Try.f21.body.getD .skip)
theorem finePlay0 : fineCode Try.prog true LT play0 := fineCode_ask callT extT (by kernel_rfl)
noncomputable def ops21 : Array Oper := opsOf (seq1 (seq2 (Try.f21.body.getD .skip)))
/-- What the closure's second statement computes ahead of the call. -/
def val21 (csl agg : Value) (N rb j cb tb m : Nat) (ca : Int) : Nat → Value
  | 0 => csl
  | 1 => Pt N 1
  | 2 => I ca
  | 3 => csl
  | 4 => I m
  | 5 => I j
  | 6 => Pt rb j
  | 7 => Pt cb 0
  | 8 => Pt tb 0
  | 9 => agg
  | _ => undef
theorem lead21 : leadsOn .any ops21 10 = true := by kernel_rfl
theorem text21 : inText .any ops21 10 = true := by kernel_rfl
theorem mix21 : Try.prog.follows .mixedOrders = true := by kernel_rfl
theorem fineOps21 (i : Nat) (hi : i < 10) (o : Oper) (ho : ops21[i]? = some o) : fineOp Try.prog true LT o := by
  have h : ((ops21.extract 0 10).all fun o => plainOp Try.prog true o.op || askCall plainFs plainXs o.op) = true := by kernel_rfl
  refine fineOp_ask callT extT ((Array.all_eq_true_iff_forall_mem.1 h) o ?_)
  have : (ops21.extract 0 10)[i]? = some o := by
    have hs := (Array.getElem?_eq_some_iff.1 ho).1
    rw [Array.getElem?_extract, if_pos (by omega)]
    simpa using ho
  exact Array.mem_of_getElem? this
theorem rest21 (t : Nat) : Region.linearise.go .any ops21 (ops21.size - 10) t (listedN ops21.size 10) [] = [10, 11] := by
  have e1 : ((List.range ops21.size).filter fun i => !(listedN ops21.size 10).getD i true && ((ops21[i]?).map (·.after.all fun e => !Region.binds .any e || (listedN ops21.size 10).getD e.on false)).getD false) = [10] := by kernel_rfl
  have e2 : ((List.range ops21.size).filter fun i => !((listedN ops21.size 10).setIfInBounds 10 true).getD i true && ((ops21[i]?).map (·.after.all fun e => !Region.binds .any e || ((listedN ops21.size 10).setIfInBounds 10 true).getD e.on false)).getD false) = [11] := by kernel_rfl
  have e0 : ops21.size - 10 = 2 := by kernel_rfl
  rw [e0]
  unfold Region.linearise.go
  simp only [e1, List.length_cons, List.length_nil, Nat.zero_add, Nat.mod_one, List.getElem?_cons_zero]
  unfold Region.linearise.go
  simp only [e2, List.length_cons, List.length_nil, Nat.zero_add, Nat.mod_one, List.getElem?_cons_zero]
  rfl

theorem fineFn_body {P : Program} {L : FuncId → Prop} {f : FuncId} {fn : Func} {c : Code} (hL : ∀ g, L g → fineFn P true L g) (hf : L f) (h1 : P.funcs[f]? = some fn) (h2 : fn.body = some c) : fineCode P true L c := by
  obtain ⟨fn', c', h3, h4, h5, _⟩ := hL f hf
  rw [h1] at h3
  cases h3
  rw [h2] at h4
  cases h4
  exact h5
theorem dst21 (i : Nat) (hi : i < 10) (o : Oper) (ho : ops21[i]? = some o) : o.dst = some (6 + i) := by
  have h : ((List.range 10).all fun i => (ops21[i]?).map (·.dst) == some (some (6 + i))) = true := by kernel_rfl
  have := (List.all_eq_true.1 h) i (by simpa using hi)
  rw [ho] at this
  simpa using this
theorem guard21 (i : Nat) (hi : i < 12) (o : Oper) (ho : ops21[i]? = some o) : o.guard = none := by
  have h : ((List.range 12).all fun i => ((ops21[i]?).map (·.guard.isNone)) == some true) = true := by kernel_rfl
  have := (List.all_eq_true.1 h) i (by simpa using hi)
  rw [ho] at this
  simpa using this
theorem op21 {i : Nat} {o : Oper} {p : Op} (h : (ops21[i]?).map (·.op) = some p) (ho : ops21[i]? = some o) : o.op = p := by
  rw [ho] at h
  exact Option.some.inj h
theorem after21 {i j : Nat} {o : Oper} (h : ((ops21[i]?).map (fun o => o.after.toList.any fun e => e.on == j && Region.binds .any e)) = some true) (ho : ops21[i]? = some o) {l : Array Bool} (hd : ∀ e ∈ o.after.toList, Region.binds .any e = true → l.getD e.on false = true) : l.getD j false = true := by
  rw [ho] at h
  simp only [Option.map_some, Option.some.injEq, List.any_eq_true, Bool.and_eq_true, beq_iff_eq] at h
  obtain ⟨e, he, rfl, hb⟩ := h
  exact hd e he hb

set_option maxHeartbeats 1000000 in
set_option maxRecDepth 100000 in
theorem play5_goes {z : Nat → Option Nat} {Ch : Nat → Prop} {Stop : Goroutine → World → Prop} {h : Nat} {cont : Addr → Value} {S : TS} {K : List (Nat × Int)} {v w : World} {i cb xb rb cap : Nat} {t : Thr} (ca n cc x : Int) (hca : -9223372036854775808 ≤ ca ∧ ca < 9223372036854775808) (hKl : 0 < K.length ∧ (K.length : Int) < 9223372036854775808)
    (hx0 : v.cell? ⟨xb, 0, none⟩ = some (.slice (some ⟨rb, 0, none⟩) K.length cap)) (hx1 : v.cell? ⟨rb, which ca K.length, none⟩ = some (Pt cb 0)) (cs : List Frame) (Hm : Goroutine → Prop) {bc : Frame} {ac : Act} {ops : Array Oper} {q : Nat} {rest : List Nat} {oc : Oper} {k : List Item} (hoc : ops[q]? = some oc)
    (hH : ∀ g, PlayBack (h == 0) i (which ca K.length) cb t.tb (v.heap.size + 1) (v.heap.size + 3) 5 (effAdd n) (fun r => #[I 0, r]) (fun r => G (bc.at (ac.put oc.dst r) (.inRegion ops rest :: k)) cs) g → Hm g)
    (hvw : Rel z v w) (hn : NoRow Ch v) (hm : Mem z S K v) (ht : S.thr[i]? = some t) (hK : K[which ca K.length]? = some (cb, x)) (hz : z t.tb = some 2) (hcont : cont ⟨t.tb, 2, none⟩ = .chan (some t.gc))
    (hstop : ∀ v1 g w', Grows v v1 → v1.heap[v.heap.size + 1]? = some (.cells #[I 0, I 0] 42 (0, 0)) → v1.heap[v.heap.size + 3]? = some (.cells #[I 0, I 0] 42 (0, 0)) → GiveT z cont h S.bk t.gc Hm (Then z Ch S K v1 (waiting S i t 1 5 (which ca K.length)) K) g w' → Stop g w') (code : Code) (hc : Try.f21.body = some code) :
    GoesI Try.prog (h == 0) (DT (ScZ z) Ch) Stop (G ((base 21).at { tmps := #[Pt t.tb 0, .agg #[I 5, I ca, I n, I cc], Pt xb 0] ++ Array.replicate 14 undef, defers := [] } [.code code]) (bc.at ac (.inRegion ops (q :: rest) :: k) :: cs)) w := by
  have hw0 : code = .seq play0 (seq2 (Try.f21.body.getD .skip)) := by
    rw [hc]; obtain rfl := Option.some.inj hc; rfl
  subst hw0
  clear hc
  refine goesI_seq (dt_idle _ _) ?_
  refine goesI_plain (z := z) (wr := true) (L := LT) (I := NoRow Ch) hE fineT noRow_keeps (fun v v' w w' es hi hr ho he => dt_of_z v v' w w' es hi hr ho he) hvw finePlay0 rfl (by simp [base]) hn
    (Q := fun a w' => a = { tmps := #[Pt t.tb 0, .agg #[I 5, I ca, I n, I cc], Pt xb 0, undef, Pt v.heap.size 0, Pt (v.heap.size + 1) 0] ++ Array.replicate 11 undef, defers := [] } ∧
      w'.heap = (v.heap.push (.cells #[I 5, I ca, I n, I cc] 39)).push (.cells #[I 0, I 0] 42) ∧ w'.os = v.os ∧ w'.output = v.output) (fun τ => ?_) ?_
  · show Code.wp Try.prog (seq1 (Try.f21.body.getD .skip)) _ _ _
    unfold Try.f21 seq1
    simp only [Option.getD_some, Array.replicate_succ, Array.replicate_zero, List.push_toArray, List.append_toArray, List.nil_append, List.cons_append]
    go_wp2_with fail
    exact ⟨rfl, rfl, rfl, rfl⟩
  rintro a' v' w' ⟨rfl, hv1, hv2, hv3⟩ hr' hn' -
  have hsz : v'.heap.size = v.heap.size + 2 := by rw [hv1]; simp
  have hg : Grows v v' := ⟨by omega, fun b hb => by rw [hv1, Array.getElem?_push, if_neg (by simp; omega), Array.getElem?_push, if_neg (by omega)], hv2, hv3⟩
  have hbox : v'.heap[v.heap.size]? = some (.cells #[I 5, I ca, I n, I cc] 39) := by rw [hv1, Array.getElem?_push, if_neg (by simp)]; exact Array.getElem?_push_size
  have hans : v'.heap[v.heap.size + 1]? = some (.cells #[I 0, I 0] 42) := by rw [hv1, Array.getElem?_push, if_pos (by simp)]
  have b0 : v'.cell? ⟨v.heap.size, 0, none⟩ = some (I 5) := by simp [World.cell?, hbox]
  have b1 : v'.cell? ⟨v.heap.size, 1, none⟩ = some (I ca) := by simp [World.cell?, hbox]
  have b2 : v'.cell? ⟨v.heap.size, 2, none⟩ = some (I n) := by simp [World.cell?, hbox]
  have b3 : v'.cell? ⟨v.heap.size, 3, none⟩ = some (I cc) := by simp [World.cell?, hbox]
  have x0 := hg.cell hx0
  have x1 := hg.cell hx1
  have hev := hm.grows hg
  have hj : which ca K.length < K.length := which_lt ca hKl.1
  simp only [Array.replicate_succ, Array.replicate_zero, List.push_toArray, List.append_toArray, List.nil_append, List.cons_append]
  have hs2 : seq2 (Try.f21.body.getD .skip) = .seq (.region 1 ops21 true) .ret := rfl
  rw [hs2]
  refine goesI_seq (dt_idle _ _) ?_
  refine goesI_region_quiet (n := 10) (val := val21 (.slice (some ⟨rb, 0, none⟩) K.length cap) (.agg #[I 5, I ca, I n, I cc]) v.heap.size rb (which ca K.length) cb t.tb K.length ca) (J := fun w => Rel z v' w) mix21 (fun w d hJ => hJ.re rfl rfl rfl rfl rfl rfl) (fun w => dt_draw _ _ w) lead21 text21 (on := ops21[10]'(by decide)) rfl ?_ ?_ ?_
    { tmps := #[Pt t.tb 0, .agg #[I 5, I ca, I n, I cc], Pt xb 0, undef, Pt v.heap.size 0, Pt (v.heap.size + 1) 0, .slice (some ⟨rb, 0, none⟩) K.length cap, Pt v.heap.size 1, I ca, .slice (some ⟨rb, 0, none⟩) K.length cap, I K.length, I (which ca K.length), Pt rb (which ca K.length), Pt cb 0, Pt t.tb 0, .agg #[I 5, I ca, I n, I cc], undef], defers := [] } ?_ ?_ hr'
  · intro i1 j1 oi oj t1 h1 h2 h3 h4 h5 h6
    rw [dst21 i1 h1 oi h3] at h5
    rw [dst21 j1 h2 oj h4] at h6
    have := Option.some.inj (h5.trans h6.symm)
    omega
  · intro i1 o1 t1 h1 h2 h3
    rw [dst21 i1 h1 o1 h2] at h3
    have := Option.some.inj h3
    subst this
    show (6 + i1 : Nat) < 17
    omega
  · intro i' o rest' listed a w1 hi ho hdep hagr hJ hgo
    have ev : ∀ j, j < 10 → listed.getD j false = true → a.eval (.tmp (6 + j)) = val21 (.slice (some ⟨rb, 0, none⟩) K.length cap) (.agg #[I 5, I ca, I n, I cc]) v.heap.size rb (which ca K.length) cb t.tb K.length ca j := fun j hj hl =>
      hagr.eval hj (o := ops21[j]'(by have : ops21.size = 12 := rfl; omega)) (Array.getElem?_eq_getElem _) hl (dst21 j hj _ (Array.getElem?_eq_getElem _))
    have ev0 : ∀ t' : Nat, t' < 6 → a.eval (.tmp t') = _ := fun t' ht' => hagr.eval0 (t := t') (fun j o hj ho e => by
      rw [dst21 j hj o ho] at e
      have : (6 + j : Nat) = t' := Option.some.inj e
      omega)
    have e0 : a.eval (.tmp 0) = Pt t.tb 0 := ev0 0 (by omega)
    have e2 : a.eval (.tmp 2) = Pt xb 0 := ev0 2 (by omega)
    have e4 : a.eval (.tmp 4) = Pt v.heap.size 0 := ev0 4 (by omega)
    have hw : Region.wanted o (yielded ops21 a.tmps) = true := by simp [Region.wanted, guard21 i' (by omega) o ho]
    by_cases h5 : i' = 5
    · subst h5
      have hop := op21 (p := .call { callee := .value (.func 22), args := #[.tmp 8, .tmp 10], argTypes := #[3, 3] }) rfl ho
      have l2 := ev 2 (by omega) (after21 (by kernel_rfl) ho hdep)
      have l4 := ev 4 (by omega) (after21 (by kernel_rfl) ho hdep)
      refine goesI_call (f := 22) (fn := Try.f22) (args := #[I ca, I K.length]) hE fineT ho hw (by simp [base]) hop (by simp only [List.map_toArray, List.map_cons, List.map_nil]; rw [l2, l4]; rfl) Try.func22 (by kernel_rfl) rfl (fineFn_body fineT (by simp [LT, plainFs]) Try.func22 rfl) (fun tmps => ⟨_, fun w => results_tmp rfl _ _ _, fun w => by simp [results, go_sem]⟩) hJ hn'
        (R := fun r u => r = I (which ca K.length) ∧ u.heap = v'.heap ∧ u.os = v'.os ∧ u.output = v'.output) (fun τ => ?_) (fun r u w2 hR hr2 _ => ?_)
      · exact wp_mono (body22 ca K.length hKl.1 hKl.2 hca (onTape v' τ 0) _ rfl) (bp_mono fun r u hq => ⟨hq.1, by rw [hq.2]; rfl, by rw [hq.2]; rfl, by rw [hq.2]; rfl⟩)
      · obtain ⟨rfl, q1, q2, q3⟩ := hR
        exact hgo w2 (hr2.re q1.symm rfl q2.symm rfl q3.symm rfl)
    · have hrun : (execOp a.eval o).run Try.prog v' = .ok (.value (val21 (.slice (some ⟨rb, 0, none⟩) K.length cap) (.agg #[I 5, I ca, I n, I cc]) v.heap.size rb (which ca K.length) cb t.tb K.length ca i')) v' := by
        have hjl : ((which ca K.length : Nat) : Int) < (K.length : Int) := by omega
        match i', hi, h5, ho with
        | 0, _, _, ho => have hop := op21 (p := .load 60 (.tmp 2)) rfl ho; unfold execOp; rw [hop]; simp only [e2]; simp [go_sem, x0, val21]
        | 1, _, _, ho => have hop := op21 (p := .fieldAddr 39 (.tmp 4) 1) rfl ho; unfold execOp; rw [hop]; simp only [e4]; simp [go_sem, val21]
        | 2, _, _, ho => have hop := op21 (p := .load 3 (.tmp 7)) rfl ho; have l : a.eval (.tmp 7) = Pt v.heap.size 1 := ev 1 (by omega) (after21 (by kernel_rfl) ho hdep); unfold execOp; rw [hop]; simp only [l]; simp [go_sem, b1, val21]
        | 3, _, _, ho => have hop := op21 (p := .load 60 (.tmp 2)) rfl ho; unfold execOp; rw [hop]; simp only [e2]; simp [go_sem, x0, val21]
        | 4, _, _, ho => have hop := op21 (p := .call { callee := .builtin .len, args := #[.tmp 9], argTypes := #[60] }) rfl ho; have l : a.eval (.tmp 9) = .slice (some ⟨rb, 0, none⟩) K.length cap := ev 3 (by omega) (after21 (by kernel_rfl) ho hdep); unfold execOp; rw [hop]; simp only [resolve, List.map_toArray, List.map_cons, List.map_nil, l]; simp [go_sem, val21]
        | 5, _, h5, _ => exact absurd rfl h5
        | 6, _, _, ho => have hop := op21 (p := .indexAddr 60 (.tmp 6) (.tmp 11)) rfl ho; have l : a.eval (.tmp 6) = .slice (some ⟨rb, 0, none⟩) K.length cap := ev 0 (by omega) (after21 (by kernel_rfl) ho hdep); have l' : a.eval (.tmp 11) = I (which ca K.length) := ev 5 (by omega) (after21 (by kernel_rfl) ho hdep); unfold execOp; rw [hop]; simp only [l, l']; simp [go_sem, val21, hjl]
        | 7, _, _, ho => have hop := op21 (p := .load 44 (.tmp 12)) rfl ho; have l : a.eval (.tmp 12) = Pt rb (which ca K.length) := ev 6 (by omega) (after21 (by kernel_rfl) ho hdep); unfold execOp; rw [hop]; simp only [l]; simp [go_sem, x1, val21]
        | 8, _, _, ho => have hop := op21 (p := .move (.tmp 0)) rfl ho; unfold execOp; rw [hop]; simp only [e0]; simp [go_sem, val21]
        | 9, _, _, ho => have hop := op21 (p := .load 39 (.tmp 4)) rfl ho; unfold execOp; rw [hop]; simp only [e4]; simp [go_sem, b0, b1, b2, b3, val21]
      exact goesI_opZ ho hw (by simp [base]) (fineOps21 i' hi o ho) hJ hn' hrun rfl (fun w2 hr2 _ => hgo w2 hr2)
  · refine ⟨rfl, rfl, fun j o t' hj ho _ hd => ?_, fun t' hne => ?_⟩
    · rw [dst21 j hj o ho] at hd
      have : (6 + j : Nat) = t' := Option.some.inj hd
      subst this
      match j, hj with
      | 0, _ => rfl
      | 1, _ => rfl
      | 2, _ => rfl
      | 3, _ => rfl
      | 4, _ => rfl
      | 5, _ => rfl
      | 6, _ => rfl
      | 7, _ => rfl
      | 8, _ => rfl
      | 9, _ => rfl
    · have hcase : ∀ m : Nat, m < 10 → t' ≠ 6 + m := fun m hm e => by
        have hs : m < ops21.size := by have : ops21.size = 12 := rfl; omega
        refine hne m (ops21[m]'hs) hm (Array.getElem?_eq_getElem hs) ?_ ((dst21 m hm _ (Array.getElem?_eq_getElem hs)).trans (by rw [e]))
        rw [Array.getD_eq_getD_getElem?, listedN_get hs]
        simp [hm]
      match t', hcase with
      | 0, _ => rfl
      | 1, _ => rfl
      | 2, _ => rfl
      | 3, _ => rfl
      | 4, _ => rfl
      | 5, _ => rfl
      | 6, h => exact absurd rfl (h 0 (by omega))
      | 7, h => exact absurd rfl (h 1 (by omega))
      | 8, h => exact absurd rfl (h 2 (by omega))
      | 9, h => exact absurd rfl (h 3 (by omega))
      | 10, h => exact absurd rfl (h 4 (by omega))
      | 11, h => exact absurd rfl (h 5 (by omega))
      | 12, h => exact absurd rfl (h 6 (by omega))
      | 13, h => exact absurd rfl (h 7 (by omega))
      | 14, h => exact absurd rfl (h 8 (by omega))
      | 15, h => exact absurd rfl (h 9 (by omega))
      | 16, _ => rfl
      | m + 17, _ => rfl
  · intro tt w1 hJ
    rw [rest21]
    refine goesI_into (f := 23) (fn := Try.f23) (args := #[Pt cb 0, Pt t.tb 0, .agg #[I 5, I ca, I n, I cc]]) (dt_idle _ _) (o := ops21[10]'(by decide)) rfl rfl (by decide) rfl (by simp [Act.eval]) Try.func23 (by decide) rfl ?_
    have e3 : v'.heap.size + 1 = v.heap.size + 3 := by omega
    refine call5_goes ca n cc x _ (fun _ => Hm) rfl (fun g hg => hH g ?_) hJ hn' hev.mem ht hK hz hcont (fun v1 g w2 hg1 hab hgv => hstop v1 g w2 ⟨Nat.le_trans hg.size hg1.size, fun b hb => (hg1.old b (Nat.lt_of_lt_of_le hb hg.size)).trans (hg.old b hb), hg1.os.trans hg.os, hg1.output.trans hg.output⟩ ?_ (by rw [← e3]; exact hab) (give_mono ?_ hgv)) _ rfl
    · rw [e3] at hg
      intro z1 Ch1 St y w1 v1 S1 K1 t1 x1 r1 n1 m1 h1 htb hop hce hK1 hn1 hab hown hpb hownp hne hk
      refine hg z1 Ch1 St y w1 v1 S1 K1 t1 x1 r1 n1 m1 h1 htb hop hce hK1 hn1 hab hown (fun v2 w2 tv r2 n2 ev => ?_)
      have hlt : v.heap.size + 1 < v1.heap.size := (Array.getElem?_eq_some_iff.1 hpb).1
      have hpb2 : v2.heap[v.heap.size + 1]? = some (.cells #[I 0, I 0] 42 (0, 0)) := by rw [ev.fr.block _ hlt (fun h => h.elim hownp hne)]; exact hpb
      have hown2 : ¬ Own (didS S1 tv i t1 (effAdd n x1).1.1 (effAdd n x1).1.2) (K1.set (which ca K.length) (cb, (effAdd n x1).2.1)) (v.heap.size + 1) := fun hO => (ev.new _ hO).elim hownp (fun hle => by omega)
      have q0 : v2.cell? ⟨v.heap.size + 1, 0, none⟩ = some (I 0) := by simp [World.cell?, hpb2]
      have q1 : v2.cell? ⟨v.heap.size + 1, 1, none⟩ = some (I 0) := by simp [World.cell?, hpb2]
      have p0 : v2.frozen? ⟨v.heap.size + 1, 0, none⟩ = false := by simp [World.frozen?, hpb2]
      have p1 : v2.frozen? ⟨v.heap.size + 1, 1, none⟩ = false := by simp [World.frozen?, hpb2]
      have e3 := (ev.wider (Pr' := fun b => b = v.heap.size + 3 ∨ b = v.heap.size + 1) (fun b _ hb => .inl hb)).trans ((ev.mem.other (v' := (v2.setCell ⟨v.heap.size + 1, 0, none⟩ (I 0)).setCell ⟨v.heap.size + 1, 1, none⟩ (I (wrap64 (x1 + n)))) hown2 (fun b hb => by rw [Below.heap_setCell _ _ _ _ hb, Below.heap_setCell _ _ _ _ hb]) (by simp [World.setCell]) rfl rfl).wider (fun b _ hb => .inr hb))
      have hrow : ((v2.setCell ⟨v.heap.size + 1, 0, none⟩ (I 0)).setCell ⟨v.heap.size + 1, 1, none⟩ (I (wrap64 (x1 + n)))).heap[v.heap.size + 1]? = some (.cells #[I 0, I (wrap64 (x1 + n))] 42 (0, 0)) := by
        have := heap_setCell_same (o := 1) (heap_setCell_same (o := 0) hpb2 (I 0)) (I (wrap64 (x1 + n)))
        simpa using this
      refine goesI_doZ (L := LT) (o := ops21[11]'(by decide)) rfl rfl (by decide) (fineOp_ask callT extT (by kernel_rfl)) r2 n2 (v' := (v2.setCell ⟨v.heap.size + 1, 0, none⟩ (I 0)).setCell ⟨v.heap.size + 1, 1, none⟩ (I (wrap64 (x1 + n)))) ?_ rfl (fun w3 r3 n3 => ?_)
      · have hop : (ops21[11]'(by decide)).op = .store 42 (.tmp 5) (.tmp 16) := rfl
        have hd : (ops21[10]'(by decide)).dst = some 16 := rfl
        unfold execOp
        rw [hop, hd]
        simp [go_sem, Act.eval, Act.put, q0, q1, p0, p1, effAdd]
      · refine goesI_regionEnd (dt_idle _ _) ?_
        refine GoesI.ctl rfl (fun _ => stepG_ret') (dt_idle _ _) ?_
        refine goesI_leaveZ (f := 21) (fn := Try.f21) (x := .agg #[I 0, I (wrap64 (x1 + n))]) r3 n3 Try.func21 rfl hoc ?_ (fun w' r' => hk _ w' tv r' n3 e3)
        generalize ((v2.setCell ⟨v.heap.size + 1, 0, none⟩ (I 0)).setCell ⟨v.heap.size + 1, 1, none⟩ (I (wrap64 (x1 + n)))) = V at hrow
        have k0 : V.cell? ⟨v.heap.size + 1, 0, none⟩ = some (I 0) := by simp [World.cell?, hrow]
        have k1 : V.cell? ⟨v.heap.size + 1, 1, none⟩ = some (I (wrap64 (x1 + n))) := by simp [World.cell?, hrow]
        have hd : (ops21[10]'(by decide)).dst = some 16 := rfl
        have hd' : (ops21[11]'(by decide)).dst = none := rfl
        rw [hd, hd']
        simp [results, go_sem, Try.f21, Act.put, k0, k1]
    · rw [hg1.old _ (by omega)]; exact hans
    · intro hF; exact hF
end Go.Proofs.Ytmgaojbfmohboaa

/- A script is carried out (play.carryOut), in company: a call is taken from it, up to the closure's entry. -/
set_option linter.unusedSimpArgs false
set_option linter.unusedVariables false
namespace Go.Proofs.Ytmgaojbfmohboaa
open Go Go.Lift Go.Conc Go.RowKit

noncomputable def ops347 : Array Oper := opsOf (seq1 (seq2 (seq2 (seq2 (blockC (seq1 (seq2 (seq2 L34))))))))
noncomputable def R89 : Code := seq2 (seq2 (seq2 (seq2 (blockC (seq1 (seq2 (seq2 L34)))))))
noncomputable def R10 : Code := seq2 (seq2 (seq2 L34))
/-- What the frame holds where the closure is called: the call's box lies at N. -/
noncomputable def cAct (tb : Nat) (csl F asl : Value) (rb ro n ii N : Nat) (x : Value) (u : Nat → Value) : Act :=
  ⟨#[Pt tb 0, csl, F, asl, undef, undef, undef, undef, .bool false, I ii, Pt N 0, csl, I n, I ii, .bool true, I ii, Pt rb (ro + ii * 4), x, .bool false, u 19, u 20, u 21, u 22, Pt tb 0] ++ #[I ii, .tuple #[], asl, I ii, F, Pt tb 0, x, u 31, u 32, u 33, u 34, u 35, u 36, u 37, u 38, u 39, u 40, u 41, u 42, u 43, u 44, u 45, u 46, u 47], []⟩

set_option maxHeartbeats 2000000 in
set_option maxRecDepth 100000 in
theorem carry_step {z : Nat → Option Nat} {Ch : Nat → Prop} {Stop : Goroutine → World → Prop} {main : Bool} {S : TS} {K : List (Nat × Int)} {v w : World} {i : Nat} {t : Thr} (asl : Value) (f : FuncId) (fn : Func) (cp : Array Value) (hf : Try.prog.funcs[f]? = some fn) (hname : (fn.name == "runtime.NumGoroutine") = false) (cf : Code) (hcf : fn.body = some cf) (rb ro n cap ii : Nat) (po ca cb cc : Int) (u : Nat → Value) (cs : List Frame) (hi : ii < n)
    (h0 : v.cell? ⟨rb, ro + ii * 4, none⟩ = some (I po)) (h1 : v.cell? ⟨rb, ro + ii * 4 + 1, none⟩ = some (I ca)) (h2 : v.cell? ⟨rb, ro + ii * 4 + 2, none⟩ = some (I cb)) (h3 : v.cell? ⟨rb, ro + ii * 4 + 3, none⟩ = some (I cc))
    (hvw : Rel z v w) (hn : NoRow Ch v) (hm : Mem z S K v) (ht : S.thr[i]? = some t) (hl : (S.n + 1) * 40 ≤ 140737488355328)
    (hk : ∀ v' w' tv, Rel z v' w' → NoRow Ch v' → Evo z S K v (noted S tv i 9 (-1) ii 0) K v' → v'.heap[v.heap.size]? = some (.cells #[I po, I ca, I cb, I cc] 39 (0, 0)) →
      GoesI Try.prog main (DT (ScZ z) Ch) Stop (G ((base f).at { tmps := (#[Pt t.tb 0, .agg #[I po, I ca, I cb, I cc]] ++ cp) ++ Array.replicate (fn.ntmps - (#[Pt t.tb 0, .agg #[I po, I ca, I cb, I cc]] ++ cp).size) undef, defers := [] } [.code cf])
        ((base 34).at (cAct t.tb (.slice (some ⟨rb, ro, none⟩) n cap) (.func (.func f) #[] cp) asl rb ro n ii v.heap.size (.agg #[I po, I ca, I cb, I cc]) u) [.inRegion ops347 [5, 6, 7], .code R89, .inBlock 1, .code R10, .inLoop L34, .inBlock 0] :: cs)) w') :
    GoesI Try.prog main (DT (ScZ z) Ch) Stop (G (cFr t.tb (.slice (some ⟨rb, ro, none⟩) n cap) (.func (.func f) #[] cp) asl n ii false u) cs) w := by
  have hi' : (ii : Int) < (n : Int) := by omega
  have hq : ¬ fn.name = "runtime.NumGoroutine" := by simpa using hname
  have HM : Hid (Mem z S K v) := ⟨hm⟩
  clear hm
  unfold cAct ops347 R89 R10 L34 Try.f34 seq2 seq1 blockC loopC opsOf at hk
  simp only [Option.getD_some, List.append_toArray, List.cons_append, List.nil_append] at hk
  unfold cFr L34 Try.f34 seq2 blockC loopC
  simp only [Option.getD_some, List.append_toArray, List.cons_append, List.nil_append]
  refine goesI_seq (dt_idle _ _) ?_
  refine goesI_region (dt_idle _ _) ?_
  simp only [List.size_toArray, List.length_cons, List.length_nil, Nat.reduceAdd, Nat.zero_add, List.range, List.range.loop]
  (refine goesI_oper rfl rfl (by decide) (fun d K hK => ?_)
   go_simp
   refine hK _ _ ⟨dt_reads (fun e he => ?_), GoesI.at ?_ d⟩
   · have hm := mem_listed he
     simp [go_sem, *] at hm
   clear hK K)
  refine goesI_regionEnd (dt_idle _ _) ?_
  refine goesI_seq (dt_idle _ _) ?_
  refine goesI_cond (dt_idle _ _) (t := true) (by simp [Act.eval, hi]) ?_
  simp only [if_true, if_false, Bool.false_eq_true]
  refine goesI_skip (dt_idle _ _) ?_
  refine goesI_seq (dt_idle _ _) ?_
  refine goesI_block (dt_idle _ _) ?_
  refine goesI_seq (dt_idle _ _) ?_
  refine goesI_region (dt_idle _ _) ?_
  simp only [List.size_toArray, List.length_cons, List.length_nil, Nat.reduceAdd, Nat.zero_add, List.range, List.range.loop]
  iterate 2
    (refine goesI_oper rfl rfl (by decide) (fun d K hK => ?_)
     go_simp
     refine hK _ _ ⟨dt_reads (fun e he => ?_), GoesI.at ?_ d⟩
     · have hm := mem_listed he
       simp [go_sem, *] at hm
       try exact ⟨_, _, hm⟩
       try (rcases hm with rfl | rfl | rfl | rfl <;> exact ⟨_, _, rfl⟩)
     clear hK K)
  refine goesI_opZ (L := LT) rfl rfl (by decide) (fineOp_ask callT extT (by kernel_rfl)) hvw hn (x := .agg #[I po, I ca, I cb, I cc]) (v' := v) (by go_simp) rfl (fun w1 hvw1 _ => ?_)
  refine goesI_opZ (L := LT) rfl rfl (by decide) (fineOp_ask callT extT (by kernel_rfl)) hvw1 hn (x := Pt v.heap.size 0) (v' := { v with heap := v.heap.push (.cells #[I 0, I 0, I 0, I 0] 39) }) (by go_simp) rfl (fun w2 hvw2 hn2 => ?_)
  walk_nrm
  (refine goesI_oper rfl rfl (by decide) (fun d K hK => ?_)
   go_simp
   refine hK _ _ ⟨dt_reads (fun e he => ?_), GoesI.at ?_ d⟩
   · have hm := mem_listed he
     simp [go_sem, *] at hm
   clear hK K)
  have hB : ({ v with heap := v.heap.push (.cells #[I 0, I 0, I 0, I 0] 39) } : World).heap[v.heap.size]? = some (.cells #[I 0, I 0, I 0, I 0] 39) := Array.getElem?_push_size
  generalize hV : ({ v with heap := v.heap.push (.cells #[I 0, I 0, I 0, I 0] 39) } : World) = V at hvw2 hn2 hB
  generalize hN : v.heap.size = N at hk hB ⊢
  have g0 : V.cell? ⟨N, 0, none⟩ = some (I 0) := by simp [World.cell?, hB]
  have g1 : V.cell? ⟨N, 1, none⟩ = some (I 0) := by simp [World.cell?, hB]
  have g2 : V.cell? ⟨N, 2, none⟩ = some (I 0) := by simp [World.cell?, hB]
  have g3 : V.cell? ⟨N, 3, none⟩ = some (I 0) := by simp [World.cell?, hB]
  have p0 : V.frozen? ⟨N, 0, none⟩ = false := by simp [World.frozen?, hB]
  have p1 : V.frozen? ⟨N, 1, none⟩ = false := by simp [World.frozen?, hB]
  have p2 : V.frozen? ⟨N, 2, none⟩ = false := by simp [World.frozen?, hB]
  have p3 : V.frozen? ⟨N, 3, none⟩ = false := by simp [World.frozen?, hB]
  refine goesI_doZ (L := LT) rfl rfl (by decide) (fineOp_ask callT extT (by kernel_rfl)) hvw2 hn2 (v' := (((V.setCell ⟨N, 0, none⟩ (I po)).setCell ⟨N, 1, none⟩ (I ca)).setCell ⟨N, 2, none⟩ (I cb)).setCell ⟨N, 3, none⟩ (I cc)) (by go_simp) rfl (fun w3 hvw3 hn3 => ?_)
  have hrow : ((((V.setCell ⟨N, 0, none⟩ (I po)).setCell ⟨N, 1, none⟩ (I ca)).setCell ⟨N, 2, none⟩ (I cb)).setCell ⟨N, 3, none⟩ (I cc)).heap[N]? = some (.cells #[I po, I ca, I cb, I cc] 39 (0, 0)) := by
    have := heap_setCell_same (o := 3) (heap_setCell_same (o := 2) (heap_setCell_same (o := 1) (heap_setCell_same (o := 0) hB (I po)) (I ca)) (I cb)) (I cc)
    simpa using this
  have hg : Grows v ((((V.setCell ⟨N, 0, none⟩ (I po)).setCell ⟨N, 1, none⟩ (I ca)).setCell ⟨N, 2, none⟩ (I cb)).setCell ⟨N, 3, none⟩ (I cc)) := by
    refine ⟨by rw [← hV]; simp [World.setCell], fun b hb => ?_, by rw [← hV]; rfl, by rw [← hV]; rfl⟩
    have hbN : b ≠ N := by omega
    rw [Below.heap_setCell _ _ _ _ hbN, Below.heap_setCell _ _ _ _ hbN, Below.heap_setCell _ _ _ _ hbN, Below.heap_setCell _ _ _ _ hbN, ← hV]
    show (v.heap.push _)[b]? = _
    rw [Array.getElem?_push, if_neg (by omega)]
  generalize ((((V.setCell ⟨N, 0, none⟩ (I po)).setCell ⟨N, 1, none⟩ (I ca)).setCell ⟨N, 2, none⟩ (I cb)).setCell ⟨N, 3, none⟩ (I cc)) = V3 at hvw3 hn3 hrow hg
  have HE : Hid (Evo z S K v S K V3) := ⟨HM.out.grows hg⟩
  clear hV hB g0 g1 g2 g3 p0 p1 p2 p3 hvw2 hn2 hvw1 hvw
  refine goesI_regionEnd (dt_idle _ _) ?_
  refine goesI_seq (dt_idle _ _) ?_
  refine goesI_seq (dt_idle _ _) ?_
  refine goesI_region (dt_idle _ _) ?_
  simp only [List.size_toArray, List.length_cons, List.length_nil, Nat.reduceAdd, Nat.zero_add, List.range, List.range.loop]
  (refine goesI_oper rfl rfl (by decide) (fun d K hK => ?_)
   go_simp
   refine hK _ _ ⟨dt_reads (fun e he => ?_), GoesI.at ?_ d⟩
   · have hm := mem_listed he
     simp [go_sem, *] at hm
   clear hK K)
  refine goesI_regionEnd (dt_idle _ _) ?_
  refine goesI_cond (dt_idle _ _) (t := false) rfl ?_
  simp only [if_true, if_false, Bool.false_eq_true]
  refine goesI_skip (dt_idle _ _) ?_
  refine goesI_seq (dt_idle _ _) ?_
  refine goesI_region (dt_idle _ _) ?_
  simp only [List.size_toArray, List.length_cons, List.length_nil, Nat.reduceAdd, Nat.zero_add, List.range, List.range.loop]
  iterate 2
    (refine goesI_oper rfl rfl (by decide) (fun d K hK => ?_)
     go_simp
     refine hK _ _ ⟨dt_reads (fun e he => ?_), GoesI.at ?_ d⟩
     · have hm := mem_listed he
       simp [go_sem, *] at hm
       try exact ⟨_, _, hm⟩
       try (rcases hm with rfl | rfl | rfl | rfl <;> exact ⟨_, _, rfl⟩)
     clear hK K)
  refine goesI_call (f := 43) (fn := Try.f43) (args := #[Pt t.tb 0, I 9, I ii, I 0]) hE fineT rfl rfl (by decide) rfl (by simp [Act.eval]) Try.func43 (by kernel_rfl) rfl (fineFn_body fineT (by simp [LT, plainFs]) Try.func43 rfl) (fun tmps => ⟨_, fun w => results_none rfl _ _ _, fun w => by simp [results, go_sem]⟩) hvw3 hn3
    (R := fun r v4 => r = .tuple #[] ∧ ∃ tv, Ev z S V3 (noted S tv i 9 (-1) ii 0) v4) (fun τ => ?_) (fun r v4 w4 hR hvw4 hn4 => ?_)
  · exact wp_mono (body43 (v := onTape V3 τ 0) (HE.out.mem.rep.same rfl) ht 9 ii 0 hl _ rfl) (bp_mono fun r x hq => ⟨hq.1, hq.2.choose, hq.2.choose_spec.base rfl rfl rfl⟩)
  obtain ⟨rfl, tv, hev⟩ := hR
  have HE4 : Hid (Evo z S K v (noted S tv i 9 (-1) ii 0) K v4) := ⟨HE.out.trans (Evo.of_ev HE.out.mem hev rfl)⟩
  have hNo : ¬ Own S K N := fun hO => by have := HM.out.lt hO; omega
  have hrow4 : v4.heap[N]? = some (.cells #[I po, I ca, I cb, I cc] 39 (0, 0)) := by
    rw [hev.fr.block N (Array.getElem?_eq_some_iff.1 hrow).1 (fun hI => hNo (.inl hI))]
    exact hrow
  clear hev hrow hg HE hvw3 hn3
  have k0 : w4.cell? ⟨N, 0, none⟩ = some (I po) := by rw [hvw4.cell?]; simp [World.cell?, hrow4]
  have k1 : w4.cell? ⟨N, 1, none⟩ = some (I ca) := by rw [hvw4.cell?]; simp [World.cell?, hrow4]
  have k2 : w4.cell? ⟨N, 2, none⟩ = some (I cb) := by rw [hvw4.cell?]; simp [World.cell?, hrow4]
  have k3 : w4.cell? ⟨N, 3, none⟩ = some (I cc) := by rw [hvw4.cell?]; simp [World.cell?, hrow4]
  have hk := hk v4 w4 tv hvw4 hn4 HE4.out hrow4
  walk_nrm
  refine goesI_regionEnd (dt_idle _ _) ?_
  refine goesI_seq (dt_idle _ _) ?_
  refine goesI_region (dt_idle _ _) ?_
  simp only [List.size_toArray, List.length_cons, List.length_nil, Nat.reduceAdd, Nat.zero_add, List.range, List.range.loop]
  iterate 5
    (refine goesI_oper rfl rfl (by decide) (fun d K hK => ?_)
     go_simp
     refine hK _ _ ⟨dt_reads (fun e he => ?_), GoesI.at ?_ d⟩
     · have hm := mem_listed he
       simp [go_sem, *] at hm
       try exact ⟨_, _, hm⟩
       try (rcases hm with rfl | rfl | rfl | rfl <;> exact ⟨_, _, rfl⟩)
     clear hK K)
  refine goesI_enter (f := f) (args := #[Pt t.tb 0, .agg #[I po, I ca, I cb, I cc]] ++ cp) rfl rfl (by decide) (fun w => ?_) (fun w => ?_) (dt_idle _ _) hf hcf ?_
  · simp [execOp, resolve, Deferred.ofValue, Act.eval, invoke, callFunc, hf, hq, hcf]
  · refine listed_none ?_
    simp [go_sem, execOp, resolve, Deferred.ofValue, Act.eval, invoke, callFunc, hf, hq, hcf]
  exact hk
end Go.Proofs.Ytmgaojbfmohboaa

/- A script is carried out (play.carryOut), in company: behind a call's answer, back to the loop's head. -/
set_option linter.unusedSimpArgs false
set_option linter.unusedVariables false
namespace Go.Proofs.Ytmgaojbfmohboaa
open Go Go.Lift Go.Conc Go.RowKit

set_option maxHeartbeats 2000000 in
set_option maxRecDepth 100000 in
theorem carry_back {z : Nat → Option Nat} {Ch : Nat → Prop} {Stop : Goroutine → World → Prop} {main : Bool} {S : TS} {K : List (Nat × Int)} {v w : World} {i : Nat} {t : Thr} (csl F : Value) (rb ro ab n cap2 ii N : Nat) (X : Value) (e x y0 y1 : Int) (u : Nat → Value) (cs : List Frame) (hi : ii < n) (hb : (n : Int) < 9223372036854775808)
    (a0 : v.cell? ⟨ab, ii * 2, none⟩ = some (I y0)) (a1 : v.cell? ⟨ab, ii * 2 + 1, none⟩ = some (I y1)) (f0 : v.frozen? ⟨ab, ii * 2, none⟩ = false) (f1 : v.frozen? ⟨ab, ii * 2 + 1, none⟩ = false) (hbo : ¬ Own S K ab)
    (hvw : Rel z v w) (hn : NoRow Ch v) (hm : Mem z S K v) (ht : S.thr[i]? = some t) (hl : (S.n + 1) * 40 ≤ 140737488355328)
    (hk : ∀ v' w' tv u', Rel z v' w' → NoRow Ch v' → EvoP (· = ab) z S K v (noted S tv i 10 (-1) ii e) K v' → v'.heap[ab]? = ((v.setCell ⟨ab, ii * 2, none⟩ (I e)).setCell ⟨ab, ii * 2 + 1, none⟩ (I x)).heap[ab]? →
      GoesI Try.prog main (DT (ScZ z) Ch) Stop (G (cFr t.tb csl F (.slice (some ⟨ab, 0, none⟩) n cap2) n (ii + 1) (e == 4) u') cs) w') :
    GoesI Try.prog main (DT (ScZ z) Ch) Stop (G ((base 34).at ((cAct t.tb csl F (.slice (some ⟨ab, 0, none⟩) n cap2) rb ro n ii N X u).put (some 31) (.agg #[I e, I x])) [.inRegion ops347 [6, 7], .code R89, .inBlock 1, .code R10, .inLoop L34, .inBlock 0]) cs) w := by
  have hi' : (ii : Int) < (n : Int) := by omega
  have hlt : ab < v.heap.size := World.block_lt_of_cell? _ _ a0
  have HM : Hid (Mem z S K v) := ⟨hm⟩
  have HW : Hid (IntKind.i64.wrap ((ii : Int) + 1) = ((ii + 1 : Nat) : Int)) := ⟨by rw [IntKind.wrap_i64]; omega⟩
  clear hm hb
  unfold cAct ops347 R89 R10 L34 Try.f34 seq2 seq1 blockC loopC opsOf
  simp only [Option.getD_some, List.append_toArray, List.cons_append, List.nil_append]
  walk_nrm
  (refine goesI_oper rfl rfl (by decide) (fun d K hK => ?_)
   go_simp
   refine hK _ _ ⟨dt_reads (fun e he => ?_), GoesI.at ?_ d⟩
   · have hm := mem_listed he
     simp [go_sem, *] at hm
   clear hK K)
  refine goesI_doZ (L := LT) rfl rfl (by decide) (fineOp_ask callT extT (by kernel_rfl)) hvw hn (v' := (v.setCell ⟨ab, ii * 2, none⟩ (I e)).setCell ⟨ab, ii * 2 + 1, none⟩ (I x)) (by go_simp) rfl (fun w2 hvw2 hn2 => ?_)
  have HE : Hid (EvoP (· = ab) z S K v S K ((v.setCell ⟨ab, ii * 2, none⟩ (I e)).setCell ⟨ab, ii * 2 + 1, none⟩ (I x))) := ⟨HM.out.other hbo (fun b hb => by rw [Below.heap_setCell _ _ _ _ hb, Below.heap_setCell _ _ _ _ hb]) (by simp [World.setCell]) rfl rfl⟩
  have e0 : ((v.setCell ⟨ab, ii * 2, none⟩ (I e)).setCell ⟨ab, ii * 2 + 1, none⟩ (I x)).cell? ⟨ab, ii * 2, none⟩ = some (I e) := by
    rw [World.cell?_setCell_other _ _ _ _ (by simp)]
    exact World.cell?_setCell_same _ _ _ (by rw [a0])
  have hs2 : ab < ((v.setCell ⟨ab, ii * 2, none⟩ (I e)).setCell ⟨ab, ii * 2 + 1, none⟩ (I x)).heap.size := by simpa [World.setCell] using hlt
  generalize ((v.setCell ⟨ab, ii * 2, none⟩ (I e)).setCell ⟨ab, ii * 2 + 1, none⟩ (I x)) = V at hvw2 hn2 HE e0 hs2 hk
  have q0 : w2.cell? ⟨ab, ii * 2, none⟩ = some (I e) := by rw [hvw2.cell?]; exact e0
  clear a0 a1 f0 f1 hvw
  refine goesI_regionEnd (dt_idle _ _) ?_
  refine goesI_seq (dt_idle _ _) ?_
  refine goesI_region (dt_idle _ _) ?_
  simp only [List.size_toArray, List.length_cons, List.length_nil, Nat.reduceAdd, Nat.zero_add, List.range, List.range.loop]
  iterate 7
    (refine goesI_oper rfl rfl (by decide) (fun d K hK => ?_)
     go_simp
     refine hK _ _ ⟨dt_reads (fun e he => ?_), GoesI.at ?_ d⟩
     · have hm := mem_listed he
       simp [go_sem, *] at hm
       try exact ⟨_, _, hm⟩
       try (rcases hm with rfl | rfl | rfl | rfl <;> exact ⟨_, _, rfl⟩)
     clear hK K)
  refine goesI_call (f := 43) (fn := Try.f43) (args := #[Pt t.tb 0, I 10, I ii, I e]) hE fineT rfl rfl (by decide) rfl (by simp [Act.eval]) Try.func43 (by kernel_rfl) rfl (fineFn_body fineT (by simp [LT, plainFs]) Try.func43 rfl) (fun tmps => ⟨_, fun w => results_none rfl _ _ _, fun w => by simp [results, go_sem]⟩) hvw2 hn2
    (R := fun r v4 => r = .tuple #[] ∧ ∃ tv, Ev z S V (noted S tv i 10 (-1) ii e) v4) (fun τ => ?_) (fun r v4 w4 hR hvw4 hn4 => ?_)
  · exact wp_mono (body43 (v := onTape V τ 0) (HE.out.mem.rep.same rfl) ht 10 ii e hl _ rfl) (bp_mono fun r x hq => ⟨hq.1, hq.2.choose, hq.2.choose_spec.base rfl rfl rfl⟩)
  obtain ⟨rfl, tv, hev⟩ := hR
  have HE4 : Hid (EvoP (· = ab) z S K v (noted S tv i 10 (-1) ii e) K v4) := ⟨HE.out.trans (Evo.of_ev HE.out.mem hev rfl).toP⟩
  have hsame : v4.heap[ab]? = V.heap[ab]? := hev.fr.block ab hs2 (fun hI => hbo (.inl hI))
  have k0 : w4.cell? ⟨ab, ii * 2, none⟩ = some (I e) := by
    rw [hvw4.cell?, World.cell?_of_block hsame]
    exact e0
  clear hev HE hvw2 hn2 q0 e0 hs2
  have hk := hk v4 w4 tv (fun m => match m with
    | 9 => I ii | 10 => Pt N 0 | 14 => .bool true | 15 => I ii | 16 => Pt rb (ro + ii * 4) | 17 => X | 18 => .bool false | 23 => Pt t.tb 0 | 24 => I ii | 25 => .tuple #[] | 26 => .slice (some ⟨ab, 0, none⟩) n cap2 | 27 => I ii | 28 => F | 29 => Pt t.tb 0 | 30 => X | 31 => .agg #[I e, I x] | 32 => Pt ab (ii * 2)
    | 33 => Pt t.tb 0 | 34 => I ii | 35 => .slice (some ⟨ab, 0, none⟩) n cap2 | 36 => I ii | 37 => Pt ab (ii * 2) | 38 => Pt ab (ii * 2) | 39 => I e | 40 => .tuple #[] | 41 => .slice (some ⟨ab, 0, none⟩) n cap2 | 42 => I ii | 43 => Pt ab (ii * 2) | 44 => Pt ab (ii * 2) | 45 => I e | 46 => .bool (e == 4) | 47 => I ((ii + 1 : Nat) : Int) | m => u m) hvw4 hn4 HE4.out hsame
  unfold cFr L34 Try.f34 seq2 blockC loopC at hk
  simp only [Option.getD_some, List.append_toArray, List.cons_append, List.nil_append] at hk
  rw [← HW.out] at hk
  clear HE4 hvw4 hn4
  walk_nrm
  refine goesI_regionEnd (dt_idle _ _) ?_
  refine goesI_region (dt_idle _ _) ?_
  simp only [List.size_toArray, List.length_cons, List.length_nil, Nat.reduceAdd, Nat.zero_add, List.range, List.range.loop]
  iterate 7
    (refine goesI_oper rfl rfl (by decide) (fun d K hK => ?_)
     go_simp
     refine hK _ _ ⟨dt_reads (fun e he => ?_), GoesI.at ?_ d⟩
     · have hm := mem_listed he
       simp [go_sem, *] at hm
       try exact ⟨_, _, hm⟩
       try (rcases hm with rfl | rfl | rfl | rfl <;> exact ⟨_, _, rfl⟩)
     clear hK K)
  refine goesI_regionEnd (dt_idle _ _) ?_
  refine goesI_inBlock (dt_idle _ _) ?_
  refine goesI_region (dt_idle _ _) ?_
  simp only [List.size_toArray, List.length_cons, List.length_nil, Nat.reduceAdd, Nat.zero_add, List.range, List.range.loop]
  iterate 2
    (refine goesI_oper rfl rfl (by decide) (fun d K hK => ?_)
     go_simp
     refine hK _ _ ⟨dt_reads (fun e he => ?_), GoesI.at ?_ d⟩
     · have hm := mem_listed he
       simp [go_sem, *] at hm
       try exact ⟨_, _, hm⟩
       try (rcases hm with rfl | rfl | rfl | rfl <;> exact ⟨_, _, rfl⟩)
     clear hK K)
  refine goesI_regionEnd (dt_idle _ _) ?_
  refine goesI_inLoop (dt_idle _ _) ?_
  exact hk
end Go.Proofs.Ytmgaojbfmohboaa
