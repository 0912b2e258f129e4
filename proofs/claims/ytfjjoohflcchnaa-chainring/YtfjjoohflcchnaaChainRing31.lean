/- ChainRing: of a ring the last who writes down is told, under every schedule. Part 31 of 37. (Joined, by program, of: ChA, ChC.) -/
import Derived.Test.YtfjjoohflcchnaaChainRing12
import Derived.Test.YtfjjoohflcchnaaChainRing30
set_option linter.unusedSimpArgs false
set_option linter.unusedVariables false
namespace Go.Proofs.Ytfjjoohflcchnaa.Gen
open Go Go.Lift Go.Conc Go.RowKit

noncomputable def hkB : Code := Try.f80.body.getD .skip
noncomputable def hk1 : Code := seq1 (seq2 hkB)
noncomputable def hkO3 : Array Oper := opsOf (seq1 (seq2 (seq2 hkB)))
noncomputable def hkR : Code := seq2 (seq2 (seq2 hkB))
theorem eHkB : hkB = .seq (seq1 hkB) (.seq hk1 (.seq (.region 3 hkO3 false) hkR)) := by kernel_rfl
theorem fine_hk1 : fineCode Try.prog true LT hk1 := fineCode_ask callT extT (by kernel_rfl)
noncomputable def hkPut (a : Act) (r : Value) : Frame := (base 80).at (a.put (some 29) r) [.inRegion hkO3 [], .code hkR]
/-- What comes back is handed on. -/
def ABack (main : Bool) (cu1 cu2 : Value → Goroutine) : Prop :=
  ∀ (z : Nat → Option Nat) (Ch : Nat → Prop) (Stop : Goroutine → World → Prop) (w v : World) (r : Bool), Rel z v w → NoRow Ch v → (∀ w', Rel z v w' → GoesI Try.prog main (DT (ScZ z) Ch) Stop (cu2 (.bool r)) w') → GoesI Try.prog main (DT (ScZ z) Ch) Stop (cu1 (.bool r)) w

set_option maxHeartbeats 2000000 in
set_option maxRecDepth 100000 in
theorem hk1_wp (v : World) (c sb n tb fr to : Nat) (hf : fr < n) (ht : to < n) (h0 : v.cell? ⟨c, 0, none⟩ = some (.slice (some ⟨sb, 0, none⟩) n n)) {a : Act} (hA : Fl 35 [(0, Pt c 0), (1, Pt tb 0), (2, I (fr : Nat)), (3, I (to : Nat))] a) :
    hk1.wp Try.prog (fun e a w' => e = .normal ∧ Fl 35 [(0, Pt c 0), (1, Pt tb 0), (2, I (fr : Nat)), (3, I (to : Nat))] a ∧ w'.heap = v.heap ∧ w'.os = v.os ∧ w'.output = v.output) a v := by
  obtain ⟨hsz, hd, hpp⟩ := hA
  obtain ⟨u, rfl, hg⟩ := litN hsz hd
  have u0 := (hg 0).symm.trans (hpp (0, Pt c 0) (by simp))
  have u1 := (hg 1).symm.trans (hpp (1, Pt tb 0) (by simp))
  have u2 := (hg 2).symm.trans (hpp (2, I (fr : Nat)) (by simp))
  have u3 := (hg 3).symm.trans (hpp (3, I (to : Nat)) (by simp))
  clear hg hpp hsz hd
  unfold hk1 hkB Try.f80 seq1 seq2
  simp only [Option.getD_some, lits, Nat.reduceAdd, u0, u1, u2, u3]
  clear u0 u1 u2 u3
  go_wp2_with (first
    | (go_at_call 104; refine (has_any c sb n _ (by assumption) _ h0).mono ?_; rintro e w1 ⟨rfl, rfl⟩))
  first
    | exact ⟨rfl, ⟨rfl, rfl, by
      intro p hp
      simp only [List.mem_cons, List.not_mem_nil, or_false] at hp
      rcases hp with rfl | rfl | rfl | rfl <;> rfl⟩, rfl, rfl, rfl⟩
    | exact ⟨rfl, rfl, by
      intro p hp
      simp only [List.mem_cons, List.not_mem_nil, or_false] at hp
      rcases hp with rfl | rfl | rfl | rfl <;> rfl⟩
set_option maxHeartbeats 2000000 in
set_option maxRecDepth 100000 in
/-- It writes down. -/
theorem ask_in {z : Nat → Option Nat} {Ch : Nat → Prop} {Stop : Goroutine → World → Prop} {h : Nat} {cont : Addr → Value} {S : TS} {K : List (Nat × Int)} {v w : World} {i cb c sb n fr to : Nat} {t : Thr} (y : Int) (hf : fr < n) (hto : to < n) (hn1 : n ≤ 100) (h0 : v.cell? ⟨c, 0, none⟩ = some (.slice (some ⟨sb, 0, none⟩) n n)) (hcb : v.cell? ⟨sb, fr, none⟩ = some (Pt cb 0)) (cs : List Frame) (Hm : Goroutine → Prop)
    (hH : ∀ g, (∃ a, Fl 35 [(0, Pt c 0), (1, Pt t.tb 0), (2, I (fr : Nat)), (3, I (to : Nat))] a ∧ OpBack (h == 0) i fr cb t.tb 2 (effStore ((to : Int) + 1)) (fun r => G (hkPut a r) cs) g) → Hm g)
    (hvw : Rel z v w) (hn : NoRow Ch v) (hm : Mem z S K v) (ht : S.thr[i]? = some t) (hK : K[fr]? = some (cb, y)) (hz : z t.tb = some 2) (hcont : cont ⟨t.tb, 2, none⟩ = .chan (some t.gc))
    (hstop : ∀ g w', GiveT z cont h S.bk t.gc Hm (Then z Ch S K v (waiting S i t 1 2 fr) K) g w' → Stop g w') (code : Code) (hc : Try.f80.body = some code) :
    GoesI Try.prog (h == 0) (DT (ScZ z) Ch) Stop (G ((base 80).at { tmps := #[Pt c 0, Pt t.tb 0, I (fr : Nat), I (to : Nat)] ++ Array.replicate 31 undef, defers := [] } [.code code]) cs) w := by
  have hw0 : code = .seq (seq1 hkB) (.seq hk1 (.seq (.region 3 hkO3 false) hkR)) := by
    rw [show code = hkB by unfold hkB; rw [hc]; rfl]; exact eHkB
  subst hw0
  clear hc
  have HM : Hid (Mem z S K v) := ⟨hm⟩
  clear hm
  simp only [Array.replicate_succ, Array.replicate_zero, List.push_toArray, List.append_toArray, List.nil_append, List.cons_append]
  refine goesI_seq (dt_idle _ _) ?_
  generalize hh1 : hk1 = C1
  generalize hhR : hkR = CR at hH ⊢
  generalize hh3 : hkO3 = O3 at hH ⊢
  unfold hkB Try.f80 seq1
  simp only [Option.getD_some]
  refine goesI_region (dt_idle _ _) ?_
  simp only [List.size_toArray, List.length_cons, List.length_nil, Nat.reduceAdd, Nat.zero_add, List.range, List.range.loop]
  iterate 1
    (refine goesI_oper rfl rfl (by decide) (fun d K hK => ?_)
     go_simp
     refine hK _ _ ⟨dt_reads (fun e he => ?_), GoesI.at ?_ d⟩
     · have hm := mem_listed he
       simp [go_sem, *] at hm
       try exact ⟨_, _, hm⟩
     clear hK K)
  refine goesI_regionEnd (dt_idle _ _) ?_
  refine goesI_seq (dt_idle _ _) ?_
  subst hh1
  refine goesI_plain (z := z) (wr := true) (L := LT) (I := NoRow Ch) hE fineT noRow_keeps (fun v v' w w' es hi hr ho he => dt_of_z v v' w w' es hi hr ho he) hvw fine_hk1 rfl (by simp [base]) hn
    (Q := fun a w' => Fl 35 [(0, Pt c 0), (1, Pt t.tb 0), (2, I (fr : Nat)), (3, I (to : Nat))] a ∧ w'.heap = v.heap ∧ w'.os = v.os ∧ w'.output = v.output) (fun τ => hk1_wp (onTape v τ 0) c sb n t.tb fr to hf hto h0 ⟨rfl, rfl, by
      intro p hp
      simp only [List.mem_cons, List.not_mem_nil, or_false] at hp
      rcases hp with rfl | rfl | rfl | rfl <;> rfl⟩) ?_
  rintro a1 v1 w1 ⟨hA, q1, q2, q3⟩ hvw1 hn1' -
  have ev1 := HM.out.grows ⟨by rw [q1]; exact Nat.le_refl _, fun b _ => by rw [q1], q2, q3⟩
  have e0 : w1.cell? ⟨c, 0, none⟩ = some (.slice (some ⟨sb, 0, none⟩) n n) := by rw [hvw1.cell?, World.cell?_of_block (w := v) (by rw [q1])]; exact h0
  have e1 : w1.cell? ⟨sb, fr, none⟩ = some (Pt cb 0) := by rw [hvw1.cell?, World.cell?_of_block (w := v) (by rw [q1])]; exact hcb
  have hf' : (fr : Int) < (n : Int) := by omega
  have hw1 : IntKind.i64.wrap ((to : Int) + 1) = (to : Int) + 1 := by rw [IntKind.wrap_i64]; omega
  have EV : Hid (Evo z S K v S K v1) := ⟨ev1⟩
  clear ev1
  unfold hkPut at hH
  subst hhR hh3
  unfold hkO3 hkR hkB Try.f80 seq1 seq2 opsOf at hH
  simp only [Option.getD_some] at hH
  obtain ⟨hsz, hd, hpp⟩ := hA
  obtain ⟨u, rfl, hg⟩ := litN hsz hd
  have u0 := (hg 0).symm.trans (hpp (0, Pt c 0) (by simp))
  have u1 := (hg 1).symm.trans (hpp (1, Pt t.tb 0) (by simp))
  have u2 := (hg 2).symm.trans (hpp (2, I (fr : Nat)) (by simp))
  have u3 := (hg 3).symm.trans (hpp (3, I (to : Nat)) (by simp))
  clear hg hpp hsz hd
  unfold hkO3 hkR hkB Try.f80 seq1 seq2 opsOf
  simp only [Option.getD_some, lits, Nat.reduceAdd, u0, u1, u2, u3]
  clear u0 u1 u2 u3
  refine goesI_seq (dt_idle _ _) ?_
  refine goesI_region (dt_idle _ _) ?_
  simp only [List.size_toArray, List.length_cons, List.length_nil, Nat.reduceAdd, Nat.zero_add, List.range, List.range.loop]
  iterate 10
    (refine goesI_oper rfl rfl (by decide) (fun d K hK => ?_)
     go_simp
     refine hK _ _ ⟨dt_reads (fun e he => ?_), GoesI.at ?_ d⟩
     · have hm := mem_listed he
       simp [go_sem, *] at hm
       try exact ⟨_, _, hm⟩
     clear hK K)
  refine goesI_into (f := 23) (fn := Try.f23) (args := #[Pt cb 0, Pt t.tb 0, I ((to : Int) + 1)]) (dt_idle _ _) rfl rfl (by decide) rfl (by simp [Act.eval, hw1]) Try.func23 (by decide) rfl ?_
  exact store_goes ((to : Int) + 1) y _ Hm rfl (fun g hg => hH g ⟨_, ⟨rfl, rfl, by
    intro p hp
    simp only [List.mem_cons, List.not_mem_nil, or_false] at hp
    rcases hp with rfl | rfl | rfl | rfl <;> rfl⟩, hg⟩) hvw1 hn1' EV.out.mem ht hK hz hcont (fun g w' hs => hstop g w' (give_mono (fun hT => by obtain ⟨v', r1, r2, r3⟩ := hT; exact ⟨v', r1, r2, EV.out.trans r3⟩) hs)) _ rfl

set_option maxHeartbeats 2000000 in
set_option maxRecDepth 100000 in
/-- .. and follows the way. -/
theorem ask_next {z : Nat → Option Nat} {Ch : Nat → Prop} {Stop : Goroutine → World → Prop} {main : Bool} {v w : World} {c tb fr to : Nat} (r : Value) {a : Act} (hA : Fl 35 [(0, Pt c 0), (1, Pt tb 0), (2, I (fr : Nat)), (3, I (to : Nat))] a) (cs : List Frame) {bc : Frame} {ac : Act} {ops : Array Oper} {q : Nat} {rest : List Nat} {oc : Oper} {k0 : List Item} (hoc : ops[q]? = some oc)
    (hk : ∀ (bd : Frame) (ad : Act) (od : Array Oper) (qd : Nat) (rd : List Nat) (oe : Oper) (kd : List Item), od[qd]? = some oe →
      ABack main (fun r => G (bd.at (ad.put oe.dst r) (.inRegion od rd :: kd)) (bc.at ac (.inRegion ops (q :: rest) :: k0) :: cs)) (fun r => (G (bc.at (ac.put oc.dst r) (.inRegion ops rest :: k0)) cs)) → ∀ code, Try.f105.body = some code →
      GoesI Try.prog main (DT (ScZ z) Ch) Stop (G ((base 105).at { tmps := #[Pt c 0, Pt tb 0, I (to : Nat), I (fr : Nat)] ++ Array.replicate 30 undef, defers := [] } [.code code]) (bd.at ad (.inRegion od (qd :: rd) :: kd) :: bc.at ac (.inRegion ops (q :: rest) :: k0) :: cs)) w) :
    GoesI Try.prog main (DT (ScZ z) Ch) Stop (G (hkPut a r) (bc.at ac (.inRegion ops (q :: rest) :: k0) :: cs)) w := by
  obtain ⟨hsz, hd, hpp⟩ := hA
  obtain ⟨u, rfl, hg⟩ := litN hsz hd
  have u0 := (hg 0).symm.trans (hpp (0, Pt c 0) (by simp))
  have u1 := (hg 1).symm.trans (hpp (1, Pt tb 0) (by simp))
  have u2 := (hg 2).symm.trans (hpp (2, I (fr : Nat)) (by simp))
  have u3 := (hg 3).symm.trans (hpp (3, I (to : Nat)) (by simp))
  clear hg hpp hsz hd
  unfold hkPut hkO3 hkR hkB Try.f80 seq1 seq2 opsOf
  simp only [Option.getD_some, lits, Nat.reduceAdd, u0, u1, u2, u3]
  clear u0 u1 u2 u3
  walk_nrm
  refine goesI_regionEnd (dt_idle _ _) ?_
  refine goesI_seq (dt_idle _ _) ?_
  refine goesI_region (dt_idle _ _) ?_
  simp only [List.size_toArray, List.length_cons, List.length_nil, Nat.reduceAdd, Nat.zero_add, List.range, List.range.loop]
  iterate 4
    (refine goesI_oper rfl rfl (by decide) (fun d K hK => ?_)
     go_simp
     refine hK _ _ ⟨dt_reads (fun e he => ?_), GoesI.at ?_ d⟩
     · have hm := mem_listed he
       simp [go_sem, *] at hm
       try exact ⟨_, _, hm⟩
     clear hK K)
  refine goesI_into (f := 105) (fn := Try.f105) (args := #[Pt c 0, Pt tb 0, I (to : Nat), I (fr : Nat)]) (dt_idle _ _) rfl rfl (by decide) rfl (by simp [Act.eval]) Try.func105 (by decide) rfl ?_
  refine hk _ _ _ _ _ _ _ rfl ?_ _ rfl
  intro z1 Ch1 St w2 v2 b r2 n2 hgo
  show GoesI Try.prog main (DT (ScZ z1) Ch1) St _ w2
  walk_nrm
  iterate 1
    (refine goesI_oper rfl rfl (by decide) (fun d K hK => ?_)
     go_simp
     refine hK _ _ ⟨dt_reads (fun e he => ?_), GoesI.at ?_ d⟩
     · have hm := mem_listed he
       simp [go_sem, *] at hm
       try exact ⟨_, _, hm⟩
     clear hK K)
  refine goesI_regionEnd (dt_idle _ _) ?_
  refine GoesI.ctl rfl (fun _ => stepG_ret') (dt_idle _ _) ?_
  exact goesI_leaveZ (f := 80) (fn := Try.f80) (x := .bool b) r2 n2 Try.func80 rfl hoc (by simp [results, go_sem, Try.f80]) (fun w' r' => hgo w' r')
end Go.Proofs.Ytfjjoohflcchnaa.Gen

namespace Go.Proofs.Ytfjjoohflcchnaa.Gen
open Go Go.Lift Go.Conc Go.RowKit

/-- What was called has answered r: the call lays its answer f r in memory of its own (pb), and comes back with it. -/
def CBack {α : Type} (main : Bool) (pb : Nat) (enc : α → Value) (f : α → Int × Int) (cu : Value → Goroutine) (cl : Value → Goroutine) : Prop :=
  ∀ (z : Nat → Option Nat) (Ch : Nat → Prop) (Stop : Goroutine → World → Prop) (w v : World) (S : TS) (K : List (Nat × Int)) (x : α), Rel z v w → NoRow Ch v → Mem z S K v → v.heap[pb]? = some (.cells #[I 0, I 0] 42 (0, 0)) → ¬ Own S K pb →
    (∀ v' w', Rel z v' w' → NoRow Ch v' → EvoP (· = pb) z S K v S K v' → GoesI Try.prog main (DT (ScZ z) Ch) Stop (cl (.agg #[I (f x).1, I (f x).2])) w') →
    GoesI Try.prog main (DT (ScZ z) Ch) Stop (cu (enc x)) w
noncomputable def hcB : Code := Try.f81.body.getD .skip
noncomputable def hc0 : Code := seq1 hcB
theorem fine_hc0 : fineCode Try.prog true LT hc0 := fineCode_ask callT extT (by kernel_rfl)
noncomputable def hcO4 : Array Oper := opsOf (seq1 (seq2 (seq1 (seq2 (seq2 hcB)))))
/-- What its fourth statement computes ahead of Ask. -/
def val16 (c tb N n : Nat) (ca cb : Int) : Nat → Value
  | 0 => Pt c 0
  | 1 => Pt tb 0
  | 2 => Pt N 1
  | 3 => I ca
  | 4 => I n
  | 5 => I (which ca n)
  | 6 => Pt N 2
  | 7 => I cb
  | 8 => I n
  | 9 => I (which cb n)
  | _ => undef
theorem lead16 : leadsOn .any hcO4 10 = true := by kernel_rfl
theorem text16 : inText .any hcO4 10 = true := by kernel_rfl
theorem fineOps16 (i : Nat) (hi : i < 10) (o : Oper) (ho : hcO4[i]? = some o) : fineOp Try.prog true LT o := by
  have h : ((hcO4.extract 0 10).all fun o => plainOp Try.prog true o.op || askCall plainFs plainXs o.op) = true := by kernel_rfl
  refine fineOp_ask callT extT ((Array.all_eq_true_iff_forall_mem.1 h) o ?_)
  have : (hcO4.extract 0 10)[i]? = some o := by
    have hs := (Array.getElem?_eq_some_iff.1 ho).1
    rw [Array.getElem?_extract, if_pos (by omega)]
    simpa using ho
  exact Array.mem_of_getElem? this
theorem rest16 (t : Nat) : Region.linearise.go .any hcO4 (hcO4.size - 10) t (listedN hcO4.size 10) [] = [10] := by
  have e1 : ((List.range hcO4.size).filter fun i => !(listedN hcO4.size 10).getD i true && ((hcO4[i]?).map (·.after.all fun e => !Region.binds .any e || (listedN hcO4.size 10).getD e.on false)).getD false) = [10] := by kernel_rfl
  have e0 : hcO4.size - 10 = 1 := by kernel_rfl
  rw [e0]
  unfold Region.linearise.go
  simp only [e1, List.length_cons, List.length_nil, Nat.zero_add, Nat.mod_one, List.getElem?_cons_zero]
  rfl
theorem dst16 (i : Nat) (hi : i < 10) (o : Oper) (ho : hcO4[i]? = some o) : o.dst = some (17 + i) := by
  have h : ((List.range 10).all fun i => (hcO4[i]?).map (·.dst) == some (some (17 + i))) = true := by kernel_rfl
  have := (List.all_eq_true.1 h) i (by simpa using hi)
  rw [ho] at this
  simpa using this
theorem guard16 (i : Nat) (hi : i < 11) (o : Oper) (ho : hcO4[i]? = some o) : o.guard = none := by
  have h : ((List.range 11).all fun i => ((hcO4[i]?).map (·.guard.isNone)) == some true) = true := by kernel_rfl
  have := (List.all_eq_true.1 h) i (by simpa using hi)
  rw [ho] at this
  simpa using this
theorem op16 {i : Nat} {o : Oper} {p : Op} (h : (hcO4[i]?).map (·.op) = some p) (ho : hcO4[i]? = some o) : o.op = p := by
  rw [ho] at h
  exact Option.some.inj h
theorem after16 {i j : Nat} {o : Oper} (h : ((hcO4[i]?).map (fun o => o.after.toList.any fun e => e.on == j && Region.binds .any e)) = some true) (ho : hcO4[i]? = some o) {l : Array Bool} (hd : ∀ e ∈ o.after.toList, Region.binds .any e = true → l.getD e.on false = true) : l.getD j false = true := by
  rw [ho] at h
  simp only [Option.map_some, Option.some.injEq, List.any_eq_true, Bool.and_eq_true, beq_iff_eq] at h
  obtain ⟨e, he, h1, h2⟩ := h
  rw [← h1]
  exact hd e he h2
set_option maxHeartbeats 2000000 in
set_option maxRecDepth 100000 in
/-- The call is Ask. -/
theorem call_ask {z : Nat → Option Nat} {Ch : Nat → Prop} {Stop : Goroutine → World → Prop} {main : Bool} {v w : World} {c tb sb n : Nat} (ca cb cc : Int) (hn0 : 0 < n) (hn1 : n ≤ 100) (h0 : v.cell? ⟨c, 0, none⟩ = some (.slice (some ⟨sb, 0, none⟩) n n)) (cs : List Frame) {bc : Frame} {ac : Act} {ops : Array Oper} {q : Nat} {rest : List Nat} {oc : Oper} {k0 : List Item} (hoc : ops[q]? = some oc)
    (hvw : Rel z v w) (hn : NoRow Ch v)
    (hstop : ∀ v' w' (bd : Frame) (ad : Act) (od : Array Oper) (qd : Nat) (rd : List Nat) (oe : Oper) (kd : List Item), Rel z v' w' → NoRow Ch v' → Grows v v' → v'.heap[v.heap.size + 1]? = some (.cells #[I 0, I 0] 42 (0, 0)) → od[qd]? = some oe →
      CBack main (v.heap.size + 1) (fun b : Bool => .bool b) (fun b => (0, if b then 1 else 0)) (fun r => G (bd.at (ad.put oe.dst r) (.inRegion od rd :: kd)) (bc.at ac (.inRegion ops (q :: rest) :: k0) :: cs)) (fun r => (G (bc.at (ac.put oc.dst r) (.inRegion ops rest :: k0)) cs)) → ∀ code, Try.f80.body = some code →
      GoesI Try.prog main (DT (ScZ z) Ch) Stop (G ((base 80).at { tmps := #[Pt c 0, Pt tb 0, I (which ca n), I (which cb n)] ++ Array.replicate 31 undef, defers := [] } [.code code]) (bd.at ad (.inRegion od (qd :: rd) :: kd) :: bc.at ac (.inRegion ops (q :: rest) :: k0) :: cs)) w') (code : Code) (hc : Try.f81.body = some code) :
    GoesI Try.prog main (DT (ScZ z) Ch) Stop (G ((base 81).at { tmps := #[Pt c 0, Pt tb 0, .agg #[I 1, I ca, I cb, I cc]] ++ Array.replicate 27 undef, defers := [] } [.code code]) (bc.at ac (.inRegion ops (q :: rest) :: k0) :: cs)) w := by
  have hw0 : code = .seq hc0 (seq2 hcB) := by
    rw [show code = hcB by unfold hcB; rw [hc]; rfl]; rfl
  subst hw0
  clear hc
  refine goesI_seq (dt_idle _ _) ?_
  refine goesI_plain (z := z) (wr := true) (L := LT) (I := NoRow Ch) hE fineT noRow_keeps (fun v v' w w' es hi hr ho he => dt_of_z v v' w w' es hi hr ho he) hvw fine_hc0 rfl (by simp [base]) hn
    (Q := fun a w' => a = { tmps := #[Pt c 0, Pt tb 0, .agg #[I 1, I ca, I cb, I cc], undef, undef, Pt v.heap.size 0, Pt (v.heap.size + 1) 0] ++ Array.replicate 23 undef, defers := [] } ∧
      w'.heap = (v.heap.push (.cells #[I 1, I ca, I cb, I cc] 39)).push (.cells #[I 0, I 0] 42) ∧ w'.os = v.os ∧ w'.output = v.output) (fun τ => ?_) ?_
  · unfold hc0 hcB Try.f81 seq1
    simp only [Option.getD_some, Array.replicate_succ, Array.replicate_zero, List.push_toArray, List.append_toArray, List.nil_append, List.cons_append]
    go_wp2_with fail
    exact ⟨rfl, rfl, rfl, rfl⟩
  rintro a' v' w' ⟨rfl, hv1, hv2, hv3⟩ hr' hn' -
  have hsz : v'.heap.size = v.heap.size + 2 := by rw [hv1]; simp
  have hg : Grows v v' := ⟨by omega, fun b hb => by rw [hv1, Array.getElem?_push, if_neg (by simp; omega), Array.getElem?_push, if_neg (by omega)], hv2, hv3⟩
  have hbox : v'.heap[v.heap.size]? = some (.cells #[I 1, I ca, I cb, I cc] 39) := by rw [hv1, Array.getElem?_push, if_neg (by simp)]; exact Array.getElem?_push_size
  have hans : v'.heap[v.heap.size + 1]? = some (.cells #[I 0, I 0] 42) := by rw [hv1, Array.getElem?_push, if_pos (by simp)]
  have hlt : v.heap.size < v'.heap.size := by omega
  have b0 : w'.cell? ⟨v.heap.size, 0, none⟩ = some (I 1) := by rw [hr'.cell?]; simp [World.cell?, hbox]
  have b1 : v'.cell? ⟨v.heap.size, 1, none⟩ = some (I ca) := by simp [World.cell?, hbox]
  have b2 : v'.cell? ⟨v.heap.size, 2, none⟩ = some (I cb) := by simp [World.cell?, hbox]
  have e0 : w'.cell? ⟨c, 0, none⟩ = some (.slice (some ⟨sb, 0, none⟩) n n) := by rw [hr'.cell?]; exact hg.cell h0
  have HV : Hid (Grows v v' ∧ v'.heap[v.heap.size + 1]? = some (.cells #[I 0, I 0] 42 (0, 0)) ∧ NoRow Ch v' ∧ Rel z v' w' ∧ v'.cell? ⟨v.heap.size, 1, none⟩ = some (I ca) ∧ v'.cell? ⟨v.heap.size, 2, none⟩ = some (I cb)) := ⟨⟨hg, hans, hn', hr', b1, b2⟩⟩
  clear hv1 hv2 hv3 hsz hg hbox hans hn' hvw hn hr' b1 b2 hlt
  have hO : seq2 (seq1 (seq2 (seq2 hcB))) = .seq (.region 4 hcO4 true) (seq2 (seq2 (seq1 (seq2 (seq2 hcB))))) := by kernel_rfl
  have hs2 : seq2 hcB = .seq (seq1 (seq2 hcB)) (.seq (.seq (seq1 (seq1 (seq2 (seq2 hcB)))) (seq2 (seq1 (seq2 (seq2 hcB))))) (seq2 (seq2 (seq2 hcB)))) := by kernel_rfl
  rw [hs2, hO]
  generalize hX1 : seq2 (seq2 (seq1 (seq2 (seq2 hcB)))) = X1
  generalize hX2 : seq2 (seq2 (seq2 hcB)) = X2
  generalize hX3 : hcO4 = O4
  simp only [Array.replicate_succ, Array.replicate_zero, List.push_toArray, List.append_toArray, List.nil_append, List.cons_append]
  unfold hcB Try.f81 seq1 seq2
  simp only [Option.getD_some]
  refine goesI_seq (dt_idle _ _) ?_
  refine goesI_seq (dt_idle _ _) ?_
  refine goesI_region (dt_idle _ _) ?_
  simp only [List.size_toArray, List.length_cons, List.length_nil, Nat.reduceAdd, Nat.zero_add, List.range, List.range.loop]
  iterate 3
    (refine goesI_oper rfl rfl (by decide) (fun d K hK => ?_)
     go_simp
     refine hK _ _ ⟨dt_reads (fun e he => ?_), GoesI.at ?_ d⟩
     · have hm := mem_listed he
       simp [go_sem, *] at hm
       try exact ⟨_, _, hm⟩
     clear hK K)
  refine goesI_regionEnd (dt_idle _ _) ?_
  refine goesI_cond (dt_idle _ _) (t := false) (by simp [Act.eval]) ?_
  simp only [if_true, if_false, Bool.false_eq_true]
  refine goesI_skip (dt_idle _ _) ?_
  refine goesI_seq (dt_idle _ _) ?_
  refine goesI_seq (dt_idle _ _) ?_
  refine goesI_region (dt_idle _ _) ?_
  simp only [List.size_toArray, List.length_cons, List.length_nil, Nat.reduceAdd, Nat.zero_add, List.range, List.range.loop]
  iterate 6
    (refine goesI_oper rfl rfl (by decide) (fun d K hK => ?_)
     go_simp
     refine hK _ _ ⟨dt_reads (fun e he => ?_), GoesI.at ?_ d⟩
     · have hm := mem_listed he
       simp [go_sem, *] at hm
       try exact ⟨_, _, hm⟩
     clear hK K)
  refine goesI_regionEnd (dt_idle _ _) ?_
  refine goesI_seq (dt_idle _ _) ?_
  subst hX3
  clear b0 e0
  refine goesI_region_quiet (n := 10) (val := val16 c tb v.heap.size n ca cb) (J := fun w => Rel z v' w) mix21 (fun w d hJ => hJ.re rfl rfl rfl rfl rfl rfl) (fun w => dt_draw _ _ w) lead16 text16 (on := hcO4[10]'(by decide)) rfl ?_ ?_ ?_
    { tmps := #[Pt c 0, Pt tb 0, .agg #[I 1, I ca, I cb, I cc], undef, undef, Pt v.heap.size 0, Pt (v.heap.size + 1) 0, I (n : Nat), Pt v.heap.size 0, I 1, .bool false, undef, Pt c 0, Pt c 0, Pt c 0, .slice (some ⟨sb, 0, none⟩) n n, I (n : Nat), Pt c 0, Pt tb 0, Pt v.heap.size 1, I ca, I (n : Nat), I (which ca n), Pt v.heap.size 2, I cb, I (n : Nat), I (which cb n), undef, undef, undef], defers := [] } ?_ ?_ HV.out.2.2.2.1
  · intro i1 j1 oi oj t1 h1 h2 h3 h4 h5 h6
    rw [dst16 i1 h1 oi h3] at h5
    rw [dst16 j1 h2 oj h4] at h6
    have := Option.some.inj (h5.trans h6.symm)
    omega
  · intro i1 o1 t1 h1 h2 h3
    rw [dst16 i1 h1 o1 h2] at h3
    have := Option.some.inj h3
    subst this
    show (17 + i1 : Nat) < 30
    omega
  · intro i' o rest' listed a w1 hi ho hdep hagr hJ hgo
    have ev : ∀ j, j < 10 → listed.getD j false = true → a.eval (.tmp (17 + j)) = val16 c tb v.heap.size n ca cb j := fun j hj hl =>
      hagr.eval hj (o := hcO4[j]'(by have : hcO4.size = 11 := rfl; omega)) (Array.getElem?_eq_getElem _) hl (dst16 j hj _ (Array.getElem?_eq_getElem _))
    have ev0 : ∀ t' : Nat, t' < 17 → a.eval (.tmp t') = _ := fun t' ht' => hagr.eval0 (t := t') (fun j o hj ho e => by
      rw [dst16 j hj o ho] at e
      have : (17 + j : Nat) = t' := Option.some.inj e
      omega)
    have e0 : a.eval (.tmp 0) = Pt c 0 := ev0 0 (by omega)
    have e1 : a.eval (.tmp 1) = Pt tb 0 := ev0 1 (by omega)
    have e5 : a.eval (.tmp 5) = Pt v.heap.size 0 := ev0 5 (by omega)
    have e7 : a.eval (.tmp 7) = I (n : Nat) := ev0 7 (by omega)
    have hw : Region.wanted o (yielded hcO4 a.tmps) = true := by simp [Region.wanted, guard16 i' (by omega) o ho]
    have wh : ∀ (x : Int) (y1 y2 : Nat) (hop : o.op = .call { callee := .value (.func 56), args := #[.tmp y1, .tmp y2], argTypes := #[3, 3] }) (l1 : a.eval (.tmp y1) = I x) (l2 : a.eval (.tmp y2) = I (n : Nat)) (hval : val16 c tb v.heap.size n ca cb i' = I (which x n)), GoesI Try.prog main (DT (ScZ z) Ch) Stop (G ((base 81).at a (.inRegion hcO4 (i' :: rest') :: _)) _) w1 := fun x y1 y2 hop l1 l2 hval => by
      refine goesI_call (f := 56) (fn := Try.f56) (args := #[I x, I (n : Nat)]) hE fineT ho hw (by simp [base]) hop (by simp only [List.map_toArray, List.map_cons, List.map_nil]; rw [l1, l2]) Try.func56 (by kernel_rfl) rfl (fineFn_body fineT (by simp [LT, plainFs]) Try.func56 rfl) (fun tmps => ⟨_, fun w => results_tmp rfl _ _ _, fun w => by simp [results, go_sem]⟩) hJ HV.out.2.2.1
        (R := fun r u => r = I (which x n) ∧ u.heap = v'.heap ∧ u.os = v'.os ∧ u.output = v'.output) (fun τ => ?_) (fun r u w2 hR hr2 _ => ?_)
      · exact wp_mono (body25w x n hn0 (by omega) (onTape v' τ 0) _ rfl) (bp_mono fun r u hq => ⟨hq.1, by rw [hq.2]; rfl, by rw [hq.2]; rfl, by rw [hq.2]; rfl⟩)
      · obtain ⟨rfl, q1, q2, q3⟩ := hR
        rw [← hval]
        exact hgo w2 (hr2.re q1.symm rfl q2.symm rfl q3.symm rfl)
    by_cases h5 : i' = 5
    · subst h5
      exact wh ca 20 21 (op16 rfl ho) (ev 3 (by omega) (after16 (by kernel_rfl) ho hdep)) (ev 4 (by omega) (after16 (by kernel_rfl) ho hdep)) rfl
    by_cases h9 : i' = 9
    · subst h9
      exact wh cb 24 25 (op16 rfl ho) (ev 7 (by omega) (after16 (by kernel_rfl) ho hdep)) (ev 8 (by omega) (after16 (by kernel_rfl) ho hdep)) rfl
    have b1 := HV.out.2.2.2.2.1
    have b2 := HV.out.2.2.2.2.2
    have hrun : (execOp a.eval o).run Try.prog v' = .ok (.value (val16 c tb v.heap.size n ca cb i')) v' := by
      match i', hi, h5, h9, ho with
      | 0, _, _, _, ho => have hop := op16 (p := .move (.tmp 0)) rfl ho; unfold execOp; rw [hop]; simp only [e0]; simp [go_sem, val16]
      | 1, _, _, _, ho => have hop := op16 (p := .move (.tmp 1)) rfl ho; unfold execOp; rw [hop]; simp only [e1]; simp [go_sem, val16]
      | 2, _, _, _, ho => have hop := op16 (p := .fieldAddr 39 (.tmp 5) 1) rfl ho; unfold execOp; rw [hop]; simp only [e5]; simp [go_sem, val16]
      | 3, _, _, _, ho => have hop := op16 (p := .load 3 (.tmp 19)) rfl ho; have l : a.eval (.tmp 19) = Pt v.heap.size 1 := ev 2 (by omega) (after16 (by kernel_rfl) ho hdep); unfold execOp; rw [hop]; simp only [l]; simp [go_sem, b1, val16]
      | 4, _, _, _, ho => have hop := op16 (p := .move (.tmp 7)) rfl ho; unfold execOp; rw [hop]; simp only [e7]; simp [go_sem, val16]
      | 5, _, h5, _, _ => exact absurd rfl h5
      | 6, _, _, _, ho => have hop := op16 (p := .fieldAddr 39 (.tmp 5) 2) rfl ho; unfold execOp; rw [hop]; simp only [e5]; simp [go_sem, val16]
      | 7, _, _, _, ho => have hop := op16 (p := .load 3 (.tmp 23)) rfl ho; have l : a.eval (.tmp 23) = Pt v.heap.size 2 := ev 6 (by omega) (after16 (by kernel_rfl) ho hdep); unfold execOp; rw [hop]; simp only [l]; simp [go_sem, b2, val16]
      | 8, _, _, _, ho => have hop := op16 (p := .move (.tmp 7)) rfl ho; unfold execOp; rw [hop]; simp only [e7]; simp [go_sem, val16]
      | 9, _, _, h9, _ => exact absurd rfl h9
    exact goesI_opZ ho hw (by simp [base]) (fineOps16 i' hi o ho) hJ HV.out.2.2.1 hrun rfl (fun w2 hr2 _ => hgo w2 hr2)
  · refine ⟨rfl, rfl, fun j o t' hj ho _ hd => ?_, fun t' hne => ?_⟩
    · rw [dst16 j hj o ho] at hd
      have : (17 + j : Nat) = t' := Option.some.inj hd
      subst this
      match j, hj with
      | 0, _ => rfl
      | 1, _ => rfl
      | 2, _ => rfl
      | 3, _ => rfl
      | 4, _ => rfl
      | 5, _ => rfl
      | 6, _ => rfl
      | 7, _ => rfl
      | 8, _ => rfl
      | 9, _ => rfl
    · have hcase : ∀ m : Nat, m < 10 → t' ≠ 17 + m := fun m hm e => by
        have hs : m < hcO4.size := by have : hcO4.size = 11 := rfl; omega
        refine hne m (hcO4[m]'hs) hm (Array.getElem?_eq_getElem hs) ?_ ((dst16 m hm _ (Array.getElem?_eq_getElem hs)).trans (by rw [e]))
        rw [Array.getD_eq_getD_getElem?, listedN_get hs]
        simp [hm]
      match t', hcase with
      | 0, _ => rfl
      | 1, _ => rfl
      | 2, _ => rfl
      | 3, _ => rfl
      | 4, _ => rfl
      | 5, _ => rfl
      | 6, _ => rfl
      | 7, _ => rfl
      | 8, _ => rfl
      | 9, _ => rfl
      | 10, _ => rfl
      | 11, _ => rfl
      | 12, _ => rfl
      | 13, _ => rfl
      | 14, _ => rfl
      | 15, _ => rfl
      | 16, _ => rfl
      | 17, h => exact absurd rfl (h 0 (by omega))
      | 18, h => exact absurd rfl (h 1 (by omega))
      | 19, h => exact absurd rfl (h 2 (by omega))
      | 20, h => exact absurd rfl (h 3 (by omega))
      | 21, h => exact absurd rfl (h 4 (by omega))
      | 22, h => exact absurd rfl (h 5 (by omega))
      | 23, h => exact absurd rfl (h 6 (by omega))
      | 24, h => exact absurd rfl (h 7 (by omega))
      | 25, h => exact absurd rfl (h 8 (by omega))
      | 26, h => exact absurd rfl (h 9 (by omega))
      | 27, _ => rfl
      | 28, _ => rfl
      | 29, _ => rfl
      | m + 30, _ => rfl
  · intro tt w1 hJ
    rw [rest16]
    refine goesI_into (f := 80) (fn := Try.f80) (args := #[Pt c 0, Pt tb 0, I (which ca n), I (which cb n)]) (dt_idle _ _) (o := hcO4[10]'(by decide)) rfl rfl (by decide) rfl (by simp [Act.eval]) Try.func80 (by decide) rfl ?_
    refine hstop v' w1 _ _ _ _ _ _ _ hJ HV.out.2.2.1 HV.out.1 HV.out.2.1 rfl ?_ _ rfl
    subst hX1 hX2
    clear HV hstop hJ
    intro z1 Ch1 St w2 v2 S1 K1 b r2 n2 m2 hpb2 hown2 hk
    have hd : (hcO4[10]'(by decide)).dst = some 27 := rfl
    simp only [hd]
    generalize v.heap.size = N at hpb2 hown2 hk ⊢
    generalize hX3 : hcO4 = O4
    unfold hcB Try.f81 seq1 seq2
    simp only [Option.getD_some]
    cases b with
    | true =>
      have hk : ∀ v' w', Rel z1 v' w' → NoRow Ch1 v' → EvoP (· = N + 1) z1 S1 K1 v2 S1 K1 v' → GoesI Try.prog main (DT (ScZ z1) Ch1) St (G (bc.at (ac.put oc.dst (.agg #[I 0, I 1])) (.inRegion ops rest :: k0)) cs) w' := hk
      have q0 : v2.cell? ⟨N + 1, 0, none⟩ = some (I 0) := by simp [World.cell?, hpb2]
      have q1 : v2.cell? ⟨N + 1, 1, none⟩ = some (I 0) := by simp [World.cell?, hpb2]
      have p0 : v2.frozen? ⟨N + 1, 0, none⟩ = false := by simp [World.frozen?, hpb2]
      have p1 : v2.frozen? ⟨N + 1, 1, none⟩ = false := by simp [World.frozen?, hpb2]
      have e3 := m2.other (v' := (v2.setCell ⟨N + 1, 0, none⟩ (I 0)).setCell ⟨N + 1, 1, none⟩ (I 1)) hown2 (fun b hb => by rw [Below.heap_setCell _ _ _ _ hb, Below.heap_setCell _ _ _ _ hb]) (by simp [World.setCell]) rfl rfl
      have hrow : ((v2.setCell ⟨N + 1, 0, none⟩ (I 0)).setCell ⟨N + 1, 1, none⟩ (I 1)).heap[N + 1]? = some (.cells #[I 0, I 1] 42 (0, 0)) := by
        have := heap_setCell_same (o := 1) (heap_setCell_same (o := 0) hpb2 (I 0)) (I 1)
        simpa using this
      walk_nrm
      refine goesI_regionEnd (dt_idle _ _) ?_
      refine goesI_cond (dt_idle _ _) (t := true) (by simp [Act.eval]) ?_
      simp only [if_true, if_false, Bool.false_eq_true]
      refine goesI_seq (dt_idle _ _) ?_
      refine goesI_region (dt_idle _ _) ?_
      simp only [List.size_toArray, List.length_cons, List.length_nil, Nat.reduceAdd, Nat.zero_add, List.range, List.range.loop]
      iterate 1
        (refine goesI_oper rfl rfl (by decide) (fun d K hK => ?_)
         go_simp
         refine hK _ _ ⟨dt_reads (fun e he => ?_), GoesI.at ?_ d⟩
         · have hm := mem_listed he
           simp [go_sem, *] at hm
           try exact ⟨_, _, hm⟩
         clear hK K)
      refine goesI_doZ (L := LT) rfl rfl (by decide) (fineOp_ask callT extT (by kernel_rfl)) r2 n2 (v' := (v2.setCell ⟨N + 1, 0, none⟩ (I 0)).setCell ⟨N + 1, 1, none⟩ (I 1)) (by go_simp) rfl (fun w3 r3 n3 => ?_)
      refine goesI_regionEnd (dt_idle _ _) ?_
      refine GoesI.ctl rfl (fun _ => stepG_ret') (dt_idle _ _) ?_
      refine goesI_leaveZ (f := 81) (fn := Try.f81) (x := .agg #[I 0, I 1]) r3 n3 Try.func81 rfl hoc ?_ (fun w' r' => hk _ w' r' n3 e3)
      generalize ((v2.setCell ⟨N + 1, 0, none⟩ (I 0)).setCell ⟨N + 1, 1, none⟩ (I 1)) = V at hrow
      have k0 : V.cell? ⟨N + 1, 0, none⟩ = some (I 0) := by simp [World.cell?, hrow]
      have k1 : V.cell? ⟨N + 1, 1, none⟩ = some (I 1) := by simp [World.cell?, hrow]
      simp [results, go_sem, Try.f81, *]
    | false =>
      have hk : ∀ v' w', Rel z1 v' w' → NoRow Ch1 v' → EvoP (· = N + 1) z1 S1 K1 v2 S1 K1 v' → GoesI Try.prog main (DT (ScZ z1) Ch1) St (G (bc.at (ac.put oc.dst (.agg #[I 0, I 0])) (.inRegion ops rest :: k0)) cs) w' := hk
      have q0 : v2.cell? ⟨N + 1, 0, none⟩ = some (I 0) := by simp [World.cell?, hpb2]
      have q1 : v2.cell? ⟨N + 1, 1, none⟩ = some (I 0) := by simp [World.cell?, hpb2]
      have p0 : v2.frozen? ⟨N + 1, 0, none⟩ = false := by simp [World.frozen?, hpb2]
      have p1 : v2.frozen? ⟨N + 1, 1, none⟩ = false := by simp [World.frozen?, hpb2]
      have e3 := m2.other (v' := (v2.setCell ⟨N + 1, 0, none⟩ (I 0)).setCell ⟨N + 1, 1, none⟩ (I 0)) hown2 (fun b hb => by rw [Below.heap_setCell _ _ _ _ hb, Below.heap_setCell _ _ _ _ hb]) (by simp [World.setCell]) rfl rfl
      have hrow : ((v2.setCell ⟨N + 1, 0, none⟩ (I 0)).setCell ⟨N + 1, 1, none⟩ (I 0)).heap[N + 1]? = some (.cells #[I 0, I 0] 42 (0, 0)) := by
        have := heap_setCell_same (o := 1) (heap_setCell_same (o := 0) hpb2 (I 0)) (I 0)
        simpa using this
      walk_nrm
      refine goesI_regionEnd (dt_idle _ _) ?_
      refine goesI_cond (dt_idle _ _) (t := false) (by simp [Act.eval]) ?_
      simp only [if_true, if_false, Bool.false_eq_true]
      refine goesI_skip (dt_idle _ _) ?_
      refine goesI_seq (dt_idle _ _) ?_
      refine goesI_region (dt_idle _ _) ?_
      simp only [List.size_toArray, List.length_cons, List.length_nil, Nat.reduceAdd, Nat.zero_add, List.range, List.range.loop]
      iterate 1
        (refine goesI_oper rfl rfl (by decide) (fun d K hK => ?_)
         go_simp
         refine hK _ _ ⟨dt_reads (fun e he => ?_), GoesI.at ?_ d⟩
         · have hm := mem_listed he
           simp [go_sem, *] at hm
           try exact ⟨_, _, hm⟩
         clear hK K)
      refine goesI_doZ (L := LT) rfl rfl (by decide) (fineOp_ask callT extT (by kernel_rfl)) r2 n2 (v' := (v2.setCell ⟨N + 1, 0, none⟩ (I 0)).setCell ⟨N + 1, 1, none⟩ (I 0)) (by go_simp) rfl (fun w3 r3 n3 => ?_)
      refine goesI_regionEnd (dt_idle _ _) ?_
      refine GoesI.ctl rfl (fun _ => stepG_ret') (dt_idle _ _) ?_
      refine goesI_leaveZ (f := 81) (fn := Try.f81) (x := .agg #[I 0, I 0]) r3 n3 Try.func81 rfl hoc ?_ (fun w' r' => hk _ w' r' n3 e3)
      generalize ((v2.setCell ⟨N + 1, 0, none⟩ (I 0)).setCell ⟨N + 1, 1, none⟩ (I 0)) = V at hrow
      have k0 : V.cell? ⟨N + 1, 0, none⟩ = some (I 0) := by simp [World.cell?, hrow]
      have k1 : V.cell? ⟨N + 1, 1, none⟩ = some (I 0) := by simp [World.cell?, hrow]
      simp [results, go_sem, Try.f81, *]

set_option maxHeartbeats 2000000 in
set_option maxRecDepth 100000 in
/-- There is no such call. -/
theorem call_no {z : Nat → Option Nat} {Ch : Nat → Prop} {Stop : Goroutine → World → Prop} {main : Bool} {v w : World} {c tb : Nat} (po ca cb cc : Int) (hpo : po ≠ 1) (cs : List Frame) {bc : Frame} {ac : Act} {ops : Array Oper} {q : Nat} {rest : List Nat} {oc : Oper} {k0 : List Item} (hoc : ops[q]? = some oc)
    (hvw : Rel z v w) (hn : NoRow Ch v)
    (hk : ∀ v' w', Rel z v' w' → NoRow Ch v' → Grows v v' → GoesI Try.prog main (DT (ScZ z) Ch) Stop (G (bc.at (ac.put oc.dst (.agg #[I 1, I 0])) (.inRegion ops rest :: k0)) cs) w') (code : Code) (hc : Try.f81.body = some code) :
    GoesI Try.prog main (DT (ScZ z) Ch) Stop (G ((base 81).at { tmps := #[Pt c 0, Pt tb 0, .agg #[I po, I ca, I cb, I cc]] ++ Array.replicate 27 undef, defers := [] } [.code code]) (bc.at ac (.inRegion ops (q :: rest) :: k0) :: cs)) w := by
  have hw0 : code = .seq hc0 (seq2 hcB) := by
    rw [show code = hcB by unfold hcB; rw [hc]; rfl]; rfl
  subst hw0
  clear hc
  refine goesI_seq (dt_idle _ _) ?_
  refine goesI_plain (z := z) (wr := true) (L := LT) (I := NoRow Ch) hE fineT noRow_keeps (fun v v' w w' es hi hr ho he => dt_of_z v v' w w' es hi hr ho he) hvw fine_hc0 rfl (by simp [base]) hn
    (Q := fun a w' => a = { tmps := #[Pt c 0, Pt tb 0, .agg #[I po, I ca, I cb, I cc], undef, undef, Pt v.heap.size 0, Pt (v.heap.size + 1) 0] ++ Array.replicate 23 undef, defers := [] } ∧
      w'.heap = (v.heap.push (.cells #[I po, I ca, I cb, I cc] 39)).push (.cells #[I 0, I 0] 42) ∧ w'.os = v.os ∧ w'.output = v.output) (fun τ => ?_) ?_
  · unfold hc0 hcB Try.f81 seq1
    simp only [Option.getD_some, Array.replicate_succ, Array.replicate_zero, List.push_toArray, List.append_toArray, List.nil_append, List.cons_append]
    go_wp2_with fail
    exact ⟨rfl, rfl, rfl, rfl⟩
  rintro a' v' w' ⟨rfl, hv1, hv2, hv3⟩ hr' hn' -
  have hsz : v'.heap.size = v.heap.size + 2 := by rw [hv1]; simp
  have hg : Grows v v' := ⟨by omega, fun b hb => by rw [hv1, Array.getElem?_push, if_neg (by simp; omega), Array.getElem?_push, if_neg (by omega)], hv2, hv3⟩
  have hbox : v'.heap[v.heap.size]? = some (.cells #[I po, I ca, I cb, I cc] 39) := by rw [hv1, Array.getElem?_push, if_neg (by simp)]; exact Array.getElem?_push_size
  have hans : v'.heap[v.heap.size + 1]? = some (.cells #[I 0, I 0] 42) := by rw [hv1, Array.getElem?_push, if_pos (by simp)]
  have hlt : v.heap.size < v'.heap.size := by omega
  have b0 : w'.cell? ⟨v.heap.size, 0, none⟩ = some (I po) := by rw [hr'.cell?]; simp [World.cell?, hbox]
  have hpo' : (po != 1) = true := by simp [hpo]
  have HV : Hid (Grows v v' ∧ v'.heap[v.heap.size + 1]? = some (.cells #[I 0, I 0] 42) ∧ NoRow Ch v' ∧ Rel z v' w') := ⟨⟨hg, hans, hn', hr'⟩⟩
  clear hv1 hv2 hv3 hsz hg hbox hans hn' hvw hn hr' hlt
  generalize hN : v.heap.size = N at b0 HV ⊢
  simp only [Array.replicate_succ, Array.replicate_zero, List.push_toArray, List.append_toArray, List.nil_append, List.cons_append]
  unfold hcB Try.f81 seq2
  simp only [Option.getD_some]
  refine goesI_seq (dt_idle _ _) ?_
  refine goesI_seq (dt_idle _ _) ?_
  refine goesI_region (dt_idle _ _) ?_
  simp only [List.size_toArray, List.length_cons, List.length_nil, Nat.reduceAdd, Nat.zero_add, List.range, List.range.loop]
  iterate 3
    (refine goesI_oper rfl rfl (by decide) (fun d K hK => ?_)
     go_simp
     refine hK _ _ ⟨dt_reads (fun e he => ?_), GoesI.at ?_ d⟩
     · have hm := mem_listed he
       simp [go_sem, *] at hm
       try exact ⟨_, _, hm⟩
     clear hK K)
  refine goesI_regionEnd (dt_idle _ _) ?_
  refine goesI_cond (dt_idle _ _) (t := true) (by simp [Act.eval, hpo']) ?_
  simp only [if_true, if_false, Bool.false_eq_true]
  refine goesI_seq (dt_idle _ _) ?_
  refine goesI_region (dt_idle _ _) ?_
  simp only [List.size_toArray, List.length_cons, List.length_nil, Nat.reduceAdd, Nat.zero_add, List.range, List.range.loop]
  iterate 1
    (refine goesI_oper rfl rfl (by decide) (fun d K hK => ?_)
     go_simp
     refine hK _ _ ⟨dt_reads (fun e he => ?_), GoesI.at ?_ d⟩
     · have hm := mem_listed he
       simp [go_sem, *] at hm
       try exact ⟨_, _, hm⟩
     clear hK K)
  obtain ⟨hg, hans, hn', hr'⟩ := HV.out
  have q0 : v'.cell? ⟨N + 1, 0, none⟩ = some (I 0) := by simp [World.cell?, hans]
  have q1 : v'.cell? ⟨N + 1, 1, none⟩ = some (I 0) := by simp [World.cell?, hans]
  have p0 : v'.frozen? ⟨N + 1, 0, none⟩ = false := by simp [World.frozen?, hans]
  have p1 : v'.frozen? ⟨N + 1, 1, none⟩ = false := by simp [World.frozen?, hans]
  have hrow : ((v'.setCell ⟨N + 1, 0, none⟩ (I 1)).setCell ⟨N + 1, 1, none⟩ (I 0)).heap[N + 1]? = some (.cells #[I 1, I 0] 42 (0, 0)) := by
    have := heap_setCell_same (o := 1) (heap_setCell_same (o := 0) hans (I 1)) (I 0)
    simpa using this
  have hg2 : Grows v ((v'.setCell ⟨N + 1, 0, none⟩ (I 1)).setCell ⟨N + 1, 1, none⟩ (I 0)) := by
    refine ⟨by simp [World.setCell]; exact hg.size, fun b hb => ?_, hg.os, hg.output⟩
    have hbN : b ≠ N + 1 := by omega
    rw [Below.heap_setCell _ _ _ _ hbN, Below.heap_setCell _ _ _ _ hbN]
    exact hg.old b hb
  clear hg hans b0 HV
  refine goesI_doZ (L := LT) rfl rfl (by decide) (fineOp_ask callT extT (by kernel_rfl)) hr' hn' (v' := (v'.setCell ⟨N + 1, 0, none⟩ (I 1)).setCell ⟨N + 1, 1, none⟩ (I 0)) (by go_simp) rfl (fun w3 r3 n3 => ?_)
  refine goesI_regionEnd (dt_idle _ _) ?_
  refine GoesI.ctl rfl (fun _ => stepG_ret') (dt_idle _ _) ?_
  refine goesI_leaveZ (f := 81) (fn := Try.f81) (x := .agg #[I 1, I 0]) r3 n3 Try.func81 rfl hoc ?_ (fun w' r' => hk _ w' r' n3 hg2)
  generalize ((v'.setCell ⟨N + 1, 0, none⟩ (I 1)).setCell ⟨N + 1, 1, none⟩ (I 0)) = V at hrow
  have k0 : V.cell? ⟨N + 1, 0, none⟩ = some (I 1) := by simp [World.cell?, hrow]
  have k1 : V.cell? ⟨N + 1, 1, none⟩ = some (I 0) := by simp [World.cell?, hrow]
  simp [results, go_sem, Try.f81, *]
end Go.Proofs.Ytfjjoohflcchnaa.Gen
