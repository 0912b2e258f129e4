/- CounterAlone, whatever the shards, the numbers and the ids: a counter of no world, added to by free threads; behind each Add its Sum is the sum of the shards' amounts, each within 32 bits with a sign; the law answers true and its input reads as it did. Part 28 of 35. (Joined, by program, of: GObj, CtC, GNow.) -/
import Derived.Test.YtcfmffmcammbjaaDoorCounterAlone08
import Derived.Test.YtcfmffmcammbjaaDoorCounterAlone18
import Derived.Test.YtcfmffmcammbjaaDoorCounterAlone22
import Derived.Test.YtcfmffmcammbjaaDoorCounterAlone27

/- A Play's objects, one by one: a cell more, a row more. -/
set_option linter.unusedSimpArgs false
set_option linter.unusedVariables false
namespace Go.Proofs.YtcfmffmcammbjaaDoor.Gen
open Go Go.Lift Go.Conc Go.RowKit

def padd (pk : Nat → Option Obj) (b : Nat) (o : Obj) : Nat → Option Obj := fun x => if x = b then some o else pk x
theorem padd_at (pk : Nat → Option Obj) (b : Nat) (o : Obj) : padd pk b o b = some o := by unfold padd; rw [if_pos rfl]
theorem padd_ne {pk : Nat → Option Obj} {b x : Nat} {o : Obj} (h : x ≠ b) : padd pk b o x = pk x := by unfold padd; rw [if_neg h]
theorem cell_of {v : World} {b j : Nat} {c : Array Value} {t : TypeId} {f : Nat × Nat} {x : Value} (h : v.heap[b]? = some (.cells c t f)) (hj : c[j]? = some x) : v.cell? ⟨b, j, none⟩ = some x := by
  unfold World.cell?
  rw [h]
  exact hj

section
variable {v u u' : World} {S S1 : TS} {K : List (Nat × Int)} {xs : List Int} {pk : Nat → Option Obj}
theorem Objs.start (hm : Mem zn S [] v) (hch : S.chg = []) : Objs v S [] (fun _ => none) S [] v :=
  ⟨Cel.refl hm, rfl, ⟨S.cv, by unfold cellsS; rw [List.length_nil, List.replicate_zero, ← hch]⟩, fun b o h => (by cases h), fun b h => absurd rfl h, fun b o h => (by cases h)⟩
/-- Some of what was there may be read, too. -/
theorem Objs.startG (hm : Mem zn S [] v) (hch : S.chg = []) (hpk : Has pk v) (hf : ∀ b, pk b ≠ none → ¬ Own S [] b ∧ b ≠ S.bk) (hr : ∀ b o, pk b = some o → ∃ c e f, o = .cells c e f) : Objs v S [] pk S [] v :=
  ⟨Cel.refl hm, rfl, ⟨S.cv, by unfold cellsS; rw [List.length_nil, List.replicate_zero, ← hch]⟩, hpk, fun b h => ⟨.inr (hf b h).2, (hf b h).1⟩, hr⟩
theorem Objs.push (h : Objs v S xs pk S1 K u) {c : Array Value} {t : TypeId} (e : u'.heap = u.heap.push (.cells c t)) (e1 : u'.os = u.os) (e2 : u'.output = u.output) : Objs v S xs (padd pk u.heap.size (.cells c t)) S1 K u' := by
  refine ⟨h.cel.push e e1 e2, h.vals, h.st, fun b o hb => ?_, fun b hb => ?_, fun b o hb => ?_⟩
  · by_cases hbu : b = u.heap.size
    · subst hbu
      rw [padd_at] at hb
      cases hb
      rw [e]
      exact Array.getElem?_push_size
    · rw [padd_ne hbu] at hb
      have := h.has b o hb
      have hl := (Array.getElem?_eq_some_iff.1 this).1
      rw [e, Array.getElem?_push, if_neg (by omega)]
      exact this
  · by_cases hbu : b = u.heap.size
    · subst hbu
      exact ⟨.inl h.cel.fr.size, fun ho => by have := h.cel.mem.lt ho; omega⟩
    · rw [padd_ne hbu] at hb
      exact h.new b hb
  · by_cases hbu : b = u.heap.size
    · subst hbu
      rw [padd_at] at hb
      cases hb
      exact ⟨_, _, _, rfl⟩
    · rw [padd_ne hbu] at hb
      exact h.row b o hb
theorem Objs.more (h : Objs v S xs pk S1 K u) {S2 : TS} {K2 : List (Nat × Int)} {ys : List Int} (c : Cel zn S1 K u S2 K2 u') (hv : K2.map (·.2) = ys) (hs : ∃ cv, S2 = cellsS S cv ys.length) : Objs v S ys pk S2 K2 u' := by
  have hl : ∀ b o, pk b = some o → b < u.heap.size := fun b o hb => (Array.getElem?_eq_some_iff.1 (h.has b o hb)).1
  refine ⟨h.cel.trans c, hv, hs, fun b o hb => ?_, fun b hb => ?_, h.row⟩
  · rw [c.fr.block b (hl b o hb) (h.new b (by rw [hb]; simp)).2]
    exact h.has b o hb
  · obtain ⟨o, ho⟩ := Option.ne_none_iff_exists'.1 hb
    refine ⟨(h.new b hb).1, fun ho' => ?_⟩
    rcases c.own b ho' with e | e
    · exact (h.new b hb).2 e
    · have := hl b o ho; omega
/-- cell.New. -/
theorem Objs.cell (h : Objs v S xs pk S1 K u) (x : Int) (hl : xs.length ≤ 1000000) : Calls Tryd.prog 63 #[Pt S.wb 0, I x] u (fun e w' => ∃ cb, e = .returned (Pt cb 0) ∧ u.heap.size ≤ w'.heap.size ∧ ∃ S2, Objs v S (xs ++ [x]) pk S2 (K ++ [(cb, x)]) w') := by
  obtain ⟨cv, rfl⟩ := h.st
  have h10 := (body10 h.cel.mem x (by show (List.replicate xs.length (0 : Int)).length ≤ _; simp; omega)).calls Tryd.func63 rfl
  refine h10.mono ?_
  rintro e w' ⟨r, rfl, cb, cv', rfl, hm1, hf1, hn1⟩
  refine ⟨cb, rfl, hf1.size, _, h.more ⟨hm1, hf1, hn1⟩ (by rw [List.map_append, h.vals]; rfl) ⟨cv', ?_⟩⟩
  unfold celledS cellsS
  simp only [List.length_append, List.length_cons, List.length_nil, Nat.zero_add, List.replicate_succ']
end
end Go.Proofs.YtcfmffmcammbjaaDoor.Gen

/- A call of a script on a counter (86), in company: its entry, its way out; and an Op that there is not. (Made by wip/tools/mkctc.py.) -/
set_option linter.unusedSimpArgs false
set_option linter.unusedVariables false
namespace Go.Proofs.YtcfmffmcammbjaaDoor.Gen
open Go Go.Lift Go.Conc Go.RowKit

/-- What was called has answered r: the call lays its answer (e, f r) in memory of its own (pb), and comes back with it. -/
def CBack {α : Type} (main : Bool) (pb : Nat) (enc : α → Value) (f : α → Int × Int) (cu : Value → Goroutine) (cl : Value → Goroutine) : Prop :=
  ∀ (z : Nat → Option Nat) (Ch : Nat → Prop) (Stop : Goroutine → World → Prop) (w v : World) (S : TS) (K : List (Nat × Int)) (x : α), Rel z v w → NoRow Ch v → Mem z S K v → v.heap[pb]? = some (.cells #[I 0, I 0] 38 (0, 0)) → ¬ Own S K pb →
    (∀ v' w', Rel z v' w' → NoRow Ch v' → EvoP (· = pb) z S K v S K v' → GoesI Tryd.prog main (DT (ScZ z) Ch) Stop (cl (.agg #[I (f x).1, I (f x).2])) w') →
    GoesI Tryd.prog main (DT (ScZ z) Ch) Stop (cu (enc x)) w
noncomputable def c860 : Code := seq1 (Tryd.f86.body.getD .skip)
theorem fine_c860 : fineCode Tryd.prog true LT c860 := fineCode_ask callT extT (by kernel_rfl)

set_option maxHeartbeats 2000000 in
set_option maxRecDepth 100000 in
/-- The call is Add. -/
theorem call_add {z : Nat → Option Nat} {Ch : Nat → Prop} {Stop : Goroutine → World → Prop} {main : Bool} {v w : World} {c tb : Nat} (ca cb cc : Int) (cs : List Frame) {bc : Frame} {ac : Act} {ops : Array Oper} {q : Nat} {rest : List Nat} {oc : Oper} {k : List Item} (hoc : ops[q]? = some oc)
    (hvw : Rel z v w) (hn : NoRow Ch v)
    (hstop : ∀ v' w' (bd : Frame) (ad : Act) (od : Array Oper) (qd : Nat) (rd : List Nat) (oe : Oper) (kd : List Item), Rel z v' w' → NoRow Ch v' → Grows v v' → v'.heap[v.heap.size + 1]? = some (.cells #[I 0, I 0] 38 (0, 0)) → od[qd]? = some oe →
      CBack main (v.heap.size + 1) (fun _ : Unit => .tuple #[]) (fun _ => (0, 0)) (fun r => G (bd.at (ad.put oe.dst r) (.inRegion od rd :: kd)) (bc.at ac (.inRegion ops (q :: rest) :: k) :: cs)) (fun r => G (bc.at (ac.put oc.dst r) (.inRegion ops rest :: k)) cs) → ∀ code, Tryd.f55.body = some code →
      GoesI Tryd.prog main (DT (ScZ z) Ch) Stop (G ((base 55).at { tmps := #[Pt c 0, Pt tb 0, I (ca.tmod 1000)] ++ Array.replicate 29 undef, defers := [] } [.code code]) (bd.at ad (.inRegion od (qd :: rd) :: kd) :: bc.at ac (.inRegion ops (q :: rest) :: k) :: cs)) w') (code : Code) (hc : Tryd.f86.body = some code) :
    GoesI Tryd.prog main (DT (ScZ z) Ch) Stop (G ((base 86).at { tmps := #[Pt c 0, Pt tb 0, .agg #[I 1, I ca, I cb, I cc]] ++ Array.replicate 22 undef, defers := [] } [.code code]) (bc.at ac (.inRegion ops (q :: rest) :: k) :: cs)) w := by
  have hw0 : code = .seq c860 (seq2 (Tryd.f86.body.getD .skip)) := by
    rw [show code = Tryd.f86.body.getD .skip by rw [hc]; rfl]; rfl
  subst hw0
  clear hc
  refine goesI_seq (dt_idle _ _) ?_
  refine goesI_plain (z := z) (wr := true) (L := LT) (I := NoRow Ch) hE fineT noRow_keeps (fun v v' w w' es hi hr ho he => dt_of_z v v' w w' es hi hr ho he) hvw fine_c860 rfl (by simp [base]) hn
    (Q := fun a w' => a = { tmps := #[Pt c 0, Pt tb 0, .agg #[I 1, I ca, I cb, I cc], undef, undef, Pt v.heap.size 0, Pt (v.heap.size + 1) 0] ++ Array.replicate 18 undef, defers := [] } ∧
      w'.heap = (v.heap.push (.cells #[I 1, I ca, I cb, I cc] 35)).push (.cells #[I 0, I 0] 38) ∧ w'.os = v.os ∧ w'.output = v.output) (fun τ => ?_) ?_
  · show Code.wp Tryd.prog (seq1 (Tryd.f86.body.getD .skip)) _ _ _
    unfold Tryd.f86 seq1
    simp only [Option.getD_some, Array.replicate_succ, Array.replicate_zero, List.push_toArray, List.append_toArray, List.nil_append, List.cons_append]
    go_wp2_with fail
    exact ⟨rfl, rfl, rfl, rfl⟩
  rintro a' v' w' ⟨rfl, hv1, hv2, hv3⟩ hr' hn' -
  have hsz : v'.heap.size = v.heap.size + 2 := by rw [hv1]; simp
  have hg : Grows v v' := ⟨by omega, fun b hb => by rw [hv1, Array.getElem?_push, if_neg (by simp; omega), Array.getElem?_push, if_neg (by omega)], hv2, hv3⟩
  have hbox : v'.heap[v.heap.size]? = some (.cells #[I 1, I ca, I cb, I cc] 35) := by rw [hv1, Array.getElem?_push, if_neg (by simp)]; exact Array.getElem?_push_size
  have hans : v'.heap[v.heap.size + 1]? = some (.cells #[I 0, I 0] 38) := by rw [hv1, Array.getElem?_push, if_pos (by simp)]
  have b0 : w'.cell? ⟨v.heap.size, 0, none⟩ = some (I 1) := by rw [hr'.cell?]; simp [World.cell?, hbox]
  have b1 : w'.cell? ⟨v.heap.size, 1, none⟩ = some (I ca) := by rw [hr'.cell?]; simp [World.cell?, hbox]
  have HV : Hid (Grows v v' ∧ v'.heap[v.heap.size + 1]? = some (.cells #[I 0, I 0] 38) ∧ NoRow Ch v' ∧ Rel z v' w') := ⟨⟨hg, hans, hn', hr'⟩⟩
  clear hv1 hv2 hv3 hsz hg hbox hans hn' hvw hn hr'
  generalize hN : v.heap.size = N at b0 b1 HV hstop ⊢
  simp only [Array.replicate_succ, Array.replicate_zero, List.push_toArray, List.append_toArray, List.nil_append, List.cons_append]
  show GoesI Tryd.prog main (DT (ScZ z) Ch) Stop (G ((base 86).at _ [.code (seq2 (Tryd.f86.body.getD .skip))]) _) w'
  unfold Tryd.f86 seq2
  simp only [Option.getD_some]
  refine goesI_seq (dt_idle _ _) ?_
  refine goesI_seq (dt_idle _ _) ?_
  refine goesI_region (dt_idle _ _) ?_
  simp only [List.size_toArray, List.length_cons, List.length_nil, Nat.reduceAdd, Nat.zero_add, List.range, List.range.loop]
  iterate 2
    (refine goesI_oper rfl rfl (by decide) (fun d K hK => ?_)
     go_simp
     refine hK _ _ ⟨dt_reads (fun e he => ?_), GoesI.at ?_ d⟩
     · have hm := mem_listed he
       simp [go_sem, *] at hm
       try exact ⟨_, _, hm⟩
     clear hK K)
  refine goesI_regionEnd (dt_idle _ _) ?_
  refine goesI_block (dt_idle _ _) ?_
  refine goesI_seq (dt_idle _ _) ?_
  refine goesI_region (dt_idle _ _) ?_
  simp only [List.size_toArray, List.length_cons, List.length_nil, Nat.reduceAdd, Nat.zero_add, List.range, List.range.loop]
  iterate 2
    (refine goesI_oper rfl rfl (by decide) (fun d K hK => ?_)
     go_simp
     refine hK _ _ ⟨dt_reads (fun e he => ?_), GoesI.at ?_ d⟩
     · have hm := mem_listed he
       simp [go_sem, *] at hm
       try exact ⟨_, _, hm⟩
     clear hK K)
  refine goesI_regionEnd (dt_idle _ _) ?_
  refine goesI_cond (dt_idle _ _) (t := true) (by simp [Act.eval]) ?_
  simp only [if_true, if_false, Bool.false_eq_true]
  refine goesI_seq (dt_idle _ _) ?_
  refine goesI_region (dt_idle _ _) ?_
  simp only [List.size_toArray, List.length_cons, List.length_nil, Nat.reduceAdd, Nat.zero_add, List.range, List.range.loop]
  iterate 5
    (refine goesI_oper rfl rfl (by decide) (fun d K hK => ?_)
     go_simp
     refine hK _ _ ⟨dt_reads (fun e he => ?_), GoesI.at ?_ d⟩
     · have hm := mem_listed he
       simp [go_sem, *] at hm
       try exact ⟨_, _, hm⟩
     clear hK K)
  refine goesI_into (f := 55) (fn := Tryd.f55) (args := #[Pt c 0, Pt tb 0, I (ca.tmod 1000)]) (dt_idle _ _) rfl rfl (by decide) rfl (by simp [Act.eval]) Tryd.func55 (by decide) rfl ?_
  refine hstop v' w' _ _ _ _ _ _ _ HV.out.2.2.2 HV.out.2.2.1 HV.out.1 HV.out.2.1 rfl ?_ _ rfl
  clear b0 b1 HV hstop
  intro z1 Ch1 St w2 v2 S1 K1 x r2 n2 m2 hpb2 hown2 hk
  have q0 : v2.cell? ⟨N + 1, 0, none⟩ = some (I 0) := by simp [World.cell?, hpb2]
  have q1 : v2.cell? ⟨N + 1, 1, none⟩ = some (I 0) := by simp [World.cell?, hpb2]
  have p0 : v2.frozen? ⟨N + 1, 0, none⟩ = false := by simp [World.frozen?, hpb2]
  have p1 : v2.frozen? ⟨N + 1, 1, none⟩ = false := by simp [World.frozen?, hpb2]
  have e3 := m2.other (v' := (v2.setCell ⟨N + 1, 0, none⟩ (I 0)).setCell ⟨N + 1, 1, none⟩ (I 0)) hown2 (fun b hb => by rw [Below.heap_setCell _ _ _ _ hb, Below.heap_setCell _ _ _ _ hb]) (by simp [World.setCell]) rfl rfl
  have hrow : ((v2.setCell ⟨N + 1, 0, none⟩ (I 0)).setCell ⟨N + 1, 1, none⟩ (I 0)).heap[N + 1]? = some (.cells #[I 0, I 0] 38 (0, 0)) := by
    have := heap_setCell_same (o := 1) (heap_setCell_same (o := 0) hpb2 (I 0)) (I 0)
    simpa using this
  have HM : Hid (Mem z1 S1 K1 v2 ∧ v2.heap[N + 1]? = some (.cells #[I 0, I 0] 38 (0, 0))) := ⟨⟨m2, hpb2⟩⟩
  clear m2 hpb2
  show GoesI Tryd.prog main (DT (ScZ z1) Ch1) St _ w2
  walk_nrm
  refine goesI_regionEnd (dt_idle _ _) ?_
  refine goesI_seq (dt_idle _ _) ?_
  refine goesI_region (dt_idle _ _) ?_
  simp only [List.size_toArray, List.length_cons, List.length_nil, Nat.reduceAdd, Nat.zero_add, List.range, List.range.loop]
  iterate 1
    (refine goesI_oper rfl rfl (by decide) (fun d K hK => ?_)
     go_simp
     refine hK _ _ ⟨dt_reads (fun e he => ?_), GoesI.at ?_ d⟩
     · have hm := mem_listed he
       simp [go_sem, *] at hm
       try exact ⟨_, _, hm⟩
     clear hK K)
  refine goesI_doZ (L := LT) rfl rfl (by decide) (fineOp_ask callT extT (by kernel_rfl)) r2 n2 (v' := (v2.setCell ⟨N + 1, 0, none⟩ (I 0)).setCell ⟨N + 1, 1, none⟩ (I 0)) (by go_simp) rfl (fun w3 r3 n3 => ?_)
  refine goesI_regionEnd (dt_idle _ _) ?_
  refine GoesI.ctl rfl (fun _ => stepG_ret') (dt_idle _ _) ?_
  refine goesI_leaveZ (f := 86) (fn := Tryd.f86) (x := .agg #[I 0, I 0]) r3 n3 Tryd.func86 rfl hoc ?_ (fun w' r' => hk _ w' r' n3 e3)
  generalize ((v2.setCell ⟨N + 1, 0, none⟩ (I 0)).setCell ⟨N + 1, 1, none⟩ (I 0)) = V at hrow
  have k0 : V.cell? ⟨N + 1, 0, none⟩ = some (I 0) := by simp [World.cell?, hrow]
  have k1 : V.cell? ⟨N + 1, 1, none⟩ = some (I 0) := by simp [World.cell?, hrow]
  simp [results, go_sem, Tryd.f86, *]


set_option maxHeartbeats 2000000 in
set_option maxRecDepth 100000 in
/-- The call is Sum. -/
theorem call_sum {z : Nat → Option Nat} {Ch : Nat → Prop} {Stop : Goroutine → World → Prop} {main : Bool} {v w : World} {c tb : Nat} (ca cb cc : Int) (cs : List Frame) {bc : Frame} {ac : Act} {ops : Array Oper} {q : Nat} {rest : List Nat} {oc : Oper} {k : List Item} (hoc : ops[q]? = some oc)
    (hvw : Rel z v w) (hn : NoRow Ch v)
    (hstop : ∀ v' w' (bd : Frame) (ad : Act) (od : Array Oper) (qd : Nat) (rd : List Nat) (oe : Oper) (kd : List Item), Rel z v' w' → NoRow Ch v' → Grows v v' → v'.heap[v.heap.size + 1]? = some (.cells #[I 0, I 0] 38 (0, 0)) → od[qd]? = some oe →
      CBack main (v.heap.size + 1) (fun x : Int => I x) (fun x => (0, x)) (fun r => G (bd.at (ad.put oe.dst r) (.inRegion od rd :: kd)) (bc.at ac (.inRegion ops (q :: rest) :: k) :: cs)) (fun r => G (bc.at (ac.put oc.dst r) (.inRegion ops rest :: k)) cs) → ∀ code, Tryd.f57.body = some code →
      GoesI Tryd.prog main (DT (ScZ z) Ch) Stop (G ((base 57).at { tmps := #[Pt c 0, Pt tb 0] ++ Array.replicate 33 undef, defers := [] } [.code code]) (bd.at ad (.inRegion od (qd :: rd) :: kd) :: bc.at ac (.inRegion ops (q :: rest) :: k) :: cs)) w') (code : Code) (hc : Tryd.f86.body = some code) :
    GoesI Tryd.prog main (DT (ScZ z) Ch) Stop (G ((base 86).at { tmps := #[Pt c 0, Pt tb 0, .agg #[I 2, I ca, I cb, I cc]] ++ Array.replicate 22 undef, defers := [] } [.code code]) (bc.at ac (.inRegion ops (q :: rest) :: k) :: cs)) w := by
  have hw0 : code = .seq c860 (seq2 (Tryd.f86.body.getD .skip)) := by
    rw [show code = Tryd.f86.body.getD .skip by rw [hc]; rfl]; rfl
  subst hw0
  clear hc
  refine goesI_seq (dt_idle _ _) ?_
  refine goesI_plain (z := z) (wr := true) (L := LT) (I := NoRow Ch) hE fineT noRow_keeps (fun v v' w w' es hi hr ho he => dt_of_z v v' w w' es hi hr ho he) hvw fine_c860 rfl (by simp [base]) hn
    (Q := fun a w' => a = { tmps := #[Pt c 0, Pt tb 0, .agg #[I 2, I ca, I cb, I cc], undef, undef, Pt v.heap.size 0, Pt (v.heap.size + 1) 0] ++ Array.replicate 18 undef, defers := [] } ∧
      w'.heap = (v.heap.push (.cells #[I 2, I ca, I cb, I cc] 35)).push (.cells #[I 0, I 0] 38) ∧ w'.os = v.os ∧ w'.output = v.output) (fun τ => ?_) ?_
  · show Code.wp Tryd.prog (seq1 (Tryd.f86.body.getD .skip)) _ _ _
    unfold Tryd.f86 seq1
    simp only [Option.getD_some, Array.replicate_succ, Array.replicate_zero, List.push_toArray, List.append_toArray, List.nil_append, List.cons_append]
    go_wp2_with fail
    exact ⟨rfl, rfl, rfl, rfl⟩
  rintro a' v' w' ⟨rfl, hv1, hv2, hv3⟩ hr' hn' -
  have hsz : v'.heap.size = v.heap.size + 2 := by rw [hv1]; simp
  have hg : Grows v v' := ⟨by omega, fun b hb => by rw [hv1, Array.getElem?_push, if_neg (by simp; omega), Array.getElem?_push, if_neg (by omega)], hv2, hv3⟩
  have hbox : v'.heap[v.heap.size]? = some (.cells #[I 2, I ca, I cb, I cc] 35) := by rw [hv1, Array.getElem?_push, if_neg (by simp)]; exact Array.getElem?_push_size
  have hans : v'.heap[v.heap.size + 1]? = some (.cells #[I 0, I 0] 38) := by rw [hv1, Array.getElem?_push, if_pos (by simp)]
  have b0 : w'.cell? ⟨v.heap.size, 0, none⟩ = some (I 2) := by rw [hr'.cell?]; simp [World.cell?, hbox]
  have b1 : w'.cell? ⟨v.heap.size, 1, none⟩ = some (I ca) := by rw [hr'.cell?]; simp [World.cell?, hbox]
  have HV : Hid (Grows v v' ∧ v'.heap[v.heap.size + 1]? = some (.cells #[I 0, I 0] 38) ∧ NoRow Ch v' ∧ Rel z v' w') := ⟨⟨hg, hans, hn', hr'⟩⟩
  clear hv1 hv2 hv3 hsz hg hbox hans hn' hvw hn hr'
  generalize hN : v.heap.size = N at b0 b1 HV hstop ⊢
  simp only [Array.replicate_succ, Array.replicate_zero, List.push_toArray, List.append_toArray, List.nil_append, List.cons_append]
  show GoesI Tryd.prog main (DT (ScZ z) Ch) Stop (G ((base 86).at _ [.code (seq2 (Tryd.f86.body.getD .skip))]) _) w'
  unfold Tryd.f86 seq2
  simp only [Option.getD_some]
  refine goesI_seq (dt_idle _ _) ?_
  refine goesI_seq (dt_idle _ _) ?_
  refine goesI_region (dt_idle _ _) ?_
  simp only [List.size_toArray, List.length_cons, List.length_nil, Nat.reduceAdd, Nat.zero_add, List.range, List.range.loop]
  iterate 2
    (refine goesI_oper rfl rfl (by decide) (fun d K hK => ?_)
     go_simp
     refine hK _ _ ⟨dt_reads (fun e he => ?_), GoesI.at ?_ d⟩
     · have hm := mem_listed he
       simp [go_sem, *] at hm
       try exact ⟨_, _, hm⟩
     clear hK K)
  refine goesI_regionEnd (dt_idle _ _) ?_
  refine goesI_block (dt_idle _ _) ?_
  refine goesI_seq (dt_idle _ _) ?_
  refine goesI_region (dt_idle _ _) ?_
  simp only [List.size_toArray, List.length_cons, List.length_nil, Nat.reduceAdd, Nat.zero_add, List.range, List.range.loop]
  iterate 2
    (refine goesI_oper rfl rfl (by decide) (fun d K hK => ?_)
     go_simp
     refine hK _ _ ⟨dt_reads (fun e he => ?_), GoesI.at ?_ d⟩
     · have hm := mem_listed he
       simp [go_sem, *] at hm
       try exact ⟨_, _, hm⟩
     clear hK K)
  refine goesI_regionEnd (dt_idle _ _) ?_
  refine goesI_cond (dt_idle _ _) (t := false) (by simp [Act.eval]) ?_
  simp only [if_true, if_false, Bool.false_eq_true]
  refine goesI_seq (dt_idle _ _) ?_
  refine goesI_region (dt_idle _ _) ?_
  simp only [List.size_toArray, List.length_cons, List.length_nil, Nat.reduceAdd, Nat.zero_add, List.range, List.range.loop]
  iterate 2
    (refine goesI_oper rfl rfl (by decide) (fun d K hK => ?_)
     go_simp
     refine hK _ _ ⟨dt_reads (fun e he => ?_), GoesI.at ?_ d⟩
     · have hm := mem_listed he
       simp [go_sem, *] at hm
       try exact ⟨_, _, hm⟩
     clear hK K)
  refine goesI_regionEnd (dt_idle _ _) ?_
  refine goesI_cond (dt_idle _ _) (t := true) (by simp [Act.eval]) ?_
  simp only [if_true, if_false, Bool.false_eq_true]
  refine goesI_seq (dt_idle _ _) ?_
  refine goesI_region (dt_idle _ _) ?_
  simp only [List.size_toArray, List.length_cons, List.length_nil, Nat.reduceAdd, Nat.zero_add, List.range, List.range.loop]
  iterate 2
    (refine goesI_oper rfl rfl (by decide) (fun d K hK => ?_)
     go_simp
     refine hK _ _ ⟨dt_reads (fun e he => ?_), GoesI.at ?_ d⟩
     · have hm := mem_listed he
       simp [go_sem, *] at hm
       try exact ⟨_, _, hm⟩
     clear hK K)
  refine goesI_into (f := 57) (fn := Tryd.f57) (args := #[Pt c 0, Pt tb 0]) (dt_idle _ _) rfl rfl (by decide) rfl (by simp [Act.eval]) Tryd.func57 (by decide) rfl ?_
  refine hstop v' w' _ _ _ _ _ _ _ HV.out.2.2.2 HV.out.2.2.1 HV.out.1 HV.out.2.1 rfl ?_ _ rfl
  clear b0 b1 HV hstop
  intro z1 Ch1 St w2 v2 S1 K1 x r2 n2 m2 hpb2 hown2 hk
  have q0 : v2.cell? ⟨N + 1, 0, none⟩ = some (I 0) := by simp [World.cell?, hpb2]
  have q1 : v2.cell? ⟨N + 1, 1, none⟩ = some (I 0) := by simp [World.cell?, hpb2]
  have p0 : v2.frozen? ⟨N + 1, 0, none⟩ = false := by simp [World.frozen?, hpb2]
  have p1 : v2.frozen? ⟨N + 1, 1, none⟩ = false := by simp [World.frozen?, hpb2]
  have e3 := m2.other (v' := (v2.setCell ⟨N + 1, 0, none⟩ (I 0)).setCell ⟨N + 1, 1, none⟩ (I x)) hown2 (fun b hb => by rw [Below.heap_setCell _ _ _ _ hb, Below.heap_setCell _ _ _ _ hb]) (by simp [World.setCell]) rfl rfl
  have hrow : ((v2.setCell ⟨N + 1, 0, none⟩ (I 0)).setCell ⟨N + 1, 1, none⟩ (I x)).heap[N + 1]? = some (.cells #[I 0, I x] 38 (0, 0)) := by
    have := heap_setCell_same (o := 1) (heap_setCell_same (o := 0) hpb2 (I 0)) (I x)
    simpa using this
  have HM : Hid (Mem z1 S1 K1 v2 ∧ v2.heap[N + 1]? = some (.cells #[I 0, I 0] 38 (0, 0))) := ⟨⟨m2, hpb2⟩⟩
  clear m2 hpb2
  show GoesI Tryd.prog main (DT (ScZ z1) Ch1) St _ w2
  walk_nrm
  iterate 1
    (refine goesI_oper rfl rfl (by decide) (fun d K hK => ?_)
     go_simp
     refine hK _ _ ⟨dt_reads (fun e he => ?_), GoesI.at ?_ d⟩
     · have hm := mem_listed he
       simp [go_sem, *] at hm
       try exact ⟨_, _, hm⟩
     clear hK K)
  refine goesI_doZ (L := LT) rfl rfl (by decide) (fineOp_ask callT extT (by kernel_rfl)) r2 n2 (v' := (v2.setCell ⟨N + 1, 0, none⟩ (I 0)).setCell ⟨N + 1, 1, none⟩ (I x)) (by go_simp) rfl (fun w3 r3 n3 => ?_)
  refine goesI_regionEnd (dt_idle _ _) ?_
  refine GoesI.ctl rfl (fun _ => stepG_ret') (dt_idle _ _) ?_
  refine goesI_leaveZ (f := 86) (fn := Tryd.f86) (x := .agg #[I 0, I x]) r3 n3 Tryd.func86 rfl hoc ?_ (fun w' r' => hk _ w' r' n3 e3)
  generalize ((v2.setCell ⟨N + 1, 0, none⟩ (I 0)).setCell ⟨N + 1, 1, none⟩ (I x)) = V at hrow
  have k0 : V.cell? ⟨N + 1, 0, none⟩ = some (I 0) := by simp [World.cell?, hrow]
  have k1 : V.cell? ⟨N + 1, 1, none⟩ = some (I x) := by simp [World.cell?, hrow]
  simp [results, go_sem, Tryd.f86, *]

set_option maxHeartbeats 2000000 in
set_option maxRecDepth 100000 in
/-- An Op that there is not. -/
theorem call_none {z : Nat → Option Nat} {Ch : Nat → Prop} {Stop : Goroutine → World → Prop} {main : Bool} {v w : World} {c tb : Nat} (ca cb cc : Int) (cs : List Frame) {bc : Frame} {ac : Act} {ops : Array Oper} {q : Nat} {rest : List Nat} {oc : Oper} {k : List Item} (hoc : ops[q]? = some oc)
    (hvw : Rel z v w) (hn : NoRow Ch v) (po : Int) (h1 : po ≠ 1) (h2 : po ≠ 2)
    (hstop : ∀ v' w', Rel z v' w' → NoRow Ch v' → Grows v v' → v'.heap[v.heap.size + 1]? = some (.cells #[I 1, I 0] 38 (0, 0)) → GoesI Tryd.prog main (DT (ScZ z) Ch) Stop (G (bc.at (ac.put oc.dst (.agg #[I 1, I 0])) (.inRegion ops rest :: k)) cs) w') (code : Code) (hc : Tryd.f86.body = some code) :
    GoesI Tryd.prog main (DT (ScZ z) Ch) Stop (G ((base 86).at { tmps := #[Pt c 0, Pt tb 0, .agg #[I po, I ca, I cb, I cc]] ++ Array.replicate 22 undef, defers := [] } [.code code]) (bc.at ac (.inRegion ops (q :: rest) :: k) :: cs)) w := by
  have hw0 : code = .seq c860 (seq2 (Tryd.f86.body.getD .skip)) := by
    rw [show code = Tryd.f86.body.getD .skip by rw [hc]; rfl]; rfl
  subst hw0
  clear hc
  refine goesI_seq (dt_idle _ _) ?_
  refine goesI_plain (z := z) (wr := true) (L := LT) (I := NoRow Ch) hE fineT noRow_keeps (fun v v' w w' es hi hr ho he => dt_of_z v v' w w' es hi hr ho he) hvw fine_c860 rfl (by simp [base]) hn
    (Q := fun a w' => a = { tmps := #[Pt c 0, Pt tb 0, .agg #[I po, I ca, I cb, I cc], undef, undef, Pt v.heap.size 0, Pt (v.heap.size + 1) 0] ++ Array.replicate 18 undef, defers := [] } ∧
      w'.heap = (v.heap.push (.cells #[I po, I ca, I cb, I cc] 35)).push (.cells #[I 0, I 0] 38) ∧ w'.os = v.os ∧ w'.output = v.output) (fun τ => ?_) ?_
  · show Code.wp Tryd.prog (seq1 (Tryd.f86.body.getD .skip)) _ _ _
    unfold Tryd.f86 seq1
    simp only [Option.getD_some, Array.replicate_succ, Array.replicate_zero, List.push_toArray, List.append_toArray, List.nil_append, List.cons_append]
    go_wp2_with fail
    exact ⟨rfl, rfl, rfl, rfl⟩
  rintro a' v' w' ⟨rfl, hv1, hv2, hv3⟩ hr' hn' -
  have hsz : v'.heap.size = v.heap.size + 2 := by rw [hv1]; simp
  have hg : Grows v v' := ⟨by omega, fun b hb => by rw [hv1, Array.getElem?_push, if_neg (by simp; omega), Array.getElem?_push, if_neg (by omega)], hv2, hv3⟩
  have hbox : v'.heap[v.heap.size]? = some (.cells #[I po, I ca, I cb, I cc] 35) := by rw [hv1, Array.getElem?_push, if_neg (by simp)]; exact Array.getElem?_push_size
  have hans : v'.heap[v.heap.size + 1]? = some (.cells #[I 0, I 0] 38) := by rw [hv1, Array.getElem?_push, if_pos (by simp)]
  have b0 : w'.cell? ⟨v.heap.size, 0, none⟩ = some (I po) := by rw [hr'.cell?]; simp [World.cell?, hbox]
  have b1 : w'.cell? ⟨v.heap.size, 1, none⟩ = some (I ca) := by rw [hr'.cell?]; simp [World.cell?, hbox]
  have HV : Hid (Grows v v' ∧ v'.heap[v.heap.size + 1]? = some (.cells #[I 0, I 0] 38) ∧ NoRow Ch v' ∧ Rel z v' w') := ⟨⟨hg, hans, hn', hr'⟩⟩
  clear hv1 hv2 hv3 hsz hg hbox hans hn' hvw hn hr'
  generalize hN : v.heap.size = N at b0 b1 HV hstop ⊢
  simp only [Array.replicate_succ, Array.replicate_zero, List.push_toArray, List.append_toArray, List.nil_append, List.cons_append]
  show GoesI Tryd.prog main (DT (ScZ z) Ch) Stop (G ((base 86).at _ [.code (seq2 (Tryd.f86.body.getD .skip))]) _) w'
  unfold Tryd.f86 seq2
  simp only [Option.getD_some]
  refine goesI_seq (dt_idle _ _) ?_
  refine goesI_seq (dt_idle _ _) ?_
  refine goesI_region (dt_idle _ _) ?_
  simp only [List.size_toArray, List.length_cons, List.length_nil, Nat.reduceAdd, Nat.zero_add, List.range, List.range.loop]
  iterate 2
    (refine goesI_oper rfl rfl (by decide) (fun d K hK => ?_)
     go_simp
     refine hK _ _ ⟨dt_reads (fun e he => ?_), GoesI.at ?_ d⟩
     · have hm := mem_listed he
       simp [go_sem, *] at hm
       try exact ⟨_, _, hm⟩
     clear hK K)
  refine goesI_regionEnd (dt_idle _ _) ?_
  refine goesI_block (dt_idle _ _) ?_
  refine goesI_seq (dt_idle _ _) ?_
  refine goesI_region (dt_idle _ _) ?_
  simp only [List.size_toArray, List.length_cons, List.length_nil, Nat.reduceAdd, Nat.zero_add, List.range, List.range.loop]
  iterate 2
    (refine goesI_oper rfl rfl (by decide) (fun d K hK => ?_)
     go_simp
     refine hK _ _ ⟨dt_reads (fun e he => ?_), GoesI.at ?_ d⟩
     · have hm := mem_listed he
       simp [go_sem, *] at hm
       try exact ⟨_, _, hm⟩
     clear hK K)
  refine goesI_regionEnd (dt_idle _ _) ?_
  refine goesI_cond (dt_idle _ _) (t := false) (by simp [Act.eval, h1]) ?_
  simp only [if_true, if_false, Bool.false_eq_true]
  refine goesI_seq (dt_idle _ _) ?_
  refine goesI_region (dt_idle _ _) ?_
  simp only [List.size_toArray, List.length_cons, List.length_nil, Nat.reduceAdd, Nat.zero_add, List.range, List.range.loop]
  iterate 2
    (refine goesI_oper rfl rfl (by decide) (fun d K hK => ?_)
     go_simp
     refine hK _ _ ⟨dt_reads (fun e he => ?_), GoesI.at ?_ d⟩
     · have hm := mem_listed he
       simp [go_sem, *] at hm
       try exact ⟨_, _, hm⟩
     clear hK K)
  refine goesI_regionEnd (dt_idle _ _) ?_
  refine goesI_cond (dt_idle _ _) (t := false) (by simp [Act.eval, h2]) ?_
  simp only [if_true, if_false, Bool.false_eq_true]
  refine goesI_skip (dt_idle _ _) ?_
  refine goesI_inBlock (dt_idle _ _) ?_
  refine goesI_seq (dt_idle _ _) ?_
  refine goesI_region (dt_idle _ _) ?_
  simp only [List.size_toArray, List.length_cons, List.length_nil, Nat.reduceAdd, Nat.zero_add, List.range, List.range.loop]
  obtain ⟨hg, hans, hn', hr'⟩ := HV.out
  have q0 : v'.cell? ⟨N + 1, 0, none⟩ = some (I 0) := by simp [World.cell?, hans]
  have q1 : v'.cell? ⟨N + 1, 1, none⟩ = some (I 0) := by simp [World.cell?, hans]
  have p0 : v'.frozen? ⟨N + 1, 0, none⟩ = false := by simp [World.frozen?, hans]
  have p1 : v'.frozen? ⟨N + 1, 1, none⟩ = false := by simp [World.frozen?, hans]
  have hrow : ((v'.setCell ⟨N + 1, 0, none⟩ (I 1)).setCell ⟨N + 1, 1, none⟩ (I 0)).heap[N + 1]? = some (.cells #[I 1, I 0] 38 (0, 0)) := by
    have := heap_setCell_same (o := 1) (heap_setCell_same (o := 0) hans (I 1)) (I 0)
    simpa using this
  have hg2 : Grows v ((v'.setCell ⟨N + 1, 0, none⟩ (I 1)).setCell ⟨N + 1, 1, none⟩ (I 0)) := by
    refine ⟨by simp [World.setCell]; exact hg.size, fun b hb => ?_, hg.os, hg.output⟩
    have hbN : b ≠ N + 1 := by omega
    rw [Below.heap_setCell _ _ _ _ hbN, Below.heap_setCell _ _ _ _ hbN]
    exact hg.old b hb
  clear hg hans b0 b1 HV
  iterate 1
    (refine goesI_oper rfl rfl (by decide) (fun d K hK => ?_)
     go_simp
     refine hK _ _ ⟨dt_reads (fun e he => ?_), GoesI.at ?_ d⟩
     · have hm := mem_listed he
       simp [go_sem, *] at hm
       try exact ⟨_, _, hm⟩
     clear hK K)
  refine goesI_doZ (L := LT) rfl rfl (by decide) (fineOp_ask callT extT (by kernel_rfl)) hr' hn' (v' := (v'.setCell ⟨N + 1, 0, none⟩ (I 1)).setCell ⟨N + 1, 1, none⟩ (I 0)) (by go_simp) rfl (fun w3 r3 n3 => ?_)
  refine goesI_regionEnd (dt_idle _ _) ?_
  refine GoesI.ctl rfl (fun _ => stepG_ret') (dt_idle _ _) ?_
  refine goesI_leaveZ (f := 86) (fn := Tryd.f86) (x := .agg #[I 1, I 0]) r3 n3 Tryd.func86 rfl hoc ?_ (fun w' r' => hstop _ w' r' n3 hg2 hrow)
  generalize ((v'.setCell ⟨N + 1, 0, none⟩ (I 1)).setCell ⟨N + 1, 1, none⟩ (I 0)) = V at hrow
  have k0 : V.cell? ⟨N + 1, 0, none⟩ = some (I 1) := by simp [World.cell?, hrow]
  have k1 : V.cell? ⟨N + 1, 1, none⟩ = some (I 0) := by simp [World.cell?, hrow]
  simp [results, go_sem, Tryd.f86, *]
end Go.Proofs.YtcfmffmcammbjaaDoor.Gen

/- A thread in the middle of a call: where it is (Now), and that a seat which it comes to is what Ob asks. -/
set_option linter.unusedSimpArgs false
set_option linter.unusedVariables false
namespace Go.Proofs.YtcfmffmcammbjaaDoor.Gen
open Go Go.Lift Go.Conc Go.RowKit
variable {mc : Mc}

/-- It goes on from a world v0 (state S0, cells K0), and is in a world v: state S (σ, but for the trace's place), cells κ; Mo is its own. -/
structure Now (X : Fix mc) (z : Nat → Option Nat) (cont : Addr → Value) (Ch : Nat → Prop) (S0 : TS) (K0 : List (Nat × Int)) (v0 : World) (Mo0 Mo : Nat → Option Obj) (σ : TS) (κ : List (Nat × Int)) (S : TS) (v w : World) (t : Thr) : Prop where
  at_ : At X z cont Ch S κ v w t
  evo : EvoP (fun b => Mo0 b ≠ none) z S0 K0 v0 S κ v
  nv : nv S = σ
  bk : S.bk = S0.bk
  mo : Has Mo v
  far : ∀ b, Mo b ≠ none → ¬ Own S κ b
  new : ∀ b, Mo b ≠ none → Mo0 b ≠ none ∨ v0.heap.size ≤ b
  row : ∀ b o, Mo b = some o → ∃ c e f, o = .cells c e f

section
variable {X : Fix mc} {z : Nat → Option Nat} {cont : Addr → Value} {Ch : Nat → Prop} {Stop : Goroutine → World → Prop} {cu : Value → Goroutine} {S0 : TS} {K0 : List (Nat × Int)} {v0 : World} {Mo0 Mo : Nat → Option Obj} {σ : TS} {κ : List (Nat × Int)} {S : TS} {v w : World} {t : Thr} {H : Nx → (Nat → Option Obj) → Goroutine → Prop}

theorem Now.good (N : Now X z cont Ch S0 K0 v0 Mo0 Mo σ κ S v w t) {x : Nx} (hx : ∀ e y, x ≠ .ans e y) : Good v0 Mo0 x Mo := ⟨hx, N.new, N.row⟩

/-- It goes on. -/
theorem Now.on (N : Now X z cont Ch S0 K0 v0 Mo0 Mo σ κ S v w t) {S' σ' : TS} {κ' : List (Nat × Int)} {v' w' : World} {t' : Thr} (e : Evo z S κ v S' κ' v') (r : Rel z v' w') (n : NoRow Ch v') (hS : Gen.nv S' = σ') (ht : S'.thr[X.i]? = some t') (htb : t'.tb = X.tb) (hgc : t'.gc = X.gc) (hbk : S'.bk = S.bk) : Now X z cont Ch S0 K0 v0 Mo0 Mo σ' κ' S' v' w' t' := by
  have kp : ∀ b, b < v.heap.size → ¬ Own S κ b → v'.heap[b]? = v.heap[b]? ∧ ¬ Own S' κ' b := fun b hb ho => (Evo.toP (Pr := fun _ => False) e).keeps hb ho (fun h => h)
  have km : ∀ (M : Nat → Option Obj), Has M v → (∀ b, M b ≠ none → ¬ Own S κ b) → Has M v' ∧ ∀ b, M b ≠ none → ¬ Own S' κ' b := fun M hM hf => by
    have h1 : ∀ b o, M b = some o → v'.heap[b]? = v.heap[b]? ∧ ¬ Own S' κ' b := fun b o hb => kp b (Array.getElem?_eq_some_iff.1 (hM b o hb)).1 (hf b (by rw [hb]; simp))
    refine ⟨fun b o hb => by rw [(h1 b o hb).1]; exact hM b o hb, fun b hb => ?_⟩
    obtain ⟨o, ho⟩ := Option.ne_none_iff_exists'.1 hb
    exact (h1 b o ho).2
  have k1 := km X.pk N.at_.pk N.at_.far
  have k2 := km Mo N.mo N.far
  exact ⟨⟨r, n, e.mem, ht, htb, hgc, e.blks.trans N.at_.kb, N.at_.z, N.at_.cont, k1.1, k1.2⟩, N.evo.trans (Evo.toP e), hS, hbk.trans N.bk, k2.1, k2.2, N.new, N.row⟩
/-- .. with nothing changed. -/
theorem Now.same (N : Now X z cont Ch S0 K0 v0 Mo0 Mo σ κ S v w t) {v' w' : World} (r : Rel z v' w') (n : NoRow Ch v') (e1 : v'.heap = v.heap) (e2 : v'.os = v.os) (e3 : v'.output = v.output) : Now X z cont Ch S0 K0 v0 Mo0 Mo σ κ S v' w' t :=
  N.on (N.at_.mem.grows ⟨by rw [e1]; exact Nat.le_refl _, fun b _ => by rw [e1], e2, e3⟩) r n N.nv N.at_.thr N.at_.tb N.at_.gc rfl
/-- A call goes on from its seat. -/
theorem Now.here (A : At X z cont Ch S κ v w t) (hm : Has Mo v) (hf : ∀ b, Mo b ≠ none → ¬ Own S κ b) (hr : ∀ b o, Mo b = some o → ∃ c e f, o = .cells c e f) : Now X z cont Ch S κ v Mo Mo (Gen.nv S) κ S v w t :=
  ⟨A, Evo.toP (A.mem.grows ⟨Nat.le_refl _, fun _ _ => rfl, rfl, rfl⟩), rfl, rfl, hm, hf, fun b hb => .inl hb, hr⟩
theorem Now.cell (N : Now X z cont Ch S0 K0 v0 Mo0 Mo σ κ S v w t) {j cb : Nat} (h : X.kb[j]? = some cb) : κ[j]? = some (cb, (cellAt κ j).2) ∧ cellAt κ j = (cb, (cellAt κ j).2) := by
  rw [← N.at_.kb, List.getElem?_map, Option.map_eq_some_iff] at h
  obtain ⟨p, h1, rfl⟩ := h
  have : cellAt κ j = p := by unfold cellAt; rw [h1]; rfl
  rw [this]
  exact ⟨h1, rfl⟩

/-- A turn. -/
theorem ob_turn {op : Int} {j : Nat} {q : Q} (hob : Ob X H z cont Ch Stop cu S0 K0 v0 Mo0 σ κ (.turn op j q)) (N : Now X z cont Ch S0 K0 v0 Mo0 Mo σ κ S v w t) (g : Goroutine) (w' : World) (hg : GiveT z cont X.h S.bk t.gc (H (.turn op j q) Mo) (Then z Ch S κ v (waiting S X.i t 1 op j) κ) g w') : Stop g w' := by
  refine hob.seat 1 op j (.inl ⟨⟨q, rfl⟩, rfl⟩) g w' Mo (N.good (fun _ _ h => by cases h)) ?_
  rw [N.at_.gc, N.bk] at hg
  refine atGive_mono (fun hF => ?_) hg
  obtain ⟨v', r, n, e⟩ := hF
  have N' := N.on e r n rfl (t' := { t with st := 1, op := op, ce := j, se := _ }) (List.getElem?_set_self (List.getElem?_eq_some_iff.1 N.at_.thr).1) N.at_.tb N.at_.gc rfl
  refine ⟨v', _, r, n, ?_, N'.evo, N'.mo, N'.far⟩
  rw [← N.nv, show thrI (Gen.nv S) X.i = t from thrI_of N.at_.thr]
  rfl
/-- An Await. -/
theorem ob_wait {j : Nat} {q : Q} (hob : Ob X H z cont Ch Stop cu S0 K0 v0 Mo0 σ κ (.wait j q)) (hs : S.stk = false) (N : Now X z cont Ch S0 K0 v0 Mo0 Mo σ κ S v w t) (g : Goroutine) (w' : World) (hg : GiveT z cont X.h S.bk t.gc (H (.wait j q) Mo) (Then z Ch S κ v (waiting S X.i t 2 6 j) κ) g w') : Stop g w' := by
  refine hob.seat 2 6 j (.inr ⟨⟨q, rfl⟩, by rw [← N.nv]; exact hs, rfl, rfl⟩) g w' Mo (N.good (fun _ _ h => by cases h)) ?_
  rw [N.at_.gc, N.bk] at hg
  refine atGive_mono (fun hF => ?_) hg
  obtain ⟨v', r, n, e⟩ := hF
  have N' := N.on e r n rfl (t' := { t with st := 2, op := 6, ce := j, se := _ }) (List.getElem?_set_self (List.getElem?_eq_some_iff.1 N.at_.thr).1) N.at_.tb N.at_.gc rfl
  refine ⟨v', _, r, n, ?_, N'.evo, N'.mo, N'.far⟩
  rw [← N.nv, show thrI (Gen.nv S) X.i = t from thrI_of N.at_.thr]
  rfl
end
end Go.Proofs.YtcfmffmcammbjaaDoor.Gen
