/- CellAlone returns true, whatever the number and the calls, and leaves what it was given as it was: of the law's statement as given, with no condition of our own. Part 31 of 33. (Joined, by program, of: Sw5.) -/
import Derived.Test.YtfjjoohflcchnaaCellAlone30
set_option linter.unusedSimpArgs false
set_option linter.unusedVariables false
namespace Go.Proofs.Ytfjjoohflcchnaa
open Go Go.Lift Go.Conc Go.RowKit

noncomputable def B5 : Code := Try.f5.body.getD .skip
noncomputable def C57 : Code := seq1 (seq2 (seq2 (seq2 (seq2 (seq2 (seq2 B5))))))
noncomputable def L5 : Code := loopC (blockC (seq2 C57))
noncomputable def I5 : Code := blockC (seq1 (seq2 L5))
noncomputable def SW5 : Code := blockC (seq2 (seq1 (seq2 (seq2 I5))))
/-- What the law's loop holds. -/
structure A5 (x0 : Int) (lst : Value) (cb tb : Nat) (now i : Int) (a : Act) : Prop where
  size : a.tmps.size = 119
  defers : a.defers = []
  t0 : a.tmps.getD 0 undef = I x0
  t1 : a.tmps.getD 1 undef = lst
  t6 : a.tmps.getD 6 undef = Pt cb 0
  t7 : a.tmps.getD 7 undef = Pt tb 0
  t8 : a.tmps.getD 8 undef = I now
  t9 : a.tmps.getD 9 undef = I i
def lits (u : Nat → Value) : Nat → Nat → List Value
  | _, 0 => []
  | s, n + 1 => u s :: lits u (s + 1) n
theorem lits_get (u : Nat → Value) : ∀ (n s i : Nat), (lits u s n)[i]? = if i < n then some (u (s + i)) else none
  | 0, s, i => by simp [lits]
  | n + 1, s, 0 => by simp [lits]
  | n + 1, s, i + 1 => by
    have := lits_get u n (s + 1) i
    simp only [lits, List.getElem?_cons_succ, this, Nat.add_lt_add_iff_right]
    rw [show s + 1 + i = s + (i + 1) by omega]
theorem lit119 {a : Act} (h : a.tmps.size = 119) (hd : a.defers = []) : ∃ u : Nat → Value, a = { tmps := (lits u 0 119).toArray, defers := [] } ∧ ∀ i, a.tmps.getD i undef = u i := by
  obtain ⟨⟨l⟩, ds⟩ := a
  simp only at hd h
  subst hd
  refine ⟨fun i => (Array.mk l).getD i undef, ?_, fun i => rfl⟩
  have e : l = lits (fun i => (Array.mk l).getD i undef) 0 119 := by
    apply List.ext_getElem?
    intro i
    rw [lits_get]
    have hl : l.length = 119 := h
    by_cases hi : i < 119
    · rw [if_pos hi, List.getElem?_eq_getElem (by omega)]
      simp [Array.getD, hl, hi]
    · rw [if_neg hi, List.getElem?_eq_none (by omega)]
  exact congrArg (fun x => ({ tmps := x.toArray, defers := [] } : Act)) e

set_option maxHeartbeats 4000000 in
set_option maxRecDepth 100000 in
theorem sw2 {Ch : Nat → Prop} {Stop : Goroutine → World → Prop} {main : Bool} {v w : World} {a : Act} {x0 : Int} {lst : Value} {cb tb xb : Nat} {now i ca y cc : Int} (cs : List Frame) (k : List Item) (hvw : Rel zn v w) (hn : NoRow Ch v) (hm : Fm tb cb now v) (hxb : v.heap[xb]? = some (.cells #[I 2, I ca, I y, I cc] 39 (0, 0)))
    (hA : A5 x0 lst cb tb now i a) (h10 : a.tmps.getD 10 undef = Pt xb 0) (h11 : a.tmps.getD 11 undef = .bool true) (h38 : a.tmps.getD 38 undef = I 2)
    (hk : ∀ a' v' w', Rel zn v' w' → NoRow Ch v' → Fto tb cb y v v' → A5 x0 lst cb tb y i a' → a'.tmps.getD 11 undef = .bool true → GoesI Try.prog main (DT (ScZ zn) Ch) Stop (G ((base 5).at a' k) cs) w') :
    GoesI Try.prog main (DT (ScZ zn) Ch) Stop (G ((base 5).at a (.code SW5 :: k)) cs) w := by
  have b0 : v.cell? ⟨xb, 2, none⟩ = some (I y) := by unfold World.cell?; rw [show v.heap[xb]? = _ from hxb]; rfl
  have b1 : v.cell? ⟨xb, 3, none⟩ = some (I cc) := by unfold World.cell?; rw [show v.heap[xb]? = _ from hxb]; rfl
  have e0 : w.cell? ⟨xb, 2, none⟩ = some (I y) := by rw [hvw.cell?]; exact b0
  have e1 : w.cell? ⟨xb, 3, none⟩ = some (I cc) := by rw [hvw.cell?]; exact b1
  have hne : xb ≠ cb := fun e => by rw [e, hm.cel] at hxb; simp at hxb
  obtain ⟨u, rfl, hg⟩ := lit119 hA.size hA.defers
  have u0 := (hg 0).symm.trans hA.t0
  have u1 := (hg 1).symm.trans hA.t1
  have u6 := (hg 6).symm.trans hA.t6
  have u7 := (hg 7).symm.trans hA.t7
  have u8 := (hg 8).symm.trans hA.t8
  have u9 := (hg 9).symm.trans hA.t9
  have u10 := (hg 10).symm.trans h10
  have u11 := (hg 11).symm.trans h11
  have u38 := (hg 38).symm.trans h38
  clear hg hA h10 h11 h38
  unfold SW5 I5 L5 C57 B5 Try.f5 seq2 seq1 blockC loopC
  simp only [Option.getD_some, lits, Nat.reduceAdd, u0, u1, u6, u7, u8, u9, u10, u11, u38]
  clear u0 u1 u6 u7 u8 u9 u10 u11 u38
  refine goesI_seq (dt_idle _ _) ?_
  refine goesI_region (dt_idle _ _) ?_
  simp only [List.size_toArray, List.length_cons, List.length_nil, Nat.reduceAdd, Nat.zero_add, List.range, List.range.loop]
  iterate 2
    (refine goesI_oper rfl rfl (by decide) (fun d K hK => ?_)
     go_simp
     refine hK _ _ ⟨dt_reads (fun e he => ?_), GoesI.at ?_ d⟩
     · have hm := mem_listed he
       simp [go_sem, *] at hm
       try exact ⟨_, _, hm⟩
     clear hK K)
  refine goesI_regionEnd (dt_idle _ _) ?_
  refine goesI_cond (dt_idle _ _) (t := true) rfl ?_
  refine goesI_seq (dt_idle _ _) ?_
  refine goesI_region (dt_idle _ _) ?_
  simp only [List.size_toArray, List.length_cons, List.length_nil, Nat.reduceAdd, Nat.zero_add, List.range, List.range.loop]
  iterate 4
    (refine goesI_oper rfl rfl (by decide) (fun d K hK => ?_)
     go_simp
     refine hK _ _ ⟨dt_reads (fun e he => ?_), GoesI.at ?_ d⟩
     · have hm := mem_listed he
       simp [go_sem, *] at hm
       try exact ⟨_, _, hm⟩
     clear hK K)
  refine goesI_into (f := 23) (fn := Try.f23) (args := #[Pt cb 0, Pt tb 0, I y]) (dt_idle _ _) rfl rfl (by decide) rfl (by simp [Act.eval]) Try.func23 (by decide) rfl ?_
  refine free12 y now _ rfl hvw hn hm (fun v2 w2 r2 n2 h2 => ?_) _ rfl
  clear e0 e1 hvw hn
  have e0 : w2.cell? ⟨xb, 2, none⟩ = some (I y) := by rw [r2.cell?, World.cell?_of_block (h2.old xb hne)]; exact b0
  have e1 : w2.cell? ⟨xb, 3, none⟩ = some (I cc) := by rw [r2.cell?, World.cell?_of_block (h2.old xb hne)]; exact b1
  refine goesI_regionEnd (dt_idle _ _) ?_
  refine goesI_region (dt_idle _ _) ?_
  simp only [List.size_toArray, List.length_cons, List.length_nil, Nat.reduceAdd, Nat.zero_add, List.range, List.range.loop]
  iterate 3
    (refine goesI_oper rfl rfl (by decide) (fun d K hK => ?_)
     go_simp
     refine hK _ _ ⟨dt_reads (fun e he => ?_), GoesI.at ?_ d⟩
     · have hm := mem_listed he
       simp [go_sem, *] at hm
       try exact ⟨_, _, hm⟩
     clear hK K)
  refine goesI_regionEnd (dt_idle _ _) ?_
  exact hk _ _ _ r2 n2 h2 ⟨rfl, rfl, rfl, rfl, rfl, rfl, rfl, rfl⟩ rfl

set_option maxHeartbeats 4000000 in
set_option maxRecDepth 100000 in
theorem sw3 {Ch : Nat → Prop} {Stop : Goroutine → World → Prop} {main : Bool} {v w : World} {a : Act} {x0 : Int} {lst : Value} {cb tb xb : Nat} {now i ca y cc : Int} (cs : List Frame) (k : List Item) (hvw : Rel zn v w) (hn : NoRow Ch v) (hm : Fm tb cb now v) (hxb : v.heap[xb]? = some (.cells #[I 3, I ca, I y, I cc] 39 (0, 0)))
    (hA : A5 x0 lst cb tb now i a) (h10 : a.tmps.getD 10 undef = Pt xb 0) (h11 : a.tmps.getD 11 undef = .bool true) (h38 : a.tmps.getD 38 undef = I 3)
    (hk : ∀ a' v' w', Rel zn v' w' → NoRow Ch v' → Fto tb cb y v v' → A5 x0 lst cb tb y i a' → a'.tmps.getD 11 undef = .bool true → GoesI Try.prog main (DT (ScZ zn) Ch) Stop (G ((base 5).at a' k) cs) w') :
    GoesI Try.prog main (DT (ScZ zn) Ch) Stop (G ((base 5).at a (.code SW5 :: k)) cs) w := by
  have b0 : v.cell? ⟨xb, 2, none⟩ = some (I y) := by unfold World.cell?; rw [show v.heap[xb]? = _ from hxb]; rfl
  have b1 : v.cell? ⟨xb, 3, none⟩ = some (I cc) := by unfold World.cell?; rw [show v.heap[xb]? = _ from hxb]; rfl
  have e0 : w.cell? ⟨xb, 2, none⟩ = some (I y) := by rw [hvw.cell?]; exact b0
  have e1 : w.cell? ⟨xb, 3, none⟩ = some (I cc) := by rw [hvw.cell?]; exact b1
  have hne : xb ≠ cb := fun e => by rw [e, hm.cel] at hxb; simp at hxb
  obtain ⟨u, rfl, hg⟩ := lit119 hA.size hA.defers
  have u0 := (hg 0).symm.trans hA.t0
  have u1 := (hg 1).symm.trans hA.t1
  have u6 := (hg 6).symm.trans hA.t6
  have u7 := (hg 7).symm.trans hA.t7
  have u8 := (hg 8).symm.trans hA.t8
  have u9 := (hg 9).symm.trans hA.t9
  have u10 := (hg 10).symm.trans h10
  have u11 := (hg 11).symm.trans h11
  have u38 := (hg 38).symm.trans h38
  clear hg hA h10 h11 h38
  unfold SW5 I5 L5 C57 B5 Try.f5 seq2 seq1 blockC loopC
  simp only [Option.getD_some, lits, Nat.reduceAdd, u0, u1, u6, u7, u8, u9, u10, u11, u38]
  clear u0 u1 u6 u7 u8 u9 u10 u11 u38
  refine goesI_seq (dt_idle _ _) ?_
  refine goesI_region (dt_idle _ _) ?_
  simp only [List.size_toArray, List.length_cons, List.length_nil, Nat.reduceAdd, Nat.zero_add, List.range, List.range.loop]
  iterate 2
    (refine goesI_oper rfl rfl (by decide) (fun d K hK => ?_)
     go_simp
     refine hK _ _ ⟨dt_reads (fun e he => ?_), GoesI.at ?_ d⟩
     · have hm := mem_listed he
       simp [go_sem, *] at hm
       try exact ⟨_, _, hm⟩
     clear hK K)
  refine goesI_regionEnd (dt_idle _ _) ?_
  refine goesI_cond (dt_idle _ _) (t := false) rfl ?_
  refine goesI_seq (dt_idle _ _) ?_
  refine goesI_region (dt_idle _ _) ?_
  simp only [List.size_toArray, List.length_cons, List.length_nil, Nat.reduceAdd, Nat.zero_add, List.range, List.range.loop]
  iterate 2
    (refine goesI_oper rfl rfl (by decide) (fun d K hK => ?_)
     go_simp
     refine hK _ _ ⟨dt_reads (fun e he => ?_), GoesI.at ?_ d⟩
     · have hm := mem_listed he
       simp [go_sem, *] at hm
       try exact ⟨_, _, hm⟩
     clear hK K)
  refine goesI_regionEnd (dt_idle _ _) ?_
  refine goesI_cond (dt_idle _ _) (t := true) rfl ?_
  refine goesI_seq (dt_idle _ _) ?_
  refine goesI_region (dt_idle _ _) ?_
  simp only [List.size_toArray, List.length_cons, List.length_nil, Nat.reduceAdd, Nat.zero_add, List.range, List.range.loop]
  iterate 4
    (refine goesI_oper rfl rfl (by decide) (fun d K hK => ?_)
     go_simp
     refine hK _ _ ⟨dt_reads (fun e he => ?_), GoesI.at ?_ d⟩
     · have hm := mem_listed he
       simp [go_sem, *] at hm
       try exact ⟨_, _, hm⟩
     clear hK K)
  refine goesI_into (f := 24) (fn := Try.f24) (args := #[Pt cb 0, Pt tb 0, I y]) (dt_idle _ _) rfl rfl (by decide) rfl (by simp [Act.eval]) Try.func24 (by decide) rfl ?_
  refine free13 y now _ rfl hvw hn hm (fun v2 w2 r2 n2 h2 => ?_) _ rfl
  clear e0 e1 hvw hn
  have e0 : w2.cell? ⟨xb, 2, none⟩ = some (I y) := by rw [r2.cell?, World.cell?_of_block (h2.old xb hne)]; exact b0
  have e1 : w2.cell? ⟨xb, 3, none⟩ = some (I cc) := by rw [r2.cell?, World.cell?_of_block (h2.old xb hne)]; exact b1
  rw [show effSwap y now = ((now, y), y, I now) from rfl] at h2 ⊢
  iterate 1
    (refine goesI_oper rfl rfl (by decide) (fun d K hK => ?_)
     go_simp
     refine hK _ _ ⟨dt_reads (fun e he => ?_), GoesI.at ?_ d⟩
     · have hm := mem_listed he
       simp [go_sem, *] at hm
       try exact ⟨_, _, hm⟩
     clear hK K)
  refine goesI_regionEnd (dt_idle _ _) ?_
  refine goesI_seq (dt_idle _ _) ?_
  refine goesI_region (dt_idle _ _) ?_
  simp only [List.size_toArray, List.length_cons, List.length_nil, Nat.reduceAdd, Nat.zero_add, List.range, List.range.loop]
  iterate 4
    (refine goesI_oper rfl rfl (by decide) (fun d K hK => ?_)
     go_simp
     refine hK _ _ ⟨dt_reads (fun e he => ?_), GoesI.at ?_ d⟩
     · have hm := mem_listed he
       simp [go_sem, *] at hm
       try exact ⟨_, _, hm⟩
     clear hK K)
  refine goesI_regionEnd (dt_idle _ _) ?_
  refine goesI_region (dt_idle _ _) ?_
  simp only [List.size_toArray, List.length_cons, List.length_nil, Nat.reduceAdd, Nat.zero_add, List.range, List.range.loop]
  iterate 3
    (refine goesI_oper rfl rfl (by decide) (fun d K hK => ?_)
     go_simp
     refine hK _ _ ⟨dt_reads (fun e he => ?_), GoesI.at ?_ d⟩
     · have hm := mem_listed he
       simp [go_sem, *] at hm
       try exact ⟨_, _, hm⟩
     clear hK K)
  refine goesI_regionEnd (dt_idle _ _) ?_
  exact hk _ _ _ r2 n2 h2 ⟨rfl, rfl, rfl, rfl, rfl, rfl, rfl, rfl⟩ rfl

set_option maxHeartbeats 4000000 in
set_option maxRecDepth 100000 in
theorem sw5 {Ch : Nat → Prop} {Stop : Goroutine → World → Prop} {main : Bool} {v w : World} {a : Act} {x0 : Int} {lst : Value} {cb tb xb : Nat} {now i ca y cc : Int} (cs : List Frame) (k : List Item) (hvw : Rel zn v w) (hn : NoRow Ch v) (hm : Fm tb cb now v) (hxb : v.heap[xb]? = some (.cells #[I 5, I ca, I y, I cc] 39 (0, 0)))
    (hA : A5 x0 lst cb tb now i a) (h10 : a.tmps.getD 10 undef = Pt xb 0) (h11 : a.tmps.getD 11 undef = .bool true) (h38 : a.tmps.getD 38 undef = I 5)
    (hk : ∀ a' v' w', Rel zn v' w' → NoRow Ch v' → Fto tb cb (wrap64 (now + y)) v v' → A5 x0 lst cb tb (wrap64 (now + y)) i a' → a'.tmps.getD 11 undef = .bool true → GoesI Try.prog main (DT (ScZ zn) Ch) Stop (G ((base 5).at a' k) cs) w') :
    GoesI Try.prog main (DT (ScZ zn) Ch) Stop (G ((base 5).at a (.code SW5 :: k)) cs) w := by
  have b0 : v.cell? ⟨xb, 2, none⟩ = some (I y) := by unfold World.cell?; rw [show v.heap[xb]? = _ from hxb]; rfl
  have b1 : v.cell? ⟨xb, 3, none⟩ = some (I cc) := by unfold World.cell?; rw [show v.heap[xb]? = _ from hxb]; rfl
  have e0 : w.cell? ⟨xb, 2, none⟩ = some (I y) := by rw [hvw.cell?]; exact b0
  have e1 : w.cell? ⟨xb, 3, none⟩ = some (I cc) := by rw [hvw.cell?]; exact b1
  have hne : xb ≠ cb := fun e => by rw [e, hm.cel] at hxb; simp at hxb
  obtain ⟨u, rfl, hg⟩ := lit119 hA.size hA.defers
  have u0 := (hg 0).symm.trans hA.t0
  have u1 := (hg 1).symm.trans hA.t1
  have u6 := (hg 6).symm.trans hA.t6
  have u7 := (hg 7).symm.trans hA.t7
  have u8 := (hg 8).symm.trans hA.t8
  have u9 := (hg 9).symm.trans hA.t9
  have u10 := (hg 10).symm.trans h10
  have u11 := (hg 11).symm.trans h11
  have u38 := (hg 38).symm.trans h38
  clear hg hA h10 h11 h38
  unfold SW5 I5 L5 C57 B5 Try.f5 seq2 seq1 blockC loopC
  simp only [Option.getD_some, lits, Nat.reduceAdd, u0, u1, u6, u7, u8, u9, u10, u11, u38]
  clear u0 u1 u6 u7 u8 u9 u10 u11 u38
  refine goesI_seq (dt_idle _ _) ?_
  refine goesI_region (dt_idle _ _) ?_
  simp only [List.size_toArray, List.length_cons, List.length_nil, Nat.reduceAdd, Nat.zero_add, List.range, List.range.loop]
  iterate 2
    (refine goesI_oper rfl rfl (by decide) (fun d K hK => ?_)
     go_simp
     refine hK _ _ ⟨dt_reads (fun e he => ?_), GoesI.at ?_ d⟩
     · have hm := mem_listed he
       simp [go_sem, *] at hm
       try exact ⟨_, _, hm⟩
     clear hK K)
  refine goesI_regionEnd (dt_idle _ _) ?_
  refine goesI_cond (dt_idle _ _) (t := false) rfl ?_
  refine goesI_seq (dt_idle _ _) ?_
  refine goesI_region (dt_idle _ _) ?_
  simp only [List.size_toArray, List.length_cons, List.length_nil, Nat.reduceAdd, Nat.zero_add, List.range, List.range.loop]
  iterate 2
    (refine goesI_oper rfl rfl (by decide) (fun d K hK => ?_)
     go_simp
     refine hK _ _ ⟨dt_reads (fun e he => ?_), GoesI.at ?_ d⟩
     · have hm := mem_listed he
       simp [go_sem, *] at hm
       try exact ⟨_, _, hm⟩
     clear hK K)
  refine goesI_regionEnd (dt_idle _ _) ?_
  refine goesI_cond (dt_idle _ _) (t := false) rfl ?_
  refine goesI_seq (dt_idle _ _) ?_
  refine goesI_region (dt_idle _ _) ?_
  simp only [List.size_toArray, List.length_cons, List.length_nil, Nat.reduceAdd, Nat.zero_add, List.range, List.range.loop]
  iterate 2
    (refine goesI_oper rfl rfl (by decide) (fun d K hK => ?_)
     go_simp
     refine hK _ _ ⟨dt_reads (fun e he => ?_), GoesI.at ?_ d⟩
     · have hm := mem_listed he
       simp [go_sem, *] at hm
       try exact ⟨_, _, hm⟩
     clear hK K)
  refine goesI_regionEnd (dt_idle _ _) ?_
  refine goesI_cond (dt_idle _ _) (t := false) rfl ?_
  refine goesI_seq (dt_idle _ _) ?_
  refine goesI_region (dt_idle _ _) ?_
  simp only [List.size_toArray, List.length_cons, List.length_nil, Nat.reduceAdd, Nat.zero_add, List.range, List.range.loop]
  iterate 2
    (refine goesI_oper rfl rfl (by decide) (fun d K hK => ?_)
     go_simp
     refine hK _ _ ⟨dt_reads (fun e he => ?_), GoesI.at ?_ d⟩
     · have hm := mem_listed he
       simp [go_sem, *] at hm
       try exact ⟨_, _, hm⟩
     clear hK K)
  refine goesI_regionEnd (dt_idle _ _) ?_
  refine goesI_cond (dt_idle _ _) (t := true) rfl ?_
  refine goesI_seq (dt_idle _ _) ?_
  refine goesI_region (dt_idle _ _) ?_
  simp only [List.size_toArray, List.length_cons, List.length_nil, Nat.reduceAdd, Nat.zero_add, List.range, List.range.loop]
  iterate 4
    (refine goesI_oper rfl rfl (by decide) (fun d K hK => ?_)
     go_simp
     refine hK _ _ ⟨dt_reads (fun e he => ?_), GoesI.at ?_ d⟩
     · have hm := mem_listed he
       simp [go_sem, *] at hm
       try exact ⟨_, _, hm⟩
     clear hK K)
  refine goesI_into (f := 26) (fn := Try.f26) (args := #[Pt cb 0, Pt tb 0, I y]) (dt_idle _ _) rfl rfl (by decide) rfl (by simp [Act.eval]) Try.func26 (by decide) rfl ?_
  refine free15 y now _ rfl hvw hn hm (fun v2 w2 r2 n2 h2 => ?_) _ rfl
  clear e0 e1 hvw hn
  have e0 : w2.cell? ⟨xb, 2, none⟩ = some (I y) := by rw [r2.cell?, World.cell?_of_block (h2.old xb hne)]; exact b0
  have e1 : w2.cell? ⟨xb, 3, none⟩ = some (I cc) := by rw [r2.cell?, World.cell?_of_block (h2.old xb hne)]; exact b1
  rw [show (effAdd y now).2.2 = I (wrap64 (now + y)) from rfl]
  have h2 : Fto tb cb (wrap64 (now + y)) v v2 := h2
  iterate 1
    (refine goesI_oper rfl rfl (by decide) (fun d K hK => ?_)
     go_simp
     refine hK _ _ ⟨dt_reads (fun e he => ?_), GoesI.at ?_ d⟩
     · have hm := mem_listed he
       simp [go_sem, *] at hm
       try exact ⟨_, _, hm⟩
     clear hK K)
  refine goesI_regionEnd (dt_idle _ _) ?_
  refine goesI_seq (dt_idle _ _) ?_
  refine goesI_region (dt_idle _ _) ?_
  simp only [List.size_toArray, List.length_cons, List.length_nil, Nat.reduceAdd, Nat.zero_add, List.range, List.range.loop]
  iterate 5
    (refine goesI_oper rfl rfl (by decide) (fun d K hK => ?_)
     go_simp
     refine hK _ _ ⟨dt_reads (fun e he => ?_), GoesI.at ?_ d⟩
     · have hm := mem_listed he
       simp [go_sem, *] at hm
       try exact ⟨_, _, hm⟩
     clear hK K)
  simp only [show IntKind.wrap .i64 (now + y) = wrap64 (now + y) from Go.IntWalk.i64_left _]
  refine goesI_regionEnd (dt_idle _ _) ?_
  refine goesI_region (dt_idle _ _) ?_
  simp only [List.size_toArray, List.length_cons, List.length_nil, Nat.reduceAdd, Nat.zero_add, List.range, List.range.loop]
  iterate 4
    (refine goesI_oper rfl rfl (by decide) (fun d K hK => ?_)
     go_simp
     refine hK _ _ ⟨dt_reads (fun e he => ?_), GoesI.at ?_ d⟩
     · have hm := mem_listed he
       simp [go_sem, *] at hm
       try exact ⟨_, _, hm⟩
     clear hK K)
  refine goesI_regionEnd (dt_idle _ _) ?_
  exact hk _ _ _ r2 n2 h2 ⟨rfl, rfl, rfl, rfl, rfl, rfl, rfl, rfl⟩ rfl

set_option maxHeartbeats 4000000 in
set_option maxRecDepth 100000 in
theorem sw4y {Ch : Nat → Prop} {Stop : Goroutine → World → Prop} {main : Bool} {v w : World} {a : Act} {x0 : Int} {lst : Value} {cb tb xb : Nat} {now i ca y cc : Int} (hq : now = y) (cs : List Frame) (k : List Item) (hvw : Rel zn v w) (hn : NoRow Ch v) (hm : Fm tb cb now v) (hxb : v.heap[xb]? = some (.cells #[I 4, I ca, I y, I cc] 39 (0, 0)))
    (hA : A5 x0 lst cb tb now i a) (h10 : a.tmps.getD 10 undef = Pt xb 0) (h11 : a.tmps.getD 11 undef = .bool true) (h38 : a.tmps.getD 38 undef = I 4)
    (hk : ∀ a' v' w', Rel zn v' w' → NoRow Ch v' → Fto tb cb cc v v' → A5 x0 lst cb tb cc i a' → a'.tmps.getD 11 undef = .bool true → GoesI Try.prog main (DT (ScZ zn) Ch) Stop (G ((base 5).at a' k) cs) w') :
    GoesI Try.prog main (DT (ScZ zn) Ch) Stop (G ((base 5).at a (.code SW5 :: k)) cs) w := by
  have b0 : v.cell? ⟨xb, 2, none⟩ = some (I y) := by unfold World.cell?; rw [show v.heap[xb]? = _ from hxb]; rfl
  have b1 : v.cell? ⟨xb, 3, none⟩ = some (I cc) := by unfold World.cell?; rw [show v.heap[xb]? = _ from hxb]; rfl
  have e0 : w.cell? ⟨xb, 2, none⟩ = some (I y) := by rw [hvw.cell?]; exact b0
  have e1 : w.cell? ⟨xb, 3, none⟩ = some (I cc) := by rw [hvw.cell?]; exact b1
  have hne : xb ≠ cb := fun e => by rw [e, hm.cel] at hxb; simp at hxb
  obtain ⟨u, rfl, hg⟩ := lit119 hA.size hA.defers
  have u0 := (hg 0).symm.trans hA.t0
  have u1 := (hg 1).symm.trans hA.t1
  have u6 := (hg 6).symm.trans hA.t6
  have u7 := (hg 7).symm.trans hA.t7
  have u8 := (hg 8).symm.trans hA.t8
  have u9 := (hg 9).symm.trans hA.t9
  have u10 := (hg 10).symm.trans h10
  have u11 := (hg 11).symm.trans h11
  have u38 := (hg 38).symm.trans h38
  clear hg hA h10 h11 h38
  unfold SW5 I5 L5 C57 B5 Try.f5 seq2 seq1 blockC loopC
  simp only [Option.getD_some, lits, Nat.reduceAdd, u0, u1, u6, u7, u8, u9, u10, u11, u38]
  clear u0 u1 u6 u7 u8 u9 u10 u11 u38
  subst hq
  have HQ : effCas now cc now = ((now, cc), cc, .bool true) := by simp [effCas]
  refine goesI_seq (dt_idle _ _) ?_
  refine goesI_region (dt_idle _ _) ?_
  simp only [List.size_toArray, List.length_cons, List.length_nil, Nat.reduceAdd, Nat.zero_add, List.range, List.range.loop]
  iterate 2
    (refine goesI_oper rfl rfl (by decide) (fun d K hK => ?_)
     go_simp
     refine hK _ _ ⟨dt_reads (fun e he => ?_), GoesI.at ?_ d⟩
     · have hm := mem_listed he
       simp [go_sem, *] at hm
       try exact ⟨_, _, hm⟩
     clear hK K)
  refine goesI_regionEnd (dt_idle _ _) ?_
  refine goesI_cond (dt_idle _ _) (t := false) rfl ?_
  refine goesI_seq (dt_idle _ _) ?_
  refine goesI_region (dt_idle _ _) ?_
  simp only [List.size_toArray, List.length_cons, List.length_nil, Nat.reduceAdd, Nat.zero_add, List.range, List.range.loop]
  iterate 2
    (refine goesI_oper rfl rfl (by decide) (fun d K hK => ?_)
     go_simp
     refine hK _ _ ⟨dt_reads (fun e he => ?_), GoesI.at ?_ d⟩
     · have hm := mem_listed he
       simp [go_sem, *] at hm
       try exact ⟨_, _, hm⟩
     clear hK K)
  refine goesI_regionEnd (dt_idle _ _) ?_
  refine goesI_cond (dt_idle _ _) (t := false) rfl ?_
  refine goesI_seq (dt_idle _ _) ?_
  refine goesI_region (dt_idle _ _) ?_
  simp only [List.size_toArray, List.length_cons, List.length_nil, Nat.reduceAdd, Nat.zero_add, List.range, List.range.loop]
  iterate 2
    (refine goesI_oper rfl rfl (by decide) (fun d K hK => ?_)
     go_simp
     refine hK _ _ ⟨dt_reads (fun e he => ?_), GoesI.at ?_ d⟩
     · have hm := mem_listed he
       simp [go_sem, *] at hm
       try exact ⟨_, _, hm⟩
     clear hK K)
  refine goesI_regionEnd (dt_idle _ _) ?_
  refine goesI_cond (dt_idle _ _) (t := true) rfl ?_
  refine goesI_seq (dt_idle _ _) ?_
  refine goesI_region (dt_idle _ _) ?_
  simp only [List.size_toArray, List.length_cons, List.length_nil, Nat.reduceAdd, Nat.zero_add, List.range, List.range.loop]
  iterate 6
    (refine goesI_oper rfl rfl (by decide) (fun d K hK => ?_)
     go_simp
     refine hK _ _ ⟨dt_reads (fun e he => ?_), GoesI.at ?_ d⟩
     · have hm := mem_listed he
       simp [go_sem, *] at hm
       try exact ⟨_, _, hm⟩
     clear hK K)
  refine goesI_into (f := 25) (fn := Try.f25) (args := #[Pt cb 0, Pt tb 0, I now, I cc]) (dt_idle _ _) rfl rfl (by decide) rfl (by simp [Act.eval]) Try.func25 (by decide) rfl ?_
  refine free14 now cc now _ rfl hvw hn hm (fun v2 w2 r2 n2 h2 => ?_) _ rfl
  clear e0 e1 hvw hn
  have e0 : w2.cell? ⟨xb, 2, none⟩ = some (I now) := by rw [r2.cell?, World.cell?_of_block (h2.old xb hne)]; exact b0
  have e1 : w2.cell? ⟨xb, 3, none⟩ = some (I cc) := by rw [r2.cell?, World.cell?_of_block (h2.old xb hne)]; exact b1
  rw [HQ] at h2 ⊢
  iterate 1
    (refine goesI_oper rfl rfl (by decide) (fun d K hK => ?_)
     go_simp
     refine hK _ _ ⟨dt_reads (fun e he => ?_), GoesI.at ?_ d⟩
     · have hm := mem_listed he
       simp [go_sem, *] at hm
       try exact ⟨_, _, hm⟩
     clear hK K)
  refine goesI_regionEnd (dt_idle _ _) ?_
  refine goesI_seq (dt_idle _ _) ?_
  refine goesI_region (dt_idle _ _) ?_
  simp only [List.size_toArray, List.length_cons, List.length_nil, Nat.reduceAdd, Nat.zero_add, List.range, List.range.loop]
  iterate 5
    (refine goesI_oper rfl rfl (by decide) (fun d K hK => ?_)
     go_simp
     refine hK _ _ ⟨dt_reads (fun e he => ?_), GoesI.at ?_ d⟩
     · have hm := mem_listed he
       simp [go_sem, *] at hm
       try exact ⟨_, _, hm⟩
     clear hK K)
  refine goesI_opZ (L := LT) rfl rfl (by decide) (fineOp_ask callT extT (by kernel_rfl)) r2 n2 (v' := v2) (x := .bool true) (by go_simp) rfl (fun w3 r3 n3 => ?_)
  clear e0 e1
  have e0 : w3.cell? ⟨xb, 2, none⟩ = some (I now) := by rw [r3.cell?, World.cell?_of_block (h2.old xb hne)]; exact b0
  have e1 : w3.cell? ⟨xb, 3, none⟩ = some (I cc) := by rw [r3.cell?, World.cell?_of_block (h2.old xb hne)]; exact b1
  iterate 1
    (refine goesI_oper rfl rfl (by decide) (fun d K hK => ?_)
     go_simp
     refine hK _ _ ⟨dt_reads (fun e he => ?_), GoesI.at ?_ d⟩
     · have hm := mem_listed he
       simp [go_sem, *] at hm
       try exact ⟨_, _, hm⟩
     clear hK K)
  refine goesI_regionEnd (dt_idle _ _) ?_
  refine goesI_seq (dt_idle _ _) ?_
  refine goesI_region (dt_idle _ _) ?_
  simp only [List.size_toArray, List.length_cons, List.length_nil, Nat.reduceAdd, Nat.zero_add, List.range, List.range.loop]
  iterate 4
    (refine goesI_oper rfl rfl (by decide) (fun d K hK => ?_)
     go_simp
     refine hK _ _ ⟨dt_reads (fun e he => ?_), GoesI.at ?_ d⟩
     · have hm := mem_listed he
       simp [go_sem, *] at hm
       try exact ⟨_, _, hm⟩
     clear hK K)
  refine goesI_regionEnd (dt_idle _ _) ?_
  refine goesI_cond (dt_idle _ _) (t := true) rfl ?_
  refine goesI_region (dt_idle _ _) ?_
  simp only [List.size_toArray, List.length_cons, List.length_nil, Nat.reduceAdd, Nat.zero_add, List.range, List.range.loop]
  iterate 3
    (refine goesI_oper rfl rfl (by decide) (fun d K hK => ?_)
     go_simp
     refine hK _ _ ⟨dt_reads (fun e he => ?_), GoesI.at ?_ d⟩
     · have hm := mem_listed he
       simp [go_sem, *] at hm
       try exact ⟨_, _, hm⟩
     clear hK K)
  refine goesI_regionEnd (dt_idle _ _) ?_
  exact hk _ _ _ r3 n3 h2 ⟨rfl, rfl, rfl, rfl, rfl, rfl, rfl, rfl⟩ rfl

set_option maxHeartbeats 4000000 in
set_option maxRecDepth 100000 in
theorem sw4n {Ch : Nat → Prop} {Stop : Goroutine → World → Prop} {main : Bool} {v w : World} {a : Act} {x0 : Int} {lst : Value} {cb tb xb : Nat} {now i ca y cc : Int} (hq : now ≠ y) (cs : List Frame) (k : List Item) (hvw : Rel zn v w) (hn : NoRow Ch v) (hm : Fm tb cb now v) (hxb : v.heap[xb]? = some (.cells #[I 4, I ca, I y, I cc] 39 (0, 0)))
    (hA : A5 x0 lst cb tb now i a) (h10 : a.tmps.getD 10 undef = Pt xb 0) (h11 : a.tmps.getD 11 undef = .bool true) (h38 : a.tmps.getD 38 undef = I 4)
    (hk : ∀ a' v' w', Rel zn v' w' → NoRow Ch v' → Fto tb cb now v v' → A5 x0 lst cb tb now i a' → a'.tmps.getD 11 undef = .bool true → GoesI Try.prog main (DT (ScZ zn) Ch) Stop (G ((base 5).at a' k) cs) w') :
    GoesI Try.prog main (DT (ScZ zn) Ch) Stop (G ((base 5).at a (.code SW5 :: k)) cs) w := by
  have b0 : v.cell? ⟨xb, 2, none⟩ = some (I y) := by unfold World.cell?; rw [show v.heap[xb]? = _ from hxb]; rfl
  have b1 : v.cell? ⟨xb, 3, none⟩ = some (I cc) := by unfold World.cell?; rw [show v.heap[xb]? = _ from hxb]; rfl
  have e0 : w.cell? ⟨xb, 2, none⟩ = some (I y) := by rw [hvw.cell?]; exact b0
  have e1 : w.cell? ⟨xb, 3, none⟩ = some (I cc) := by rw [hvw.cell?]; exact b1
  have hne : xb ≠ cb := fun e => by rw [e, hm.cel] at hxb; simp at hxb
  obtain ⟨u, rfl, hg⟩ := lit119 hA.size hA.defers
  have u0 := (hg 0).symm.trans hA.t0
  have u1 := (hg 1).symm.trans hA.t1
  have u6 := (hg 6).symm.trans hA.t6
  have u7 := (hg 7).symm.trans hA.t7
  have u8 := (hg 8).symm.trans hA.t8
  have u9 := (hg 9).symm.trans hA.t9
  have u10 := (hg 10).symm.trans h10
  have u11 := (hg 11).symm.trans h11
  have u38 := (hg 38).symm.trans h38
  clear hg hA h10 h11 h38
  unfold SW5 I5 L5 C57 B5 Try.f5 seq2 seq1 blockC loopC
  simp only [Option.getD_some, lits, Nat.reduceAdd, u0, u1, u6, u7, u8, u9, u10, u11, u38]
  clear u0 u1 u6 u7 u8 u9 u10 u11 u38
  have hq' : (now == y) = false := by simpa using hq
  have HQ : effCas y cc now = ((now, now), now, .bool false) := by simp [effCas, hq]
  refine goesI_seq (dt_idle _ _) ?_
  refine goesI_region (dt_idle _ _) ?_
  simp only [List.size_toArray, List.length_cons, List.length_nil, Nat.reduceAdd, Nat.zero_add, List.range, List.range.loop]
  iterate 2
    (refine goesI_oper rfl rfl (by decide) (fun d K hK => ?_)
     go_simp
     refine hK _ _ ⟨dt_reads (fun e he => ?_), GoesI.at ?_ d⟩
     · have hm := mem_listed he
       simp [go_sem, *] at hm
       try exact ⟨_, _, hm⟩
     clear hK K)
  refine goesI_regionEnd (dt_idle _ _) ?_
  refine goesI_cond (dt_idle _ _) (t := false) rfl ?_
  refine goesI_seq (dt_idle _ _) ?_
  refine goesI_region (dt_idle _ _) ?_
  simp only [List.size_toArray, List.length_cons, List.length_nil, Nat.reduceAdd, Nat.zero_add, List.range, List.range.loop]
  iterate 2
    (refine goesI_oper rfl rfl (by decide) (fun d K hK => ?_)
     go_simp
     refine hK _ _ ⟨dt_reads (fun e he => ?_), GoesI.at ?_ d⟩
     · have hm := mem_listed he
       simp [go_sem, *] at hm
       try exact ⟨_, _, hm⟩
     clear hK K)
  refine goesI_regionEnd (dt_idle _ _) ?_
  refine goesI_cond (dt_idle _ _) (t := false) rfl ?_
  refine goesI_seq (dt_idle _ _) ?_
  refine goesI_region (dt_idle _ _) ?_
  simp only [List.size_toArray, List.length_cons, List.length_nil, Nat.reduceAdd, Nat.zero_add, List.range, List.range.loop]
  iterate 2
    (refine goesI_oper rfl rfl (by decide) (fun d K hK => ?_)
     go_simp
     refine hK _ _ ⟨dt_reads (fun e he => ?_), GoesI.at ?_ d⟩
     · have hm := mem_listed he
       simp [go_sem, *] at hm
       try exact ⟨_, _, hm⟩
     clear hK K)
  refine goesI_regionEnd (dt_idle _ _) ?_
  refine goesI_cond (dt_idle _ _) (t := true) rfl ?_
  refine goesI_seq (dt_idle _ _) ?_
  refine goesI_region (dt_idle _ _) ?_
  simp only [List.size_toArray, List.length_cons, List.length_nil, Nat.reduceAdd, Nat.zero_add, List.range, List.range.loop]
  iterate 6
    (refine goesI_oper rfl rfl (by decide) (fun d K hK => ?_)
     go_simp
     refine hK _ _ ⟨dt_reads (fun e he => ?_), GoesI.at ?_ d⟩
     · have hm := mem_listed he
       simp [go_sem, *] at hm
       try exact ⟨_, _, hm⟩
     clear hK K)
  refine goesI_into (f := 25) (fn := Try.f25) (args := #[Pt cb 0, Pt tb 0, I y, I cc]) (dt_idle _ _) rfl rfl (by decide) rfl (by simp [Act.eval]) Try.func25 (by decide) rfl ?_
  refine free14 y cc now _ rfl hvw hn hm (fun v2 w2 r2 n2 h2 => ?_) _ rfl
  clear e0 e1 hvw hn
  have e0 : w2.cell? ⟨xb, 2, none⟩ = some (I y) := by rw [r2.cell?, World.cell?_of_block (h2.old xb hne)]; exact b0
  have e1 : w2.cell? ⟨xb, 3, none⟩ = some (I cc) := by rw [r2.cell?, World.cell?_of_block (h2.old xb hne)]; exact b1
  rw [HQ] at h2 ⊢
  iterate 1
    (refine goesI_oper rfl rfl (by decide) (fun d K hK => ?_)
     go_simp
     refine hK _ _ ⟨dt_reads (fun e he => ?_), GoesI.at ?_ d⟩
     · have hm := mem_listed he
       simp [go_sem, *] at hm
       try exact ⟨_, _, hm⟩
     clear hK K)
  refine goesI_regionEnd (dt_idle _ _) ?_
  refine goesI_seq (dt_idle _ _) ?_
  refine goesI_region (dt_idle _ _) ?_
  simp only [List.size_toArray, List.length_cons, List.length_nil, Nat.reduceAdd, Nat.zero_add, List.range, List.range.loop]
  iterate 5
    (refine goesI_oper rfl rfl (by decide) (fun d K hK => ?_)
     go_simp
     refine hK _ _ ⟨dt_reads (fun e he => ?_), GoesI.at ?_ d⟩
     · have hm := mem_listed he
       simp [go_sem, *] at hm
       try exact ⟨_, _, hm⟩
     clear hK K)
  refine goesI_opZ (L := LT) rfl rfl (by decide) (fineOp_ask callT extT (by kernel_rfl)) r2 n2 (v' := v2) (x := .bool true) (by go_simp) rfl (fun w3 r3 n3 => ?_)
  clear e0 e1
  have e0 : w3.cell? ⟨xb, 2, none⟩ = some (I y) := by rw [r3.cell?, World.cell?_of_block (h2.old xb hne)]; exact b0
  have e1 : w3.cell? ⟨xb, 3, none⟩ = some (I cc) := by rw [r3.cell?, World.cell?_of_block (h2.old xb hne)]; exact b1
  iterate 1
    (refine goesI_oper rfl rfl (by decide) (fun d K hK => ?_)
     go_simp
     refine hK _ _ ⟨dt_reads (fun e he => ?_), GoesI.at ?_ d⟩
     · have hm := mem_listed he
       simp [go_sem, *] at hm
       try exact ⟨_, _, hm⟩
     clear hK K)
  refine goesI_regionEnd (dt_idle _ _) ?_
  refine goesI_seq (dt_idle _ _) ?_
  refine goesI_region (dt_idle _ _) ?_
  simp only [List.size_toArray, List.length_cons, List.length_nil, Nat.reduceAdd, Nat.zero_add, List.range, List.range.loop]
  iterate 4
    (refine goesI_oper rfl rfl (by decide) (fun d K hK => ?_)
     go_simp
     refine hK _ _ ⟨dt_reads (fun e he => ?_), GoesI.at ?_ d⟩
     · have hm := mem_listed he
       simp [go_sem, *] at hm
       try exact ⟨_, _, hm⟩
     clear hK K)
  refine goesI_regionEnd (dt_idle _ _) ?_
  refine goesI_cond (dt_idle _ _) (t := false) rfl ?_
  refine goesI_skip (dt_idle _ _) ?_
  exact hk _ _ _ r3 n3 h2 ⟨rfl, rfl, rfl, rfl, rfl, rfl, rfl, rfl⟩ rfl

set_option maxHeartbeats 4000000 in
set_option maxRecDepth 100000 in
theorem sw6y {Ch : Nat → Prop} {Stop : Goroutine → World → Prop} {main : Bool} {v w : World} {a : Act} {x0 : Int} {lst : Value} {cb tb xb : Nat} {now i ca y cc : Int} (hq : now = y) (cs : List Frame) (k : List Item) (hvw : Rel zn v w) (hn : NoRow Ch v) (hm : Fm tb cb now v) (hxb : v.heap[xb]? = some (.cells #[I 6, I ca, I y, I cc] 39 (0, 0)))
    (hA : A5 x0 lst cb tb now i a) (h10 : a.tmps.getD 10 undef = Pt xb 0) (h11 : a.tmps.getD 11 undef = .bool true) (h38 : a.tmps.getD 38 undef = I 6)
    (hk : ∀ a' v' w', Rel zn v' w' → NoRow Ch v' → Fto tb cb now v v' → A5 x0 lst cb tb now i a' → a'.tmps.getD 11 undef = .bool true → GoesI Try.prog main (DT (ScZ zn) Ch) Stop (G ((base 5).at a' k) cs) w') :
    GoesI Try.prog main (DT (ScZ zn) Ch) Stop (G ((base 5).at a (.code SW5 :: k)) cs) w := by
  have b0 : v.cell? ⟨xb, 2, none⟩ = some (I y) := by unfold World.cell?; rw [show v.heap[xb]? = _ from hxb]; rfl
  have b1 : v.cell? ⟨xb, 3, none⟩ = some (I cc) := by unfold World.cell?; rw [show v.heap[xb]? = _ from hxb]; rfl
  have e0 : w.cell? ⟨xb, 2, none⟩ = some (I y) := by rw [hvw.cell?]; exact b0
  have e1 : w.cell? ⟨xb, 3, none⟩ = some (I cc) := by rw [hvw.cell?]; exact b1
  have hne : xb ≠ cb := fun e => by rw [e, hm.cel] at hxb; simp at hxb
  obtain ⟨u, rfl, hg⟩ := lit119 hA.size hA.defers
  have u0 := (hg 0).symm.trans hA.t0
  have u1 := (hg 1).symm.trans hA.t1
  have u6 := (hg 6).symm.trans hA.t6
  have u7 := (hg 7).symm.trans hA.t7
  have u8 := (hg 8).symm.trans hA.t8
  have u9 := (hg 9).symm.trans hA.t9
  have u10 := (hg 10).symm.trans h10
  have u11 := (hg 11).symm.trans h11
  have u38 := (hg 38).symm.trans h38
  clear hg hA h10 h11 h38
  unfold SW5 I5 L5 C57 B5 Try.f5 seq2 seq1 blockC loopC
  simp only [Option.getD_some, lits, Nat.reduceAdd, u0, u1, u6, u7, u8, u9, u10, u11, u38]
  clear u0 u1 u6 u7 u8 u9 u10 u11 u38
  subst hq
  refine goesI_seq (dt_idle _ _) ?_
  refine goesI_region (dt_idle _ _) ?_
  simp only [List.size_toArray, List.length_cons, List.length_nil, Nat.reduceAdd, Nat.zero_add, List.range, List.range.loop]
  iterate 2
    (refine goesI_oper rfl rfl (by decide) (fun d K hK => ?_)
     go_simp
     refine hK _ _ ⟨dt_reads (fun e he => ?_), GoesI.at ?_ d⟩
     · have hm := mem_listed he
       simp [go_sem, *] at hm
       try exact ⟨_, _, hm⟩
     clear hK K)
  refine goesI_regionEnd (dt_idle _ _) ?_
  refine goesI_cond (dt_idle _ _) (t := false) rfl ?_
  refine goesI_seq (dt_idle _ _) ?_
  refine goesI_region (dt_idle _ _) ?_
  simp only [List.size_toArray, List.length_cons, List.length_nil, Nat.reduceAdd, Nat.zero_add, List.range, List.range.loop]
  iterate 2
    (refine goesI_oper rfl rfl (by decide) (fun d K hK => ?_)
     go_simp
     refine hK _ _ ⟨dt_reads (fun e he => ?_), GoesI.at ?_ d⟩
     · have hm := mem_listed he
       simp [go_sem, *] at hm
       try exact ⟨_, _, hm⟩
     clear hK K)
  refine goesI_regionEnd (dt_idle _ _) ?_
  refine goesI_cond (dt_idle _ _) (t := false) rfl ?_
  refine goesI_seq (dt_idle _ _) ?_
  refine goesI_region (dt_idle _ _) ?_
  simp only [List.size_toArray, List.length_cons, List.length_nil, Nat.reduceAdd, Nat.zero_add, List.range, List.range.loop]
  iterate 2
    (refine goesI_oper rfl rfl (by decide) (fun d K hK => ?_)
     go_simp
     refine hK _ _ ⟨dt_reads (fun e he => ?_), GoesI.at ?_ d⟩
     · have hm := mem_listed he
       simp [go_sem, *] at hm
       try exact ⟨_, _, hm⟩
     clear hK K)
  refine goesI_regionEnd (dt_idle _ _) ?_
  refine goesI_cond (dt_idle _ _) (t := false) rfl ?_
  refine goesI_seq (dt_idle _ _) ?_
  refine goesI_region (dt_idle _ _) ?_
  simp only [List.size_toArray, List.length_cons, List.length_nil, Nat.reduceAdd, Nat.zero_add, List.range, List.range.loop]
  iterate 2
    (refine goesI_oper rfl rfl (by decide) (fun d K hK => ?_)
     go_simp
     refine hK _ _ ⟨dt_reads (fun e he => ?_), GoesI.at ?_ d⟩
     · have hm := mem_listed he
       simp [go_sem, *] at hm
       try exact ⟨_, _, hm⟩
     clear hK K)
  refine goesI_regionEnd (dt_idle _ _) ?_
  refine goesI_cond (dt_idle _ _) (t := false) rfl ?_
  refine goesI_seq (dt_idle _ _) ?_
  refine goesI_region (dt_idle _ _) ?_
  simp only [List.size_toArray, List.length_cons, List.length_nil, Nat.reduceAdd, Nat.zero_add, List.range, List.range.loop]
  iterate 2
    (refine goesI_oper rfl rfl (by decide) (fun d K hK => ?_)
     go_simp
     refine hK _ _ ⟨dt_reads (fun e he => ?_), GoesI.at ?_ d⟩
     · have hm := mem_listed he
       simp [go_sem, *] at hm
       try exact ⟨_, _, hm⟩
     clear hK K)
  refine goesI_regionEnd (dt_idle _ _) ?_
  refine goesI_cond (dt_idle _ _) (t := true) rfl ?_
  refine goesI_seq (dt_idle _ _) ?_
  refine goesI_region (dt_idle _ _) ?_
  simp only [List.size_toArray, List.length_cons, List.length_nil, Nat.reduceAdd, Nat.zero_add, List.range, List.range.loop]
  iterate 4
    (refine goesI_oper rfl rfl (by decide) (fun d K hK => ?_)
     go_simp
     refine hK _ _ ⟨dt_reads (fun e he => ?_), GoesI.at ?_ d⟩
     · have hm := mem_listed he
       simp [go_sem, *] at hm
       try exact ⟨_, _, hm⟩
     clear hK K)
  refine goesI_regionEnd (dt_idle _ _) ?_
  refine goesI_cond (dt_idle _ _) (t := false) rfl ?_
  refine goesI_skip (dt_idle _ _) ?_
  exact hk _ _ _ hvw hn (Fto.refl hm) ⟨rfl, rfl, rfl, rfl, rfl, rfl, rfl, rfl⟩ rfl

set_option maxHeartbeats 4000000 in
set_option maxRecDepth 100000 in
theorem sw6n {Ch : Nat → Prop} {Stop : Goroutine → World → Prop} {main : Bool} {v w : World} {a : Act} {x0 : Int} {lst : Value} {cb tb xb : Nat} {now i ca y cc : Int} (hq : now ≠ y) (cs : List Frame) (k : List Item) (hvw : Rel zn v w) (hn : NoRow Ch v) (hm : Fm tb cb now v) (hxb : v.heap[xb]? = some (.cells #[I 6, I ca, I y, I cc] 39 (0, 0)))
    (hA : A5 x0 lst cb tb now i a) (h10 : a.tmps.getD 10 undef = Pt xb 0) (h11 : a.tmps.getD 11 undef = .bool true) (h38 : a.tmps.getD 38 undef = I 6)
    (hk : ∀ a' v' w', Rel zn v' w' → NoRow Ch v' → Fto tb cb now v v' → A5 x0 lst cb tb now i a' → a'.tmps.getD 11 undef = .bool true → GoesI Try.prog main (DT (ScZ zn) Ch) Stop (G ((base 5).at a' k) cs) w') :
    GoesI Try.prog main (DT (ScZ zn) Ch) Stop (G ((base 5).at a (.code SW5 :: k)) cs) w := by
  have b0 : v.cell? ⟨xb, 2, none⟩ = some (I y) := by unfold World.cell?; rw [show v.heap[xb]? = _ from hxb]; rfl
  have b1 : v.cell? ⟨xb, 3, none⟩ = some (I cc) := by unfold World.cell?; rw [show v.heap[xb]? = _ from hxb]; rfl
  have e0 : w.cell? ⟨xb, 2, none⟩ = some (I y) := by rw [hvw.cell?]; exact b0
  have e1 : w.cell? ⟨xb, 3, none⟩ = some (I cc) := by rw [hvw.cell?]; exact b1
  have hne : xb ≠ cb := fun e => by rw [e, hm.cel] at hxb; simp at hxb
  obtain ⟨u, rfl, hg⟩ := lit119 hA.size hA.defers
  have u0 := (hg 0).symm.trans hA.t0
  have u1 := (hg 1).symm.trans hA.t1
  have u6 := (hg 6).symm.trans hA.t6
  have u7 := (hg 7).symm.trans hA.t7
  have u8 := (hg 8).symm.trans hA.t8
  have u9 := (hg 9).symm.trans hA.t9
  have u10 := (hg 10).symm.trans h10
  have u11 := (hg 11).symm.trans h11
  have u38 := (hg 38).symm.trans h38
  clear hg hA h10 h11 h38
  unfold SW5 I5 L5 C57 B5 Try.f5 seq2 seq1 blockC loopC
  simp only [Option.getD_some, lits, Nat.reduceAdd, u0, u1, u6, u7, u8, u9, u10, u11, u38]
  clear u0 u1 u6 u7 u8 u9 u10 u11 u38
  have hq' : (now == y) = false := by simpa using hq
  have hq3 : (now != y) = true := by simpa using hq
  refine goesI_seq (dt_idle _ _) ?_
  refine goesI_region (dt_idle _ _) ?_
  simp only [List.size_toArray, List.length_cons, List.length_nil, Nat.reduceAdd, Nat.zero_add, List.range, List.range.loop]
  iterate 2
    (refine goesI_oper rfl rfl (by decide) (fun d K hK => ?_)
     go_simp
     refine hK _ _ ⟨dt_reads (fun e he => ?_), GoesI.at ?_ d⟩
     · have hm := mem_listed he
       simp [go_sem, *] at hm
       try exact ⟨_, _, hm⟩
     clear hK K)
  refine goesI_regionEnd (dt_idle _ _) ?_
  refine goesI_cond (dt_idle _ _) (t := false) rfl ?_
  refine goesI_seq (dt_idle _ _) ?_
  refine goesI_region (dt_idle _ _) ?_
  simp only [List.size_toArray, List.length_cons, List.length_nil, Nat.reduceAdd, Nat.zero_add, List.range, List.range.loop]
  iterate 2
    (refine goesI_oper rfl rfl (by decide) (fun d K hK => ?_)
     go_simp
     refine hK _ _ ⟨dt_reads (fun e he => ?_), GoesI.at ?_ d⟩
     · have hm := mem_listed he
       simp [go_sem, *] at hm
       try exact ⟨_, _, hm⟩
     clear hK K)
  refine goesI_regionEnd (dt_idle _ _) ?_
  refine goesI_cond (dt_idle _ _) (t := false) rfl ?_
  refine goesI_seq (dt_idle _ _) ?_
  refine goesI_region (dt_idle _ _) ?_
  simp only [List.size_toArray, List.length_cons, List.length_nil, Nat.reduceAdd, Nat.zero_add, List.range, List.range.loop]
  iterate 2
    (refine goesI_oper rfl rfl (by decide) (fun d K hK => ?_)
     go_simp
     refine hK _ _ ⟨dt_reads (fun e he => ?_), GoesI.at ?_ d⟩
     · have hm := mem_listed he
       simp [go_sem, *] at hm
       try exact ⟨_, _, hm⟩
     clear hK K)
  refine goesI_regionEnd (dt_idle _ _) ?_
  refine goesI_cond (dt_idle _ _) (t := false) rfl ?_
  refine goesI_seq (dt_idle _ _) ?_
  refine goesI_region (dt_idle _ _) ?_
  simp only [List.size_toArray, List.length_cons, List.length_nil, Nat.reduceAdd, Nat.zero_add, List.range, List.range.loop]
  iterate 2
    (refine goesI_oper rfl rfl (by decide) (fun d K hK => ?_)
     go_simp
     refine hK _ _ ⟨dt_reads (fun e he => ?_), GoesI.at ?_ d⟩
     · have hm := mem_listed he
       simp [go_sem, *] at hm
       try exact ⟨_, _, hm⟩
     clear hK K)
  refine goesI_regionEnd (dt_idle _ _) ?_
  refine goesI_cond (dt_idle _ _) (t := false) rfl ?_
  refine goesI_seq (dt_idle _ _) ?_
  refine goesI_region (dt_idle _ _) ?_
  simp only [List.size_toArray, List.length_cons, List.length_nil, Nat.reduceAdd, Nat.zero_add, List.range, List.range.loop]
  iterate 2
    (refine goesI_oper rfl rfl (by decide) (fun d K hK => ?_)
     go_simp
     refine hK _ _ ⟨dt_reads (fun e he => ?_), GoesI.at ?_ d⟩
     · have hm := mem_listed he
       simp [go_sem, *] at hm
       try exact ⟨_, _, hm⟩
     clear hK K)
  refine goesI_regionEnd (dt_idle _ _) ?_
  refine goesI_cond (dt_idle _ _) (t := true) rfl ?_
  refine goesI_seq (dt_idle _ _) ?_
  refine goesI_region (dt_idle _ _) ?_
  simp only [List.size_toArray, List.length_cons, List.length_nil, Nat.reduceAdd, Nat.zero_add, List.range, List.range.loop]
  iterate 4
    (refine goesI_oper rfl rfl (by decide) (fun d K hK => ?_)
     go_simp
     refine hK _ _ ⟨dt_reads (fun e he => ?_), GoesI.at ?_ d⟩
     · have hm := mem_listed he
       simp [go_sem, *] at hm
       try exact ⟨_, _, hm⟩
     clear hK K)
  refine goesI_regionEnd (dt_idle _ _) ?_
  refine goesI_cond (dt_idle _ _) (t := true) rfl ?_
  refine goesI_region (dt_idle _ _) ?_
  simp only [List.size_toArray, List.length_cons, List.length_nil, Nat.reduceAdd, Nat.zero_add, List.range, List.range.loop]
  iterate 4
    (refine goesI_oper rfl rfl (by decide) (fun d K hK => ?_)
     go_simp
     refine hK _ _ ⟨dt_reads (fun e he => ?_), GoesI.at ?_ d⟩
     · have hm := mem_listed he
       simp [go_sem, *] at hm
       try exact ⟨_, _, hm⟩
     clear hK K)
  refine goesI_into (f := 27) (fn := Try.f27) (args := #[Pt cb 0, Pt tb 0, I y]) (dt_idle _ _) rfl rfl (by decide) rfl (by simp [Act.eval]) Try.func27 (by decide) rfl ?_
  refine free16 y now hq _ rfl hvw hn hm (fun v2 w2 r2 n2 h2 => ?_) _ rfl
  clear e0 e1 hvw hn
  have e0 : w2.cell? ⟨xb, 2, none⟩ = some (I y) := by rw [r2.cell?, World.cell?_of_block (h2.old xb hne)]; exact b0
  have e1 : w2.cell? ⟨xb, 3, none⟩ = some (I cc) := by rw [r2.cell?, World.cell?_of_block (h2.old xb hne)]; exact b1
  iterate 1
    (refine goesI_oper rfl rfl (by decide) (fun d K hK => ?_)
     go_simp
     refine hK _ _ ⟨dt_reads (fun e he => ?_), GoesI.at ?_ d⟩
     · have hm := mem_listed he
       simp [go_sem, *] at hm
       try exact ⟨_, _, hm⟩
     clear hK K)
  refine goesI_regionEnd (dt_idle _ _) ?_
  exact hk _ _ _ r2 n2 h2 ⟨rfl, rfl, rfl, rfl, rfl, rfl, rfl, rfl⟩ rfl

set_option maxHeartbeats 4000000 in
set_option maxRecDepth 100000 in
theorem swD {Ch : Nat → Prop} {Stop : Goroutine → World → Prop} {main : Bool} {v w : World} {a : Act} {x0 : Int} {lst : Value} {cb tb xb : Nat} {now i ca y cc po : Int} (q2 : (po == 2) = false) (q3 : (po == 3) = false) (q4 : (po == 4) = false) (q5 : (po == 5) = false) (q6 : (po == 6) = false) (cs : List Frame) (k : List Item) (hvw : Rel zn v w) (hn : NoRow Ch v) (hm : Fm tb cb now v) (hxb : v.heap[xb]? = some (.cells #[I po, I ca, I y, I cc] 39 (0, 0)))
    (hA : A5 x0 lst cb tb now i a) (h10 : a.tmps.getD 10 undef = Pt xb 0) (h11 : a.tmps.getD 11 undef = .bool true) (h38 : a.tmps.getD 38 undef = I po)
    (hk : ∀ a' v' w', Rel zn v' w' → NoRow Ch v' → Fto tb cb now v v' → A5 x0 lst cb tb now i a' → a'.tmps.getD 11 undef = .bool true → GoesI Try.prog main (DT (ScZ zn) Ch) Stop (G ((base 5).at a' k) cs) w') :
    GoesI Try.prog main (DT (ScZ zn) Ch) Stop (G ((base 5).at a (.code SW5 :: k)) cs) w := by
  have b0 : v.cell? ⟨xb, 2, none⟩ = some (I y) := by unfold World.cell?; rw [show v.heap[xb]? = _ from hxb]; rfl
  have b1 : v.cell? ⟨xb, 3, none⟩ = some (I cc) := by unfold World.cell?; rw [show v.heap[xb]? = _ from hxb]; rfl
  have e0 : w.cell? ⟨xb, 2, none⟩ = some (I y) := by rw [hvw.cell?]; exact b0
  have e1 : w.cell? ⟨xb, 3, none⟩ = some (I cc) := by rw [hvw.cell?]; exact b1
  have hne : xb ≠ cb := fun e => by rw [e, hm.cel] at hxb; simp at hxb
  obtain ⟨u, rfl, hg⟩ := lit119 hA.size hA.defers
  have u0 := (hg 0).symm.trans hA.t0
  have u1 := (hg 1).symm.trans hA.t1
  have u6 := (hg 6).symm.trans hA.t6
  have u7 := (hg 7).symm.trans hA.t7
  have u8 := (hg 8).symm.trans hA.t8
  have u9 := (hg 9).symm.trans hA.t9
  have u10 := (hg 10).symm.trans h10
  have u11 := (hg 11).symm.trans h11
  have u38 := (hg 38).symm.trans h38
  clear hg hA h10 h11 h38
  unfold SW5 I5 L5 C57 B5 Try.f5 seq2 seq1 blockC loopC
  simp only [Option.getD_some, lits, Nat.reduceAdd, u0, u1, u6, u7, u8, u9, u10, u11, u38]
  clear u0 u1 u6 u7 u8 u9 u10 u11 u38
  refine goesI_seq (dt_idle _ _) ?_
  refine goesI_region (dt_idle _ _) ?_
  simp only [List.size_toArray, List.length_cons, List.length_nil, Nat.reduceAdd, Nat.zero_add, List.range, List.range.loop]
  iterate 2
    (refine goesI_oper rfl rfl (by decide) (fun d K hK => ?_)
     go_simp
     refine hK _ _ ⟨dt_reads (fun e he => ?_), GoesI.at ?_ d⟩
     · have hm := mem_listed he
       simp [go_sem, *] at hm
       try exact ⟨_, _, hm⟩
     clear hK K)
  refine goesI_regionEnd (dt_idle _ _) ?_
  refine goesI_cond (dt_idle _ _) (t := false) rfl ?_
  refine goesI_seq (dt_idle _ _) ?_
  refine goesI_region (dt_idle _ _) ?_
  simp only [List.size_toArray, List.length_cons, List.length_nil, Nat.reduceAdd, Nat.zero_add, List.range, List.range.loop]
  iterate 2
    (refine goesI_oper rfl rfl (by decide) (fun d K hK => ?_)
     go_simp
     refine hK _ _ ⟨dt_reads (fun e he => ?_), GoesI.at ?_ d⟩
     · have hm := mem_listed he
       simp [go_sem, *] at hm
       try exact ⟨_, _, hm⟩
     clear hK K)
  refine goesI_regionEnd (dt_idle _ _) ?_
  refine goesI_cond (dt_idle _ _) (t := false) rfl ?_
  refine goesI_seq (dt_idle _ _) ?_
  refine goesI_region (dt_idle _ _) ?_
  simp only [List.size_toArray, List.length_cons, List.length_nil, Nat.reduceAdd, Nat.zero_add, List.range, List.range.loop]
  iterate 2
    (refine goesI_oper rfl rfl (by decide) (fun d K hK => ?_)
     go_simp
     refine hK _ _ ⟨dt_reads (fun e he => ?_), GoesI.at ?_ d⟩
     · have hm := mem_listed he
       simp [go_sem, *] at hm
       try exact ⟨_, _, hm⟩
     clear hK K)
  refine goesI_regionEnd (dt_idle _ _) ?_
  refine goesI_cond (dt_idle _ _) (t := false) rfl ?_
  refine goesI_seq (dt_idle _ _) ?_
  refine goesI_region (dt_idle _ _) ?_
  simp only [List.size_toArray, List.length_cons, List.length_nil, Nat.reduceAdd, Nat.zero_add, List.range, List.range.loop]
  iterate 2
    (refine goesI_oper rfl rfl (by decide) (fun d K hK => ?_)
     go_simp
     refine hK _ _ ⟨dt_reads (fun e he => ?_), GoesI.at ?_ d⟩
     · have hm := mem_listed he
       simp [go_sem, *] at hm
       try exact ⟨_, _, hm⟩
     clear hK K)
  refine goesI_regionEnd (dt_idle _ _) ?_
  refine goesI_cond (dt_idle _ _) (t := false) rfl ?_
  refine goesI_seq (dt_idle _ _) ?_
  refine goesI_region (dt_idle _ _) ?_
  simp only [List.size_toArray, List.length_cons, List.length_nil, Nat.reduceAdd, Nat.zero_add, List.range, List.range.loop]
  iterate 2
    (refine goesI_oper rfl rfl (by decide) (fun d K hK => ?_)
     go_simp
     refine hK _ _ ⟨dt_reads (fun e he => ?_), GoesI.at ?_ d⟩
     · have hm := mem_listed he
       simp [go_sem, *] at hm
       try exact ⟨_, _, hm⟩
     clear hK K)
  refine goesI_regionEnd (dt_idle _ _) ?_
  refine goesI_cond (dt_idle _ _) (t := false) rfl ?_
  refine goesI_skip (dt_idle _ _) ?_
  exact hk _ _ _ hvw hn (Fto.refl hm) ⟨rfl, rfl, rfl, rfl, rfl, rfl, rfl, rfl⟩ rfl
end Go.Proofs.Ytfjjoohflcchnaa
