/- CellAlone returns true, whatever the number and the calls, and leaves what it was given as it was: of the law's statement as given, with no condition of our own. Part 21 of 22. (Joined, by program, of: Sw5, It5.) -/
import Derived.Test.YtmgaojbfmohboaaCellAlone20

/- The law CellAlone (5): its switch, main alone. (Made by wip/tools/gen5.py.) -/
set_option linter.unusedSimpArgs false
set_option linter.unusedVariables false
namespace Go.Proofs.Ytmgaojbfmohboaa
open Go Go.Lift Go.Conc Go.RowKit

noncomputable def B5 : Code := Try.f5.body.getD .skip
noncomputable def C57 : Code := seq1 (seq2 (seq2 (seq2 (seq2 (seq2 (seq2 B5))))))
noncomputable def L5 : Code := loopC (blockC (seq2 C57))
noncomputable def I5 : Code := blockC (seq1 (seq2 L5))
noncomputable def SW5 : Code := blockC (seq2 (seq1 (seq2 (seq2 I5))))
/-- What the law's loop holds. -/
structure A5 (x0 : Int) (lst : Value) (cb tb : Nat) (now i : Int) (a : Act) : Prop where
  size : a.tmps.size = 119
  defers : a.defers = []
  t0 : a.tmps.getD 0 undef = I x0
  t1 : a.tmps.getD 1 undef = lst
  t6 : a.tmps.getD 6 undef = Pt cb 0
  t7 : a.tmps.getD 7 undef = Pt tb 0
  t8 : a.tmps.getD 8 undef = I now
  t9 : a.tmps.getD 9 undef = I i
def lits (u : Nat → Value) : Nat → Nat → List Value
  | _, 0 => []
  | s, n + 1 => u s :: lits u (s + 1) n
theorem lits_get (u : Nat → Value) : ∀ (n s i : Nat), (lits u s n)[i]? = if i < n then some (u (s + i)) else none
  | 0, s, i => by simp [lits]
  | n + 1, s, 0 => by simp [lits]
  | n + 1, s, i + 1 => by
    have := lits_get u n (s + 1) i
    simp only [lits, List.getElem?_cons_succ, this, Nat.add_lt_add_iff_right]
    rw [show s + 1 + i = s + (i + 1) by omega]
theorem lit119 {a : Act} (h : a.tmps.size = 119) (hd : a.defers = []) : ∃ u : Nat → Value, a = { tmps := (lits u 0 119).toArray, defers := [] } ∧ ∀ i, a.tmps.getD i undef = u i := by
  obtain ⟨⟨l⟩, ds⟩ := a
  simp only at hd h
  subst hd
  refine ⟨fun i => (Array.mk l).getD i undef, ?_, fun i => rfl⟩
  have e : l = lits (fun i => (Array.mk l).getD i undef) 0 119 := by
    apply List.ext_getElem?
    intro i
    rw [lits_get]
    have hl : l.length = 119 := h
    by_cases hi : i < 119
    · rw [if_pos hi, List.getElem?_eq_getElem (by omega)]
      simp [Array.getD, hl, hi]
    · rw [if_neg hi, List.getElem?_eq_none (by omega)]
  exact congrArg (fun x => ({ tmps := x.toArray, defers := [] } : Act)) e

set_option maxHeartbeats 4000000 in
set_option maxRecDepth 100000 in
theorem sw2 {Ch : Nat → Prop} {Stop : Goroutine → World → Prop} {main : Bool} {v w : World} {a : Act} {x0 : Int} {lst : Value} {cb tb xb : Nat} {now i ca y cc : Int} (cs : List Frame) (k : List Item) (hvw : Rel zn v w) (hn : NoRow Ch v) (hm : Fm tb cb now v) (hxb : v.heap[xb]? = some (.cells #[I 2, I ca, I y, I cc] 39 (0, 0)))
    (hA : A5 x0 lst cb tb now i a) (h10 : a.tmps.getD 10 undef = Pt xb 0) (h11 : a.tmps.getD 11 undef = .bool true) (h38 : a.tmps.getD 38 undef = I 2)
    (hk : ∀ a' v' w', Rel zn v' w' → NoRow Ch v' → Fto tb cb y v v' → A5 x0 lst cb tb y i a' → a'.tmps.getD 11 undef = .bool true → GoesI Try.prog main (DT (ScZ zn) Ch) Stop (G ((base 5).at a' k) cs) w') :
    GoesI Try.prog main (DT (ScZ zn) Ch) Stop (G ((base 5).at a (.code SW5 :: k)) cs) w := by
  have b0 : v.cell? ⟨xb, 2, none⟩ = some (I y) := by unfold World.cell?; rw [show v.heap[xb]? = _ from hxb]; rfl
  have b1 : v.cell? ⟨xb, 3, none⟩ = some (I cc) := by unfold World.cell?; rw [show v.heap[xb]? = _ from hxb]; rfl
  have e0 : w.cell? ⟨xb, 2, none⟩ = some (I y) := by rw [hvw.cell?]; exact b0
  have e1 : w.cell? ⟨xb, 3, none⟩ = some (I cc) := by rw [hvw.cell?]; exact b1
  have hne : xb ≠ cb := fun e => by rw [e, hm.cel] at hxb; simp at hxb
  obtain ⟨u, rfl, hg⟩ := lit119 hA.size hA.defers
  have u0 := (hg 0).symm.trans hA.t0
  have u1 := (hg 1).symm.trans hA.t1
  have u6 := (hg 6).symm.trans hA.t6
  have u7 := (hg 7).symm.trans hA.t7
  have u8 := (hg 8).symm.trans hA.t8
  have u9 := (hg 9).symm.trans hA.t9
  have u10 := (hg 10).symm.trans h10
  have u11 := (hg 11).symm.trans h11
  have u38 := (hg 38).symm.trans h38
  clear hg hA h10 h11 h38
  unfold SW5 I5 L5 C57 B5 Try.f5 seq2 seq1 blockC loopC
  simp only [Option.getD_some, lits, Nat.reduceAdd, u0, u1, u6, u7, u8, u9, u10, u11, u38]
  clear u0 u1 u6 u7 u8 u9 u10 u11 u38
  refine goesI_seq (dt_idle _ _) ?_
  refine goesI_region (dt_idle _ _) ?_
  simp only [List.size_toArray, List.length_cons, List.length_nil, Nat.reduceAdd, Nat.zero_add, List.range, List.range.loop]
  iterate 2
    (refine goesI_oper rfl rfl (by decide) (fun d K hK => ?_)
     go_simp
     refine hK _ _ ⟨dt_reads (fun e he => ?_), GoesI.at ?_ d⟩
     · have hm := mem_listed he
       simp [go_sem, *] at hm
       try exact ⟨_, _, hm⟩
     clear hK K)
  refine goesI_regionEnd (dt_idle _ _) ?_
  refine goesI_cond (dt_idle _ _) (t := true) rfl ?_
  refine goesI_seq (dt_idle _ _) ?_
  refine goesI_region (dt_idle _ _) ?_
  simp only [List.size_toArray, List.length_cons, List.length_nil, Nat.reduceAdd, Nat.zero_add, List.range, List.range.loop]
  iterate 4
    (refine goesI_oper rfl rfl (by decide) (fun d K hK => ?_)
     go_simp
     refine hK _ _ ⟨dt_reads (fun e he => ?_), GoesI.at ?_ d⟩
     · have hm := mem_listed he
       simp [go_sem, *] at hm
       try exact ⟨_, _, hm⟩
     clear hK K)
  refine goesI_into (f := 12) (fn := Try.f12) (args := #[Pt cb 0, Pt tb 0, I y]) (dt_idle _ _) rfl rfl (by decide) rfl (by simp [Act.eval]) Try.func12 (by decide) rfl ?_
  refine free12 y now _ rfl hvw hn hm (fun v2 w2 r2 n2 h2 => ?_) _ rfl
  clear e0 e1 hvw hn
  have e0 : w2.cell? ⟨xb, 2, none⟩ = some (I y) := by rw [r2.cell?, World.cell?_of_block (h2.old xb hne)]; exact b0
  have e1 : w2.cell? ⟨xb, 3, none⟩ = some (I cc) := by rw [r2.cell?, World.cell?_of_block (h2.old xb hne)]; exact b1
  refine goesI_regionEnd (dt_idle _ _) ?_
  refine goesI_region (dt_idle _ _) ?_
  simp only [List.size_toArray, List.length_cons, List.length_nil, Nat.reduceAdd, Nat.zero_add, List.range, List.range.loop]
  iterate 3
    (refine goesI_oper rfl rfl (by decide) (fun d K hK => ?_)
     go_simp
     refine hK _ _ ⟨dt_reads (fun e he => ?_), GoesI.at ?_ d⟩
     · have hm := mem_listed he
       simp [go_sem, *] at hm
       try exact ⟨_, _, hm⟩
     clear hK K)
  refine goesI_regionEnd (dt_idle _ _) ?_
  exact hk _ _ _ r2 n2 h2 ⟨rfl, rfl, rfl, rfl, rfl, rfl, rfl, rfl⟩ rfl

set_option maxHeartbeats 4000000 in
set_option maxRecDepth 100000 in
theorem sw3 {Ch : Nat → Prop} {Stop : Goroutine → World → Prop} {main : Bool} {v w : World} {a : Act} {x0 : Int} {lst : Value} {cb tb xb : Nat} {now i ca y cc : Int} (cs : List Frame) (k : List Item) (hvw : Rel zn v w) (hn : NoRow Ch v) (hm : Fm tb cb now v) (hxb : v.heap[xb]? = some (.cells #[I 3, I ca, I y, I cc] 39 (0, 0)))
    (hA : A5 x0 lst cb tb now i a) (h10 : a.tmps.getD 10 undef = Pt xb 0) (h11 : a.tmps.getD 11 undef = .bool true) (h38 : a.tmps.getD 38 undef = I 3)
    (hk : ∀ a' v' w', Rel zn v' w' → NoRow Ch v' → Fto tb cb y v v' → A5 x0 lst cb tb y i a' → a'.tmps.getD 11 undef = .bool true → GoesI Try.prog main (DT (ScZ zn) Ch) Stop (G ((base 5).at a' k) cs) w') :
    GoesI Try.prog main (DT (ScZ zn) Ch) Stop (G ((base 5).at a (.code SW5 :: k)) cs) w := by
  have b0 : v.cell? ⟨xb, 2, none⟩ = some (I y) := by unfold World.cell?; rw [show v.heap[xb]? = _ from hxb]; rfl
  have b1 : v.cell? ⟨xb, 3, none⟩ = some (I cc) := by unfold World.cell?; rw [show v.heap[xb]? = _ from hxb]; rfl
  have e0 : w.cell? ⟨xb, 2, none⟩ = some (I y) := by rw [hvw.cell?]; exact b0
  have e1 : w.cell? ⟨xb, 3, none⟩ = some (I cc) := by rw [hvw.cell?]; exact b1
  have hne : xb ≠ cb := fun e => by rw [e, hm.cel] at hxb; simp at hxb
  obtain ⟨u, rfl, hg⟩ := lit119 hA.size hA.defers
  have u0 := (hg 0).symm.trans hA.t0
  have u1 := (hg 1).symm.trans hA.t1
  have u6 := (hg 6).symm.trans hA.t6
  have u7 := (hg 7).symm.trans hA.t7
  have u8 := (hg 8).symm.trans hA.t8
  have u9 := (hg 9).symm.trans hA.t9
  have u10 := (hg 10).symm.trans h10
  have u11 := (hg 11).symm.trans h11
  have u38 := (hg 38).symm.trans h38
  clear hg hA h10 h11 h38
  unfold SW5 I5 L5 C57 B5 Try.f5 seq2 seq1 blockC loopC
  simp only [Option.getD_some, lits, Nat.reduceAdd, u0, u1, u6, u7, u8, u9, u10, u11, u38]
  clear u0 u1 u6 u7 u8 u9 u10 u11 u38
  refine goesI_seq (dt_idle _ _) ?_
  refine goesI_region (dt_idle _ _) ?_
  simp only [List.size_toArray, List.length_cons, List.length_nil, Nat.reduceAdd, Nat.zero_add, List.range, List.range.loop]
  iterate 2
    (refine goesI_oper rfl rfl (by decide) (fun d K hK => ?_)
     go_simp
     refine hK _ _ ⟨dt_reads (fun e he => ?_), GoesI.at ?_ d⟩
     · have hm := mem_listed he
       simp [go_sem, *] at hm
       try exact ⟨_, _, hm⟩
     clear hK K)
  refine goesI_regionEnd (dt_idle _ _) ?_
  refine goesI_cond (dt_idle _ _) (t := false) rfl ?_
  refine goesI_seq (dt_idle _ _) ?_
  refine goesI_region (dt_idle _ _) ?_
  simp only [List.size_toArray, List.length_cons, List.length_nil, Nat.reduceAdd, Nat.zero_add, List.range, List.range.loop]
  iterate 2
    (refine goesI_oper rfl rfl (by decide) (fun d K hK => ?_)
     go_simp
     refine hK _ _ ⟨dt_reads (fun e he => ?_), GoesI.at ?_ d⟩
     · have hm := mem_listed he
       simp [go_sem, *] at hm
       try exact ⟨_, _, hm⟩
     clear hK K)
  refine goesI_regionEnd (dt_idle _ _) ?_
  refine goesI_cond (dt_idle _ _) (t := true) rfl ?_
  refine goesI_seq (dt_idle _ _) ?_
  refine goesI_region (dt_idle _ _) ?_
  simp only [List.size_toArray, List.length_cons, List.length_nil, Nat.reduceAdd, Nat.zero_add, List.range, List.range.loop]
  iterate 4
    (refine goesI_oper rfl rfl (by decide) (fun d K hK => ?_)
     go_simp
     refine hK _ _ ⟨dt_reads (fun e he => ?_), GoesI.at ?_ d⟩
     · have hm := mem_listed he
       simp [go_sem, *] at hm
       try exact ⟨_, _, hm⟩
     clear hK K)
  refine goesI_into (f := 13) (fn := Try.f13) (args := #[Pt cb 0, Pt tb 0, I y]) (dt_idle _ _) rfl rfl (by decide) rfl (by simp [Act.eval]) Try.func13 (by decide) rfl ?_
  refine free13 y now _ rfl hvw hn hm (fun v2 w2 r2 n2 h2 => ?_) _ rfl
  clear e0 e1 hvw hn
  have e0 : w2.cell? ⟨xb, 2, none⟩ = some (I y) := by rw [r2.cell?, World.cell?_of_block (h2.old xb hne)]; exact b0
  have e1 : w2.cell? ⟨xb, 3, none⟩ = some (I cc) := by rw [r2.cell?, World.cell?_of_block (h2.old xb hne)]; exact b1
  rw [show effSwap y now = ((now, y), y, I now) from rfl] at h2 ⊢
  iterate 1
    (refine goesI_oper rfl rfl (by decide) (fun d K hK => ?_)
     go_simp
     refine hK _ _ ⟨dt_reads (fun e he => ?_), GoesI.at ?_ d⟩
     · have hm := mem_listed he
       simp [go_sem, *] at hm
       try exact ⟨_, _, hm⟩
     clear hK K)
  refine goesI_regionEnd (dt_idle _ _) ?_
  refine goesI_seq (dt_idle _ _) ?_
  refine goesI_region (dt_idle _ _) ?_
  simp only [List.size_toArray, List.length_cons, List.length_nil, Nat.reduceAdd, Nat.zero_add, List.range, List.range.loop]
  iterate 4
    (refine goesI_oper rfl rfl (by decide) (fun d K hK => ?_)
     go_simp
     refine hK _ _ ⟨dt_reads (fun e he => ?_), GoesI.at ?_ d⟩
     · have hm := mem_listed he
       simp [go_sem, *] at hm
       try exact ⟨_, _, hm⟩
     clear hK K)
  refine goesI_regionEnd (dt_idle _ _) ?_
  refine goesI_region (dt_idle _ _) ?_
  simp only [List.size_toArray, List.length_cons, List.length_nil, Nat.reduceAdd, Nat.zero_add, List.range, List.range.loop]
  iterate 3
    (refine goesI_oper rfl rfl (by decide) (fun d K hK => ?_)
     go_simp
     refine hK _ _ ⟨dt_reads (fun e he => ?_), GoesI.at ?_ d⟩
     · have hm := mem_listed he
       simp [go_sem, *] at hm
       try exact ⟨_, _, hm⟩
     clear hK K)
  refine goesI_regionEnd (dt_idle _ _) ?_
  exact hk _ _ _ r2 n2 h2 ⟨rfl, rfl, rfl, rfl, rfl, rfl, rfl, rfl⟩ rfl

set_option maxHeartbeats 4000000 in
set_option maxRecDepth 100000 in
theorem sw5 {Ch : Nat → Prop} {Stop : Goroutine → World → Prop} {main : Bool} {v w : World} {a : Act} {x0 : Int} {lst : Value} {cb tb xb : Nat} {now i ca y cc : Int} (cs : List Frame) (k : List Item) (hvw : Rel zn v w) (hn : NoRow Ch v) (hm : Fm tb cb now v) (hxb : v.heap[xb]? = some (.cells #[I 5, I ca, I y, I cc] 39 (0, 0)))
    (hA : A5 x0 lst cb tb now i a) (h10 : a.tmps.getD 10 undef = Pt xb 0) (h11 : a.tmps.getD 11 undef = .bool true) (h38 : a.tmps.getD 38 undef = I 5)
    (hk : ∀ a' v' w', Rel zn v' w' → NoRow Ch v' → Fto tb cb (wrap64 (now + y)) v v' → A5 x0 lst cb tb (wrap64 (now + y)) i a' → a'.tmps.getD 11 undef = .bool true → GoesI Try.prog main (DT (ScZ zn) Ch) Stop (G ((base 5).at a' k) cs) w') :
    GoesI Try.prog main (DT (ScZ zn) Ch) Stop (G ((base 5).at a (.code SW5 :: k)) cs) w := by
  have b0 : v.cell? ⟨xb, 2, none⟩ = some (I y) := by unfold World.cell?; rw [show v.heap[xb]? = _ from hxb]; rfl
  have b1 : v.cell? ⟨xb, 3, none⟩ = some (I cc) := by unfold World.cell?; rw [show v.heap[xb]? = _ from hxb]; rfl
  have e0 : w.cell? ⟨xb, 2, none⟩ = some (I y) := by rw [hvw.cell?]; exact b0
  have e1 : w.cell? ⟨xb, 3, none⟩ = some (I cc) := by rw [hvw.cell?]; exact b1
  have hne : xb ≠ cb := fun e => by rw [e, hm.cel] at hxb; simp at hxb
  obtain ⟨u, rfl, hg⟩ := lit119 hA.size hA.defers
  have u0 := (hg 0).symm.trans hA.t0
  have u1 := (hg 1).symm.trans hA.t1
  have u6 := (hg 6).symm.trans hA.t6
  have u7 := (hg 7).symm.trans hA.t7
  have u8 := (hg 8).symm.trans hA.t8
  have u9 := (hg 9).symm.trans hA.t9
  have u10 := (hg 10).symm.trans h10
  have u11 := (hg 11).symm.trans h11
  have u38 := (hg 38).symm.trans h38
  clear hg hA h10 h11 h38
  unfold SW5 I5 L5 C57 B5 Try.f5 seq2 seq1 blockC loopC
  simp only [Option.getD_some, lits, Nat.reduceAdd, u0, u1, u6, u7, u8, u9, u10, u11, u38]
  clear u0 u1 u6 u7 u8 u9 u10 u11 u38
  refine goesI_seq (dt_idle _ _) ?_
  refine goesI_region (dt_idle _ _) ?_
  simp only [List.size_toArray, List.length_cons, List.length_nil, Nat.reduceAdd, Nat.zero_add, List.range, List.range.loop]
  iterate 2
    (refine goesI_oper rfl rfl (by decide) (fun d K hK => ?_)
     go_simp
     refine hK _ _ ⟨dt_reads (fun e he => ?_), GoesI.at ?_ d⟩
     · have hm := mem_listed he
       simp [go_sem, *] at hm
       try exact ⟨_, _, hm⟩
     clear hK K)
  refine goesI_regionEnd (dt_idle _ _) ?_
  refine goesI_cond (dt_idle _ _) (t := false) rfl ?_
  refine goesI_seq (dt_idle _ _) ?_
  refine goesI_region (dt_idle _ _) ?_
  simp only [List.size_toArray, List.length_cons, List.length_nil, Nat.reduceAdd, Nat.zero_add, List.range, List.range.loop]
  iterate 2
    (refine goesI_oper rfl rfl (by decide) (fun d K hK => ?_)
     go_simp
     refine hK _ _ ⟨dt_reads (fun e he => ?_), GoesI.at ?_ d⟩
     · have hm := mem_listed he
       simp [go_sem, *] at hm
       try exact ⟨_, _, hm⟩
     clear hK K)
  refine goesI_regionEnd (dt_idle _ _) ?_
  refine goesI_cond (dt_idle _ _) (t := false) rfl ?_
  refine goesI_seq (dt_idle _ _) ?_
  refine goesI_region (dt_idle _ _) ?_
  simp only [List.size_toArray, List.length_cons, List.length_nil, Nat.reduceAdd, Nat.zero_add, List.range, List.range.loop]
  iterate 2
    (refine goesI_oper rfl rfl (by decide) (fun d K hK => ?_)
     go_simp
     refine hK _ _ ⟨dt_reads (fun e he => ?_), GoesI.at ?_ d⟩
     · have hm := mem_listed he
       simp [go_sem, *] at hm
       try exact ⟨_, _, hm⟩
     clear hK K)
  refine goesI_regionEnd (dt_idle _ _) ?_
  refine goesI_cond (dt_idle _ _) (t := false) rfl ?_
  refine goesI_seq (dt_idle _ _) ?_
  refine goesI_region (dt_idle _ _) ?_
  simp only [List.size_toArray, List.length_cons, List.length_nil, Nat.reduceAdd, Nat.zero_add, List.range, List.range.loop]
  iterate 2
    (refine goesI_oper rfl rfl (by decide) (fun d K hK => ?_)
     go_simp
     refine hK _ _ ⟨dt_reads (fun e he => ?_), GoesI.at ?_ d⟩
     · have hm := mem_listed he
       simp [go_sem, *] at hm
       try exact ⟨_, _, hm⟩
     clear hK K)
  refine goesI_regionEnd (dt_idle _ _) ?_
  refine goesI_cond (dt_idle _ _) (t := true) rfl ?_
  refine goesI_seq (dt_idle _ _) ?_
  refine goesI_region (dt_idle _ _) ?_
  simp only [List.size_toArray, List.length_cons, List.length_nil, Nat.reduceAdd, Nat.zero_add, List.range, List.range.loop]
  iterate 4
    (refine goesI_oper rfl rfl (by decide) (fun d K hK => ?_)
     go_simp
     refine hK _ _ ⟨dt_reads (fun e he => ?_), GoesI.at ?_ d⟩
     · have hm := mem_listed he
       simp [go_sem, *] at hm
       try exact ⟨_, _, hm⟩
     clear hK K)
  refine goesI_into (f := 15) (fn := Try.f15) (args := #[Pt cb 0, Pt tb 0, I y]) (dt_idle _ _) rfl rfl (by decide) rfl (by simp [Act.eval]) Try.func15 (by decide) rfl ?_
  refine free15 y now _ rfl hvw hn hm (fun v2 w2 r2 n2 h2 => ?_) _ rfl
  clear e0 e1 hvw hn
  have e0 : w2.cell? ⟨xb, 2, none⟩ = some (I y) := by rw [r2.cell?, World.cell?_of_block (h2.old xb hne)]; exact b0
  have e1 : w2.cell? ⟨xb, 3, none⟩ = some (I cc) := by rw [r2.cell?, World.cell?_of_block (h2.old xb hne)]; exact b1
  rw [show (effAdd y now).2.2 = I (wrap64 (now + y)) from rfl]
  have h2 : Fto tb cb (wrap64 (now + y)) v v2 := h2
  iterate 1
    (refine goesI_oper rfl rfl (by decide) (fun d K hK => ?_)
     go_simp
     refine hK _ _ ⟨dt_reads (fun e he => ?_), GoesI.at ?_ d⟩
     · have hm := mem_listed he
       simp [go_sem, *] at hm
       try exact ⟨_, _, hm⟩
     clear hK K)
  refine goesI_regionEnd (dt_idle _ _) ?_
  refine goesI_seq (dt_idle _ _) ?_
  refine goesI_region (dt_idle _ _) ?_
  simp only [List.size_toArray, List.length_cons, List.length_nil, Nat.reduceAdd, Nat.zero_add, List.range, List.range.loop]
  iterate 5
    (refine goesI_oper rfl rfl (by decide) (fun d K hK => ?_)
     go_simp
     refine hK _ _ ⟨dt_reads (fun e he => ?_), GoesI.at ?_ d⟩
     · have hm := mem_listed he
       simp [go_sem, *] at hm
       try exact ⟨_, _, hm⟩
     clear hK K)
  simp only [show IntKind.wrap .i64 (now + y) = wrap64 (now + y) from Go.IntWalk.i64_left _]
  refine goesI_regionEnd (dt_idle _ _) ?_
  refine goesI_region (dt_idle _ _) ?_
  simp only [List.size_toArray, List.length_cons, List.length_nil, Nat.reduceAdd, Nat.zero_add, List.range, List.range.loop]
  iterate 4
    (refine goesI_oper rfl rfl (by decide) (fun d K hK => ?_)
     go_simp
     refine hK _ _ ⟨dt_reads (fun e he => ?_), GoesI.at ?_ d⟩
     · have hm := mem_listed he
       simp [go_sem, *] at hm
       try exact ⟨_, _, hm⟩
     clear hK K)
  refine goesI_regionEnd (dt_idle _ _) ?_
  exact hk _ _ _ r2 n2 h2 ⟨rfl, rfl, rfl, rfl, rfl, rfl, rfl, rfl⟩ rfl

set_option maxHeartbeats 4000000 in
set_option maxRecDepth 100000 in
theorem sw4y {Ch : Nat → Prop} {Stop : Goroutine → World → Prop} {main : Bool} {v w : World} {a : Act} {x0 : Int} {lst : Value} {cb tb xb : Nat} {now i ca y cc : Int} (hq : now = y) (cs : List Frame) (k : List Item) (hvw : Rel zn v w) (hn : NoRow Ch v) (hm : Fm tb cb now v) (hxb : v.heap[xb]? = some (.cells #[I 4, I ca, I y, I cc] 39 (0, 0)))
    (hA : A5 x0 lst cb tb now i a) (h10 : a.tmps.getD 10 undef = Pt xb 0) (h11 : a.tmps.getD 11 undef = .bool true) (h38 : a.tmps.getD 38 undef = I 4)
    (hk : ∀ a' v' w', Rel zn v' w' → NoRow Ch v' → Fto tb cb cc v v' → A5 x0 lst cb tb cc i a' → a'.tmps.getD 11 undef = .bool true → GoesI Try.prog main (DT (ScZ zn) Ch) Stop (G ((base 5).at a' k) cs) w') :
    GoesI Try.prog main (DT (ScZ zn) Ch) Stop (G ((base 5).at a (.code SW5 :: k)) cs) w := by
  have b0 : v.cell? ⟨xb, 2, none⟩ = some (I y) := by unfold World.cell?; rw [show v.heap[xb]? = _ from hxb]; rfl
  have b1 : v.cell? ⟨xb, 3, none⟩ = some (I cc) := by unfold World.cell?; rw [show v.heap[xb]? = _ from hxb]; rfl
  have e0 : w.cell? ⟨xb, 2, none⟩ = some (I y) := by rw [hvw.cell?]; exact b0
  have e1 : w.cell? ⟨xb, 3, none⟩ = some (I cc) := by rw [hvw.cell?]; exact b1
  have hne : xb ≠ cb := fun e => by rw [e, hm.cel] at hxb; simp at hxb
  obtain ⟨u, rfl, hg⟩ := lit119 hA.size hA.defers
  have u0 := (hg 0).symm.trans hA.t0
  have u1 := (hg 1).symm.trans hA.t1
  have u6 := (hg 6).symm.trans hA.t6
  have u7 := (hg 7).symm.trans hA.t7
  have u8 := (hg 8).symm.trans hA.t8
  have u9 := (hg 9).symm.trans hA.t9
  have u10 := (hg 10).symm.trans h10
  have u11 := (hg 11).symm.trans h11
  have u38 := (hg 38).symm.trans h38
  clear hg hA h10 h11 h38
  unfold SW5 I5 L5 C57 B5 Try.f5 seq2 seq1 blockC loopC
  simp only [Option.getD_some, lits, Nat.reduceAdd, u0, u1, u6, u7, u8, u9, u10, u11, u38]
  clear u0 u1 u6 u7 u8 u9 u10 u11 u38
  subst hq
  have HQ : effCas now cc now = ((now, cc), cc, .bool true) := by simp [effCas]
  refine goesI_seq (dt_idle _ _) ?_
  refine goesI_region (dt_idle _ _) ?_
  simp only [List.size_toArray, List.length_cons, List.length_nil, Nat.reduceAdd, Nat.zero_add, List.range, List.range.loop]
  iterate 2
    (refine goesI_oper rfl rfl (by decide) (fun d K hK => ?_)
     go_simp
     refine hK _ _ ⟨dt_reads (fun e he => ?_), GoesI.at ?_ d⟩
     · have hm := mem_listed he
       simp [go_sem, *] at hm
       try exact ⟨_, _, hm⟩
     clear hK K)
  refine goesI_regionEnd (dt_idle _ _) ?_
  refine goesI_cond (dt_idle _ _) (t := false) rfl ?_
  refine goesI_seq (dt_idle _ _) ?_
  refine goesI_region (dt_idle _ _) ?_
  simp only [List.size_toArray, List.length_cons, List.length_nil, Nat.reduceAdd, Nat.zero_add, List.range, List.range.loop]
  iterate 2
    (refine goesI_oper rfl rfl (by decide) (fun d K hK => ?_)
     go_simp
     refine hK _ _ ⟨dt_reads (fun e he => ?_), GoesI.at ?_ d⟩
     · have hm := mem_listed he
       simp [go_sem, *] at hm
       try exact ⟨_, _, hm⟩
     clear hK K)
  refine goesI_regionEnd (dt_idle _ _) ?_
  refine goesI_cond (dt_idle _ _) (t := false) rfl ?_
  refine goesI_seq (dt_idle _ _) ?_
  refine goesI_region (dt_idle _ _) ?_
  simp only [List.size_toArray, List.length_cons, List.length_nil, Nat.reduceAdd, Nat.zero_add, List.range, List.range.loop]
  iterate 2
    (refine goesI_oper rfl rfl (by decide) (fun d K hK => ?_)
     go_simp
     refine hK _ _ ⟨dt_reads (fun e he => ?_), GoesI.at ?_ d⟩
     · have hm := mem_listed he
       simp [go_sem, *] at hm
       try exact ⟨_, _, hm⟩
     clear hK K)
  refine goesI_regionEnd (dt_idle _ _) ?_
  refine goesI_cond (dt_idle _ _) (t := true) rfl ?_
  refine goesI_seq (dt_idle _ _) ?_
  refine goesI_region (dt_idle _ _) ?_
  simp only [List.size_toArray, List.length_cons, List.length_nil, Nat.reduceAdd, Nat.zero_add, List.range, List.range.loop]
  iterate 6
    (refine goesI_oper rfl rfl (by decide) (fun d K hK => ?_)
     go_simp
     refine hK _ _ ⟨dt_reads (fun e he => ?_), GoesI.at ?_ d⟩
     · have hm := mem_listed he
       simp [go_sem, *] at hm
       try exact ⟨_, _, hm⟩
     clear hK K)
  refine goesI_into (f := 14) (fn := Try.f14) (args := #[Pt cb 0, Pt tb 0, I now, I cc]) (dt_idle _ _) rfl rfl (by decide) rfl (by simp [Act.eval]) Try.func14 (by decide) rfl ?_
  refine free14 now cc now _ rfl hvw hn hm (fun v2 w2 r2 n2 h2 => ?_) _ rfl
  clear e0 e1 hvw hn
  have e0 : w2.cell? ⟨xb, 2, none⟩ = some (I now) := by rw [r2.cell?, World.cell?_of_block (h2.old xb hne)]; exact b0
  have e1 : w2.cell? ⟨xb, 3, none⟩ = some (I cc) := by rw [r2.cell?, World.cell?_of_block (h2.old xb hne)]; exact b1
  rw [HQ] at h2 ⊢
  iterate 1
    (refine goesI_oper rfl rfl (by decide) (fun d K hK => ?_)
     go_simp
     refine hK _ _ ⟨dt_reads (fun e he => ?_), GoesI.at ?_ d⟩
     · have hm := mem_listed he
       simp [go_sem, *] at hm
       try exact ⟨_, _, hm⟩
     clear hK K)
  refine goesI_regionEnd (dt_idle _ _) ?_
  refine goesI_seq (dt_idle _ _) ?_
  refine goesI_region (dt_idle _ _) ?_
  simp only [List.size_toArray, List.length_cons, List.length_nil, Nat.reduceAdd, Nat.zero_add, List.range, List.range.loop]
  iterate 5
    (refine goesI_oper rfl rfl (by decide) (fun d K hK => ?_)
     go_simp
     refine hK _ _ ⟨dt_reads (fun e he => ?_), GoesI.at ?_ d⟩
     · have hm := mem_listed he
       simp [go_sem, *] at hm
       try exact ⟨_, _, hm⟩
     clear hK K)
  refine goesI_opZ (L := LT) rfl rfl (by decide) (fineOp_ask callT extT (by kernel_rfl)) r2 n2 (v' := v2) (x := .bool true) (by go_simp) rfl (fun w3 r3 n3 => ?_)
  clear e0 e1
  have e0 : w3.cell? ⟨xb, 2, none⟩ = some (I now) := by rw [r3.cell?, World.cell?_of_block (h2.old xb hne)]; exact b0
  have e1 : w3.cell? ⟨xb, 3, none⟩ = some (I cc) := by rw [r3.cell?, World.cell?_of_block (h2.old xb hne)]; exact b1
  iterate 1
    (refine goesI_oper rfl rfl (by decide) (fun d K hK => ?_)
     go_simp
     refine hK _ _ ⟨dt_reads (fun e he => ?_), GoesI.at ?_ d⟩
     · have hm := mem_listed he
       simp [go_sem, *] at hm
       try exact ⟨_, _, hm⟩
     clear hK K)
  refine goesI_regionEnd (dt_idle _ _) ?_
  refine goesI_seq (dt_idle _ _) ?_
  refine goesI_region (dt_idle _ _) ?_
  simp only [List.size_toArray, List.length_cons, List.length_nil, Nat.reduceAdd, Nat.zero_add, List.range, List.range.loop]
  iterate 4
    (refine goesI_oper rfl rfl (by decide) (fun d K hK => ?_)
     go_simp
     refine hK _ _ ⟨dt_reads (fun e he => ?_), GoesI.at ?_ d⟩
     · have hm := mem_listed he
       simp [go_sem, *] at hm
       try exact ⟨_, _, hm⟩
     clear hK K)
  refine goesI_regionEnd (dt_idle _ _) ?_
  refine goesI_cond (dt_idle _ _) (t := true) rfl ?_
  refine goesI_region (dt_idle _ _) ?_
  simp only [List.size_toArray, List.length_cons, List.length_nil, Nat.reduceAdd, Nat.zero_add, List.range, List.range.loop]
  iterate 3
    (refine goesI_oper rfl rfl (by decide) (fun d K hK => ?_)
     go_simp
     refine hK _ _ ⟨dt_reads (fun e he => ?_), GoesI.at ?_ d⟩
     · have hm := mem_listed he
       simp [go_sem, *] at hm
       try exact ⟨_, _, hm⟩
     clear hK K)
  refine goesI_regionEnd (dt_idle _ _) ?_
  exact hk _ _ _ r3 n3 h2 ⟨rfl, rfl, rfl, rfl, rfl, rfl, rfl, rfl⟩ rfl

set_option maxHeartbeats 4000000 in
set_option maxRecDepth 100000 in
theorem sw4n {Ch : Nat → Prop} {Stop : Goroutine → World → Prop} {main : Bool} {v w : World} {a : Act} {x0 : Int} {lst : Value} {cb tb xb : Nat} {now i ca y cc : Int} (hq : now ≠ y) (cs : List Frame) (k : List Item) (hvw : Rel zn v w) (hn : NoRow Ch v) (hm : Fm tb cb now v) (hxb : v.heap[xb]? = some (.cells #[I 4, I ca, I y, I cc] 39 (0, 0)))
    (hA : A5 x0 lst cb tb now i a) (h10 : a.tmps.getD 10 undef = Pt xb 0) (h11 : a.tmps.getD 11 undef = .bool true) (h38 : a.tmps.getD 38 undef = I 4)
    (hk : ∀ a' v' w', Rel zn v' w' → NoRow Ch v' → Fto tb cb now v v' → A5 x0 lst cb tb now i a' → a'.tmps.getD 11 undef = .bool true → GoesI Try.prog main (DT (ScZ zn) Ch) Stop (G ((base 5).at a' k) cs) w') :
    GoesI Try.prog main (DT (ScZ zn) Ch) Stop (G ((base 5).at a (.code SW5 :: k)) cs) w := by
  have b0 : v.cell? ⟨xb, 2, none⟩ = some (I y) := by unfold World.cell?; rw [show v.heap[xb]? = _ from hxb]; rfl
  have b1 : v.cell? ⟨xb, 3, none⟩ = some (I cc) := by unfold World.cell?; rw [show v.heap[xb]? = _ from hxb]; rfl
  have e0 : w.cell? ⟨xb, 2, none⟩ = some (I y) := by rw [hvw.cell?]; exact b0
  have e1 : w.cell? ⟨xb, 3, none⟩ = some (I cc) := by rw [hvw.cell?]; exact b1
  have hne : xb ≠ cb := fun e => by rw [e, hm.cel] at hxb; simp at hxb
  obtain ⟨u, rfl, hg⟩ := lit119 hA.size hA.defers
  have u0 := (hg 0).symm.trans hA.t0
  have u1 := (hg 1).symm.trans hA.t1
  have u6 := (hg 6).symm.trans hA.t6
  have u7 := (hg 7).symm.trans hA.t7
  have u8 := (hg 8).symm.trans hA.t8
  have u9 := (hg 9).symm.trans hA.t9
  have u10 := (hg 10).symm.trans h10
  have u11 := (hg 11).symm.trans h11
  have u38 := (hg 38).symm.trans h38
  clear hg hA h10 h11 h38
  unfold SW5 I5 L5 C57 B5 Try.f5 seq2 seq1 blockC loopC
  simp only [Option.getD_some, lits, Nat.reduceAdd, u0, u1, u6, u7, u8, u9, u10, u11, u38]
  clear u0 u1 u6 u7 u8 u9 u10 u11 u38
  have hq' : (now == y) = false := by simpa using hq
  have HQ : effCas y cc now = ((now, now), now, .bool false) := by simp [effCas, hq]
  refine goesI_seq (dt_idle _ _) ?_
  refine goesI_region (dt_idle _ _) ?_
  simp only [List.size_toArray, List.length_cons, List.length_nil, Nat.reduceAdd, Nat.zero_add, List.range, List.range.loop]
  iterate 2
    (refine goesI_oper rfl rfl (by decide) (fun d K hK => ?_)
     go_simp
     refine hK _ _ ⟨dt_reads (fun e he => ?_), GoesI.at ?_ d⟩
     · have hm := mem_listed he
       simp [go_sem, *] at hm
       try exact ⟨_, _, hm⟩
     clear hK K)
  refine goesI_regionEnd (dt_idle _ _) ?_
  refine goesI_cond (dt_idle _ _) (t := false) rfl ?_
  refine goesI_seq (dt_idle _ _) ?_
  refine goesI_region (dt_idle _ _) ?_
  simp only [List.size_toArray, List.length_cons, List.length_nil, Nat.reduceAdd, Nat.zero_add, List.range, List.range.loop]
  iterate 2
    (refine goesI_oper rfl rfl (by decide) (fun d K hK => ?_)
     go_simp
     refine hK _ _ ⟨dt_reads (fun e he => ?_), GoesI.at ?_ d⟩
     · have hm := mem_listed he
       simp [go_sem, *] at hm
       try exact ⟨_, _, hm⟩
     clear hK K)
  refine goesI_regionEnd (dt_idle _ _) ?_
  refine goesI_cond (dt_idle _ _) (t := false) rfl ?_
  refine goesI_seq (dt_idle _ _) ?_
  refine goesI_region (dt_idle _ _) ?_
  simp only [List.size_toArray, List.length_cons, List.length_nil, Nat.reduceAdd, Nat.zero_add, List.range, List.range.loop]
  iterate 2
    (refine goesI_oper rfl rfl (by decide) (fun d K hK => ?_)
     go_simp
     refine hK _ _ ⟨dt_reads (fun e he => ?_), GoesI.at ?_ d⟩
     · have hm := mem_listed he
       simp [go_sem, *] at hm
       try exact ⟨_, _, hm⟩
     clear hK K)
  refine goesI_regionEnd (dt_idle _ _) ?_
  refine goesI_cond (dt_idle _ _) (t := true) rfl ?_
  refine goesI_seq (dt_idle _ _) ?_
  refine goesI_region (dt_idle _ _) ?_
  simp only [List.size_toArray, List.length_cons, List.length_nil, Nat.reduceAdd, Nat.zero_add, List.range, List.range.loop]
  iterate 6
    (refine goesI_oper rfl rfl (by decide) (fun d K hK => ?_)
     go_simp
     refine hK _ _ ⟨dt_reads (fun e he => ?_), GoesI.at ?_ d⟩
     · have hm := mem_listed he
       simp [go_sem, *] at hm
       try exact ⟨_, _, hm⟩
     clear hK K)
  refine goesI_into (f := 14) (fn := Try.f14) (args := #[Pt cb 0, Pt tb 0, I y, I cc]) (dt_idle _ _) rfl rfl (by decide) rfl (by simp [Act.eval]) Try.func14 (by decide) rfl ?_
  refine free14 y cc now _ rfl hvw hn hm (fun v2 w2 r2 n2 h2 => ?_) _ rfl
  clear e0 e1 hvw hn
  have e0 : w2.cell? ⟨xb, 2, none⟩ = some (I y) := by rw [r2.cell?, World.cell?_of_block (h2.old xb hne)]; exact b0
  have e1 : w2.cell? ⟨xb, 3, none⟩ = some (I cc) := by rw [r2.cell?, World.cell?_of_block (h2.old xb hne)]; exact b1
  rw [HQ] at h2 ⊢
  iterate 1
    (refine goesI_oper rfl rfl (by decide) (fun d K hK => ?_)
     go_simp
     refine hK _ _ ⟨dt_reads (fun e he => ?_), GoesI.at ?_ d⟩
     · have hm := mem_listed he
       simp [go_sem, *] at hm
       try exact ⟨_, _, hm⟩
     clear hK K)
  refine goesI_regionEnd (dt_idle _ _) ?_
  refine goesI_seq (dt_idle _ _) ?_
  refine goesI_region (dt_idle _ _) ?_
  simp only [List.size_toArray, List.length_cons, List.length_nil, Nat.reduceAdd, Nat.zero_add, List.range, List.range.loop]
  iterate 5
    (refine goesI_oper rfl rfl (by decide) (fun d K hK => ?_)
     go_simp
     refine hK _ _ ⟨dt_reads (fun e he => ?_), GoesI.at ?_ d⟩
     · have hm := mem_listed he
       simp [go_sem, *] at hm
       try exact ⟨_, _, hm⟩
     clear hK K)
  refine goesI_opZ (L := LT) rfl rfl (by decide) (fineOp_ask callT extT (by kernel_rfl)) r2 n2 (v' := v2) (x := .bool true) (by go_simp) rfl (fun w3 r3 n3 => ?_)
  clear e0 e1
  have e0 : w3.cell? ⟨xb, 2, none⟩ = some (I y) := by rw [r3.cell?, World.cell?_of_block (h2.old xb hne)]; exact b0
  have e1 : w3.cell? ⟨xb, 3, none⟩ = some (I cc) := by rw [r3.cell?, World.cell?_of_block (h2.old xb hne)]; exact b1
  iterate 1
    (refine goesI_oper rfl rfl (by decide) (fun d K hK => ?_)
     go_simp
     refine hK _ _ ⟨dt_reads (fun e he => ?_), GoesI.at ?_ d⟩
     · have hm := mem_listed he
       simp [go_sem, *] at hm
       try exact ⟨_, _, hm⟩
     clear hK K)
  refine goesI_regionEnd (dt_idle _ _) ?_
  refine goesI_seq (dt_idle _ _) ?_
  refine goesI_region (dt_idle _ _) ?_
  simp only [List.size_toArray, List.length_cons, List.length_nil, Nat.reduceAdd, Nat.zero_add, List.range, List.range.loop]
  iterate 4
    (refine goesI_oper rfl rfl (by decide) (fun d K hK => ?_)
     go_simp
     refine hK _ _ ⟨dt_reads (fun e he => ?_), GoesI.at ?_ d⟩
     · have hm := mem_listed he
       simp [go_sem, *] at hm
       try exact ⟨_, _, hm⟩
     clear hK K)
  refine goesI_regionEnd (dt_idle _ _) ?_
  refine goesI_cond (dt_idle _ _) (t := false) rfl ?_
  refine goesI_skip (dt_idle _ _) ?_
  exact hk _ _ _ r3 n3 h2 ⟨rfl, rfl, rfl, rfl, rfl, rfl, rfl, rfl⟩ rfl

set_option maxHeartbeats 4000000 in
set_option maxRecDepth 100000 in
theorem sw6y {Ch : Nat → Prop} {Stop : Goroutine → World → Prop} {main : Bool} {v w : World} {a : Act} {x0 : Int} {lst : Value} {cb tb xb : Nat} {now i ca y cc : Int} (hq : now = y) (cs : List Frame) (k : List Item) (hvw : Rel zn v w) (hn : NoRow Ch v) (hm : Fm tb cb now v) (hxb : v.heap[xb]? = some (.cells #[I 6, I ca, I y, I cc] 39 (0, 0)))
    (hA : A5 x0 lst cb tb now i a) (h10 : a.tmps.getD 10 undef = Pt xb 0) (h11 : a.tmps.getD 11 undef = .bool true) (h38 : a.tmps.getD 38 undef = I 6)
    (hk : ∀ a' v' w', Rel zn v' w' → NoRow Ch v' → Fto tb cb now v v' → A5 x0 lst cb tb now i a' → a'.tmps.getD 11 undef = .bool true → GoesI Try.prog main (DT (ScZ zn) Ch) Stop (G ((base 5).at a' k) cs) w') :
    GoesI Try.prog main (DT (ScZ zn) Ch) Stop (G ((base 5).at a (.code SW5 :: k)) cs) w := by
  have b0 : v.cell? ⟨xb, 2, none⟩ = some (I y) := by unfold World.cell?; rw [show v.heap[xb]? = _ from hxb]; rfl
  have b1 : v.cell? ⟨xb, 3, none⟩ = some (I cc) := by unfold World.cell?; rw [show v.heap[xb]? = _ from hxb]; rfl
  have e0 : w.cell? ⟨xb, 2, none⟩ = some (I y) := by rw [hvw.cell?]; exact b0
  have e1 : w.cell? ⟨xb, 3, none⟩ = some (I cc) := by rw [hvw.cell?]; exact b1
  have hne : xb ≠ cb := fun e => by rw [e, hm.cel] at hxb; simp at hxb
  obtain ⟨u, rfl, hg⟩ := lit119 hA.size hA.defers
  have u0 := (hg 0).symm.trans hA.t0
  have u1 := (hg 1).symm.trans hA.t1
  have u6 := (hg 6).symm.trans hA.t6
  have u7 := (hg 7).symm.trans hA.t7
  have u8 := (hg 8).symm.trans hA.t8
  have u9 := (hg 9).symm.trans hA.t9
  have u10 := (hg 10).symm.trans h10
  have u11 := (hg 11).symm.trans h11
  have u38 := (hg 38).symm.trans h38
  clear hg hA h10 h11 h38
  unfold SW5 I5 L5 C57 B5 Try.f5 seq2 seq1 blockC loopC
  simp only [Option.getD_some, lits, Nat.reduceAdd, u0, u1, u6, u7, u8, u9, u10, u11, u38]
  clear u0 u1 u6 u7 u8 u9 u10 u11 u38
  subst hq
  refine goesI_seq (dt_idle _ _) ?_
  refine goesI_region (dt_idle _ _) ?_
  simp only [List.size_toArray, List.length_cons, List.length_nil, Nat.reduceAdd, Nat.zero_add, List.range, List.range.loop]
  iterate 2
    (refine goesI_oper rfl rfl (by decide) (fun d K hK => ?_)
     go_simp
     refine hK _ _ ⟨dt_reads (fun e he => ?_), GoesI.at ?_ d⟩
     · have hm := mem_listed he
       simp [go_sem, *] at hm
       try exact ⟨_, _, hm⟩
     clear hK K)
  refine goesI_regionEnd (dt_idle _ _) ?_
  refine goesI_cond (dt_idle _ _) (t := false) rfl ?_
  refine goesI_seq (dt_idle _ _) ?_
  refine goesI_region (dt_idle _ _) ?_
  simp only [List.size_toArray, List.length_cons, List.length_nil, Nat.reduceAdd, Nat.zero_add, List.range, List.range.loop]
  iterate 2
    (refine goesI_oper rfl rfl (by decide) (fun d K hK => ?_)
     go_simp
     refine hK _ _ ⟨dt_reads (fun e he => ?_), GoesI.at ?_ d⟩
     · have hm := mem_listed he
       simp [go_sem, *] at hm
       try exact ⟨_, _, hm⟩
     clear hK K)
  refine goesI_regionEnd (dt_idle _ _) ?_
  refine goesI_cond (dt_idle _ _) (t := false) rfl ?_
  refine goesI_seq (dt_idle _ _) ?_
  refine goesI_region (dt_idle _ _) ?_
  simp only [List.size_toArray, List.length_cons, List.length_nil, Nat.reduceAdd, Nat.zero_add, List.range, List.range.loop]
  iterate 2
    (refine goesI_oper rfl rfl (by decide) (fun d K hK => ?_)
     go_simp
     refine hK _ _ ⟨dt_reads (fun e he => ?_), GoesI.at ?_ d⟩
     · have hm := mem_listed he
       simp [go_sem, *] at hm
       try exact ⟨_, _, hm⟩
     clear hK K)
  refine goesI_regionEnd (dt_idle _ _) ?_
  refine goesI_cond (dt_idle _ _) (t := false) rfl ?_
  refine goesI_seq (dt_idle _ _) ?_
  refine goesI_region (dt_idle _ _) ?_
  simp only [List.size_toArray, List.length_cons, List.length_nil, Nat.reduceAdd, Nat.zero_add, List.range, List.range.loop]
  iterate 2
    (refine goesI_oper rfl rfl (by decide) (fun d K hK => ?_)
     go_simp
     refine hK _ _ ⟨dt_reads (fun e he => ?_), GoesI.at ?_ d⟩
     · have hm := mem_listed he
       simp [go_sem, *] at hm
       try exact ⟨_, _, hm⟩
     clear hK K)
  refine goesI_regionEnd (dt_idle _ _) ?_
  refine goesI_cond (dt_idle _ _) (t := false) rfl ?_
  refine goesI_seq (dt_idle _ _) ?_
  refine goesI_region (dt_idle _ _) ?_
  simp only [List.size_toArray, List.length_cons, List.length_nil, Nat.reduceAdd, Nat.zero_add, List.range, List.range.loop]
  iterate 2
    (refine goesI_oper rfl rfl (by decide) (fun d K hK => ?_)
     go_simp
     refine hK _ _ ⟨dt_reads (fun e he => ?_), GoesI.at ?_ d⟩
     · have hm := mem_listed he
       simp [go_sem, *] at hm
       try exact ⟨_, _, hm⟩
     clear hK K)
  refine goesI_regionEnd (dt_idle _ _) ?_
  refine goesI_cond (dt_idle _ _) (t := true) rfl ?_
  refine goesI_seq (dt_idle _ _) ?_
  refine goesI_region (dt_idle _ _) ?_
  simp only [List.size_toArray, List.length_cons, List.length_nil, Nat.reduceAdd, Nat.zero_add, List.range, List.range.loop]
  iterate 4
    (refine goesI_oper rfl rfl (by decide) (fun d K hK => ?_)
     go_simp
     refine hK _ _ ⟨dt_reads (fun e he => ?_), GoesI.at ?_ d⟩
     · have hm := mem_listed he
       simp [go_sem, *] at hm
       try exact ⟨_, _, hm⟩
     clear hK K)
  refine goesI_regionEnd (dt_idle _ _) ?_
  refine goesI_cond (dt_idle _ _) (t := false) rfl ?_
  refine goesI_skip (dt_idle _ _) ?_
  exact hk _ _ _ hvw hn (Fto.refl hm) ⟨rfl, rfl, rfl, rfl, rfl, rfl, rfl, rfl⟩ rfl

set_option maxHeartbeats 4000000 in
set_option maxRecDepth 100000 in
theorem sw6n {Ch : Nat → Prop} {Stop : Goroutine → World → Prop} {main : Bool} {v w : World} {a : Act} {x0 : Int} {lst : Value} {cb tb xb : Nat} {now i ca y cc : Int} (hq : now ≠ y) (cs : List Frame) (k : List Item) (hvw : Rel zn v w) (hn : NoRow Ch v) (hm : Fm tb cb now v) (hxb : v.heap[xb]? = some (.cells #[I 6, I ca, I y, I cc] 39 (0, 0)))
    (hA : A5 x0 lst cb tb now i a) (h10 : a.tmps.getD 10 undef = Pt xb 0) (h11 : a.tmps.getD 11 undef = .bool true) (h38 : a.tmps.getD 38 undef = I 6)
    (hk : ∀ a' v' w', Rel zn v' w' → NoRow Ch v' → Fto tb cb now v v' → A5 x0 lst cb tb now i a' → a'.tmps.getD 11 undef = .bool true → GoesI Try.prog main (DT (ScZ zn) Ch) Stop (G ((base 5).at a' k) cs) w') :
    GoesI Try.prog main (DT (ScZ zn) Ch) Stop (G ((base 5).at a (.code SW5 :: k)) cs) w := by
  have b0 : v.cell? ⟨xb, 2, none⟩ = some (I y) := by unfold World.cell?; rw [show v.heap[xb]? = _ from hxb]; rfl
  have b1 : v.cell? ⟨xb, 3, none⟩ = some (I cc) := by unfold World.cell?; rw [show v.heap[xb]? = _ from hxb]; rfl
  have e0 : w.cell? ⟨xb, 2, none⟩ = some (I y) := by rw [hvw.cell?]; exact b0
  have e1 : w.cell? ⟨xb, 3, none⟩ = some (I cc) := by rw [hvw.cell?]; exact b1
  have hne : xb ≠ cb := fun e => by rw [e, hm.cel] at hxb; simp at hxb
  obtain ⟨u, rfl, hg⟩ := lit119 hA.size hA.defers
  have u0 := (hg 0).symm.trans hA.t0
  have u1 := (hg 1).symm.trans hA.t1
  have u6 := (hg 6).symm.trans hA.t6
  have u7 := (hg 7).symm.trans hA.t7
  have u8 := (hg 8).symm.trans hA.t8
  have u9 := (hg 9).symm.trans hA.t9
  have u10 := (hg 10).symm.trans h10
  have u11 := (hg 11).symm.trans h11
  have u38 := (hg 38).symm.trans h38
  clear hg hA h10 h11 h38
  unfold SW5 I5 L5 C57 B5 Try.f5 seq2 seq1 blockC loopC
  simp only [Option.getD_some, lits, Nat.reduceAdd, u0, u1, u6, u7, u8, u9, u10, u11, u38]
  clear u0 u1 u6 u7 u8 u9 u10 u11 u38
  have hq' : (now == y) = false := by simpa using hq
  have hq3 : (now != y) = true := by simpa using hq
  refine goesI_seq (dt_idle _ _) ?_
  refine goesI_region (dt_idle _ _) ?_
  simp only [List.size_toArray, List.length_cons, List.length_nil, Nat.reduceAdd, Nat.zero_add, List.range, List.range.loop]
  iterate 2
    (refine goesI_oper rfl rfl (by decide) (fun d K hK => ?_)
     go_simp
     refine hK _ _ ⟨dt_reads (fun e he => ?_), GoesI.at ?_ d⟩
     · have hm := mem_listed he
       simp [go_sem, *] at hm
       try exact ⟨_, _, hm⟩
     clear hK K)
  refine goesI_regionEnd (dt_idle _ _) ?_
  refine goesI_cond (dt_idle _ _) (t := false) rfl ?_
  refine goesI_seq (dt_idle _ _) ?_
  refine goesI_region (dt_idle _ _) ?_
  simp only [List.size_toArray, List.length_cons, List.length_nil, Nat.reduceAdd, Nat.zero_add, List.range, List.range.loop]
  iterate 2
    (refine goesI_oper rfl rfl (by decide) (fun d K hK => ?_)
     go_simp
     refine hK _ _ ⟨dt_reads (fun e he => ?_), GoesI.at ?_ d⟩
     · have hm := mem_listed he
       simp [go_sem, *] at hm
       try exact ⟨_, _, hm⟩
     clear hK K)
  refine goesI_regionEnd (dt_idle _ _) ?_
  refine goesI_cond (dt_idle _ _) (t := false) rfl ?_
  refine goesI_seq (dt_idle _ _) ?_
  refine goesI_region (dt_idle _ _) ?_
  simp only [List.size_toArray, List.length_cons, List.length_nil, Nat.reduceAdd, Nat.zero_add, List.range, List.range.loop]
  iterate 2
    (refine goesI_oper rfl rfl (by decide) (fun d K hK => ?_)
     go_simp
     refine hK _ _ ⟨dt_reads (fun e he => ?_), GoesI.at ?_ d⟩
     · have hm := mem_listed he
       simp [go_sem, *] at hm
       try exact ⟨_, _, hm⟩
     clear hK K)
  refine goesI_regionEnd (dt_idle _ _) ?_
  refine goesI_cond (dt_idle _ _) (t := false) rfl ?_
  refine goesI_seq (dt_idle _ _) ?_
  refine goesI_region (dt_idle _ _) ?_
  simp only [List.size_toArray, List.length_cons, List.length_nil, Nat.reduceAdd, Nat.zero_add, List.range, List.range.loop]
  iterate 2
    (refine goesI_oper rfl rfl (by decide) (fun d K hK => ?_)
     go_simp
     refine hK _ _ ⟨dt_reads (fun e he => ?_), GoesI.at ?_ d⟩
     · have hm := mem_listed he
       simp [go_sem, *] at hm
       try exact ⟨_, _, hm⟩
     clear hK K)
  refine goesI_regionEnd (dt_idle _ _) ?_
  refine goesI_cond (dt_idle _ _) (t := false) rfl ?_
  refine goesI_seq (dt_idle _ _) ?_
  refine goesI_region (dt_idle _ _) ?_
  simp only [List.size_toArray, List.length_cons, List.length_nil, Nat.reduceAdd, Nat.zero_add, List.range, List.range.loop]
  iterate 2
    (refine goesI_oper rfl rfl (by decide) (fun d K hK => ?_)
     go_simp
     refine hK _ _ ⟨dt_reads (fun e he => ?_), GoesI.at ?_ d⟩
     · have hm := mem_listed he
       simp [go_sem, *] at hm
       try exact ⟨_, _, hm⟩
     clear hK K)
  refine goesI_regionEnd (dt_idle _ _) ?_
  refine goesI_cond (dt_idle _ _) (t := true) rfl ?_
  refine goesI_seq (dt_idle _ _) ?_
  refine goesI_region (dt_idle _ _) ?_
  simp only [List.size_toArray, List.length_cons, List.length_nil, Nat.reduceAdd, Nat.zero_add, List.range, List.range.loop]
  iterate 4
    (refine goesI_oper rfl rfl (by decide) (fun d K hK => ?_)
     go_simp
     refine hK _ _ ⟨dt_reads (fun e he => ?_), GoesI.at ?_ d⟩
     · have hm := mem_listed he
       simp [go_sem, *] at hm
       try exact ⟨_, _, hm⟩
     clear hK K)
  refine goesI_regionEnd (dt_idle _ _) ?_
  refine goesI_cond (dt_idle _ _) (t := true) rfl ?_
  refine goesI_region (dt_idle _ _) ?_
  simp only [List.size_toArray, List.length_cons, List.length_nil, Nat.reduceAdd, Nat.zero_add, List.range, List.range.loop]
  iterate 4
    (refine goesI_oper rfl rfl (by decide) (fun d K hK => ?_)
     go_simp
     refine hK _ _ ⟨dt_reads (fun e he => ?_), GoesI.at ?_ d⟩
     · have hm := mem_listed he
       simp [go_sem, *] at hm
       try exact ⟨_, _, hm⟩
     clear hK K)
  refine goesI_into (f := 16) (fn := Try.f16) (args := #[Pt cb 0, Pt tb 0, I y]) (dt_idle _ _) rfl rfl (by decide) rfl (by simp [Act.eval]) Try.func16 (by decide) rfl ?_
  refine free16 y now hq _ rfl hvw hn hm (fun v2 w2 r2 n2 h2 => ?_) _ rfl
  clear e0 e1 hvw hn
  have e0 : w2.cell? ⟨xb, 2, none⟩ = some (I y) := by rw [r2.cell?, World.cell?_of_block (h2.old xb hne)]; exact b0
  have e1 : w2.cell? ⟨xb, 3, none⟩ = some (I cc) := by rw [r2.cell?, World.cell?_of_block (h2.old xb hne)]; exact b1
  iterate 1
    (refine goesI_oper rfl rfl (by decide) (fun d K hK => ?_)
     go_simp
     refine hK _ _ ⟨dt_reads (fun e he => ?_), GoesI.at ?_ d⟩
     · have hm := mem_listed he
       simp [go_sem, *] at hm
       try exact ⟨_, _, hm⟩
     clear hK K)
  refine goesI_regionEnd (dt_idle _ _) ?_
  exact hk _ _ _ r2 n2 h2 ⟨rfl, rfl, rfl, rfl, rfl, rfl, rfl, rfl⟩ rfl

set_option maxHeartbeats 4000000 in
set_option maxRecDepth 100000 in
theorem swD {Ch : Nat → Prop} {Stop : Goroutine → World → Prop} {main : Bool} {v w : World} {a : Act} {x0 : Int} {lst : Value} {cb tb xb : Nat} {now i ca y cc po : Int} (q2 : (po == 2) = false) (q3 : (po == 3) = false) (q4 : (po == 4) = false) (q5 : (po == 5) = false) (q6 : (po == 6) = false) (cs : List Frame) (k : List Item) (hvw : Rel zn v w) (hn : NoRow Ch v) (hm : Fm tb cb now v) (hxb : v.heap[xb]? = some (.cells #[I po, I ca, I y, I cc] 39 (0, 0)))
    (hA : A5 x0 lst cb tb now i a) (h10 : a.tmps.getD 10 undef = Pt xb 0) (h11 : a.tmps.getD 11 undef = .bool true) (h38 : a.tmps.getD 38 undef = I po)
    (hk : ∀ a' v' w', Rel zn v' w' → NoRow Ch v' → Fto tb cb now v v' → A5 x0 lst cb tb now i a' → a'.tmps.getD 11 undef = .bool true → GoesI Try.prog main (DT (ScZ zn) Ch) Stop (G ((base 5).at a' k) cs) w') :
    GoesI Try.prog main (DT (ScZ zn) Ch) Stop (G ((base 5).at a (.code SW5 :: k)) cs) w := by
  have b0 : v.cell? ⟨xb, 2, none⟩ = some (I y) := by unfold World.cell?; rw [show v.heap[xb]? = _ from hxb]; rfl
  have b1 : v.cell? ⟨xb, 3, none⟩ = some (I cc) := by unfold World.cell?; rw [show v.heap[xb]? = _ from hxb]; rfl
  have e0 : w.cell? ⟨xb, 2, none⟩ = some (I y) := by rw [hvw.cell?]; exact b0
  have e1 : w.cell? ⟨xb, 3, none⟩ = some (I cc) := by rw [hvw.cell?]; exact b1
  have hne : xb ≠ cb := fun e => by rw [e, hm.cel] at hxb; simp at hxb
  obtain ⟨u, rfl, hg⟩ := lit119 hA.size hA.defers
  have u0 := (hg 0).symm.trans hA.t0
  have u1 := (hg 1).symm.trans hA.t1
  have u6 := (hg 6).symm.trans hA.t6
  have u7 := (hg 7).symm.trans hA.t7
  have u8 := (hg 8).symm.trans hA.t8
  have u9 := (hg 9).symm.trans hA.t9
  have u10 := (hg 10).symm.trans h10
  have u11 := (hg 11).symm.trans h11
  have u38 := (hg 38).symm.trans h38
  clear hg hA h10 h11 h38
  unfold SW5 I5 L5 C57 B5 Try.f5 seq2 seq1 blockC loopC
  simp only [Option.getD_some, lits, Nat.reduceAdd, u0, u1, u6, u7, u8, u9, u10, u11, u38]
  clear u0 u1 u6 u7 u8 u9 u10 u11 u38
  refine goesI_seq (dt_idle _ _) ?_
  refine goesI_region (dt_idle _ _) ?_
  simp only [List.size_toArray, List.length_cons, List.length_nil, Nat.reduceAdd, Nat.zero_add, List.range, List.range.loop]
  iterate 2
    (refine goesI_oper rfl rfl (by decide) (fun d K hK => ?_)
     go_simp
     refine hK _ _ ⟨dt_reads (fun e he => ?_), GoesI.at ?_ d⟩
     · have hm := mem_listed he
       simp [go_sem, *] at hm
       try exact ⟨_, _, hm⟩
     clear hK K)
  refine goesI_regionEnd (dt_idle _ _) ?_
  refine goesI_cond (dt_idle _ _) (t := false) rfl ?_
  refine goesI_seq (dt_idle _ _) ?_
  refine goesI_region (dt_idle _ _) ?_
  simp only [List.size_toArray, List.length_cons, List.length_nil, Nat.reduceAdd, Nat.zero_add, List.range, List.range.loop]
  iterate 2
    (refine goesI_oper rfl rfl (by decide) (fun d K hK => ?_)
     go_simp
     refine hK _ _ ⟨dt_reads (fun e he => ?_), GoesI.at ?_ d⟩
     · have hm := mem_listed he
       simp [go_sem, *] at hm
       try exact ⟨_, _, hm⟩
     clear hK K)
  refine goesI_regionEnd (dt_idle _ _) ?_
  refine goesI_cond (dt_idle _ _) (t := false) rfl ?_
  refine goesI_seq (dt_idle _ _) ?_
  refine goesI_region (dt_idle _ _) ?_
  simp only [List.size_toArray, List.length_cons, List.length_nil, Nat.reduceAdd, Nat.zero_add, List.range, List.range.loop]
  iterate 2
    (refine goesI_oper rfl rfl (by decide) (fun d K hK => ?_)
     go_simp
     refine hK _ _ ⟨dt_reads (fun e he => ?_), GoesI.at ?_ d⟩
     · have hm := mem_listed he
       simp [go_sem, *] at hm
       try exact ⟨_, _, hm⟩
     clear hK K)
  refine goesI_regionEnd (dt_idle _ _) ?_
  refine goesI_cond (dt_idle _ _) (t := false) rfl ?_
  refine goesI_seq (dt_idle _ _) ?_
  refine goesI_region (dt_idle _ _) ?_
  simp only [List.size_toArray, List.length_cons, List.length_nil, Nat.reduceAdd, Nat.zero_add, List.range, List.range.loop]
  iterate 2
    (refine goesI_oper rfl rfl (by decide) (fun d K hK => ?_)
     go_simp
     refine hK _ _ ⟨dt_reads (fun e he => ?_), GoesI.at ?_ d⟩
     · have hm := mem_listed he
       simp [go_sem, *] at hm
       try exact ⟨_, _, hm⟩
     clear hK K)
  refine goesI_regionEnd (dt_idle _ _) ?_
  refine goesI_cond (dt_idle _ _) (t := false) rfl ?_
  refine goesI_seq (dt_idle _ _) ?_
  refine goesI_region (dt_idle _ _) ?_
  simp only [List.size_toArray, List.length_cons, List.length_nil, Nat.reduceAdd, Nat.zero_add, List.range, List.range.loop]
  iterate 2
    (refine goesI_oper rfl rfl (by decide) (fun d K hK => ?_)
     go_simp
     refine hK _ _ ⟨dt_reads (fun e he => ?_), GoesI.at ?_ d⟩
     · have hm := mem_listed he
       simp [go_sem, *] at hm
       try exact ⟨_, _, hm⟩
     clear hK K)
  refine goesI_regionEnd (dt_idle _ _) ?_
  refine goesI_cond (dt_idle _ _) (t := false) rfl ?_
  refine goesI_skip (dt_idle _ _) ?_
  exact hk _ _ _ hvw hn (Fto.refl hm) ⟨rfl, rfl, rfl, rfl, rfl, rfl, rfl, rfl⟩ rfl
end Go.Proofs.Ytmgaojbfmohboaa

/- The law CellAlone (5): a round of its loop, main alone. (Made by wip/tools/genit.py.) -/
set_option linter.unusedSimpArgs false
set_option linter.unusedVariables false
namespace Go.Proofs.Ytmgaojbfmohboaa
open Go Go.Lift Go.Conc Go.RowKit

/-- What a call makes of a cell. -/
def nextC (c : Cl) (now : Int) : Int := if c.po = 2 then c.cb else if c.po = 3 then c.cb else if c.po = 4 then (if now = c.cb then c.cc else now) else if c.po = 5 then wrap64 (now + c.cb) else now
theorem sw_all {Ch : Nat → Prop} {Stop : Goroutine → World → Prop} {main : Bool} {v w : World} {a : Act} {x0 : Int} {lst : Value} {cb tb : Nat} {now : Int} {xb : Nat} {i : Int} (c : Cl) (cs : List Frame) (k : List Item) (hvw : Rel zn v w) (hn : NoRow Ch v) (hm : Fm tb cb now v) (hxb : v.heap[xb]? = some (.cells #[I c.po, I c.ca, I c.cb, I c.cc] 39 (0, 0)))
    (hA : A5 x0 lst cb tb now i a) (h10 : a.tmps.getD 10 undef = Pt xb 0) (h11 : a.tmps.getD 11 undef = .bool true) (h38 : a.tmps.getD 38 undef = I c.po)
    (hk : ∀ a' v' w', Rel zn v' w' → NoRow Ch v' → Fto tb cb (nextC c now) v v' → A5 x0 lst cb tb (nextC c now) i a' → a'.tmps.getD 11 undef = .bool true → GoesI Try.prog main (DT (ScZ zn) Ch) Stop (G ((base 5).at a' k) cs) w') :
    GoesI Try.prog main (DT (ScZ zn) Ch) Stop (G ((base 5).at a (.code SW5 :: k)) cs) w := by
  obtain ⟨po, ca, y, cc⟩ := c
  simp only [nextC] at hk hxb h38
  by_cases q2 : po = 2
  · subst q2
    exact sw2 cs k hvw hn hm hxb hA h10 h11 h38 hk
  rw [if_neg q2] at hk
  by_cases q3 : po = 3
  · subst q3
    exact sw3 cs k hvw hn hm hxb hA h10 h11 h38 hk
  rw [if_neg q3] at hk
  by_cases q4 : po = 4
  · subst q4
    rw [if_pos rfl] at hk
    by_cases hq : now = y
    · rw [if_pos hq] at hk
      exact sw4y hq cs k hvw hn hm hxb hA h10 h11 h38 hk
    · rw [if_neg hq] at hk
      exact sw4n hq cs k hvw hn hm hxb hA h10 h11 h38 hk
  rw [if_neg q4] at hk
  by_cases q5 : po = 5
  · subst q5
    exact sw5 cs k hvw hn hm hxb hA h10 h11 h38 hk
  rw [if_neg q5] at hk
  by_cases q6 : po = 6
  · subst q6
    by_cases hq : now = y
    · exact sw6y hq cs k hvw hn hm hxb hA h10 h11 h38 hk
    · exact sw6n hq cs k hvw hn hm hxb hA h10 h11 h38 hk
  exact swD (by simpa using q2) (by simpa using q3) (by simpa using q4) (by simpa using q5) (by simpa using q6) cs k hvw hn hm hxb hA h10 h11 h38 hk

noncomputable def r510 : Code := seq1 I5
theorem fineR510 : fineCode Try.prog true LT r510 := fineCode_ask callT extT (by kernel_rfl)
set_option maxHeartbeats 4000000 in
set_option maxRecDepth 100000 in
theorem r510_wp {v : World} {a : Act} {x0 : Int} {lb lo n cap : Nat} {cb tb : Nat} {now : Int} {k : Nat} (c : Cl) (hk : k < n) (hA : A5 x0 (.slice (some ⟨lb, lo, none⟩) n cap) cb tb now k a) (c0 : v.cell? ⟨lb, lo + k * 4, none⟩ = some (I c.po)) (c1 : v.cell? ⟨lb, lo + k * 4 + 1, none⟩ = some (I c.ca)) (c2 : v.cell? ⟨lb, lo + k * 4 + 2, none⟩ = some (I c.cb)) (c3 : v.cell? ⟨lb, lo + k * 4 + 3, none⟩ = some (I c.cc)) :
    r510.wp Try.prog (fun e a w' => e = .normal ∧ A5 x0 (.slice (some ⟨lb, lo, none⟩) n cap) cb tb now k a ∧ a.tmps.getD 10 undef = Pt v.heap.size 0 ∧ w'.heap = v.heap.push (.cells #[I c.po, I c.ca, I c.cb, I c.cc] 39) ∧ w'.os = v.os ∧ w'.output = v.output) a v := by
  obtain ⟨u, rfl, hg⟩ := lit119 hA.size hA.defers
  have u0 := (hg 0).symm.trans hA.t0
  have u1 := (hg 1).symm.trans hA.t1
  have u6 := (hg 6).symm.trans hA.t6
  have u7 := (hg 7).symm.trans hA.t7
  have u8 := (hg 8).symm.trans hA.t8
  have u9 := (hg 9).symm.trans hA.t9
  clear hg hA
  have hlt' : (k : Int) < (n : Int) := by omega
  show Code.wp Try.prog (seq1 I5) _ _ _
  unfold I5 L5 C57 B5 Try.f5 seq2 seq1 blockC loopC
  simp only [Option.getD_some, lits, Nat.reduceAdd, u0, u1, u6, u7, u8, u9]
  clear u0 u1 u6 u7 u8 u9
  go_wp2_with fail
  exact ⟨⟨rfl, rfl, rfl, rfl, rfl, rfl, rfl, rfl⟩, rfl, rfl, rfl⟩

noncomputable def r58 : Code := seq1 (seq1 L5)
noncomputable def r59 : Code := seq2 (seq2 L5)
noncomputable def r511 : Code := seq1 (seq2 I5)
noncomputable def r512 : Code := seq1 (seq1 (seq2 (seq2 I5)))
noncomputable def t5 : Code := seq2 (seq2 (seq2 I5))
theorem eL5 : L5 = .seq (.seq r58 (.cond (.tmp 30) .skip (.exit 0))) (.seq (.block 1 I5) r59) := by kernel_rfl
theorem eI5 : I5 = .seq r510 (.seq r511 (.seq (.seq r512 (.block 2 SW5)) t5)) := by kernel_rfl
/-- It has gone on. -/
structure Fgo (tb cb : Nat) (x : Int) (v v' : World) : Prop where
  fm : Fm tb cb x v'
  old : ∀ b, b < v.heap.size → b ≠ cb → v'.heap[b]? = v.heap[b]?
  size : v.heap.size ≤ v'.heap.size
  os : v'.os = v.os
  out : v'.output = v.output
theorem Fto.go {tb cb : Nat} {x : Int} {v v' : World} (h : Fto tb cb x v v') : Fgo tb cb x v v' := ⟨h.fm, fun b _ hb => h.old b hb, by rw [h.size]; exact Nat.le_refl _, h.os, h.out⟩
theorem Fgo.trans {tb cb : Nat} {x y : Int} {v v' v'' : World} (h : Fgo tb cb x v v') (k : Fgo tb cb y v' v'') : Fgo tb cb y v v'' :=
  ⟨k.fm, fun b hb hc => by rw [k.old b (by have := h.size; omega) hc, h.old b hb hc], Nat.le_trans h.size k.size, k.os.trans h.os, k.out.trans h.out⟩
set_option maxHeartbeats 4000000 in
set_option maxRecDepth 100000 in
theorem head5 {p : Option Addr} {Ch : Nat → Prop} {Stop : Goroutine → World → Prop} {main : Bool} {v w : World} {a : Act} {x0 : Int} {lb lo n cap cb tb : Nat} {now : Int} {k : Nat} (cs : List Frame) (K : List Item) (hk : k < n) (hn9 : (n : Int) < 9223372036854775808) (hA : A5 x0 (.slice p n cap) cb tb now k a)
    (hK : ∀ a', A5 x0 (.slice p n cap) cb tb now k a' → GoesI Try.prog main (DT (ScZ zn) Ch) Stop (G ((base 5).at a' K) cs) w) :
    GoesI Try.prog main (DT (ScZ zn) Ch) Stop (G ((base 5).at a (.code r58 :: .code (.cond (.tmp 30) .skip (.exit 0)) :: K)) cs) w := by
  obtain ⟨u, rfl, hg⟩ := lit119 hA.size hA.defers
  have u0 := (hg 0).symm.trans hA.t0
  have u1 := (hg 1).symm.trans hA.t1
  have u6 := (hg 6).symm.trans hA.t6
  have u7 := (hg 7).symm.trans hA.t7
  have u8 := (hg 8).symm.trans hA.t8
  have u9 := (hg 9).symm.trans hA.t9
  clear hg hA
  unfold r58 L5 C57 B5 Try.f5 seq2 seq1 blockC loopC
  simp only [Option.getD_some, lits, Nat.reduceAdd, u0, u1, u6, u7, u8, u9]
  clear u0 u1 u6 u7 u8 u9
  have hlt' : (k : Int) < (n : Int) := by omega
  have hlt2 : decide ((k : Int) < (n : Int)) = true := by simpa using hk
  refine goesI_region (dt_idle _ _) ?_
  simp only [List.size_toArray, List.length_cons, List.length_nil, Nat.reduceAdd, Nat.zero_add, List.range, List.range.loop]
  iterate 4
    (refine goesI_oper rfl rfl (by decide) (fun d K hK => ?_)
     go_simp
     refine hK _ _ ⟨dt_reads (fun e he => ?_), GoesI.at ?_ d⟩
     · have hm := mem_listed he
       simp [go_sem, *] at hm
       try exact ⟨_, _, hm⟩
     clear hK K)
  refine goesI_regionEnd (dt_idle _ _) ?_
  refine goesI_cond (dt_idle _ _) (t := true) rfl ?_
  refine goesI_skip (dt_idle _ _) ?_
  exact hK _ ⟨rfl, rfl, rfl, rfl, rfl, rfl, rfl, rfl⟩

set_option maxHeartbeats 4000000 in
set_option maxRecDepth 100000 in
theorem headN {p : Option Addr} {Ch : Nat → Prop} {Stop : Goroutine → World → Prop} {main : Bool} {v w : World} {a : Act} {x0 : Int} {lb lo n cap cb tb : Nat} {now : Int} {k : Nat} (cs : List Frame) (K : List Item) {K' : List Item} (hk : ¬ k < n) (hn9 : (n : Int) < 9223372036854775808) (hA : A5 x0 (.slice p n cap) cb tb now k a) (hx : exitTo 0 K = some K')
    (hK : ∀ a', A5 x0 (.slice p n cap) cb tb now k a' → GoesI Try.prog main (DT (ScZ zn) Ch) Stop (G ((base 5).at a' K') cs) w) :
    GoesI Try.prog main (DT (ScZ zn) Ch) Stop (G ((base 5).at a (.code r58 :: .code (.cond (.tmp 30) .skip (.exit 0)) :: K)) cs) w := by
  obtain ⟨u, rfl, hg⟩ := lit119 hA.size hA.defers
  have u0 := (hg 0).symm.trans hA.t0
  have u1 := (hg 1).symm.trans hA.t1
  have u6 := (hg 6).symm.trans hA.t6
  have u7 := (hg 7).symm.trans hA.t7
  have u8 := (hg 8).symm.trans hA.t8
  have u9 := (hg 9).symm.trans hA.t9
  clear hg hA
  unfold r58 L5 C57 B5 Try.f5 seq2 seq1 blockC loopC
  simp only [Option.getD_some, lits, Nat.reduceAdd, u0, u1, u6, u7, u8, u9]
  clear u0 u1 u6 u7 u8 u9
  have hlt' : ¬ (k : Int) < (n : Int) := by omega
  have hlt2 : decide ((k : Int) < (n : Int)) = false := by simpa using hk
  refine goesI_region (dt_idle _ _) ?_
  simp only [List.size_toArray, List.length_cons, List.length_nil, Nat.reduceAdd, Nat.zero_add, List.range, List.range.loop]
  iterate 4
    (refine goesI_oper rfl rfl (by decide) (fun d K hK => ?_)
     go_simp
     refine hK _ _ ⟨dt_reads (fun e he => ?_), GoesI.at ?_ d⟩
     · have hm := mem_listed he
       simp [go_sem, *] at hm
       try exact ⟨_, _, hm⟩
     clear hK K)
  refine goesI_regionEnd (dt_idle _ _) ?_
  refine goesI_cond (dt_idle _ _) (t := false) rfl ?_
  refine goesI_exit (dt_idle _ _) hx ?_
  exact hK _ ⟨rfl, rfl, rfl, rfl, rfl, rfl, rfl, rfl⟩

set_option maxHeartbeats 4000000 in
set_option maxRecDepth 100000 in
theorem get5 {p : Option Addr} {Ch : Nat → Prop} {Stop : Goroutine → World → Prop} {main : Bool} {v w : World} {a : Act} {x0 : Int} {lb lo n cap cb tb : Nat} {now : Int} {k : Nat} (c : Cl) (cs : List Frame) (K : List Item) (R : Code) (hk : k < n) (hvw : Rel zn v w) (hn : NoRow Ch v) (hA : A5 x0 (.slice (some ⟨lb, lo, none⟩) n cap) cb tb now k a) (c0 : v.cell? ⟨lb, lo + k * 4, none⟩ = some (I c.po)) (c1 : v.cell? ⟨lb, lo + k * 4 + 1, none⟩ = some (I c.ca)) (c2 : v.cell? ⟨lb, lo + k * 4 + 2, none⟩ = some (I c.cb)) (c3 : v.cell? ⟨lb, lo + k * 4 + 3, none⟩ = some (I c.cc))
    (hK : ∀ a' v' w', Rel zn v' w' → NoRow Ch v' → A5 x0 (.slice (some ⟨lb, lo, none⟩) n cap) cb tb now k a' → a'.tmps.getD 10 undef = Pt v.heap.size 0 → a'.tmps.getD 11 undef = .bool true → a'.tmps.getD 38 undef = I c.po → v'.heap = v.heap.push (.cells #[I c.po, I c.ca, I c.cb, I c.cc] 39) → v'.os = v.os → v'.output = v.output → GoesI Try.prog main (DT (ScZ zn) Ch) Stop (G ((base 5).at a' (.code SW5 :: .inBlock 2 :: .code R :: K)) cs) w') :
    GoesI Try.prog main (DT (ScZ zn) Ch) Stop (G ((base 5).at a (.code r510 :: .code (.seq r511 (.seq (.seq r512 (.block 2 SW5)) R)) :: K)) cs) w := by
  refine goesI_plain (z := zn) (wr := true) (L := LT) (I := NoRow Ch) hE fineT noRow_keeps (fun v v' w w' es hi hr ho he => dt_of_z v v' w w' es hi hr ho he) hvw fineR510 hA.defers (by simp [base]) hn
    (Q := fun a w' => A5 x0 (.slice (some ⟨lb, lo, none⟩) n cap) cb tb now k a ∧ a.tmps.getD 10 undef = Pt v.heap.size 0 ∧ w'.heap = v.heap.push (.cells #[I c.po, I c.ca, I c.cb, I c.cc] 39) ∧ w'.os = v.os ∧ w'.output = v.output) (fun τ => r510_wp (v := onTape v τ 0) c hk hA c0 c1 c2 c3) ?_
  rintro a1 v1 w1 ⟨hA1, h10, eh, eo, eu⟩ hr1 hn1 -
  clear hA c0 c1 c2 c3
  have b0 : v1.cell? ⟨v.heap.size, 0, none⟩ = some (I c.po) := by
    unfold World.cell?
    rw [show v1.heap[v.heap.size]? = some (.cells #[I c.po, I c.ca, I c.cb, I c.cc] 39) by rw [eh]; exact Array.getElem?_push_size]
    rfl
  have e0 : w1.cell? ⟨v.heap.size, 0, none⟩ = some (I c.po) := by rw [hr1.cell?]; exact b0
  obtain ⟨u, rfl, hg⟩ := lit119 hA1.size hA1.defers
  have u0 := (hg 0).symm.trans hA1.t0
  have u1 := (hg 1).symm.trans hA1.t1
  have u6 := (hg 6).symm.trans hA1.t6
  have u7 := (hg 7).symm.trans hA1.t7
  have u8 := (hg 8).symm.trans hA1.t8
  have u9 := (hg 9).symm.trans hA1.t9
  have u10 := (hg 10).symm.trans h10
  clear hg hA1 h10 b0
  refine goesI_seq (dt_idle _ _) ?_
  have hS : SW5 = SW5 := rfl
  generalize hSW : SW5 = SW at hK ⊢
  unfold r511 r512 I5 L5 C57 B5 Try.f5 seq2 seq1 blockC loopC
  simp only [Option.getD_some, lits, Nat.reduceAdd, u0, u1, u6, u7, u8, u9, u10]
  clear u0 u1 u6 u7 u8 u9 u10
  refine goesI_region (dt_idle _ _) ?_
  simp only [List.size_toArray, List.length_cons, List.length_nil, Nat.reduceAdd, Nat.zero_add, List.range, List.range.loop]
  iterate 1
    (refine goesI_oper rfl rfl (by decide) (fun d K hK => ?_)
     go_simp
     refine hK _ _ ⟨dt_reads (fun e he => ?_), GoesI.at ?_ d⟩
     · have hm := mem_listed he
       simp [go_sem, *] at hm
       try exact ⟨_, _, hm⟩
     clear hK K)
  refine goesI_regionEnd (dt_idle _ _) ?_
  refine goesI_seq (dt_idle _ _) ?_
  refine goesI_seq (dt_idle _ _) ?_
  refine goesI_region (dt_idle _ _) ?_
  simp only [List.size_toArray, List.length_cons, List.length_nil, Nat.reduceAdd, Nat.zero_add, List.range, List.range.loop]
  iterate 2
    (refine goesI_oper rfl rfl (by decide) (fun d K hK => ?_)
     go_simp
     refine hK _ _ ⟨dt_reads (fun e he => ?_), GoesI.at ?_ d⟩
     · have hm := mem_listed he
       simp [go_sem, *] at hm
       try exact ⟨_, _, hm⟩
     clear hK K)
  refine goesI_regionEnd (dt_idle _ _) ?_
  refine goesI_block (dt_idle _ _) ?_
  exact hK _ v1 w1 hr1 hn1 ⟨rfl, rfl, rfl, rfl, rfl, rfl, rfl, rfl⟩ rfl rfl rfl eh eo eu

set_option maxHeartbeats 4000000 in
set_option maxRecDepth 100000 in
theorem tail5 {p : Option Addr} {Ch : Nat → Prop} {Stop : Goroutine → World → Prop} {main : Bool} {v w : World} {a : Act} {x0 : Int} {lb lo n cap cb tb : Nat} {now : Int} {k : Nat} (cs : List Frame) (K : List Item) (hk : (k : Int) + 1 < 9223372036854775808) (hvw : Rel zn v w) (hn : NoRow Ch v) (hm : Fm tb cb now v) (hA : A5 x0 (.slice p n cap) cb tb now k a) (h11 : a.tmps.getD 11 undef = .bool true)
    (hK : ∀ a' v' w', Rel zn v' w' → NoRow Ch v' → Fto tb cb now v v' → A5 x0 (.slice p n cap) cb tb now ((k + 1 : Nat) : Int) a' → GoesI Try.prog main (DT (ScZ zn) Ch) Stop (G ((base 5).at a' K) cs) w') :
    GoesI Try.prog main (DT (ScZ zn) Ch) Stop (G ((base 5).at a (.inBlock 2 :: .code t5 :: .inBlock 1 :: .code r59 :: K)) cs) w := by
  obtain ⟨u, rfl, hg⟩ := lit119 hA.size hA.defers
  have u0 := (hg 0).symm.trans hA.t0
  have u1 := (hg 1).symm.trans hA.t1
  have u6 := (hg 6).symm.trans hA.t6
  have u7 := (hg 7).symm.trans hA.t7
  have u8 := (hg 8).symm.trans hA.t8
  have u9 := (hg 9).symm.trans hA.t9
  have u11 := (hg 11).symm.trans h11
  clear hg hA h11
  unfold t5 r59 I5 L5 C57 B5 Try.f5 seq2 seq1 blockC loopC
  simp only [Option.getD_some, lits, Nat.reduceAdd, u0, u1, u6, u7, u8, u9, u11]
  clear u0 u1 u6 u7 u8 u9 u11
  refine goesI_inBlock (dt_idle _ _) ?_
  refine goesI_seq (dt_idle _ _) ?_
  refine goesI_region (dt_idle _ _) ?_
  simp only [List.size_toArray, List.length_cons, List.length_nil, Nat.reduceAdd, Nat.zero_add, List.range, List.range.loop]
  iterate 2
    (refine goesI_oper rfl rfl (by decide) (fun d K hK => ?_)
     go_simp
     refine hK _ _ ⟨dt_reads (fun e he => ?_), GoesI.at ?_ d⟩
     · have hm := mem_listed he
       simp [go_sem, *] at hm
       try exact ⟨_, _, hm⟩
     clear hK K)
  refine goesI_into (f := 17) (fn := Try.f17) (args := #[Pt cb 0, Pt tb 0]) (dt_idle _ _) rfl rfl (by decide) rfl (by simp [Act.eval]) Try.func17 (by decide) rfl ?_
  refine free17 now _ rfl hvw hn hm (fun v2 w2 r2 n2 h2 => ?_) _ rfl
  rw [show (effLoad now).2.2 = I now from rfl]
  have h2 : Fto tb cb now v v2 := h2
  clear hvw hn
  iterate 1
    (refine goesI_oper rfl rfl (by decide) (fun d K hK => ?_)
     go_simp
     refine hK _ _ ⟨dt_reads (fun e he => ?_), GoesI.at ?_ d⟩
     · have hm := mem_listed he
       simp [go_sem, *] at hm
       try exact ⟨_, _, hm⟩
     clear hK K)
  refine goesI_regionEnd (dt_idle _ _) ?_
  refine goesI_seq (dt_idle _ _) ?_
  refine goesI_region (dt_idle _ _) ?_
  simp only [List.size_toArray, List.length_cons, List.length_nil, Nat.reduceAdd, Nat.zero_add, List.range, List.range.loop]
  iterate 7
    (refine goesI_oper rfl rfl (by decide) (fun d K hK => ?_)
     go_simp
     refine hK _ _ ⟨dt_reads (fun e he => ?_), GoesI.at ?_ d⟩
     · have hm := mem_listed he
       simp [go_sem, *] at hm
       try exact ⟨_, _, hm⟩
     clear hK K)
  refine goesI_regionEnd (dt_idle _ _) ?_
  refine goesI_cond (dt_idle _ _) (t := false) rfl ?_
  refine goesI_skip (dt_idle _ _) ?_
  refine goesI_inBlock (dt_idle _ _) ?_
  refine goesI_region (dt_idle _ _) ?_
  simp only [List.size_toArray, List.length_cons, List.length_nil, Nat.reduceAdd, Nat.zero_add, List.range, List.range.loop]
  iterate 3
    (refine goesI_oper rfl rfl (by decide) (fun d K hK => ?_)
     go_simp
     refine hK _ _ ⟨dt_reads (fun e he => ?_), GoesI.at ?_ d⟩
     · have hm := mem_listed he
       simp [go_sem, *] at hm
       try exact ⟨_, _, hm⟩
     clear hK K)
  refine goesI_regionEnd (dt_idle _ _) ?_
  refine hK _ v2 w2 r2 n2 h2 ⟨rfl, rfl, rfl, rfl, rfl, rfl, rfl, ?_⟩
  show Value.int .i64 (IntKind.i64.wrap ((k : Int) + 1)) = I ((k + 1 : Nat) : Int)
  rw [Go.IntWalk.i64_in _ (by omega)]
  rfl
end Go.Proofs.Ytmgaojbfmohboaa
