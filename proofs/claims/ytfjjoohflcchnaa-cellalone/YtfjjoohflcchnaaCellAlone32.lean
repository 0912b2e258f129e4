/- CellAlone returns true, whatever the number and the calls, and leaves what it was given as it was: of the law's statement as given, with no condition of our own. Part 32 of 33. (Joined, by program, of: It5, Loop5, Pre5, Law5, Run5.) -/
import Derived.Test.YtfjjoohflcchnaaCellAlone31
set_option linter.unusedSimpArgs false
set_option linter.unusedVariables false
namespace Go.Proofs.Ytfjjoohflcchnaa
open Go Go.Lift Go.Conc Go.RowKit

/-- What a call makes of a cell. -/
def nextC (c : Cl) (now : Int) : Int := if c.po = 2 then c.cb else if c.po = 3 then c.cb else if c.po = 4 then (if now = c.cb then c.cc else now) else if c.po = 5 then wrap64 (now + c.cb) else now
theorem sw_all {Ch : Nat → Prop} {Stop : Goroutine → World → Prop} {main : Bool} {v w : World} {a : Act} {x0 : Int} {lst : Value} {cb tb : Nat} {now : Int} {xb : Nat} {i : Int} (c : Cl) (cs : List Frame) (k : List Item) (hvw : Rel zn v w) (hn : NoRow Ch v) (hm : Fm tb cb now v) (hxb : v.heap[xb]? = some (.cells #[I c.po, I c.ca, I c.cb, I c.cc] 39 (0, 0)))
    (hA : A5 x0 lst cb tb now i a) (h10 : a.tmps.getD 10 undef = Pt xb 0) (h11 : a.tmps.getD 11 undef = .bool true) (h38 : a.tmps.getD 38 undef = I c.po)
    (hk : ∀ a' v' w', Rel zn v' w' → NoRow Ch v' → Fto tb cb (nextC c now) v v' → A5 x0 lst cb tb (nextC c now) i a' → a'.tmps.getD 11 undef = .bool true → GoesI Try.prog main (DT (ScZ zn) Ch) Stop (G ((base 5).at a' k) cs) w') :
    GoesI Try.prog main (DT (ScZ zn) Ch) Stop (G ((base 5).at a (.code SW5 :: k)) cs) w := by
  obtain ⟨po, ca, y, cc⟩ := c
  simp only [nextC] at hk hxb h38
  by_cases q2 : po = 2
  · subst q2
    exact sw2 cs k hvw hn hm hxb hA h10 h11 h38 hk
  rw [if_neg q2] at hk
  by_cases q3 : po = 3
  · subst q3
    exact sw3 cs k hvw hn hm hxb hA h10 h11 h38 hk
  rw [if_neg q3] at hk
  by_cases q4 : po = 4
  · subst q4
    rw [if_pos rfl] at hk
    by_cases hq : now = y
    · rw [if_pos hq] at hk
      exact sw4y hq cs k hvw hn hm hxb hA h10 h11 h38 hk
    · rw [if_neg hq] at hk
      exact sw4n hq cs k hvw hn hm hxb hA h10 h11 h38 hk
  rw [if_neg q4] at hk
  by_cases q5 : po = 5
  · subst q5
    exact sw5 cs k hvw hn hm hxb hA h10 h11 h38 hk
  rw [if_neg q5] at hk
  by_cases q6 : po = 6
  · subst q6
    by_cases hq : now = y
    · exact sw6y hq cs k hvw hn hm hxb hA h10 h11 h38 hk
    · exact sw6n hq cs k hvw hn hm hxb hA h10 h11 h38 hk
  exact swD (by simpa using q2) (by simpa using q3) (by simpa using q4) (by simpa using q5) (by simpa using q6) cs k hvw hn hm hxb hA h10 h11 h38 hk

noncomputable def r510 : Code := seq1 I5
theorem fineR510 : fineCode Try.prog true LT r510 := fineCode_ask callT extT (by kernel_rfl)
set_option maxHeartbeats 4000000 in
set_option maxRecDepth 100000 in
theorem r510_wp {v : World} {a : Act} {x0 : Int} {lb lo n cap : Nat} {cb tb : Nat} {now : Int} {k : Nat} (c : Cl) (hk : k < n) (hA : A5 x0 (.slice (some ⟨lb, lo, none⟩) n cap) cb tb now k a) (c0 : v.cell? ⟨lb, lo + k * 4, none⟩ = some (I c.po)) (c1 : v.cell? ⟨lb, lo + k * 4 + 1, none⟩ = some (I c.ca)) (c2 : v.cell? ⟨lb, lo + k * 4 + 2, none⟩ = some (I c.cb)) (c3 : v.cell? ⟨lb, lo + k * 4 + 3, none⟩ = some (I c.cc)) :
    r510.wp Try.prog (fun e a w' => e = .normal ∧ A5 x0 (.slice (some ⟨lb, lo, none⟩) n cap) cb tb now k a ∧ a.tmps.getD 10 undef = Pt v.heap.size 0 ∧ w'.heap = v.heap.push (.cells #[I c.po, I c.ca, I c.cb, I c.cc] 39) ∧ w'.os = v.os ∧ w'.output = v.output) a v := by
  obtain ⟨u, rfl, hg⟩ := lit119 hA.size hA.defers
  have u0 := (hg 0).symm.trans hA.t0
  have u1 := (hg 1).symm.trans hA.t1
  have u6 := (hg 6).symm.trans hA.t6
  have u7 := (hg 7).symm.trans hA.t7
  have u8 := (hg 8).symm.trans hA.t8
  have u9 := (hg 9).symm.trans hA.t9
  clear hg hA
  have hlt' : (k : Int) < (n : Int) := by omega
  show Code.wp Try.prog (seq1 I5) _ _ _
  unfold I5 L5 C57 B5 Try.f5 seq2 seq1 blockC loopC
  simp only [Option.getD_some, lits, Nat.reduceAdd, u0, u1, u6, u7, u8, u9]
  clear u0 u1 u6 u7 u8 u9
  go_wp2_with fail
  exact ⟨⟨rfl, rfl, rfl, rfl, rfl, rfl, rfl, rfl⟩, rfl, rfl, rfl⟩

noncomputable def r58 : Code := seq1 (seq1 L5)
noncomputable def r59 : Code := seq2 (seq2 L5)
noncomputable def r511 : Code := seq1 (seq2 I5)
noncomputable def r512 : Code := seq1 (seq1 (seq2 (seq2 I5)))
noncomputable def t5 : Code := seq2 (seq2 (seq2 I5))
theorem eL5 : L5 = .seq (.seq r58 (.cond (.tmp 30) .skip (.exit 0))) (.seq (.block 1 I5) r59) := by kernel_rfl
theorem eI5 : I5 = .seq r510 (.seq r511 (.seq (.seq r512 (.block 2 SW5)) t5)) := by kernel_rfl
/-- It has gone on. -/
structure Fgo (tb cb : Nat) (x : Int) (v v' : World) : Prop where
  fm : Fm tb cb x v'
  old : ∀ b, b < v.heap.size → b ≠ cb → v'.heap[b]? = v.heap[b]?
  size : v.heap.size ≤ v'.heap.size
  os : v'.os = v.os
  out : v'.output = v.output
theorem Fto.go {tb cb : Nat} {x : Int} {v v' : World} (h : Fto tb cb x v v') : Fgo tb cb x v v' := ⟨h.fm, fun b _ hb => h.old b hb, by rw [h.size]; exact Nat.le_refl _, h.os, h.out⟩
theorem Fgo.trans {tb cb : Nat} {x y : Int} {v v' v'' : World} (h : Fgo tb cb x v v') (k : Fgo tb cb y v' v'') : Fgo tb cb y v v'' :=
  ⟨k.fm, fun b hb hc => by rw [k.old b (by have := h.size; omega) hc, h.old b hb hc], Nat.le_trans h.size k.size, k.os.trans h.os, k.out.trans h.out⟩
set_option maxHeartbeats 4000000 in
set_option maxRecDepth 100000 in
theorem head5 {p : Option Addr} {Ch : Nat → Prop} {Stop : Goroutine → World → Prop} {main : Bool} {v w : World} {a : Act} {x0 : Int} {lb lo n cap cb tb : Nat} {now : Int} {k : Nat} (cs : List Frame) (K : List Item) (hk : k < n) (hn9 : (n : Int) < 9223372036854775808) (hA : A5 x0 (.slice p n cap) cb tb now k a)
    (hK : ∀ a', A5 x0 (.slice p n cap) cb tb now k a' → GoesI Try.prog main (DT (ScZ zn) Ch) Stop (G ((base 5).at a' K) cs) w) :
    GoesI Try.prog main (DT (ScZ zn) Ch) Stop (G ((base 5).at a (.code r58 :: .code (.cond (.tmp 30) .skip (.exit 0)) :: K)) cs) w := by
  obtain ⟨u, rfl, hg⟩ := lit119 hA.size hA.defers
  have u0 := (hg 0).symm.trans hA.t0
  have u1 := (hg 1).symm.trans hA.t1
  have u6 := (hg 6).symm.trans hA.t6
  have u7 := (hg 7).symm.trans hA.t7
  have u8 := (hg 8).symm.trans hA.t8
  have u9 := (hg 9).symm.trans hA.t9
  clear hg hA
  unfold r58 L5 C57 B5 Try.f5 seq2 seq1 blockC loopC
  simp only [Option.getD_some, lits, Nat.reduceAdd, u0, u1, u6, u7, u8, u9]
  clear u0 u1 u6 u7 u8 u9
  have hlt' : (k : Int) < (n : Int) := by omega
  have hlt2 : decide ((k : Int) < (n : Int)) = true := by simpa using hk
  refine goesI_region (dt_idle _ _) ?_
  simp only [List.size_toArray, List.length_cons, List.length_nil, Nat.reduceAdd, Nat.zero_add, List.range, List.range.loop]
  iterate 4
    (refine goesI_oper rfl rfl (by decide) (fun d K hK => ?_)
     go_simp
     refine hK _ _ ⟨dt_reads (fun e he => ?_), GoesI.at ?_ d⟩
     · have hm := mem_listed he
       simp [go_sem, *] at hm
       try exact ⟨_, _, hm⟩
     clear hK K)
  refine goesI_regionEnd (dt_idle _ _) ?_
  refine goesI_cond (dt_idle _ _) (t := true) rfl ?_
  refine goesI_skip (dt_idle _ _) ?_
  exact hK _ ⟨rfl, rfl, rfl, rfl, rfl, rfl, rfl, rfl⟩

set_option maxHeartbeats 4000000 in
set_option maxRecDepth 100000 in
theorem headN {p : Option Addr} {Ch : Nat → Prop} {Stop : Goroutine → World → Prop} {main : Bool} {v w : World} {a : Act} {x0 : Int} {lb lo n cap cb tb : Nat} {now : Int} {k : Nat} (cs : List Frame) (K : List Item) {K' : List Item} (hk : ¬ k < n) (hn9 : (n : Int) < 9223372036854775808) (hA : A5 x0 (.slice p n cap) cb tb now k a) (hx : exitTo 0 K = some K')
    (hK : ∀ a', A5 x0 (.slice p n cap) cb tb now k a' → GoesI Try.prog main (DT (ScZ zn) Ch) Stop (G ((base 5).at a' K') cs) w) :
    GoesI Try.prog main (DT (ScZ zn) Ch) Stop (G ((base 5).at a (.code r58 :: .code (.cond (.tmp 30) .skip (.exit 0)) :: K)) cs) w := by
  obtain ⟨u, rfl, hg⟩ := lit119 hA.size hA.defers
  have u0 := (hg 0).symm.trans hA.t0
  have u1 := (hg 1).symm.trans hA.t1
  have u6 := (hg 6).symm.trans hA.t6
  have u7 := (hg 7).symm.trans hA.t7
  have u8 := (hg 8).symm.trans hA.t8
  have u9 := (hg 9).symm.trans hA.t9
  clear hg hA
  unfold r58 L5 C57 B5 Try.f5 seq2 seq1 blockC loopC
  simp only [Option.getD_some, lits, Nat.reduceAdd, u0, u1, u6, u7, u8, u9]
  clear u0 u1 u6 u7 u8 u9
  have hlt' : ¬ (k : Int) < (n : Int) := by omega
  have hlt2 : decide ((k : Int) < (n : Int)) = false := by simpa using hk
  refine goesI_region (dt_idle _ _) ?_
  simp only [List.size_toArray, List.length_cons, List.length_nil, Nat.reduceAdd, Nat.zero_add, List.range, List.range.loop]
  iterate 4
    (refine goesI_oper rfl rfl (by decide) (fun d K hK => ?_)
     go_simp
     refine hK _ _ ⟨dt_reads (fun e he => ?_), GoesI.at ?_ d⟩
     · have hm := mem_listed he
       simp [go_sem, *] at hm
       try exact ⟨_, _, hm⟩
     clear hK K)
  refine goesI_regionEnd (dt_idle _ _) ?_
  refine goesI_cond (dt_idle _ _) (t := false) rfl ?_
  refine goesI_exit (dt_idle _ _) hx ?_
  exact hK _ ⟨rfl, rfl, rfl, rfl, rfl, rfl, rfl, rfl⟩

set_option maxHeartbeats 4000000 in
set_option maxRecDepth 100000 in
theorem get5 {p : Option Addr} {Ch : Nat → Prop} {Stop : Goroutine → World → Prop} {main : Bool} {v w : World} {a : Act} {x0 : Int} {lb lo n cap cb tb : Nat} {now : Int} {k : Nat} (c : Cl) (cs : List Frame) (K : List Item) (R : Code) (hk : k < n) (hvw : Rel zn v w) (hn : NoRow Ch v) (hA : A5 x0 (.slice (some ⟨lb, lo, none⟩) n cap) cb tb now k a) (c0 : v.cell? ⟨lb, lo + k * 4, none⟩ = some (I c.po)) (c1 : v.cell? ⟨lb, lo + k * 4 + 1, none⟩ = some (I c.ca)) (c2 : v.cell? ⟨lb, lo + k * 4 + 2, none⟩ = some (I c.cb)) (c3 : v.cell? ⟨lb, lo + k * 4 + 3, none⟩ = some (I c.cc))
    (hK : ∀ a' v' w', Rel zn v' w' → NoRow Ch v' → A5 x0 (.slice (some ⟨lb, lo, none⟩) n cap) cb tb now k a' → a'.tmps.getD 10 undef = Pt v.heap.size 0 → a'.tmps.getD 11 undef = .bool true → a'.tmps.getD 38 undef = I c.po → v'.heap = v.heap.push (.cells #[I c.po, I c.ca, I c.cb, I c.cc] 39) → v'.os = v.os → v'.output = v.output → GoesI Try.prog main (DT (ScZ zn) Ch) Stop (G ((base 5).at a' (.code SW5 :: .inBlock 2 :: .code R :: K)) cs) w') :
    GoesI Try.prog main (DT (ScZ zn) Ch) Stop (G ((base 5).at a (.code r510 :: .code (.seq r511 (.seq (.seq r512 (.block 2 SW5)) R)) :: K)) cs) w := by
  refine goesI_plain (z := zn) (wr := true) (L := LT) (I := NoRow Ch) hE fineT noRow_keeps (fun v v' w w' es hi hr ho he => dt_of_z v v' w w' es hi hr ho he) hvw fineR510 hA.defers (by simp [base]) hn
    (Q := fun a w' => A5 x0 (.slice (some ⟨lb, lo, none⟩) n cap) cb tb now k a ∧ a.tmps.getD 10 undef = Pt v.heap.size 0 ∧ w'.heap = v.heap.push (.cells #[I c.po, I c.ca, I c.cb, I c.cc] 39) ∧ w'.os = v.os ∧ w'.output = v.output) (fun τ => r510_wp (v := onTape v τ 0) c hk hA c0 c1 c2 c3) ?_
  rintro a1 v1 w1 ⟨hA1, h10, eh, eo, eu⟩ hr1 hn1 -
  clear hA c0 c1 c2 c3
  have b0 : v1.cell? ⟨v.heap.size, 0, none⟩ = some (I c.po) := by
    unfold World.cell?
    rw [show v1.heap[v.heap.size]? = some (.cells #[I c.po, I c.ca, I c.cb, I c.cc] 39) by rw [eh]; exact Array.getElem?_push_size]
    rfl
  have e0 : w1.cell? ⟨v.heap.size, 0, none⟩ = some (I c.po) := by rw [hr1.cell?]; exact b0
  obtain ⟨u, rfl, hg⟩ := lit119 hA1.size hA1.defers
  have u0 := (hg 0).symm.trans hA1.t0
  have u1 := (hg 1).symm.trans hA1.t1
  have u6 := (hg 6).symm.trans hA1.t6
  have u7 := (hg 7).symm.trans hA1.t7
  have u8 := (hg 8).symm.trans hA1.t8
  have u9 := (hg 9).symm.trans hA1.t9
  have u10 := (hg 10).symm.trans h10
  clear hg hA1 h10 b0
  refine goesI_seq (dt_idle _ _) ?_
  have hS : SW5 = SW5 := rfl
  generalize hSW : SW5 = SW at hK ⊢
  unfold r511 r512 I5 L5 C57 B5 Try.f5 seq2 seq1 blockC loopC
  simp only [Option.getD_some, lits, Nat.reduceAdd, u0, u1, u6, u7, u8, u9, u10]
  clear u0 u1 u6 u7 u8 u9 u10
  refine goesI_region (dt_idle _ _) ?_
  simp only [List.size_toArray, List.length_cons, List.length_nil, Nat.reduceAdd, Nat.zero_add, List.range, List.range.loop]
  iterate 1
    (refine goesI_oper rfl rfl (by decide) (fun d K hK => ?_)
     go_simp
     refine hK _ _ ⟨dt_reads (fun e he => ?_), GoesI.at ?_ d⟩
     · have hm := mem_listed he
       simp [go_sem, *] at hm
       try exact ⟨_, _, hm⟩
     clear hK K)
  refine goesI_regionEnd (dt_idle _ _) ?_
  refine goesI_seq (dt_idle _ _) ?_
  refine goesI_seq (dt_idle _ _) ?_
  refine goesI_region (dt_idle _ _) ?_
  simp only [List.size_toArray, List.length_cons, List.length_nil, Nat.reduceAdd, Nat.zero_add, List.range, List.range.loop]
  iterate 2
    (refine goesI_oper rfl rfl (by decide) (fun d K hK => ?_)
     go_simp
     refine hK _ _ ⟨dt_reads (fun e he => ?_), GoesI.at ?_ d⟩
     · have hm := mem_listed he
       simp [go_sem, *] at hm
       try exact ⟨_, _, hm⟩
     clear hK K)
  refine goesI_regionEnd (dt_idle _ _) ?_
  refine goesI_block (dt_idle _ _) ?_
  exact hK _ v1 w1 hr1 hn1 ⟨rfl, rfl, rfl, rfl, rfl, rfl, rfl, rfl⟩ rfl rfl rfl eh eo eu

set_option maxHeartbeats 4000000 in
set_option maxRecDepth 100000 in
theorem tail5 {p : Option Addr} {Ch : Nat → Prop} {Stop : Goroutine → World → Prop} {main : Bool} {v w : World} {a : Act} {x0 : Int} {lb lo n cap cb tb : Nat} {now : Int} {k : Nat} (cs : List Frame) (K : List Item) (hk : (k : Int) + 1 < 9223372036854775808) (hvw : Rel zn v w) (hn : NoRow Ch v) (hm : Fm tb cb now v) (hA : A5 x0 (.slice p n cap) cb tb now k a) (h11 : a.tmps.getD 11 undef = .bool true)
    (hK : ∀ a' v' w', Rel zn v' w' → NoRow Ch v' → Fto tb cb now v v' → A5 x0 (.slice p n cap) cb tb now ((k + 1 : Nat) : Int) a' → GoesI Try.prog main (DT (ScZ zn) Ch) Stop (G ((base 5).at a' K) cs) w') :
    GoesI Try.prog main (DT (ScZ zn) Ch) Stop (G ((base 5).at a (.inBlock 2 :: .code t5 :: .inBlock 1 :: .code r59 :: K)) cs) w := by
  obtain ⟨u, rfl, hg⟩ := lit119 hA.size hA.defers
  have u0 := (hg 0).symm.trans hA.t0
  have u1 := (hg 1).symm.trans hA.t1
  have u6 := (hg 6).symm.trans hA.t6
  have u7 := (hg 7).symm.trans hA.t7
  have u8 := (hg 8).symm.trans hA.t8
  have u9 := (hg 9).symm.trans hA.t9
  have u11 := (hg 11).symm.trans h11
  clear hg hA h11
  unfold t5 r59 I5 L5 C57 B5 Try.f5 seq2 seq1 blockC loopC
  simp only [Option.getD_some, lits, Nat.reduceAdd, u0, u1, u6, u7, u8, u9, u11]
  clear u0 u1 u6 u7 u8 u9 u11
  refine goesI_inBlock (dt_idle _ _) ?_
  refine goesI_seq (dt_idle _ _) ?_
  refine goesI_region (dt_idle _ _) ?_
  simp only [List.size_toArray, List.length_cons, List.length_nil, Nat.reduceAdd, Nat.zero_add, List.range, List.range.loop]
  iterate 2
    (refine goesI_oper rfl rfl (by decide) (fun d K hK => ?_)
     go_simp
     refine hK _ _ ⟨dt_reads (fun e he => ?_), GoesI.at ?_ d⟩
     · have hm := mem_listed he
       simp [go_sem, *] at hm
       try exact ⟨_, _, hm⟩
     clear hK K)
  refine goesI_into (f := 28) (fn := Try.f28) (args := #[Pt cb 0, Pt tb 0]) (dt_idle _ _) rfl rfl (by decide) rfl (by simp [Act.eval]) Try.func28 (by decide) rfl ?_
  refine free17 now _ rfl hvw hn hm (fun v2 w2 r2 n2 h2 => ?_) _ rfl
  rw [show (effLoad now).2.2 = I now from rfl]
  have h2 : Fto tb cb now v v2 := h2
  clear hvw hn
  iterate 1
    (refine goesI_oper rfl rfl (by decide) (fun d K hK => ?_)
     go_simp
     refine hK _ _ ⟨dt_reads (fun e he => ?_), GoesI.at ?_ d⟩
     · have hm := mem_listed he
       simp [go_sem, *] at hm
       try exact ⟨_, _, hm⟩
     clear hK K)
  refine goesI_regionEnd (dt_idle _ _) ?_
  refine goesI_seq (dt_idle _ _) ?_
  refine goesI_region (dt_idle _ _) ?_
  simp only [List.size_toArray, List.length_cons, List.length_nil, Nat.reduceAdd, Nat.zero_add, List.range, List.range.loop]
  iterate 7
    (refine goesI_oper rfl rfl (by decide) (fun d K hK => ?_)
     go_simp
     refine hK _ _ ⟨dt_reads (fun e he => ?_), GoesI.at ?_ d⟩
     · have hm := mem_listed he
       simp [go_sem, *] at hm
       try exact ⟨_, _, hm⟩
     clear hK K)
  refine goesI_regionEnd (dt_idle _ _) ?_
  refine goesI_cond (dt_idle _ _) (t := false) rfl ?_
  refine goesI_skip (dt_idle _ _) ?_
  refine goesI_inBlock (dt_idle _ _) ?_
  refine goesI_region (dt_idle _ _) ?_
  simp only [List.size_toArray, List.length_cons, List.length_nil, Nat.reduceAdd, Nat.zero_add, List.range, List.range.loop]
  iterate 3
    (refine goesI_oper rfl rfl (by decide) (fun d K hK => ?_)
     go_simp
     refine hK _ _ ⟨dt_reads (fun e he => ?_), GoesI.at ?_ d⟩
     · have hm := mem_listed he
       simp [go_sem, *] at hm
       try exact ⟨_, _, hm⟩
     clear hK K)
  refine goesI_regionEnd (dt_idle _ _) ?_
  refine hK _ v2 w2 r2 n2 h2 ⟨rfl, rfl, rfl, rfl, rfl, rfl, rfl, ?_⟩
  show Value.int .i64 (IntKind.i64.wrap ((k : Int) + 1)) = I ((k + 1 : Nat) : Int)
  rw [Go.IntWalk.i64_in _ (by omega)]
  rfl
end Go.Proofs.Ytfjjoohflcchnaa

namespace Go.Proofs.Ytfjjoohflcchnaa
open Go Go.Lift Go.Conc Go.RowKit

/-- The calls lie there. -/
def InL (v : World) (lb lo : Nat) (calls : List Cl) : Prop := ∀ (k : Nat) (c : Cl), calls[k]? = some c → v.cell? ⟨lb, lo + k * 4, none⟩ = some (I c.po) ∧ v.cell? ⟨lb, lo + k * 4 + 1, none⟩ = some (I c.ca) ∧ v.cell? ⟨lb, lo + k * 4 + 2, none⟩ = some (I c.cb) ∧ v.cell? ⟨lb, lo + k * 4 + 3, none⟩ = some (I c.cc)
theorem InL.go {v v' : World} {lb lo : Nat} {calls : List Cl} (h : InL v lb lo calls) (e : v'.heap[lb]? = v.heap[lb]?) : InL v' lb lo calls := fun k c hc => by
  have := h k c hc
  exact ⟨by rw [World.cell?_of_block (w := v) (w' := v') e]; exact this.1, by rw [World.cell?_of_block (w := v) (w' := v') e]; exact this.2.1, by rw [World.cell?_of_block (w := v) (w' := v') e]; exact this.2.2.1, by rw [World.cell?_of_block (w := v) (w' := v') e]; exact this.2.2.2⟩

theorem loop5 {Ch : Nat → Prop} {Stop : Goroutine → World → Prop} {main : Bool} {x0 : Int} {p : Option Addr} {lb lo n cap cb tb : Nat} (hp : 0 < n → p = some ⟨lb, lo, none⟩) (calls : List Cl) (hl : calls.length = n) (hn9 : (n : Int) < 9223372036854775808) (cs : List Frame) (kk : List Item) : ∀ (m k : Nat) (a : Act) (v w : World) (now : Int), k + m = n → Rel zn v w → NoRow Ch v → A5 x0 (.slice p n cap) cb tb now k a → Fm tb cb now v → InL v lb lo calls → (0 < n → lb ≠ cb) →
    (∀ a' v' w' now', Rel zn v' w' → NoRow Ch v' → Fgo tb cb now' v v' → A5 x0 (.slice p n cap) cb tb now' n a' → GoesI Try.prog main (DT (ScZ zn) Ch) Stop (G ((base 5).at a' kk) cs) w') →
    GoesI Try.prog main (DT (ScZ zn) Ch) Stop (G ((base 5).at a (.code L5 :: .inLoop L5 :: .inBlock 0 :: kk)) cs) w
  | 0, k, a, v, w, now, hkm, hr, hn, hA, hm, hI, hne, hK => by
    have hkn : k = n := by omega
    rw [eL5]
    refine goesI_seq (dt_idle _ _) ?_
    refine goesI_seq (dt_idle _ _) ?_
    refine headN (v := v) (lb := lb) (lo := lo) cs _ (K' := kk) (by omega) hn9 hA (by simp [exitTo]) (fun a' hA' => ?_)
    rw [hkn] at hA'
    exact hK a' v w now hr hn (Fto.refl hm).go hA'
  | m + 1, k, a, v, w, now, hkm, hr, hn, hA, hm, hI, hne, hK => by
    have hkn : k < n := by omega
    obtain rfl := hp (by omega)
    obtain ⟨c, hc⟩ : ∃ c, calls[k]? = some c := ⟨_, List.getElem?_eq_getElem (by omega)⟩
    have h4 := hI k c hc
    have hlb : lb < v.heap.size := World.block_lt_of_cell? _ _ h4.1
    rw [eL5]
    refine goesI_seq (dt_idle _ _) ?_
    refine goesI_seq (dt_idle _ _) ?_
    refine head5 (v := v) (lb := lb) (lo := lo) cs _ hkn hn9 hA (fun a1 hA1 => ?_)
    refine goesI_seq (dt_idle _ _) ?_
    refine goesI_block (dt_idle _ _) ?_
    rw [eI5]
    refine goesI_seq (dt_idle _ _) ?_
    refine get5 (p := none) c cs _ t5 hkn hr hn hA1 h4.1 h4.2.1 h4.2.2.1 h4.2.2.2 (fun a2 v2 w2 r2 n2 hA2 h10 h11 h38 eh eo eu => ?_)
    rw [← eI5, ← eL5]
    have hold : ∀ b, b < v.heap.size → v2.heap[b]? = v.heap[b]? := fun b hb => by rw [eh, Array.getElem?_push, if_neg (by omega)]
    have hs2 : v2.heap.size = v.heap.size + 1 := by rw [eh]; simp
    have htl : tb < v.heap.size := (Array.getElem?_eq_some_iff.1 hm.thr).1
    have hcl : cb < v.heap.size := (Array.getElem?_eq_some_iff.1 hm.cel).1
    have hm2 : Fm tb cb now v2 := ⟨by rw [hold tb htl]; exact hm.thr, by rw [hold cb hcl]; exact hm.cel⟩
    have g2 : Fgo tb cb now v v2 := ⟨hm2, fun b hb _ => hold b hb, by omega, eo, eu⟩
    refine sw_all c cs _ r2 n2 hm2 (by rw [eh]; exact Array.getElem?_push_size) hA2 h10 h11 h38 (fun a3 v3 w3 r3 n3 h3 hA3 h311 => ?_)
    refine tail5 (lb := lb) (lo := lo) cs _ (by omega) r3 n3 h3.fm hA3 h311 (fun a4 v4 w4 r4 n4 h4' hA4 => ?_)
    refine goesI_inLoop (dt_idle _ _) ?_
    have g4 : Fgo tb cb (nextC c now) v v4 := (g2.trans h3.go).trans h4'.go
    exact loop5 hp calls hl hn9 cs kk m (k + 1) a4 v4 w4 (nextC c now) (by omega) r4 n4 hA4 g4.fm (hI.go (g4.old lb hlb (hne (by omega)))) hne (fun a' v' w' now' q1 q2 q3 q4 => hK a' v' w' now' q1 q2 (g4.trans q3) q4)
end Go.Proofs.Ytfjjoohflcchnaa

namespace Go.Proofs.Ytfjjoohflcchnaa
open Go Go.Lift Go.Conc Go.RowKit

noncomputable def q52 : Code := seq1 (seq2 (seq2 B5))
noncomputable def q53 : Code := seq1 (seq2 (seq2 (seq2 B5)))
noncomputable def q55 : Code := seq1 (seq2 (seq2 (seq2 (seq2 B5))))
noncomputable def q56 : Code := seq1 (seq2 (seq2 (seq2 (seq2 (seq2 B5)))))
noncomputable def q57 : Code := seq1 C57
noncomputable def q535 : Code := seq1 (seq2 (seq2 (seq2 (seq2 (seq2 (seq2 (seq2 B5)))))))
theorem fineQ2 : fineCode Try.prog true LO q52 := fineCode_ask callO extT (by kernel_rfl)
theorem fineQ3 : fineCode Try.prog true LO q53 := fineCode_ask callO extT (by kernel_rfl)
theorem fineQ5 : fineCode Try.prog true LO q55 := fineCode_ask callO extT (by kernel_rfl)
theorem fineQ6 : fineCode Try.prog true LO q56 := fineCode_ask callO extT (by kernel_rfl)
theorem fineQ7 : fineCode Try.prog true LO q57 := fineCode_ask callO extT (by kernel_rfl)
theorem fineQ35 : fineCode Try.prog true LO q535 := fineCode_ask callO extT (by kernel_rfl)
theorem eB5 : B5 = .seq (seq1 B5) (.seq (seq1 (seq2 B5)) (.seq q52 (.seq q53 (.seq q55 (.seq q56 (.seq (.seq q57 (.block 0 (.loop L5))) (.seq q535 .ret))))))) := by kernel_rfl

/-- Ahead of the loop. -/
structure A0 (x0 : Int) (lst : Value) (a : Act) : Prop where
  size : a.tmps.size = 119
  defers : a.defers = []
  t0 : a.tmps.getD 0 undef = I x0
  t1 : a.tmps.getD 1 undef = lst
  t5 : a.tmps.getD 5 undef = .bool true
section
variable {v : World} {a : Act} {x0 : Int} {lst : Value} {cb tb : Nat}
set_option maxHeartbeats 4000000 in
set_option maxRecDepth 100000 in
theorem q52_wp (hA : A0 x0 lst a) : q52.wp Try.prog (fun e a w' => e = .normal ∧ A0 x0 lst a ∧ a.tmps.getD 6 undef = Pt v.heap.size 0 ∧ w'.heap = v.heap.push (.cells #[I 0, I x0] 94) ∧ w'.os = v.os ∧ w'.output = v.output) a v := by
  obtain ⟨u, rfl, hg⟩ := lit119 hA.size hA.defers
  have u0 := (hg 0).symm.trans hA.t0
  have u1 := (hg 1).symm.trans hA.t1
  have u5 := (hg 5).symm.trans hA.t5
  clear hg hA
  show Code.wp Try.prog (seq1 (seq2 (seq2 B5))) _ _ _
  unfold B5 Try.f5 seq2 seq1
  simp only [Option.getD_some, lits, Nat.reduceAdd, u0, u1, u5]
  clear u0 u1 u5
  go_wp2_with (first
    | (go_at_call 21; refine ((body10n v x0).calls Try.func21 rfl).mono ?_; rintro e w1 ⟨_, rfl, rfl, hh, ho, hu⟩))
  exact ⟨rfl, rfl, rfl, rfl, rfl⟩
set_option maxHeartbeats 4000000 in
set_option maxRecDepth 100000 in
theorem q53_wp (hA : A0 x0 lst a) (h6 : a.tmps.getD 6 undef = Pt cb 0) : q53.wp Try.prog (fun e a w' => e = .normal ∧ A0 x0 lst a ∧ a.tmps.getD 6 undef = Pt cb 0 ∧ w'.heap = v.heap ∧ w'.os = v.os ∧ w'.output = v.output) a v := by
  obtain ⟨u, rfl, hg⟩ := lit119 hA.size hA.defers
  have u0 := (hg 0).symm.trans hA.t0
  have u1 := (hg 1).symm.trans hA.t1
  have u5 := (hg 5).symm.trans hA.t5
  have u6 := (hg 6).symm.trans h6
  clear hg hA h6
  show Code.wp Try.prog (seq1 (seq2 (seq2 (seq2 B5)))) _ _ _
  unfold B5 Try.f5 seq2 seq1
  simp only [Option.getD_some, lits, Nat.reduceAdd, u0, u1, u5, u6]
  clear u0 u1 u5 u6
  go_wp2_with fail
  exact ⟨rfl, rfl, rfl, rfl, rfl⟩
set_option maxHeartbeats 4000000 in
set_option maxRecDepth 100000 in
theorem q55_wp (hA : A0 x0 lst a) (h6 : a.tmps.getD 6 undef = Pt cb 0) : q55.wp Try.prog (fun e a w' => e = .normal ∧ A0 x0 lst a ∧ a.tmps.getD 6 undef = Pt cb 0 ∧ a.tmps.getD 7 undef = Pt v.heap.size 0 ∧ w'.heap = v.heap.push (.cells #[.pointer none, I 3, .chan none, I 0, I 0, I 0, I 0] 97) ∧ w'.os = v.os ∧ w'.output = v.output) a v := by
  obtain ⟨u, rfl, hg⟩ := lit119 hA.size hA.defers
  have u0 := (hg 0).symm.trans hA.t0
  have u1 := (hg 1).symm.trans hA.t1
  have u5 := (hg 5).symm.trans hA.t5
  have u6 := (hg 6).symm.trans h6
  clear hg hA h6
  show Code.wp Try.prog (seq1 (seq2 (seq2 (seq2 (seq2 B5))))) _ _ _
  unfold B5 Try.f5 seq2 seq1
  simp only [Option.getD_some, lits, Nat.reduceAdd, u0, u1, u5, u6]
  clear u0 u1 u5 u6
  go_wp2_with (first
    | (go_at_call 22; refine ((body11 v).calls Try.func22 rfl).mono ?_; rintro e w1 ⟨_, rfl, rfl, hh, ho, hu⟩))
  exact ⟨rfl, rfl, rfl, rfl, rfl⟩
set_option maxHeartbeats 4000000 in
set_option maxRecDepth 100000 in
theorem q56_wp (hA : A0 x0 lst a) (h6 : a.tmps.getD 6 undef = Pt cb 0) (h7 : a.tmps.getD 7 undef = Pt tb 0) : q56.wp Try.prog (fun e a w' => e = .normal ∧ A0 x0 lst a ∧ a.tmps.getD 6 undef = Pt cb 0 ∧ a.tmps.getD 7 undef = Pt tb 0 ∧ a.tmps.getD 8 undef = I x0 ∧ w'.heap = v.heap ∧ w'.os = v.os ∧ w'.output = v.output) a v := by
  obtain ⟨u, rfl, hg⟩ := lit119 hA.size hA.defers
  have u0 := (hg 0).symm.trans hA.t0
  have u1 := (hg 1).symm.trans hA.t1
  have u5 := (hg 5).symm.trans hA.t5
  have u6 := (hg 6).symm.trans h6
  have u7 := (hg 7).symm.trans h7
  clear hg hA h6 h7
  show Code.wp Try.prog (seq1 (seq2 (seq2 (seq2 (seq2 (seq2 B5)))))) _ _ _
  unfold B5 Try.f5 seq2 seq1
  simp only [Option.getD_some, lits, Nat.reduceAdd, u0, u1, u5, u6, u7]
  clear u0 u1 u5 u6 u7
  go_wp2_with fail
  exact ⟨rfl, rfl, rfl, rfl, rfl⟩
set_option maxHeartbeats 4000000 in
set_option maxRecDepth 100000 in
theorem q57_wp (hA : A0 x0 lst a) (h6 : a.tmps.getD 6 undef = Pt cb 0) (h7 : a.tmps.getD 7 undef = Pt tb 0) (h8 : a.tmps.getD 8 undef = I x0) : q57.wp Try.prog (fun e a w' => e = .normal ∧ A5 x0 lst cb tb x0 ((0 : Nat) : Int) a ∧ w'.heap = v.heap ∧ w'.os = v.os ∧ w'.output = v.output) a v := by
  obtain ⟨u, rfl, hg⟩ := lit119 hA.size hA.defers
  have u0 := (hg 0).symm.trans hA.t0
  have u1 := (hg 1).symm.trans hA.t1
  have u5 := (hg 5).symm.trans hA.t5
  have u6 := (hg 6).symm.trans h6
  have u7 := (hg 7).symm.trans h7
  have u8 := (hg 8).symm.trans h8
  clear hg hA h6 h7 h8
  show Code.wp Try.prog (seq1 C57) _ _ _
  unfold C57 B5 Try.f5 seq2 seq1
  simp only [Option.getD_some, lits, Nat.reduceAdd, u0, u1, u5, u6, u7, u8]
  clear u0 u1 u5 u6 u7 u8
  go_wp2_with fail
  exact ⟨rfl, rfl, rfl, rfl, rfl, rfl, rfl, rfl⟩
set_option maxHeartbeats 4000000 in
set_option maxRecDepth 100000 in
theorem q535_wp {now i : Int} (hA : A5 x0 lst cb tb now i a) (hc : v.cell? ⟨cb, 0, none⟩ = some (I 0)) : q535.wp Try.prog (fun e a w' => e = .normal ∧ a.tmps.getD 4 undef = .bool true ∧ w'.heap = v.heap ∧ w'.os = v.os ∧ w'.output = v.output) a v := by
  obtain ⟨u, rfl, hg⟩ := lit119 hA.size hA.defers
  have u6 := (hg 6).symm.trans hA.t6
  clear hg hA
  show Code.wp Try.prog (seq1 (seq2 (seq2 (seq2 (seq2 (seq2 (seq2 (seq2 B5)))))))) _ _ _
  unfold B5 Try.f5 seq2 seq1
  simp only [Option.getD_some, lits, Nat.reduceAdd, u6]
  clear u6
  go_wp2_with (first
    | (go_at_call 29; refine ((body18 v cb hc).calls Try.func29 rfl).mono ?_; rintro e w1 ⟨_, rfl, rfl, rfl⟩))
  try exact ⟨rfl, rfl, rfl, rfl⟩
end
end Go.Proofs.Ytfjjoohflcchnaa

namespace Go.Proofs.Ytfjjoohflcchnaa
open Go Go.Lift Go.Conc Go.RowKit

theorem InL.grows {v v' : World} {lb lo : Nat} {calls : List Cl} (h : InL v lb lo calls) (g : ∀ b, b < v.heap.size → v'.heap[b]? = v.heap[b]?) : InL v' lb lo calls := fun k c hc => by
  have h4 := h k c hc
  have hl : lb < v.heap.size := World.block_lt_of_cell? _ _ h4.1
  exact h.go (g lb hl) k c hc

set_option maxHeartbeats 4000000 in
set_option maxRecDepth 100000 in
theorem law5_in {Ch : Nat → Prop} {Stop : Goroutine → World → Prop} {main : Bool} {v w : World} (x0 : Int) (p : Option Addr) (n cap lb lo : Nat) (calls : List Cl) (hp : 0 < n → p = some ⟨lb, lo, none⟩) (hl : calls.length = n) (hn9 : (n : Int) < 9223372036854775808)
    (hk : ∀ (w' : World) (bd : Frame) (ad : Act) (od : Array Oper) (qd : Nat) (rd : List Nat) (oe : Oper) (kd : List Item), (∃ d, w' = w.at d) → od[qd]? = some oe →
      (∀ (Ch : Nat → Prop) (Stop : Goroutine → World → Prop) (v1 w1 : World), Rel zn v1 w1 → NoRow Ch v1 → InL v1 lb lo calls → (∀ a' v' w' todo, Rel zn v' w' → Grows v1 v' → a'.defers = [] → a'.tmps.getD 4 undef = .bool true → GoesI Try.prog main (DT (ScZ zn) Ch) Stop (G { (base 5).at a' todo with mode := .returning } []) w') → GoesI Try.prog main (DT (ScZ zn) Ch) Stop (G (bd.at (ad.put oe.dst (.bool true)) (.inRegion od rd :: kd)) []) w1) →
      GoesI Try.prog main (DT (ScZ zn) Ch) Stop (G ((base 17).at { tmps := Array.replicate 72 undef, defers := [] } [.code B6]) [bd.at ad (.inRegion od (qd :: rd) :: kd)]) w') :
    GoesI Try.prog main (DT (ScZ zn) Ch) Stop (G ((base 5).at { tmps := #[I x0, .slice p n cap] ++ Array.replicate 117 undef, defers := [] } [.code B5]) []) w := by
  rw [eB5]
  simp only [Array.replicate_succ, Array.replicate_zero, List.push_toArray, List.append_toArray, List.nil_append, List.cons_append]
  refine goesI_seq (dt_idle _ _) ?_
  generalize hR : (Code.seq q52 (.seq q53 (.seq q55 (.seq q56 (.seq (.seq q57 (.block 0 (.loop L5))) (.seq q535 .ret)))))) = R5
  unfold B5 Try.f5 seq1 seq2
  simp only [Option.getD_some]
  refine goesI_region (dt_idle _ _) ?_
  simp only [List.size_toArray, List.length_cons, List.length_nil, Nat.reduceAdd, Nat.zero_add, List.range, List.range.loop]
  (refine goesI_oper rfl rfl (by decide) (fun d K hK => ?_)
   go_simp
   refine hK _ _ ⟨dt_reads (fun e he => ?_), GoesI.at ?_ d⟩
   · have hm := mem_listed he
     simp [go_sem, *] at hm
   clear hK K)
  refine goesI_regionEnd (dt_idle _ _) ?_
  refine goesI_seq (dt_idle _ _) ?_
  refine goesI_region (dt_idle _ _) ?_
  simp only [List.size_toArray, List.length_cons, List.length_nil, Nat.reduceAdd, Nat.zero_add, List.range, List.range.loop]
  refine goesI_into (f := 17) (fn := Try.f17) (args := #[]) (dt_idle _ _) rfl rfl (by decide) rfl (by simp [Act.eval]) Try.func17 (by decide) rfl ?_
  refine hk w _ _ _ _ _ _ _ ⟨w.drawn, rfl⟩ rfl (fun Ch Stop v1 w1 hvw hn hI hend => ?_)
  clear hk
  (refine goesI_oper rfl rfl (by decide) (fun d K hK => ?_)
   go_simp
   refine hK _ _ ⟨dt_reads (fun e he => ?_), GoesI.at ?_ d⟩
   · have hm := mem_listed he
     simp [go_sem, *] at hm
   clear hK K)
  refine goesI_regionEnd (dt_idle _ _) ?_
  subst hR
  refine (show ∀ a : Act, A0 x0 (.slice p n cap) a → GoesI Try.prog main (DT (ScZ zn) Ch) Stop (G ((base 5).at a [.code (Code.seq q52 (.seq q53 (.seq q55 (.seq q56 (.seq (.seq q57 (.block 0 (.loop L5))) (.seq q535 .ret))))))]) []) w1 from fun a hA => ?_) _ ⟨rfl, rfl, rfl, rfl, rfl⟩
  refine goesI_seq (dt_idle _ _) ?_
  refine goesI_plain (z := zn) (wr := true) (L := LO) (I := NoRow Ch) hE fineO noRow_keeps (fun v v' w w' es hi hr ho he => dt_of_z v v' w w' es hi hr ho he) hvw fineQ2 hA.defers (by simp [base]) hn
    (Q := fun a w' => A0 x0 (.slice p n cap) a ∧ a.tmps.getD 6 undef = Pt v1.heap.size 0 ∧ w'.heap = v1.heap.push (.cells #[I 0, I x0] 94) ∧ w'.os = v1.os ∧ w'.output = v1.output) (fun τ => q52_wp (v := onTape v1 τ 0) hA) ?_
  rintro a2 v2 w2 ⟨hA2, h62, e2, o2, u2⟩ hr2 hn2 -
  refine goesI_seq (dt_idle _ _) ?_
  refine goesI_plain (z := zn) (wr := true) (L := LO) (I := NoRow Ch) hE fineO noRow_keeps (fun v v' w w' es hi hr ho he => dt_of_z v v' w w' es hi hr ho he) hr2 fineQ3 hA2.defers (by simp [base]) hn2
    (Q := fun a w' => A0 x0 (.slice p n cap) a ∧ a.tmps.getD 6 undef = Pt v1.heap.size 0 ∧ w'.heap = v2.heap ∧ w'.os = v2.os ∧ w'.output = v2.output) (fun τ => q53_wp (v := onTape v2 τ 0) hA2 h62) ?_
  rintro a3 v3 w3 ⟨hA3, h63, e3, o3, u3⟩ hr3 hn3 -
  refine goesI_seq (dt_idle _ _) ?_
  refine goesI_plain (z := zn) (wr := true) (L := LO) (I := NoRow Ch) hE fineO noRow_keeps (fun v v' w w' es hi hr ho he => dt_of_z v v' w w' es hi hr ho he) hr3 fineQ5 hA3.defers (by simp [base]) hn3
    (Q := fun a w' => A0 x0 (.slice p n cap) a ∧ a.tmps.getD 6 undef = Pt v1.heap.size 0 ∧ a.tmps.getD 7 undef = Pt v3.heap.size 0 ∧ w'.heap = v3.heap.push (.cells #[.pointer none, I 3, .chan none, I 0, I 0, I 0, I 0] 97) ∧ w'.os = v3.os ∧ w'.output = v3.output) (fun τ => q55_wp (v := onTape v3 τ 0) hA3 h63) ?_
  rintro a4 v4 w4 ⟨hA4, h64, h74, e4, o4, u4⟩ hr4 hn4 -
  refine goesI_seq (dt_idle _ _) ?_
  refine goesI_plain (z := zn) (wr := true) (L := LO) (I := NoRow Ch) hE fineO noRow_keeps (fun v v' w w' es hi hr ho he => dt_of_z v v' w w' es hi hr ho he) hr4 fineQ6 hA4.defers (by simp [base]) hn4
    (Q := fun a w' => A0 x0 (.slice p n cap) a ∧ a.tmps.getD 6 undef = Pt v1.heap.size 0 ∧ a.tmps.getD 7 undef = Pt v3.heap.size 0 ∧ a.tmps.getD 8 undef = I x0 ∧ w'.heap = v4.heap ∧ w'.os = v4.os ∧ w'.output = v4.output) (fun τ => q56_wp (v := onTape v4 τ 0) hA4 h64 h74) ?_
  rintro a5 v5 w5 ⟨hA5, h65, h75, h85, e5, o5, u5⟩ hr5 hn5 -
  refine goesI_seq (dt_idle _ _) ?_
  refine goesI_seq (dt_idle _ _) ?_
  refine goesI_plain (z := zn) (wr := true) (L := LO) (I := NoRow Ch) hE fineO noRow_keeps (fun v v' w w' es hi hr ho he => dt_of_z v v' w w' es hi hr ho he) hr5 fineQ7 hA5.defers (by simp [base]) hn5
    (Q := fun a w' => A5 x0 (.slice p n cap) v1.heap.size v3.heap.size x0 ((0 : Nat) : Int) a ∧ w'.heap = v5.heap ∧ w'.os = v5.os ∧ w'.output = v5.output) (fun τ => q57_wp (v := onTape v5 τ 0) hA5 h65 h75 h85) ?_
  rintro a6 v6 w6 ⟨hA6, e6, o6, u6⟩ hr6 hn6 -
  have hh : v6.heap = (v1.heap.push (.cells #[I 0, I x0] 94)).push (.cells #[.pointer none, I 3, .chan none, I 0, I 0, I 0, I 0] 97) := by rw [e6, e5, e4, e3, e2]
  have s3 : v3.heap.size = v1.heap.size + 1 := by rw [e3, e2]; simp
  have gr : Grows v1 v6 := ⟨by rw [hh]; simp; omega, fun b hb => by rw [hh, Array.getElem?_push, if_neg (by simp; omega), Array.getElem?_push, if_neg (by omega)], by rw [o6, o5, o4, o3, o2], by rw [u6, u5, u4, u3, u2]⟩
  have hm : Fm v3.heap.size v1.heap.size x0 v6 := ⟨by rw [hh, s3, Array.getElem?_push, if_pos (by simp)], by rw [hh, Array.getElem?_push, if_neg (by simp), Array.getElem?_push, if_pos rfl]⟩
  refine goesI_block (dt_idle _ _) ?_
  refine goesI_loop (dt_idle _ _) ?_
  refine loop5 hp calls hl hn9 [] _ n 0 a6 v6 w6 x0 (by omega) hr6 hn6 hA6 hm (hI.grows gr.old) (fun h0 => ?_) (fun a7 v7 w7 now7 hr7 hn7 h7 hA7 => ?_)
  · obtain ⟨c, hc⟩ : ∃ c, calls[0]? = some c := ⟨_, List.getElem?_eq_getElem (by omega)⟩
    have := World.block_lt_of_cell? _ _ (hI 0 c hc).1
    simp only at this
    omega
  refine goesI_seq (dt_idle _ _) ?_
  refine goesI_plain (z := zn) (wr := true) (L := LO) (I := NoRow Ch) hE fineO noRow_keeps (fun v v' w w' es hi hr ho he => dt_of_z v v' w w' es hi hr ho he) hr7 fineQ35 hA7.defers (by simp [base]) hn7
    (Q := fun a w' => a.tmps.getD 4 undef = .bool true ∧ w'.heap = v7.heap ∧ w'.os = v7.os ∧ w'.output = v7.output) (fun τ => q535_wp (v := onTape v7 τ 0) hA7 h7.fm.cells.2.1) ?_
  rintro a8 v8 w8 ⟨h48, e8, o8, u8⟩ hr8 hn8 hd8
  refine GoesI.ctl rfl (fun _ => stepG_ret') (dt_idle _ _) ?_
  refine hend a8 v8 w8 _ hr8 ⟨?_, fun b hb => ?_, by rw [o8, h7.os]; exact gr.os, by rw [u8, h7.out]; exact gr.output⟩ hd8 h48
  · rw [e8]
    exact Nat.le_trans gr.size h7.size
  · rw [e8, h7.old b (by have := gr.size; omega) (by omega), gr.old b hb]
end Go.Proofs.Ytfjjoohflcchnaa

namespace Go.Proofs.Ytfjjoohflcchnaa
open Go Go.Lift Go.Conc Go.RowKit

def Post5 (W : World) (r : Value) (w' : World) : Prop := r = .bool true ∧ Grows W w'
theorem end5 {a : Act} {todo : List Item} {w : World} (hd : a.defers = []) (h4 : a.tmps.getD 4 undef = .bool true) : stepG Try.prog true (G { (base 5).at a todo with mode := .returning } []) w = .ended (.done (.bool true)) w #[] := by
  have hr : (results Try.f5 a.tmps).run Try.prog w = .ok (.bool true) w := by rw [results_tmp (t := 4) rfl, h4]
  have he : (results Try.f5 a.tmps).events Try.prog w #[] = #[] := by simp [results, go_sem, Try.f5]
  simp [G, stepG, unwind, Frame.at, hd, Try.func5, base, hr, he, doReturn, GStep.after, seen]

set_option maxHeartbeats 1000000 in
theorem run5 (x0 : Int) (p : Option Addr) (n cap lb lo : Nat) (calls : List Cl) (hp : 0 < n → p = some ⟨lb, lo, none⟩) (hl : calls.length = n) (hn9 : (n : Int) < 9223372036854775808) (W : World) (hI : InL W lb lo calls) :
    ∃ M last o w' t', runNT Try.prog (M + 1) (solo (G (Frame.enter Try.prog 5 #[I x0, .slice p n cap] .normal) []) W) #[] = (.ended o w', t') ∧
      runN Try.prog M (solo (G (Frame.enter Try.prog 5 #[I x0, .slice p n cap] .normal) []) W) = .next last ∧ step Try.prog last = .ended o w' ∧ Go.Conc.Good Try.prog (Post5 W) last o w' t' := by
  have e : Frame.enter Try.prog 5 #[I x0, .slice p n cap] .normal = (base 5).at { tmps := #[I x0, .slice p n cap] ++ Array.replicate 117 undef, defers := [] } [.code B5] := enter_at (fn := Try.f5) (c := B5) _ Try.func5 (by rfl)
  rw [e, solo_eq_crowd]
  have A : Alone #[G ((base 5).at { tmps := #[I x0, .slice p n cap] ++ Array.replicate 117 undef, defers := [] } [.code B5]) []] W #[] (fun _ => 0) := ⟨leavers_one _ _, 0, Nat.zero_le _, past_nil⟩
  have hG : GoesI Try.prog true (DT (ScZ zn) (fun _ => False)) (fun g w' => ∃ (bd : Frame) (ad : Act) (od : Array Oper) (qd : Nat) (rd : List Nat) (oe : Oper) (kd : List Item), (∃ d, w' = W.at d) ∧ od[qd]? = some oe ∧
      (∀ (Ch : Nat → Prop) (Stop : Goroutine → World → Prop) (v1 w1 : World), Rel zn v1 w1 → NoRow Ch v1 → InL v1 lb lo calls → (∀ a' v' w' todo, Rel zn v' w' → Grows v1 v' → a'.defers = [] → a'.tmps.getD 4 undef = .bool true → GoesI Try.prog true (DT (ScZ zn) Ch) Stop (G { (base 5).at a' todo with mode := .returning } []) w') → GoesI Try.prog true (DT (ScZ zn) Ch) Stop (G (bd.at (ad.put oe.dst (.bool true)) (.inRegion od rd :: kd)) []) w1) ∧
      g = G ((base 17).at { tmps := Array.replicate 72 undef, defers := [] } [.code B6]) [bd.at ad (.inRegion od (qd :: rd) :: kd)]) (G ((base 5).at { tmps := #[I x0, .slice p n cap] ++ Array.replicate 117 undef, defers := [] } [.code B5]) []) W :=
    law5_in (v := W) x0 p n cap lb lo calls hp hl hn9 (fun w' bd ad od qd rd oe kd hw ho hback => GoesI.stop fun d => ⟨bd, ad, od, qd, rd, oe, kd, by obtain ⟨d0, rfl⟩ := hw; exact ⟨d, rfl⟩, ho, hback, rfl⟩)
  obtain ⟨N1, gs1, a1, w1, sl1, T1, q1, r1, z1, h1, ⟨bd, ad, od, qd, rd, oe, kd, ⟨d1, rfl⟩, hoe, hback, rfl⟩, A1⟩ := alone_goes A rfl none hG
  obtain ⟨N2, gs2, w2, sl2, T2, q2, r2, h2, A2, g2⟩ := awake_all hoe sl1 A1 h1
  have g2' : Grows W w2 := ⟨g2.size, g2.old, g2.os, g2.output⟩
  obtain ⟨N3, gs3, a3, w3, sl3, T3, q3, r3, z3, h3, ⟨a', todo, hd, h4, g3, rfl⟩, A3⟩ := alone_goes A2 h2 sl2 (hback (fun _ => False) (fun g w' => ∃ a' todo, a'.defers = [] ∧ a'.tmps.getD 4 undef = .bool true ∧ Grows w2 w' ∧ g = G { (base 5).at a' todo with mode := .returning } []) w2 w2 (Rel.refl w2) (fun c hc => hc.elim) (hI.grows g2'.old) (fun a' v' w' todo hr hgr hd h4 => GoesI.stop fun d => ⟨a', todo, hd, h4, by
    have e : (w'.at d).heap = v'.heap := hr.eq
    exact ⟨by rw [e]; exact hgr.size, fun b hb => by rw [e]; exact hgr.old b hb, hr.os.trans hgr.os, hr.output.trans hgr.output⟩, rfl⟩))
  have hfin : Grows W w3 := ⟨Nat.le_trans g2'.size g3.size, fun b hb => by rw [g3.old b (by have := g2'.size; omega), g2'.old b hb], g3.os.trans g2'.os, g3.output.trans g2'.output⟩
  obtain ⟨M4, last, o, w', t', e1, e2, e3, e4⟩ := alone_ends A3 h3 sl3 (Post := Post5 W) (fun B d => ⟨rfl, .bool true, #[], end5 hd h4, fun e he => by simp at he, rfl, ⟨hfin.size, hfin.old, hfin.os, hfin.output⟩⟩)
  have hrun := runNT_then (runNT_then r1 r2) r3
  refine ⟨N1 + N2 + N3 + M4, last, o, w', t', ?_, ?_, e3, e4⟩
  · rw [Nat.add_assoc, runNT_add, hrun]; exact e1
  · rw [runN_add, ← runNT_fst Try.prog _ _ #[], hrun]; exact e2
end Go.Proofs.Ytfjjoohflcchnaa
