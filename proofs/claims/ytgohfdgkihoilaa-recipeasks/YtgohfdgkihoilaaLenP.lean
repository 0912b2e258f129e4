/- What Lent (10), Kept (15) and Spoil (16) do: their pieces. (Made by wip/tools/mk10.py.) -/
import Derived.Test.YtgohfdgkihoilaaSam
import Derived.Test.YtgohfdgkihoilaaApP
import Derived.Laws.CopyOwn
import Derived.Deep.MidRow
import Derived.BigFrame
set_option linter.unusedSimpArgs false
set_option linter.unusedVariables false
namespace Go.Proofs.Ytgohfdgkihoilaa.Rcp
open Go Go.RowKit Go.Deep Go.Maps

theorem size3' : (Try.prog.info? 3).map (·.size) = some 1 := by kernel_rfl
theorem make_rcs (n : Nat) (hn : n ≤ 2600000000000) (w : World) :
    (Instr.makeSlice 25 (.int .i64 ((n : Int) + 1)) (.int .i64 ((n : Int) + 1))).run Try.prog w = .ok (.slice (some ⟨w.heap.size, 0, none⟩) (n + 1) (n + 1)) (w.alloc (.cells (madeCells #[.slice none 0 0, I 0, I 0, I 0, I 0] ((n + 1) * 5)) 43)) := by
  cases hq : Try.prog.info? 43 with
  | none => have := info43; rw [hq] at this; cases this
  | some i =>
    have hi := info43
    rw [hq] at hi
    simp only [Option.map_some, Option.some.injEq, Prod.mk.injEq] at hi
    obtain ⟨hz, hs, hb⟩ := hi
    have := run_make (P := Try.prog) (w := w) 25 43 i _ Try.underlying25 hq hz .i64 .i64 ((n : Int) + 1) ((n : Int) + 1) (by omega) (by omega) (by rw [hb]; omega) (by omega)
    rw [hs] at this
    rw [this]
    have e : ((n : Int) + 1).toNat = n + 1 := by omega
    simp [Value.cells, e]
theorem make_ints1 (n : Nat) (hn : n ≤ 17592186044416) (w : World) :
    (Instr.makeSlice 26 (.int .i64 ((n : Int) + 1)) (.int .i64 ((n : Int) + 1))).run Try.prog w = .ok (.slice (some ⟨w.heap.size, 0, none⟩) (n + 1) (n + 1)) (w.alloc (.cells (madeCells #[I 0] (n + 1)) 3)) := by
  have := run_make_row' (P := Try.prog) 26 3 (.int .i64 0) 8 Try.underlying26 info3 rfl .i64 .i64 (n + 1) (by omega) (by omega) w
  rw [show ((n + 1 : Nat) : Int) = (n : Int) + 1 by omega] at this
  exact this
theorem make_ints2 (n : Nat) (hn : n ≤ 17592186044416) (w : World) :
    (Instr.makeSlice 26 (.int .i64 ((n : Int) + 2)) (.int .i64 ((n : Int) + 2))).run Try.prog w = .ok (.slice (some ⟨w.heap.size, 0, none⟩) (n + 2) (n + 2)) (w.alloc (.cells (madeCells #[I 0] (n + 2)) 3)) := by
  have := run_make_row' (P := Try.prog) 26 3 (.int .i64 0) 8 Try.underlying26 info3 rfl .i64 .i64 (n + 2) (by omega) (by omega) w
  rw [show ((n + 2 : Nat) : Int) = (n : Int) + 2 by omega] at this
  exact this
theorem run_copyN {P : Program} (w : World) (dT sT ty elem : TypeId) (n g dLen dCap : Nat) (sp : Option Addr) (sLen sCap : Nat) (cur : Array Value) (t : TypeId) (cs : List Value)
    (hu : P.underlying dT = some (.slice elem)) (hs : (P.info? elem).map (·.size) = some n)
    (hg : w.heap[g]? = some (.cells cur t (0, 0))) (hn : cs.length = Nat.min sLen dLen * n) (hpos : 0 < n)
    (hsrc : 0 < cs.length → ∃ a, sp = some a ∧ ∀ j v, cs[j]? = some v → w.cell? (a.add j) = some v) (hfit : cs.length ≤ cur.size) (h1 : ∀ v ∈ cs, v.oneCell' = true) :
    ∃ w', (Builtin.copy_ #[dT, sT] ty #[.slice (some ⟨g, 0, none⟩) dLen dCap, .slice sp sLen sCap]).run P w = .ok (goInt (Nat.min sLen dLen)) w' ∧
      w'.heap[g]? = some (.cells (cs ++ cur.toList.drop cs.length).toArray t (0, 0)) ∧ Below g w w' ∧ w'.heap.size = w.heap.size := by
  cases hq : P.info? elem with
  | none => simp [hq] at hs
  | some i =>
    have hi : i.size = n := by simpa [hq] using hs
    by_cases h0 : cs.length = 0
    · obtain rfl : cs = [] := List.eq_nil_of_length_eq_zero h0
      have hm : Nat.min sLen dLen = 0 := by
        have hn' : Nat.min sLen dLen * n = 0 := by simpa using hn.symm
        rcases Nat.mul_eq_zero.1 hn' with h | h
        · exact h
        · omega
      have hl : ∀ (x : Addr), (loadCells x 0).run P w = .ok #[] w := fun x => by simpa using run_loadCells_list (P := P) w x [] (by simp)
      refine ⟨w, ?_, by simpa using hg, Below.refl _ _, rfl⟩
      cases sp <;> simp [Builtin.copy_, run_underlying hu, Builtin.lenOf, Builtin.firstCells, sizeOf, typeInfo, hq, hm, storeCells, hl]
    · obtain ⟨a, rfl, ha⟩ := hsrc (by omega)
      have hl := run_loadCells_list (P := P) w a cs ha
      have hst := run_storeCells_at P g 0 t cs 0 cur w hg (by simpa using hfit) h1
      refine ⟨w.setRow g (cs ++ cur.toList.drop cs.length).toArray, ?_, ?_, below_setRow (Below.refl _ _) (Nat.le_refl _) _, ?_⟩
      · simp [Builtin.copy_, run_underlying hu, Builtin.lenOf, Builtin.firstCells, sizeOf, typeInfo, hq, hi, ← hn, hl, hst]
      · exact setRow_heap w g _ _ t _ hg
      · simp [World.setRow]

section
variable {ops : Array Oper} {rest : List Oper} {op : Oper} {a : Act} {w : World} {Q : Exit → Act → World → Prop}
theorem wp_store43 (hw : Region.wanted op (yielded ops a.tmps) = true) (x y : Operand) (ho : op.op = .store 43 x y) (b o : Nat) (nv c1 c2 c3 c4 : Value) (hx : a.eval x = .pointer (some ⟨b, o, none⟩)) (hy : a.eval y = .agg #[nv, c1, c2, c3, c4]) (ht : w.there b o 5)
    (h1 : ∀ v ∈ [nv, c1, c2, c3, c4], v.oneCell' = true)
    (h : wpList Try.prog ops Q rest (a.put op.dst undef) (w.setCells b o [nv, c1, c2, c3, c4])) : wpList Try.prog ops Q (op :: rest) a w :=
  Go.BigFrame.wpList_want hw fun _ hK => wp_store_mid 43 x y ho b o #[nv, c1, c2, c3, c4] hx hy ht size43 (all_oneCell_toArray (cs := [nv, c1, c2, c3, c4]) h1) (hK _ _ h)
end
noncomputable def C10 : Code := Try.f10.body.getD .skip
noncomputable def q10_0 : Code := (seq1 C10)
noncomputable def q10_1 : Code := (seq1 (seq2 C10))
noncomputable def q10_2 : Code := (seq1 (seq1 (seq2 (seq2 C10))))
noncomputable def q10_3 : Code := (seq1 (seq1 (loopC (blockC (seq2 (seq1 (seq2 (seq2 C10))))))))
noncomputable def q10_5 : Code := (seq1 (blockC (seq1 (seq2 (loopC (blockC (seq2 (seq1 (seq2 (seq2 C10))))))))))
noncomputable def q10_6 : Code := (seq1 (seq2 (blockC (seq1 (seq2 (loopC (blockC (seq2 (seq1 (seq2 (seq2 C10)))))))))))
noncomputable def q10_7 : Code := (seq1 (seq2 (seq2 (blockC (seq1 (seq2 (loopC (blockC (seq2 (seq1 (seq2 (seq2 C10))))))))))))
noncomputable def q10_8 : Code := (seq1 (seq2 (seq2 (seq2 (blockC (seq1 (seq2 (loopC (blockC (seq2 (seq1 (seq2 (seq2 C10)))))))))))))
noncomputable def q10_9 : Code := (seq1 (seq2 (seq2 (seq2 (seq2 (blockC (seq1 (seq2 (loopC (blockC (seq2 (seq1 (seq2 (seq2 C10))))))))))))))
noncomputable def q10_10 : Code := (seq2 (seq2 (seq2 (seq2 (seq2 (blockC (seq1 (seq2 (loopC (blockC (seq2 (seq1 (seq2 (seq2 C10))))))))))))))
noncomputable def q10_4 : Code := (seq2 (seq2 (loopC (blockC (seq2 (seq1 (seq2 (seq2 C10))))))))
noncomputable def q10_11 : Code := (seq1 (seq2 (seq2 (seq2 C10))))
noncomputable def q10_12 : Code := (seq1 (seq2 (seq2 (seq2 (seq2 C10)))))
noncomputable def K10_1 : Code := (.seq q10_5 (.seq q10_6 (.seq q10_7 (.seq q10_8 (.seq q10_9 q10_10)))))
noncomputable def K10_0 : Code := (.loop (.seq (.seq q10_3 (.cond ( .tmp 13 ) .skip (.exit 0))) (.seq (.block 1 K10_1) q10_4)))
theorem e10 : C10 = (.seq q10_0 (.seq q10_1 (.seq (.seq q10_2 (.block 0 K10_0)) (.seq q10_11 (.seq q10_12 .ret))))) := by kernel_rfl

set_option maxHeartbeats 1000000 in
set_option maxRecDepth 100000 in
theorem p10_0 {v : World} {a : Act} {p : Option Addr} {n cap : Nat}  (hA : Fl 76 [(0, .slice p n cap)] a) :
    q10_0.wp Try.prog (fun e a' w' => e = .normal ∧ (Fl 76 [(0, .slice p n cap)] a' ∧ w' = v)) a v := by
  obtain ⟨hsz, hd, hp⟩ := hA
  obtain ⟨u, rfl, hg⟩ := litN hsz hd
  simp only [List.forall_mem_cons, hg] at hp
  obtain ⟨u0, -⟩ := hp
  clear hg hsz hd
  unfold q10_0 C10 Try.f10 seq1
  simp only [Option.getD_some, lits, Nat.reduceAdd, u0]
  clear u0
  go_wp2_with fail
  first
    | exact ⟨⟨rfl, rfl, by
      intro p hp
      simp only [List.mem_cons, List.not_mem_nil, or_false] at hp
      rcases hp with rfl <;> first | rfl | exact congrArg I (by omega) | exact congrArg Value.bool (by simp <;> omega) | exact congrArg Value.bool (by simp)⟩, rfl⟩
    | exact ⟨rfl, rfl, by
      intro p hp
      simp only [List.mem_cons, List.not_mem_nil, or_false] at hp
      rcases hp with rfl <;> first | rfl | exact congrArg I (by omega) | exact congrArg Value.bool (by simp <;> omega) | exact congrArg Value.bool (by simp)⟩
    | exact ⟨rfl, ⟨rfl, rfl, by
      intro p hp
      simp only [List.mem_cons, List.not_mem_nil, or_false] at hp
      rcases hp with rfl <;> first | rfl | exact congrArg I (by omega) | exact congrArg Value.bool (by simp <;> omega) | exact congrArg Value.bool (by simp)⟩, rfl⟩

set_option maxHeartbeats 1000000 in
set_option maxRecDepth 100000 in
theorem p10_1 {v : World} {a : Act} {p : Option Addr} {n cap : Nat} (hn : n ≤ 2600000000000) (hA : Fl 76 [(0, .slice p n cap)] a) :
    q10_1.wp Try.prog (fun e a' w' => e = .normal ∧ (Fl 76 [(0, .slice p n cap), (3, .slice (some ⟨v.heap.size, 0, none⟩) (n + 1) (n + 1))] a' ∧ w' = v.alloc (.cells (madeCells #[.slice none 0 0, I 0, I 0, I 0, I 0] ((n + 1) * 5)) 43))) a v := by
  obtain ⟨hsz, hd, hp⟩ := hA
  obtain ⟨u, rfl, hg⟩ := litN hsz hd
  simp only [List.forall_mem_cons, hg] at hp
  obtain ⟨u0, -⟩ := hp
  clear hg hsz hd
  unfold q10_1 C10 Try.f10 seq1 seq2
  simp only [Option.getD_some, lits, Nat.reduceAdd, u0]
  clear u0
  have hmk := make_rcs n (by omega)
  go_wp2_with fail
  first
    | exact ⟨⟨rfl, rfl, by
      intro p hp
      simp only [List.mem_cons, List.not_mem_nil, or_false] at hp
      rcases hp with rfl | rfl <;> first | rfl | exact congrArg I (by omega) | exact congrArg Value.bool (by simp <;> omega) | exact congrArg Value.bool (by simp)⟩, rfl⟩
    | exact ⟨rfl, rfl, by
      intro p hp
      simp only [List.mem_cons, List.not_mem_nil, or_false] at hp
      rcases hp with rfl | rfl <;> first | rfl | exact congrArg I (by omega) | exact congrArg Value.bool (by simp <;> omega) | exact congrArg Value.bool (by simp)⟩
    | exact ⟨rfl, ⟨rfl, rfl, by
      intro p hp
      simp only [List.mem_cons, List.not_mem_nil, or_false] at hp
      rcases hp with rfl | rfl <;> first | rfl | exact congrArg I (by omega) | exact congrArg Value.bool (by simp <;> omega) | exact congrArg Value.bool (by simp)⟩, rfl⟩

set_option maxHeartbeats 1000000 in
set_option maxRecDepth 100000 in
theorem p10_2 {v : World} {a : Act} {p : Option Addr} {n cap : Nat} {gr : Nat}  (hA : Fl 76 [(0, .slice p n cap), (3, .slice (some ⟨gr, 0, none⟩) (n + 1) (n + 1))] a) :
    q10_2.wp Try.prog (fun e a' w' => e = .normal ∧ (Fl 76 [(0, .slice p n cap), (3, .slice (some ⟨gr, 0, none⟩) (n + 1) (n + 1)), (4, I (0 : Nat))] a' ∧ w' = v)) a v := by
  obtain ⟨hsz, hd, hp⟩ := hA
  obtain ⟨u, rfl, hg⟩ := litN hsz hd
  simp only [List.forall_mem_cons, hg] at hp
  obtain ⟨u0, u3, -⟩ := hp
  clear hg hsz hd
  unfold q10_2 C10 Try.f10 seq1 seq2
  simp only [Option.getD_some, lits, Nat.reduceAdd, u0, u3]
  clear u0 u3
  go_wp2_with fail
  first
    | exact ⟨⟨rfl, rfl, by
      intro p hp
      simp only [List.mem_cons, List.not_mem_nil, or_false] at hp
      rcases hp with rfl | rfl | rfl <;> first | rfl | exact congrArg I (by omega) | exact congrArg Value.bool (by simp <;> omega) | exact congrArg Value.bool (by simp)⟩, rfl⟩
    | exact ⟨rfl, rfl, by
      intro p hp
      simp only [List.mem_cons, List.not_mem_nil, or_false] at hp
      rcases hp with rfl | rfl | rfl <;> first | rfl | exact congrArg I (by omega) | exact congrArg Value.bool (by simp <;> omega) | exact congrArg Value.bool (by simp)⟩
    | exact ⟨rfl, ⟨rfl, rfl, by
      intro p hp
      simp only [List.mem_cons, List.not_mem_nil, or_false] at hp
      rcases hp with rfl | rfl | rfl <;> first | rfl | exact congrArg I (by omega) | exact congrArg Value.bool (by simp <;> omega) | exact congrArg Value.bool (by simp)⟩, rfl⟩

set_option maxHeartbeats 1000000 in
set_option maxRecDepth 100000 in
theorem p10_3 {v : World} {a : Act} {p : Option Addr} {n cap : Nat} {gr i : Nat} (hn : n ≤ 2600000000000) (hA : Fl 76 [(0, .slice p n cap), (3, .slice (some ⟨gr, 0, none⟩) (n + 1) (n + 1)), (4, I (i : Nat))] a) :
    q10_3.wp Try.prog (fun e a' w' => e = .normal ∧ (Fl 76 [(13, .bool (decide (i < n))), (0, .slice p n cap), (3, .slice (some ⟨gr, 0, none⟩) (n + 1) (n + 1)), (4, I (i : Nat))] a' ∧ w' = v)) a v := by
  obtain ⟨hsz, hd, hp⟩ := hA
  obtain ⟨u, rfl, hg⟩ := litN hsz hd
  simp only [List.forall_mem_cons, hg] at hp
  obtain ⟨u0, u3, u4, -⟩ := hp
  clear hg hsz hd
  unfold q10_3 C10 Try.f10 seq1 seq2 blockC loopC
  simp only [Option.getD_some, lits, Nat.reduceAdd, u0, u3, u4]
  clear u0 u3 u4
  go_wp2_with fail
  first
    | exact ⟨⟨rfl, rfl, by
      intro p hp
      simp only [List.mem_cons, List.not_mem_nil, or_false] at hp
      rcases hp with rfl | rfl | rfl | rfl <;> first | rfl | exact congrArg I (by omega) | exact congrArg Value.bool (by simp <;> omega) | exact congrArg Value.bool (by simp)⟩, rfl⟩
    | exact ⟨rfl, rfl, by
      intro p hp
      simp only [List.mem_cons, List.not_mem_nil, or_false] at hp
      rcases hp with rfl | rfl | rfl | rfl <;> first | rfl | exact congrArg I (by omega) | exact congrArg Value.bool (by simp <;> omega) | exact congrArg Value.bool (by simp)⟩
    | exact ⟨rfl, ⟨rfl, rfl, by
      intro p hp
      simp only [List.mem_cons, List.not_mem_nil, or_false] at hp
      rcases hp with rfl | rfl | rfl | rfl <;> first | rfl | exact congrArg I (by omega) | exact congrArg Value.bool (by simp <;> omega) | exact congrArg Value.bool (by simp)⟩, rfl⟩

set_option maxHeartbeats 1000000 in
set_option maxRecDepth 100000 in
theorem p10_4 {v : World} {a : Act} {p : Option Addr} {n cap : Nat} {gr i : Nat} (hi : i < 17592186044416) (hA : Fl 76 [(0, .slice p n cap), (3, .slice (some ⟨gr, 0, none⟩) (n + 1) (n + 1)), (4, I (i : Nat))] a) :
    q10_4.wp Try.prog (fun e a' w' => e = .normal ∧ (Fl 76 [(0, .slice p n cap), (3, .slice (some ⟨gr, 0, none⟩) (n + 1) (n + 1)), (4, I ((i + 1 : Nat) : Int))] a' ∧ w' = v)) a v := by
  obtain ⟨hsz, hd, hp⟩ := hA
  obtain ⟨u, rfl, hg⟩ := litN hsz hd
  simp only [List.forall_mem_cons, hg] at hp
  obtain ⟨u0, u3, u4, -⟩ := hp
  clear hg hsz hd
  unfold q10_4 C10 Try.f10 seq1 seq2 blockC loopC
  simp only [Option.getD_some, lits, Nat.reduceAdd, u0, u3, u4]
  clear u0 u3 u4
  go_wp2_with fail
  first
    | exact ⟨⟨rfl, rfl, by
      intro p hp
      simp only [List.mem_cons, List.not_mem_nil, or_false] at hp
      rcases hp with rfl | rfl | rfl <;> first | rfl | exact congrArg I (by omega) | exact congrArg Value.bool (by simp <;> omega) | exact congrArg Value.bool (by simp)⟩, rfl⟩
    | exact ⟨rfl, rfl, by
      intro p hp
      simp only [List.mem_cons, List.not_mem_nil, or_false] at hp
      rcases hp with rfl | rfl | rfl <;> first | rfl | exact congrArg I (by omega) | exact congrArg Value.bool (by simp <;> omega) | exact congrArg Value.bool (by simp)⟩
    | exact ⟨rfl, ⟨rfl, rfl, by
      intro p hp
      simp only [List.mem_cons, List.not_mem_nil, or_false] at hp
      rcases hp with rfl | rfl | rfl <;> first | rfl | exact congrArg I (by omega) | exact congrArg Value.bool (by simp <;> omega) | exact congrArg Value.bool (by simp)⟩, rfl⟩

set_option maxHeartbeats 1000000 in
set_option maxRecDepth 100000 in
theorem p10_5 {v : World} {a : Act} {b o n cap gr i : Nat} {r : Rc} {q : Option Addr} {nn nc : Nat} (hn : n ≤ 2600000000000) (hi : i < n) (c0 : v.cell? ⟨b, o + i * 5, none⟩ = some (.slice q nn nc)) (c1 : v.cell? ⟨b, o + i * 5 + 1, none⟩ = some (I r.level)) (c2 : v.cell? ⟨b, o + i * 5 + 2, none⟩ = some (I r.act)) (c3 : v.cell? ⟨b, o + i * 5 + 3, none⟩ = some (I r.value)) (c4 : v.cell? ⟨b, o + i * 5 + 4, none⟩ = some (I r.fin)) (ht : v.there gr (i * 5) 5) (hA : Fl 76 [(0, .slice (some ⟨b, o, none⟩) n cap), (3, .slice (some ⟨gr, 0, none⟩) (n + 1) (n + 1)), (4, I (i : Nat))] a) :
    q10_5.wp Try.prog (fun e a' w' => e = .normal ∧ (Fl 76 [(0, .slice (some ⟨b, o, none⟩) n cap), (3, .slice (some ⟨gr, 0, none⟩) (n + 1) (n + 1)), (4, I (i : Nat))] a' ∧ w' = v.setCells gr (i * 5) (rcL (.slice q nn nc) r))) a v := by
  have HT : Hid (v.there gr (i * 5) 5) := ht
  have H1 : Hid (∀ v' ∈ [Value.slice q nn nc, I r.level, I r.act, I r.value, I r.fin], v'.oneCell' = true) := (by intro v' hv; simp only [List.mem_cons, List.not_mem_nil, or_false] at hv; first | (rcases hv with rfl | rfl | rfl | rfl | rfl <;> rfl) | (rcases hv with rfl | rfl | rfl <;> rfl))
  clear ht
  obtain ⟨hsz, hd, hp⟩ := hA
  obtain ⟨u, rfl, hg⟩ := litN hsz hd
  simp only [List.forall_mem_cons, hg] at hp
  obtain ⟨u0, u3, u4, -⟩ := hp
  clear hg hsz hd
  unfold q10_5 C10 Try.f10 seq1 seq2 blockC loopC
  simp only [Option.getD_some, lits, Nat.reduceAdd, u0, u3, u4]
  clear u0 u3 u4
  go_wp2_with (first
    | ((with_reducible refine wp_store43 ?_ (.tmp 22) (.tmp 21) ?_ gr (i * 5) (.slice q nn nc) (I r.level) (I r.act) (I r.value) (I r.fin) ?_ ?_ HT.out H1.out ?_); rfl; rfl; rfl; rfl))
  first
    | exact ⟨⟨rfl, rfl, by
      intro p hp
      simp only [List.mem_cons, List.not_mem_nil, or_false] at hp
      rcases hp with rfl | rfl | rfl <;> first | rfl | exact congrArg I (by omega) | exact congrArg Value.bool (by simp <;> omega) | exact congrArg Value.bool (by simp)⟩, rfl⟩
    | exact ⟨rfl, rfl, by
      intro p hp
      simp only [List.mem_cons, List.not_mem_nil, or_false] at hp
      rcases hp with rfl | rfl | rfl <;> first | rfl | exact congrArg I (by omega) | exact congrArg Value.bool (by simp <;> omega) | exact congrArg Value.bool (by simp)⟩
    | exact ⟨rfl, ⟨rfl, rfl, by
      intro p hp
      simp only [List.mem_cons, List.not_mem_nil, or_false] at hp
      rcases hp with rfl | rfl | rfl <;> first | rfl | exact congrArg I (by omega) | exact congrArg Value.bool (by simp <;> omega) | exact congrArg Value.bool (by simp)⟩, rfl⟩

set_option maxHeartbeats 1000000 in
set_option maxRecDepth 100000 in
theorem p10_6 {v : World} {a : Act} {b o n cap gr i : Nat} {q : Option Addr} {nn nc : Nat} (hn : n ≤ 2600000000000) (hm : nn ≤ 17592186044416) (hi : i < n) (c0 : v.cell? ⟨b, o + i * 5, none⟩ = some (.slice q nn nc)) (hA : Fl 76 [(0, .slice (some ⟨b, o, none⟩) n cap), (3, .slice (some ⟨gr, 0, none⟩) (n + 1) (n + 1)), (4, I (i : Nat))] a) :
    q10_6.wp Try.prog (fun e a' w' => e = .normal ∧ (Fl 76 [(0, .slice (some ⟨b, o, none⟩) n cap), (3, .slice (some ⟨gr, 0, none⟩) (n + 1) (n + 1)), (4, I (i : Nat)), (5, .slice (some ⟨v.heap.size, 0, none⟩) (nn + 2) (nn + 2))] a' ∧ w' = v.alloc (.cells (madeCells #[I 0] (nn + 2)) 3))) a v := by
  obtain ⟨hsz, hd, hp⟩ := hA
  obtain ⟨u, rfl, hg⟩ := litN hsz hd
  simp only [List.forall_mem_cons, hg] at hp
  obtain ⟨u0, u3, u4, -⟩ := hp
  clear hg hsz hd
  unfold q10_6 C10 Try.f10 seq1 seq2 blockC loopC
  simp only [Option.getD_some, lits, Nat.reduceAdd, u0, u3, u4]
  clear u0 u3 u4
  have hmk := make_ints2 nn (by omega)
  go_wp2_with fail
  first
    | exact ⟨⟨rfl, rfl, by
      intro p hp
      simp only [List.mem_cons, List.not_mem_nil, or_false] at hp
      rcases hp with rfl | rfl | rfl | rfl <;> first | rfl | exact congrArg I (by omega) | exact congrArg Value.bool (by simp <;> omega) | exact congrArg Value.bool (by simp)⟩, rfl⟩
    | exact ⟨rfl, rfl, by
      intro p hp
      simp only [List.mem_cons, List.not_mem_nil, or_false] at hp
      rcases hp with rfl | rfl | rfl | rfl <;> first | rfl | exact congrArg I (by omega) | exact congrArg Value.bool (by simp <;> omega) | exact congrArg Value.bool (by simp)⟩
    | exact ⟨rfl, ⟨rfl, rfl, by
      intro p hp
      simp only [List.mem_cons, List.not_mem_nil, or_false] at hp
      rcases hp with rfl | rfl | rfl | rfl <;> first | rfl | exact congrArg I (by omega) | exact congrArg Value.bool (by simp <;> omega) | exact congrArg Value.bool (by simp)⟩, rfl⟩

set_option maxHeartbeats 1000000 in
set_option maxRecDepth 100000 in
theorem p10_7 {v : World} {a : Act} {b o n cap gr i c : Nat} {q : Option Addr} {nn nc : Nat} {w2 : World} (hn : n ≤ 2600000000000) (hm : nn ≤ 17592186044416) (hi : i < n) (c0 : v.cell? ⟨b, o + i * 5, none⟩ = some (.slice q nn nc)) (hcp : (Builtin.copy_ #[26, 26] 3 #[.slice (some ⟨c, 0, none⟩) (nn + 2) (nn + 2), .slice q nn nc]).run Try.prog v = .ok (goInt nn) w2) (hA : Fl 76 [(0, .slice (some ⟨b, o, none⟩) n cap), (3, .slice (some ⟨gr, 0, none⟩) (n + 1) (n + 1)), (4, I (i : Nat)), (5, .slice (some ⟨c, 0, none⟩) (nn + 2) (nn + 2))] a) :
    q10_7.wp Try.prog (fun e a' w' => e = .normal ∧ (Fl 76 [(0, .slice (some ⟨b, o, none⟩) n cap), (3, .slice (some ⟨gr, 0, none⟩) (n + 1) (n + 1)), (4, I (i : Nat)), (5, .slice (some ⟨c, 0, none⟩) (nn + 2) (nn + 2))] a' ∧ w' = w2)) a v := by
  obtain ⟨hsz, hd, hp⟩ := hA
  obtain ⟨u, rfl, hg⟩ := litN hsz hd
  simp only [List.forall_mem_cons, hg] at hp
  obtain ⟨u0, u3, u4, u5, -⟩ := hp
  clear hg hsz hd
  unfold q10_7 C10 Try.f10 seq1 seq2 blockC loopC
  simp only [Option.getD_some, lits, Nat.reduceAdd, u0, u3, u4, u5]
  clear u0 u3 u4 u5
  go_wp2_with fail
  first
    | exact ⟨⟨rfl, rfl, by
      intro p hp
      simp only [List.mem_cons, List.not_mem_nil, or_false] at hp
      rcases hp with rfl | rfl | rfl | rfl <;> first | rfl | exact congrArg I (by omega) | exact congrArg Value.bool (by simp <;> omega) | exact congrArg Value.bool (by simp)⟩, rfl⟩
    | exact ⟨rfl, rfl, by
      intro p hp
      simp only [List.mem_cons, List.not_mem_nil, or_false] at hp
      rcases hp with rfl | rfl | rfl | rfl <;> first | rfl | exact congrArg I (by omega) | exact congrArg Value.bool (by simp <;> omega) | exact congrArg Value.bool (by simp)⟩
    | exact ⟨rfl, ⟨rfl, rfl, by
      intro p hp
      simp only [List.mem_cons, List.not_mem_nil, or_false] at hp
      rcases hp with rfl | rfl | rfl | rfl <;> first | rfl | exact congrArg I (by omega) | exact congrArg Value.bool (by simp <;> omega) | exact congrArg Value.bool (by simp)⟩, rfl⟩

set_option maxHeartbeats 1000000 in
set_option maxRecDepth 100000 in
theorem p10_8 {v : World} {a : Act} {b o n cap gr i c : Nat} {q : Option Addr} {nn nc : Nat} {u : Value} (hn : n ≤ 2600000000000) (hm : nn ≤ 17592186044416) (hi : i < n) (c0 : v.cell? ⟨b, o + i * 5, none⟩ = some (.slice q nn nc)) (e : v.cell? ⟨c, nn, none⟩ = some u) (f : v.frozen? ⟨c, nn, none⟩ = false) (hA : Fl 76 [(0, .slice (some ⟨b, o, none⟩) n cap), (3, .slice (some ⟨gr, 0, none⟩) (n + 1) (n + 1)), (4, I (i : Nat)), (5, .slice (some ⟨c, 0, none⟩) (nn + 2) (nn + 2))] a) :
    q10_8.wp Try.prog (fun e a' w' => e = .normal ∧ (Fl 76 [(0, .slice (some ⟨b, o, none⟩) n cap), (3, .slice (some ⟨gr, 0, none⟩) (n + 1) (n + 1)), (4, I (i : Nat)), (5, .slice (some ⟨c, 0, none⟩) (nn + 2) (nn + 2))] a' ∧ w' = v.setCell ⟨c, nn, none⟩ (I (-71)))) a v := by
  obtain ⟨hsz, hd, hp⟩ := hA
  obtain ⟨u, rfl, hg⟩ := litN hsz hd
  simp only [List.forall_mem_cons, hg] at hp
  obtain ⟨u0, u3, u4, u5, -⟩ := hp
  clear hg hsz hd
  unfold q10_8 C10 Try.f10 seq1 seq2 blockC loopC
  simp only [Option.getD_some, lits, Nat.reduceAdd, u0, u3, u4, u5]
  clear u0 u3 u4 u5
  go_wp2_with fail
  first
    | exact ⟨⟨rfl, rfl, by
      intro p hp
      simp only [List.mem_cons, List.not_mem_nil, or_false] at hp
      rcases hp with rfl | rfl | rfl | rfl <;> first | rfl | exact congrArg I (by omega) | exact congrArg Value.bool (by simp <;> omega) | exact congrArg Value.bool (by simp)⟩, rfl⟩
    | exact ⟨rfl, rfl, by
      intro p hp
      simp only [List.mem_cons, List.not_mem_nil, or_false] at hp
      rcases hp with rfl | rfl | rfl | rfl <;> first | rfl | exact congrArg I (by omega) | exact congrArg Value.bool (by simp <;> omega) | exact congrArg Value.bool (by simp)⟩
    | exact ⟨rfl, ⟨rfl, rfl, by
      intro p hp
      simp only [List.mem_cons, List.not_mem_nil, or_false] at hp
      rcases hp with rfl | rfl | rfl | rfl <;> first | rfl | exact congrArg I (by omega) | exact congrArg Value.bool (by simp <;> omega) | exact congrArg Value.bool (by simp)⟩, rfl⟩

set_option maxHeartbeats 1000000 in
set_option maxRecDepth 100000 in
theorem p10_9 {v : World} {a : Act} {b o n cap gr i c : Nat} {q : Option Addr} {nn nc : Nat} {u : Value} (hn : n ≤ 2600000000000) (hm : nn ≤ 17592186044416) (hi : i < n) (c0 : v.cell? ⟨b, o + i * 5, none⟩ = some (.slice q nn nc)) (e : v.cell? ⟨c, nn + 1, none⟩ = some u) (f : v.frozen? ⟨c, nn + 1, none⟩ = false) (hA : Fl 76 [(0, .slice (some ⟨b, o, none⟩) n cap), (3, .slice (some ⟨gr, 0, none⟩) (n + 1) (n + 1)), (4, I (i : Nat)), (5, .slice (some ⟨c, 0, none⟩) (nn + 2) (nn + 2))] a) :
    q10_9.wp Try.prog (fun e a' w' => e = .normal ∧ (Fl 76 [(0, .slice (some ⟨b, o, none⟩) n cap), (3, .slice (some ⟨gr, 0, none⟩) (n + 1) (n + 1)), (4, I (i : Nat)), (5, .slice (some ⟨c, 0, none⟩) (nn + 2) (nn + 2))] a' ∧ w' = v.setCell ⟨c, nn + 1, none⟩ (I (-72)))) a v := by
  obtain ⟨hsz, hd, hp⟩ := hA
  obtain ⟨u, rfl, hg⟩ := litN hsz hd
  simp only [List.forall_mem_cons, hg] at hp
  obtain ⟨u0, u3, u4, u5, -⟩ := hp
  clear hg hsz hd
  unfold q10_9 C10 Try.f10 seq1 seq2 blockC loopC
  simp only [Option.getD_some, lits, Nat.reduceAdd, u0, u3, u4, u5]
  clear u0 u3 u4 u5
  go_wp2_with fail
  first
    | exact ⟨⟨rfl, rfl, by
      intro p hp
      simp only [List.mem_cons, List.not_mem_nil, or_false] at hp
      rcases hp with rfl | rfl | rfl | rfl <;> first | rfl | exact congrArg I (by omega) | exact congrArg Value.bool (by simp <;> omega) | exact congrArg Value.bool (by simp)⟩, rfl⟩
    | exact ⟨rfl, rfl, by
      intro p hp
      simp only [List.mem_cons, List.not_mem_nil, or_false] at hp
      rcases hp with rfl | rfl | rfl | rfl <;> first | rfl | exact congrArg I (by omega) | exact congrArg Value.bool (by simp <;> omega) | exact congrArg Value.bool (by simp)⟩
    | exact ⟨rfl, ⟨rfl, rfl, by
      intro p hp
      simp only [List.mem_cons, List.not_mem_nil, or_false] at hp
      rcases hp with rfl | rfl | rfl | rfl <;> first | rfl | exact congrArg I (by omega) | exact congrArg Value.bool (by simp <;> omega) | exact congrArg Value.bool (by simp)⟩, rfl⟩

set_option maxHeartbeats 1000000 in
set_option maxRecDepth 100000 in
theorem p10_10 {v : World} {a : Act} {b o n cap gr i c : Nat} {q : Option Addr} {nn nc : Nat} {u : Value} (hn : n ≤ 2600000000000) (hm : nn ≤ 17592186044416) (hi : i < n) (c0 : v.cell? ⟨b, o + i * 5, none⟩ = some (.slice q nn nc)) (e : v.cell? ⟨gr, i * 5, none⟩ = some u) (f : v.frozen? ⟨gr, i * 5, none⟩ = false) (hA : Fl 76 [(0, .slice (some ⟨b, o, none⟩) n cap), (3, .slice (some ⟨gr, 0, none⟩) (n + 1) (n + 1)), (4, I (i : Nat)), (5, .slice (some ⟨c, 0, none⟩) (nn + 2) (nn + 2))] a) :
    q10_10.wp Try.prog (fun e a' w' => e = .normal ∧ (Fl 76 [(0, .slice (some ⟨b, o, none⟩) n cap), (3, .slice (some ⟨gr, 0, none⟩) (n + 1) (n + 1)), (4, I (i : Nat))] a' ∧ w' = v.setCell ⟨gr, i * 5, none⟩ (.slice (some ⟨c, 0, none⟩) nn (nn + 2)))) a v := by
  obtain ⟨hsz, hd, hp⟩ := hA
  obtain ⟨u, rfl, hg⟩ := litN hsz hd
  simp only [List.forall_mem_cons, hg] at hp
  obtain ⟨u0, u3, u4, u5, -⟩ := hp
  clear hg hsz hd
  unfold q10_10 C10 Try.f10 seq1 seq2 blockC loopC
  simp only [Option.getD_some, lits, Nat.reduceAdd, u0, u3, u4, u5]
  clear u0 u3 u4 u5
  go_wp2_with fail
  first
    | exact ⟨⟨rfl, rfl, by
      intro p hp
      simp only [List.mem_cons, List.not_mem_nil, or_false] at hp
      rcases hp with rfl | rfl | rfl <;> first | rfl | exact congrArg I (by omega) | exact congrArg Value.bool (by simp <;> omega) | exact congrArg Value.bool (by simp)⟩, rfl⟩
    | exact ⟨rfl, rfl, by
      intro p hp
      simp only [List.mem_cons, List.not_mem_nil, or_false] at hp
      rcases hp with rfl | rfl | rfl <;> first | rfl | exact congrArg I (by omega) | exact congrArg Value.bool (by simp <;> omega) | exact congrArg Value.bool (by simp)⟩
    | exact ⟨rfl, ⟨rfl, rfl, by
      intro p hp
      simp only [List.mem_cons, List.not_mem_nil, or_false] at hp
      rcases hp with rfl | rfl | rfl <;> first | rfl | exact congrArg I (by omega) | exact congrArg Value.bool (by simp <;> omega) | exact congrArg Value.bool (by simp)⟩, rfl⟩

set_option maxHeartbeats 1000000 in
set_option maxRecDepth 100000 in
theorem p10_11 {v : World} {a : Act} {p : Option Addr} {n cap : Nat} {gr : Nat} (hn : n ≤ 2600000000000) (ht : v.there gr (n * 5) 5) (hA : Fl 76 [(0, .slice p n cap), (3, .slice (some ⟨gr, 0, none⟩) (n + 1) (n + 1))] a) :
    q10_11.wp Try.prog (fun e a' w' => e = .normal ∧ (Fl 76 [(0, .slice p n cap), (3, .slice (some ⟨gr, 0, none⟩) (n + 1) (n + 1))] a' ∧ w' = v.setCells gr (n * 5) [.slice none 0 0, I 0, I (-73), I 0, I 0])) a v := by
  have HT : Hid (v.there gr (n * 5) 5) := ht
  have H1 : Hid (∀ v' ∈ [Value.slice none 0 0, I 0, I (-73), I 0, I 0], v'.oneCell' = true) := (by intro v' hv; simp only [List.mem_cons, List.not_mem_nil, or_false] at hv; first | (rcases hv with rfl | rfl | rfl | rfl | rfl <;> rfl) | (rcases hv with rfl | rfl | rfl <;> rfl))
  clear ht
  obtain ⟨hsz, hd, hp⟩ := hA
  obtain ⟨u, rfl, hg⟩ := litN hsz hd
  simp only [List.forall_mem_cons, hg] at hp
  obtain ⟨u0, u3, -⟩ := hp
  clear hg hsz hd
  unfold q10_11 C10 Try.f10 seq1 seq2
  simp only [Option.getD_some, lits, Nat.reduceAdd, u0, u3]
  clear u0 u3
  go_wp2_with (first
    | ((with_reducible refine wp_store43 ?_ (.tmp 71) (.tmp 70) ?_ gr (n * 5) (.slice none 0 0) (I 0) (I (-73)) (I 0) (I 0) ?_ ?_ HT.out H1.out ?_); rfl; rfl; rfl; rfl))
  first
    | exact ⟨⟨rfl, rfl, by
      intro p hp
      simp only [List.mem_cons, List.not_mem_nil, or_false] at hp
      rcases hp with rfl | rfl <;> first | rfl | exact congrArg I (by omega) | exact congrArg Value.bool (by simp <;> omega) | exact congrArg Value.bool (by simp)⟩, rfl⟩
    | exact ⟨rfl, rfl, by
      intro p hp
      simp only [List.mem_cons, List.not_mem_nil, or_false] at hp
      rcases hp with rfl | rfl <;> first | rfl | exact congrArg I (by omega) | exact congrArg Value.bool (by simp <;> omega) | exact congrArg Value.bool (by simp)⟩
    | exact ⟨rfl, ⟨rfl, rfl, by
      intro p hp
      simp only [List.mem_cons, List.not_mem_nil, or_false] at hp
      rcases hp with rfl | rfl <;> first | rfl | exact congrArg I (by omega) | exact congrArg Value.bool (by simp <;> omega) | exact congrArg Value.bool (by simp)⟩, rfl⟩

set_option maxHeartbeats 1000000 in
set_option maxRecDepth 100000 in
theorem p10_12 {v : World} {a : Act} {p : Option Addr} {n cap : Nat} {gr : Nat} (hn : n ≤ 2600000000000) (hA : Fl 76 [(0, .slice p n cap), (3, .slice (some ⟨gr, 0, none⟩) (n + 1) (n + 1))] a) :
    q10_12.wp Try.prog (fun e a' w' => e = .normal ∧ (Fl 76 [(2, .slice (some ⟨gr, 0, none⟩) n (n + 1))] a' ∧ w' = v)) a v := by
  obtain ⟨hsz, hd, hp⟩ := hA
  obtain ⟨u, rfl, hg⟩ := litN hsz hd
  simp only [List.forall_mem_cons, hg] at hp
  obtain ⟨u0, u3, -⟩ := hp
  clear hg hsz hd
  unfold q10_12 C10 Try.f10 seq1 seq2
  simp only [Option.getD_some, lits, Nat.reduceAdd, u0, u3]
  clear u0 u3
  go_wp2_with fail
  first
    | exact ⟨⟨rfl, rfl, by
      intro p hp
      simp only [List.mem_cons, List.not_mem_nil, or_false] at hp
      rcases hp with rfl <;> first | rfl | exact congrArg I (by omega) | exact congrArg Value.bool (by simp <;> omega) | exact congrArg Value.bool (by simp)⟩, rfl⟩
    | exact ⟨rfl, rfl, by
      intro p hp
      simp only [List.mem_cons, List.not_mem_nil, or_false] at hp
      rcases hp with rfl <;> first | rfl | exact congrArg I (by omega) | exact congrArg Value.bool (by simp <;> omega) | exact congrArg Value.bool (by simp)⟩
    | exact ⟨rfl, ⟨rfl, rfl, by
      intro p hp
      simp only [List.mem_cons, List.not_mem_nil, or_false] at hp
      rcases hp with rfl <;> first | rfl | exact congrArg I (by omega) | exact congrArg Value.bool (by simp <;> omega) | exact congrArg Value.bool (by simp)⟩, rfl⟩

theorem in10 {w : World} {R : Value → World → Prop} {x0 : Value} (h : ∀ a, Fl 76 [(0, x0)] a → C10.wp Try.prog (bodyPost Try.prog Try.f10 (Ret R)) a w) : Calls Try.prog 10 #[x0] w (Ret R) :=
  calls_of_wp Try.func10 (show Try.f10.body = some C10 by kernel_rfl) (by
    rw [Try.ntmps10]
    exact h _ (fl_enter _ _ 76 (by simp) _ (by intro p hp; simp only [List.mem_cons, List.not_mem_nil, or_false] at hp; rcases hp with rfl <;> rfl)))

end Go.Proofs.Ytgohfdgkihoilaa.Rcp
