/- ChainRing: of a ring the last who writes down is told, under every schedule. Part 27 of 37. (Joined, by program, of: La3P.) -/
import Derived.Test.YtfjjoohflcchnaaChainRing26
set_option linter.unusedSimpArgs false
set_option linter.unusedVariables false
namespace Go.Proofs.Ytfjjoohflcchnaa.Gen
open Go Go.Lift Go.Conc Go.RowKit

theorem make_23 (w : World) : (Instr.makeSlice 23 (.int .i64 4) (.int .i64 4)).run Try.prog w = .ok (.slice (some ⟨w.heap.size, 0, none⟩) 4 4) (w.alloc (.cells (madeCells #[.slice none 0 0] 4) 37)) := by
  have hi : (Try.prog.info? 37).map (fun i => (i.zero, i.size, i.bytes)) = some (some (.slice none 0 0), 1, 24) := by kernel_rfl
  cases hq : Try.prog.info? 37 with
  | none => rw [hq] at hi; cases hi
  | some i =>
    rw [hq] at hi
    simp only [Option.map_some, Option.some.injEq, Prod.mk.injEq] at hi
    obtain ⟨hz, hs, hb⟩ := hi
    have := run_make (P := Try.prog) w 23 37 i _ Try.underlying23 hq hz .i64 .i64 4 4 (by omega) (by omega) (by rw [hb]; omega) (by omega)
    rw [hs] at this
    rw [this]
    simp [Value.cells]
theorem make_3f (w : World) : (Instr.makeSlice 22 (.int .i64 4) (.int .i64 4)).run Try.prog w = .ok (.slice (some ⟨w.heap.size, 0, none⟩) 4 4) (w.alloc (.cells (madeCells #[I 0] 4) 3)) := by
  have := make_3 4 (by omega) w
  exact this
noncomputable def C3 : Code := Try.f15.body.getD .skip
noncomputable def q3_0 : Code := (seq1 C3)
noncomputable def q3_1 : Code := (seq1 (seq2 C3))
noncomputable def q3_2 : Code := (seq1 (seq2 (seq2 C3)))
noncomputable def q3_3 : Code := (seq1 (seq1 (seq2 (seq2 (seq2 C3)))))
noncomputable def q3_4 : Code := (seq1 (seq1 (loopC (blockC (seq2 (seq1 (seq2 (seq2 (seq2 C3)))))))))
noncomputable def q3_6 : Code := (seq1 (blockC (seq1 (seq2 (loopC (blockC (seq2 (seq1 (seq2 (seq2 (seq2 C3)))))))))))
noncomputable def q3_7 : Code := (seq1 (seq2 (blockC (seq1 (seq2 (loopC (blockC (seq2 (seq1 (seq2 (seq2 (seq2 C3))))))))))))
noncomputable def q3_8 : Code := (seq1 (seq1 (seq2 (seq2 (blockC (seq1 (seq2 (loopC (blockC (seq2 (seq1 (seq2 (seq2 (seq2 C3))))))))))))))
noncomputable def q3_9 : Code := (seq1 (seq1 (loopC (blockC (seq2 (seq1 (seq2 (seq2 (blockC (seq1 (seq2 (loopC (blockC (seq2 (seq1 (seq2 (seq2 (seq2 C3))))))))))))))))))
noncomputable def q3_11 : Code := (blockC (seq1 (seq2 (loopC (blockC (seq2 (seq1 (seq2 (seq2 (blockC (seq1 (seq2 (loopC (blockC (seq2 (seq1 (seq2 (seq2 (seq2 C3)))))))))))))))))))
noncomputable def q3_10 : Code := (seq2 (seq2 (loopC (blockC (seq2 (seq1 (seq2 (seq2 (blockC (seq1 (seq2 (loopC (blockC (seq2 (seq1 (seq2 (seq2 (seq2 C3))))))))))))))))))
noncomputable def q3_12 : Code := (seq1 (seq2 (seq2 (seq2 (blockC (seq1 (seq2 (loopC (blockC (seq2 (seq1 (seq2 (seq2 (seq2 C3))))))))))))))
noncomputable def q3_13 : Code := (condA (seq2 (seq2 (seq2 (seq2 (blockC (seq1 (seq2 (loopC (blockC (seq2 (seq1 (seq2 (seq2 (seq2 C3)))))))))))))))
noncomputable def q3_5 : Code := (seq2 (seq2 (loopC (blockC (seq2 (seq1 (seq2 (seq2 (seq2 C3)))))))))
noncomputable def q3_14 : Code := (seq1 (seq1 (seq2 (seq2 (seq2 (seq2 C3))))))
noncomputable def q3_15 : Code := (seq1 (condA (seq2 (seq1 (seq2 (seq2 (seq2 (seq2 C3))))))))
noncomputable def q3_16 : Code := (seq1 (seq2 (seq2 (seq2 (seq2 (seq2 C3))))))
noncomputable def q3_17 : Code := (seq1 (seq1 (seq2 (seq2 (seq2 (seq2 (seq2 (seq2 C3))))))))
noncomputable def q3_18 : Code := (seq1 (seq1 (loopC (blockC (seq2 (seq1 (seq2 (seq2 (seq2 (seq2 (seq2 (seq2 C3))))))))))))
noncomputable def q3_20 : Code := (seq1 (blockC (seq1 (seq2 (loopC (blockC (seq2 (seq1 (seq2 (seq2 (seq2 (seq2 (seq2 (seq2 C3))))))))))))))
noncomputable def q3_21 : Code := (seq2 (blockC (seq1 (seq2 (loopC (blockC (seq2 (seq1 (seq2 (seq2 (seq2 (seq2 (seq2 (seq2 C3))))))))))))))
noncomputable def q3_19 : Code := (seq2 (seq2 (loopC (blockC (seq2 (seq1 (seq2 (seq2 (seq2 (seq2 (seq2 (seq2 C3))))))))))))
noncomputable def q3_22 : Code := (seq1 (seq1 (seq2 (seq2 (seq2 (seq2 (seq2 (seq2 (seq2 C3)))))))))
noncomputable def q3_23 : Code := (seq1 (seq1 (loopC (blockC (seq2 (seq1 (seq2 (seq2 (seq2 (seq2 (seq2 (seq2 (seq2 C3)))))))))))))
noncomputable def q3_25 : Code := (seq1 (blockC (seq1 (seq2 (loopC (blockC (seq2 (seq1 (seq2 (seq2 (seq2 (seq2 (seq2 (seq2 (seq2 C3)))))))))))))))
noncomputable def q3_26 : Code := (seq1 (seq1 (seq2 (blockC (seq1 (seq2 (loopC (blockC (seq2 (seq1 (seq2 (seq2 (seq2 (seq2 (seq2 (seq2 (seq2 C3)))))))))))))))))
noncomputable def q3_27 : Code := (condA (seq2 (seq1 (seq2 (blockC (seq1 (seq2 (loopC (blockC (seq2 (seq1 (seq2 (seq2 (seq2 (seq2 (seq2 (seq2 (seq2 C3))))))))))))))))))
noncomputable def q3_28 : Code := (seq2 (seq2 (blockC (seq1 (seq2 (loopC (blockC (seq2 (seq1 (seq2 (seq2 (seq2 (seq2 (seq2 (seq2 (seq2 C3))))))))))))))))
noncomputable def q3_24 : Code := (seq2 (seq2 (loopC (blockC (seq2 (seq1 (seq2 (seq2 (seq2 (seq2 (seq2 (seq2 (seq2 C3)))))))))))))
noncomputable def q3_29 : Code := (seq1 (seq2 (seq2 (seq2 (seq2 (seq2 (seq2 (seq2 (seq2 C3)))))))))
noncomputable def q3_30 : Code := (seq1 (seq2 (seq2 (seq2 (seq2 (seq2 (seq2 (seq2 (seq2 (seq2 C3))))))))))
noncomputable def q3_31 : Code := (seq1 (seq1 (seq2 (seq2 (seq2 (seq2 (seq2 (seq2 (seq2 (seq2 (seq2 (seq2 C3))))))))))))
noncomputable def q3_32 : Code := (seq1 (condA (seq2 (seq1 (seq2 (seq2 (seq2 (seq2 (seq2 (seq2 (seq2 (seq2 (seq2 (seq2 C3))))))))))))))
noncomputable def q3_33 : Code := (seq1 (seq2 (seq2 (seq2 (seq2 (seq2 (seq2 (seq2 (seq2 (seq2 (seq2 (seq2 C3))))))))))))
noncomputable def q3_34 : Code := (seq1 (seq2 (seq2 (seq2 (seq2 (seq2 (seq2 (seq2 (seq2 (seq2 (seq2 (seq2 (seq2 C3)))))))))))))
noncomputable def q3_35 : Code := (seq1 (seq2 (seq2 (seq2 (seq2 (seq2 (seq2 (seq2 (seq2 (seq2 (seq2 (seq2 (seq2 (seq2 C3))))))))))))))
noncomputable def q3_36 : Code := (seq1 (seq1 (seq2 (seq2 (seq2 (seq2 (seq2 (seq2 (seq2 (seq2 (seq2 (seq2 (seq2 (seq2 (seq2 (seq2 C3))))))))))))))))
noncomputable def q3_37 : Code := (seq1 (seq1 (loopC (blockC (seq2 (seq1 (seq2 (seq2 (seq2 (seq2 (seq2 (seq2 (seq2 (seq2 (seq2 (seq2 (seq2 (seq2 (seq2 (seq2 C3))))))))))))))))))))
noncomputable def q3_39 : Code := (seq1 (blockC (seq1 (seq2 (loopC (blockC (seq2 (seq1 (seq2 (seq2 (seq2 (seq2 (seq2 (seq2 (seq2 (seq2 (seq2 (seq2 (seq2 (seq2 (seq2 (seq2 C3))))))))))))))))))))))
noncomputable def q3_40 : Code := (seq1 (seq1 (seq2 (blockC (seq1 (seq2 (loopC (blockC (seq2 (seq1 (seq2 (seq2 (seq2 (seq2 (seq2 (seq2 (seq2 (seq2 (seq2 (seq2 (seq2 (seq2 (seq2 (seq2 C3))))))))))))))))))))))))
noncomputable def q3_41 : Code := (seq1 (condA (seq2 (seq1 (seq2 (blockC (seq1 (seq2 (loopC (blockC (seq2 (seq1 (seq2 (seq2 (seq2 (seq2 (seq2 (seq2 (seq2 (seq2 (seq2 (seq2 (seq2 (seq2 (seq2 (seq2 C3))))))))))))))))))))))))))
noncomputable def q3_42 : Code := (seq1 (seq1 (seq2 (seq2 (blockC (seq1 (seq2 (loopC (blockC (seq2 (seq1 (seq2 (seq2 (seq2 (seq2 (seq2 (seq2 (seq2 (seq2 (seq2 (seq2 (seq2 (seq2 (seq2 (seq2 C3)))))))))))))))))))))))))
noncomputable def q3_43 : Code := (condA (seq2 (seq1 (seq2 (seq2 (blockC (seq1 (seq2 (loopC (blockC (seq2 (seq1 (seq2 (seq2 (seq2 (seq2 (seq2 (seq2 (seq2 (seq2 (seq2 (seq2 (seq2 (seq2 (seq2 (seq2 C3))))))))))))))))))))))))))
noncomputable def q3_44 : Code := (seq1 (seq2 (seq2 (seq2 (blockC (seq1 (seq2 (loopC (blockC (seq2 (seq1 (seq2 (seq2 (seq2 (seq2 (seq2 (seq2 (seq2 (seq2 (seq2 (seq2 (seq2 (seq2 (seq2 (seq2 C3)))))))))))))))))))))))))
noncomputable def q3_45 : Code := (seq1 (seq1 (seq2 (seq2 (seq2 (seq2 (blockC (seq1 (seq2 (loopC (blockC (seq2 (seq1 (seq2 (seq2 (seq2 (seq2 (seq2 (seq2 (seq2 (seq2 (seq2 (seq2 (seq2 (seq2 (seq2 (seq2 C3)))))))))))))))))))))))))))
noncomputable def q3_46 : Code := (seq1 (condA (seq2 (seq1 (seq2 (seq2 (seq2 (seq2 (blockC (seq1 (seq2 (loopC (blockC (seq2 (seq1 (seq2 (seq2 (seq2 (seq2 (seq2 (seq2 (seq2 (seq2 (seq2 (seq2 (seq2 (seq2 (seq2 (seq2 C3)))))))))))))))))))))))))))))
noncomputable def q3_47 : Code := (seq1 (seq2 (seq2 (seq2 (seq2 (seq2 (blockC (seq1 (seq2 (loopC (blockC (seq2 (seq1 (seq2 (seq2 (seq2 (seq2 (seq2 (seq2 (seq2 (seq2 (seq2 (seq2 (seq2 (seq2 (seq2 (seq2 C3)))))))))))))))))))))))))))
noncomputable def q3_48 : Code := (condA (seq2 (seq2 (seq2 (seq2 (seq2 (seq2 (blockC (seq1 (seq2 (loopC (blockC (seq2 (seq1 (seq2 (seq2 (seq2 (seq2 (seq2 (seq2 (seq2 (seq2 (seq2 (seq2 (seq2 (seq2 (seq2 (seq2 C3))))))))))))))))))))))))))))
noncomputable def q3_38 : Code := (seq2 (seq2 (loopC (blockC (seq2 (seq1 (seq2 (seq2 (seq2 (seq2 (seq2 (seq2 (seq2 (seq2 (seq2 (seq2 (seq2 (seq2 (seq2 (seq2 C3))))))))))))))))))))
noncomputable def q3_49 : Code := (seq1 (seq2 (seq2 (seq2 (seq2 (seq2 (seq2 (seq2 (seq2 (seq2 (seq2 (seq2 (seq2 (seq2 (seq2 (seq2 C3))))))))))))))))
noncomputable def K3_3 : Code := q3_11
noncomputable def K3_2 : Code := (.loop (.seq (.seq q3_9 (.cond ( .tmp 49 ) .skip (.exit 2))) (.seq (.block 3 K3_3) q3_10)))
noncomputable def K3_1 : Code := (.seq q3_6 (.seq q3_7 (.seq (.seq q3_8 (.block 2 K3_2)) (.seq q3_12 (.cond ( .tmp 62 ) q3_13 .skip)))))
noncomputable def K3_0 : Code := (.loop (.seq (.seq q3_4 (.cond ( .tmp 38 ) .skip (.exit 0))) (.seq (.block 1 K3_1) q3_5)))
noncomputable def K3_5 : Code := (.seq q3_20 q3_21)
noncomputable def K3_4 : Code := (.loop (.seq (.seq q3_18 (.cond ( .tmp 79 ) .skip (.exit 4))) (.seq (.block 5 K3_5) q3_19)))
noncomputable def K3_7 : Code := (.seq q3_25 (.seq (.seq q3_26 (.cond ( .tmp 118 ) q3_27 .skip)) q3_28))
noncomputable def K3_6 : Code := (.loop (.seq (.seq q3_23 (.cond ( .tmp 110 ) .skip (.exit 6))) (.seq (.block 7 K3_7) q3_24)))
noncomputable def K3_9 : Code := (.seq q3_39 (.seq (.seq q3_40 (.cond ( .tmp 186 ) (.seq q3_41 .ret) .skip)) (.seq (.seq q3_42 (.cond ( .tmp 189 ) q3_43 .skip)) (.seq q3_44 (.seq (.seq q3_45 (.cond ( .tmp 227 ) (.seq q3_46 .ret) .skip)) (.seq q3_47 (.cond ( .tmp 242 ) q3_48 .skip)))))))
noncomputable def K3_8 : Code := (.loop (.seq (.seq q3_37 (.cond ( .tmp 172 ) .skip (.exit 8))) (.seq (.block 9 K3_9) q3_38)))
theorem e3 : C3 = (.seq q3_0 (.seq q3_1 (.seq q3_2 (.seq (.seq q3_3 (.block 0 K3_0)) (.seq (.seq q3_14 (.cond ( .tmp 69 ) (.seq q3_15 .ret) .skip)) (.seq q3_16 (.seq (.seq q3_17 (.block 4 K3_4)) (.seq (.seq q3_22 (.block 6 K3_6)) (.seq q3_29 (.seq q3_30 (.seq (.seq q3_31 (.cond ( .tmp 164 ) (.seq q3_32 .ret) .skip)) (.seq q3_33 (.seq q3_34 (.seq q3_35 (.seq (.seq q3_36 (.block 8 K3_8)) (.seq q3_49 .ret)))))))))))))))) := by kernel_rfl

set_option maxHeartbeats 1000000 in
set_option maxRecDepth 100000 in
theorem p3_2 {v : World} {a : Act} {s0 s1 s2 s3 : Value}  (hA : Fl 254 [(0, s0), (1, s1), (2, s2), (3, s3), (9, .bool true)] a) :
    q3_2.wp Try.prog (fun e a' w' => e = .normal ∧ (Fl 254 [(0, s0), (1, s1), (2, s2), (3, s3), (9, .bool true), (10, .slice none 0 0)] a' ∧ w' = v)) a v := by
  obtain ⟨hsz, hd, hp⟩ := hA
  obtain ⟨u, rfl, hg⟩ := litN hsz hd
  simp only [List.forall_mem_cons, hg] at hp
  obtain ⟨u0, u1, u2, u3, u9, -⟩ := hp
  clear hg hsz hd
  unfold q3_2 C3 Try.f15 seq1 seq2
  simp only [Option.getD_some, lits, Nat.reduceAdd, u0, u1, u2, u3, u9]
  clear u0 u1 u2 u3 u9
  go_wp2_with fail
  first
    | exact ⟨⟨rfl, rfl, by
      intro p hp
      simp only [List.mem_cons, List.not_mem_nil, or_false] at hp
      rcases hp with rfl | rfl | rfl | rfl | rfl | rfl <;> first | rfl | exact congrArg I (by omega) | exact congrArg Value.bool (by simp <;> omega) | exact congrArg Value.bool (by simp) | (simp; done)⟩, rfl⟩
    | exact ⟨rfl, rfl, by
      intro p hp
      simp only [List.mem_cons, List.not_mem_nil, or_false] at hp
      rcases hp with rfl | rfl | rfl | rfl | rfl | rfl <;> first | rfl | exact congrArg I (by omega) | exact congrArg Value.bool (by simp <;> omega) | exact congrArg Value.bool (by simp) | (simp; done)⟩
    | exact ⟨rfl, ⟨rfl, rfl, by
      intro p hp
      simp only [List.mem_cons, List.not_mem_nil, or_false] at hp
      rcases hp with rfl | rfl | rfl | rfl | rfl | rfl <;> first | rfl | exact congrArg I (by omega) | exact congrArg Value.bool (by simp <;> omega) | exact congrArg Value.bool (by simp) | (simp; done)⟩, rfl⟩

set_option maxHeartbeats 1000000 in
set_option maxRecDepth 100000 in
theorem p3_3 {v : World} {a : Act} {s0 s1 s2 s3 : Value} {lp : Option Addr} {m lc : Nat}  (hA : Fl 254 [(0, s0), (1, s1), (2, s2), (3, s3), (9, .bool true), (10, .slice lp m lc)] a) :
    q3_3.wp Try.prog (fun e a' w' => e = .normal ∧ (Fl 254 [(0, s0), (1, s1), (2, s2), (3, s3), (9, .bool true), (10, .slice lp m lc), (11, I ((0 : Nat) : Int))] a' ∧ w' = v)) a v := by
  obtain ⟨hsz, hd, hp⟩ := hA
  obtain ⟨u, rfl, hg⟩ := litN hsz hd
  simp only [List.forall_mem_cons, hg] at hp
  obtain ⟨u0, u1, u2, u3, u9, u10, -⟩ := hp
  clear hg hsz hd
  unfold q3_3 C3 Try.f15 seq1 seq2
  simp only [Option.getD_some, lits, Nat.reduceAdd, u0, u1, u2, u3, u9, u10]
  clear u0 u1 u2 u3 u9 u10
  go_wp2_with fail
  first
    | exact ⟨⟨rfl, rfl, by
      intro p hp
      simp only [List.mem_cons, List.not_mem_nil, or_false] at hp
      rcases hp with rfl | rfl | rfl | rfl | rfl | rfl | rfl <;> first | rfl | exact congrArg I (by omega) | exact congrArg Value.bool (by simp <;> omega) | exact congrArg Value.bool (by simp) | (simp; done)⟩, rfl⟩
    | exact ⟨rfl, rfl, by
      intro p hp
      simp only [List.mem_cons, List.not_mem_nil, or_false] at hp
      rcases hp with rfl | rfl | rfl | rfl | rfl | rfl | rfl <;> first | rfl | exact congrArg I (by omega) | exact congrArg Value.bool (by simp <;> omega) | exact congrArg Value.bool (by simp) | (simp; done)⟩
    | exact ⟨rfl, ⟨rfl, rfl, by
      intro p hp
      simp only [List.mem_cons, List.not_mem_nil, or_false] at hp
      rcases hp with rfl | rfl | rfl | rfl | rfl | rfl | rfl <;> first | rfl | exact congrArg I (by omega) | exact congrArg Value.bool (by simp <;> omega) | exact congrArg Value.bool (by simp) | (simp; done)⟩, rfl⟩

set_option maxHeartbeats 1000000 in
set_option maxRecDepth 100000 in
theorem p3_4a {v : World} {a : Act} {s0 s2 s3 : Value} {lp p1 : Option Addr} {m lc n1 c1 i : Nat} (hi : i < n1) (hm : m < 12) (hA : Fl 254 [(0, s0), (1, .slice p1 n1 c1), (2, s2), (3, s3), (9, .bool true), (10, .slice lp m lc), (11, I (i : Nat))] a) :
    q3_4.wp Try.prog (fun e a' w' => e = .normal ∧ (Fl 254 [(38, .bool true), (0, s0), (1, .slice p1 n1 c1), (2, s2), (3, s3), (9, .bool true), (10, .slice lp m lc), (11, I (i : Nat))] a' ∧ w' = v)) a v := by
  have hi' : (i : Int) < (n1 : Int) := by omega
  have hm' : (m : Int) < 12 := by omega
  obtain ⟨hsz, hd, hp⟩ := hA
  obtain ⟨u, rfl, hg⟩ := litN hsz hd
  simp only [List.forall_mem_cons, hg] at hp
  obtain ⟨u0, u1, u2, u3, u9, u10, u11, -⟩ := hp
  clear hg hsz hd
  unfold q3_4 C3 Try.f15 seq1 seq2 blockC loopC
  simp only [Option.getD_some, lits, Nat.reduceAdd, u0, u1, u2, u3, u9, u10, u11]
  clear u0 u1 u2 u3 u9 u10 u11
  go_wp2_with fail
  first
    | exact ⟨⟨rfl, rfl, by
      intro p hp
      simp only [List.mem_cons, List.not_mem_nil, or_false] at hp
      rcases hp with rfl | rfl | rfl | rfl | rfl | rfl | rfl | rfl <;> first | rfl | exact congrArg I (by omega) | exact congrArg Value.bool (by simp <;> omega) | exact congrArg Value.bool (by simp) | (simp; done)⟩, rfl⟩
    | exact ⟨rfl, rfl, by
      intro p hp
      simp only [List.mem_cons, List.not_mem_nil, or_false] at hp
      rcases hp with rfl | rfl | rfl | rfl | rfl | rfl | rfl | rfl <;> first | rfl | exact congrArg I (by omega) | exact congrArg Value.bool (by simp <;> omega) | exact congrArg Value.bool (by simp) | (simp; done)⟩
    | exact ⟨rfl, ⟨rfl, rfl, by
      intro p hp
      simp only [List.mem_cons, List.not_mem_nil, or_false] at hp
      rcases hp with rfl | rfl | rfl | rfl | rfl | rfl | rfl | rfl <;> first | rfl | exact congrArg I (by omega) | exact congrArg Value.bool (by simp <;> omega) | exact congrArg Value.bool (by simp) | (simp; done)⟩, rfl⟩

set_option maxHeartbeats 1000000 in
set_option maxRecDepth 100000 in
theorem p3_4b {v : World} {a : Act} {s0 s2 s3 : Value} {lp p1 : Option Addr} {m lc n1 c1 i : Nat} (hi : i < n1) (hm : ¬ m < 12) (hA : Fl 254 [(0, s0), (1, .slice p1 n1 c1), (2, s2), (3, s3), (9, .bool true), (10, .slice lp m lc), (11, I (i : Nat))] a) :
    q3_4.wp Try.prog (fun e a' w' => e = .normal ∧ (Fl 254 [(38, .bool false), (0, s0), (1, .slice p1 n1 c1), (2, s2), (3, s3), (9, .bool true), (10, .slice lp m lc), (11, I (i : Nat))] a' ∧ w' = v)) a v := by
  have hi' : (i : Int) < (n1 : Int) := by omega
  have hm' : ¬ (m : Int) < 12 := by omega
  obtain ⟨hsz, hd, hp⟩ := hA
  obtain ⟨u, rfl, hg⟩ := litN hsz hd
  simp only [List.forall_mem_cons, hg] at hp
  obtain ⟨u0, u1, u2, u3, u9, u10, u11, -⟩ := hp
  clear hg hsz hd
  unfold q3_4 C3 Try.f15 seq1 seq2 blockC loopC
  simp only [Option.getD_some, lits, Nat.reduceAdd, u0, u1, u2, u3, u9, u10, u11]
  clear u0 u1 u2 u3 u9 u10 u11
  go_wp2_with fail
  first
    | exact ⟨⟨rfl, rfl, by
      intro p hp
      simp only [List.mem_cons, List.not_mem_nil, or_false] at hp
      rcases hp with rfl | rfl | rfl | rfl | rfl | rfl | rfl | rfl <;> first | rfl | exact congrArg I (by omega) | exact congrArg Value.bool (by simp <;> omega) | exact congrArg Value.bool (by simp) | (simp; done)⟩, rfl⟩
    | exact ⟨rfl, rfl, by
      intro p hp
      simp only [List.mem_cons, List.not_mem_nil, or_false] at hp
      rcases hp with rfl | rfl | rfl | rfl | rfl | rfl | rfl | rfl <;> first | rfl | exact congrArg I (by omega) | exact congrArg Value.bool (by simp <;> omega) | exact congrArg Value.bool (by simp) | (simp; done)⟩
    | exact ⟨rfl, ⟨rfl, rfl, by
      intro p hp
      simp only [List.mem_cons, List.not_mem_nil, or_false] at hp
      rcases hp with rfl | rfl | rfl | rfl | rfl | rfl | rfl | rfl <;> first | rfl | exact congrArg I (by omega) | exact congrArg Value.bool (by simp <;> omega) | exact congrArg Value.bool (by simp) | (simp; done)⟩, rfl⟩

set_option maxHeartbeats 1000000 in
set_option maxRecDepth 100000 in
theorem p3_4c {v : World} {a : Act} {s0 s2 s3 : Value} {lp p1 : Option Addr} {m lc n1 c1 i : Nat} (hi : ¬ i < n1) (hA : Fl 254 [(0, s0), (1, .slice p1 n1 c1), (2, s2), (3, s3), (9, .bool true), (10, .slice lp m lc), (11, I (i : Nat))] a) :
    q3_4.wp Try.prog (fun e a' w' => e = .normal ∧ (Fl 254 [(38, .bool false), (0, s0), (1, .slice p1 n1 c1), (2, s2), (3, s3), (9, .bool true), (10, .slice lp m lc), (11, I (i : Nat))] a' ∧ w' = v)) a v := by
  have hi' : ¬ (i : Int) < (n1 : Int) := by omega
  obtain ⟨hsz, hd, hp⟩ := hA
  obtain ⟨u, rfl, hg⟩ := litN hsz hd
  simp only [List.forall_mem_cons, hg] at hp
  obtain ⟨u0, u1, u2, u3, u9, u10, u11, -⟩ := hp
  clear hg hsz hd
  unfold q3_4 C3 Try.f15 seq1 seq2 blockC loopC
  simp only [Option.getD_some, lits, Nat.reduceAdd, u0, u1, u2, u3, u9, u10, u11]
  clear u0 u1 u2 u3 u9 u10 u11
  go_wp2_with fail
  first
    | exact ⟨⟨rfl, rfl, by
      intro p hp
      simp only [List.mem_cons, List.not_mem_nil, or_false] at hp
      rcases hp with rfl | rfl | rfl | rfl | rfl | rfl | rfl | rfl <;> first | rfl | exact congrArg I (by omega) | exact congrArg Value.bool (by simp <;> omega) | exact congrArg Value.bool (by simp) | (simp; done)⟩, rfl⟩
    | exact ⟨rfl, rfl, by
      intro p hp
      simp only [List.mem_cons, List.not_mem_nil, or_false] at hp
      rcases hp with rfl | rfl | rfl | rfl | rfl | rfl | rfl | rfl <;> first | rfl | exact congrArg I (by omega) | exact congrArg Value.bool (by simp <;> omega) | exact congrArg Value.bool (by simp) | (simp; done)⟩
    | exact ⟨rfl, ⟨rfl, rfl, by
      intro p hp
      simp only [List.mem_cons, List.not_mem_nil, or_false] at hp
      rcases hp with rfl | rfl | rfl | rfl | rfl | rfl | rfl | rfl <;> first | rfl | exact congrArg I (by omega) | exact congrArg Value.bool (by simp <;> omega) | exact congrArg Value.bool (by simp) | (simp; done)⟩, rfl⟩

set_option maxHeartbeats 1000000 in
set_option maxRecDepth 100000 in
theorem p3_6 {v : World} {a : Act} {s0 s2 s3 : Value} {lp : Option Addr} {m lc b1 o1 n1 c1 i : Nat} {x : Int} (hi : i < n1) (d : v.cell? ⟨b1, o1 + i, none⟩ = some (I x)) (hA : Fl 254 [(0, s0), (1, .slice (some ⟨b1, o1, none⟩) n1 c1), (2, s2), (3, s3), (9, .bool true), (10, .slice lp m lc), (11, I (i : Nat))] a) :
    q3_6.wp Try.prog (fun e a' w' => e = .normal ∧ (Fl 254 [(0, s0), (1, .slice (some ⟨b1, o1, none⟩) n1 c1), (2, s2), (3, s3), (9, .bool true), (10, .slice lp m lc), (11, I (i : Nat)), (12, I (which x 12 : Nat))] a' ∧ w' = v)) a v := by
  have hi' : (i : Int) < (n1 : Int) := by omega
  have H1 : Hid (∀ (w : World), Calls Try.prog 51 #[I x, I 12] w (fun e w' => ∃ r, e = .returned r ∧ (r = I (which x 12 : Nat) ∧ w' = w))) := ⟨fun w => (body6w x 12 (by omega) (by omega) w).calls Try.func51 rfl⟩
  obtain ⟨hsz, hd, hp⟩ := hA
  obtain ⟨u, rfl, hg⟩ := litN hsz hd
  simp only [List.forall_mem_cons, hg] at hp
  obtain ⟨u0, u1, u2, u3, u9, u10, u11, -⟩ := hp
  clear hg hsz hd
  unfold q3_6 C3 Try.f15 seq1 seq2 blockC loopC
  simp only [Option.getD_some, lits, Nat.reduceAdd, u0, u1, u2, u3, u9, u10, u11]
  clear u0 u1 u2 u3 u9 u10 u11
  go_wp2_with (first | (go_at_call 51; refine (H1.out _).mono ?_; rintro e w1 ⟨_, rfl, rfl, rfl⟩))
  first
    | exact ⟨⟨rfl, rfl, by
      intro p hp
      simp only [List.mem_cons, List.not_mem_nil, or_false] at hp
      rcases hp with rfl | rfl | rfl | rfl | rfl | rfl | rfl | rfl <;> first | rfl | exact congrArg I (by omega) | exact congrArg Value.bool (by simp <;> omega) | exact congrArg Value.bool (by simp) | (simp; done)⟩, rfl⟩
    | exact ⟨rfl, rfl, by
      intro p hp
      simp only [List.mem_cons, List.not_mem_nil, or_false] at hp
      rcases hp with rfl | rfl | rfl | rfl | rfl | rfl | rfl | rfl <;> first | rfl | exact congrArg I (by omega) | exact congrArg Value.bool (by simp <;> omega) | exact congrArg Value.bool (by simp) | (simp; done)⟩
    | exact ⟨rfl, ⟨rfl, rfl, by
      intro p hp
      simp only [List.mem_cons, List.not_mem_nil, or_false] at hp
      rcases hp with rfl | rfl | rfl | rfl | rfl | rfl | rfl | rfl <;> first | rfl | exact congrArg I (by omega) | exact congrArg Value.bool (by simp <;> omega) | exact congrArg Value.bool (by simp) | (simp; done)⟩, rfl⟩

set_option maxHeartbeats 1000000 in
set_option maxRecDepth 100000 in
theorem p3_7 {v : World} {a : Act} {s0 s1 s2 s3 : Value} {lp : Option Addr} {m lc : Nat} {i k : Nat}  (hA : Fl 254 [(0, s0), (1, s1), (2, s2), (3, s3), (9, .bool true), (10, .slice lp m lc), (11, I (i : Nat)), (12, I (k : Nat))] a) :
    q3_7.wp Try.prog (fun e a' w' => e = .normal ∧ (Fl 254 [(0, s0), (1, s1), (2, s2), (3, s3), (9, .bool true), (10, .slice lp m lc), (11, I (i : Nat)), (12, I (k : Nat)), (13, .bool false)] a' ∧ w' = v)) a v := by
  obtain ⟨hsz, hd, hp⟩ := hA
  obtain ⟨u, rfl, hg⟩ := litN hsz hd
  simp only [List.forall_mem_cons, hg] at hp
  obtain ⟨u0, u1, u2, u3, u9, u10, u11, u12, -⟩ := hp
  clear hg hsz hd
  unfold q3_7 C3 Try.f15 seq1 seq2 blockC loopC
  simp only [Option.getD_some, lits, Nat.reduceAdd, u0, u1, u2, u3, u9, u10, u11, u12]
  clear u0 u1 u2 u3 u9 u10 u11 u12
  go_wp2_with fail
  first
    | exact ⟨⟨rfl, rfl, by
      intro p hp
      simp only [List.mem_cons, List.not_mem_nil, or_false] at hp
      rcases hp with rfl | rfl | rfl | rfl | rfl | rfl | rfl | rfl | rfl <;> first | rfl | exact congrArg I (by omega) | exact congrArg Value.bool (by simp <;> omega) | exact congrArg Value.bool (by simp) | (simp; done)⟩, rfl⟩
    | exact ⟨rfl, rfl, by
      intro p hp
      simp only [List.mem_cons, List.not_mem_nil, or_false] at hp
      rcases hp with rfl | rfl | rfl | rfl | rfl | rfl | rfl | rfl | rfl <;> first | rfl | exact congrArg I (by omega) | exact congrArg Value.bool (by simp <;> omega) | exact congrArg Value.bool (by simp) | (simp; done)⟩
    | exact ⟨rfl, ⟨rfl, rfl, by
      intro p hp
      simp only [List.mem_cons, List.not_mem_nil, or_false] at hp
      rcases hp with rfl | rfl | rfl | rfl | rfl | rfl | rfl | rfl | rfl <;> first | rfl | exact congrArg I (by omega) | exact congrArg Value.bool (by simp <;> omega) | exact congrArg Value.bool (by simp) | (simp; done)⟩, rfl⟩

set_option maxHeartbeats 1000000 in
set_option maxRecDepth 100000 in
theorem p3_8 {v : World} {a : Act} {s0 s1 s2 s3 : Value} {lp : Option Addr} {m lc : Nat} {i k : Nat} {kn : Bool}  (hA : Fl 254 [(0, s0), (1, s1), (2, s2), (3, s3), (9, .bool true), (10, .slice lp m lc), (11, I (i : Nat)), (12, I (k : Nat)), (13, .bool kn)] a) :
    q3_8.wp Try.prog (fun e a' w' => e = .normal ∧ (Fl 254 [(0, s0), (1, s1), (2, s2), (3, s3), (9, .bool true), (10, .slice lp m lc), (11, I (i : Nat)), (12, I (k : Nat)), (13, .bool kn), (14, I ((0 : Nat) : Int))] a' ∧ w' = v)) a v := by
  obtain ⟨hsz, hd, hp⟩ := hA
  obtain ⟨u, rfl, hg⟩ := litN hsz hd
  simp only [List.forall_mem_cons, hg] at hp
  obtain ⟨u0, u1, u2, u3, u9, u10, u11, u12, u13, -⟩ := hp
  clear hg hsz hd
  unfold q3_8 C3 Try.f15 seq1 seq2 blockC loopC
  simp only [Option.getD_some, lits, Nat.reduceAdd, u0, u1, u2, u3, u9, u10, u11, u12, u13]
  clear u0 u1 u2 u3 u9 u10 u11 u12 u13
  go_wp2_with fail
  first
    | exact ⟨⟨rfl, rfl, by
      intro p hp
      simp only [List.mem_cons, List.not_mem_nil, or_false] at hp
      rcases hp with rfl | rfl | rfl | rfl | rfl | rfl | rfl | rfl | rfl | rfl <;> first | rfl | exact congrArg I (by omega) | exact congrArg Value.bool (by simp <;> omega) | exact congrArg Value.bool (by simp) | (simp; done)⟩, rfl⟩
    | exact ⟨rfl, rfl, by
      intro p hp
      simp only [List.mem_cons, List.not_mem_nil, or_false] at hp
      rcases hp with rfl | rfl | rfl | rfl | rfl | rfl | rfl | rfl | rfl | rfl <;> first | rfl | exact congrArg I (by omega) | exact congrArg Value.bool (by simp <;> omega) | exact congrArg Value.bool (by simp) | (simp; done)⟩
    | exact ⟨rfl, ⟨rfl, rfl, by
      intro p hp
      simp only [List.mem_cons, List.not_mem_nil, or_false] at hp
      rcases hp with rfl | rfl | rfl | rfl | rfl | rfl | rfl | rfl | rfl | rfl <;> first | rfl | exact congrArg I (by omega) | exact congrArg Value.bool (by simp <;> omega) | exact congrArg Value.bool (by simp) | (simp; done)⟩, rfl⟩

set_option maxHeartbeats 1000000 in
set_option maxRecDepth 100000 in
theorem p3_9 {v : World} {a : Act} {s0 s1 s2 s3 : Value} {lp : Option Addr} {m lc : Nat} {i k : Nat} {kn : Bool} {j : Nat}  (hA : Fl 254 [(0, s0), (1, s1), (2, s2), (3, s3), (9, .bool true), (10, .slice lp m lc), (11, I (i : Nat)), (12, I (k : Nat)), (13, .bool kn), (14, I (j : Nat))] a) :
    q3_9.wp Try.prog (fun e a' w' => e = .normal ∧ (Fl 254 [(49, .bool (decide (j < m))), (0, s0), (1, s1), (2, s2), (3, s3), (9, .bool true), (10, .slice lp m lc), (11, I (i : Nat)), (12, I (k : Nat)), (13, .bool kn), (14, I (j : Nat))] a' ∧ w' = v)) a v := by
  obtain ⟨hsz, hd, hp⟩ := hA
  obtain ⟨u, rfl, hg⟩ := litN hsz hd
  simp only [List.forall_mem_cons, hg] at hp
  obtain ⟨u0, u1, u2, u3, u9, u10, u11, u12, u13, u14, -⟩ := hp
  clear hg hsz hd
  unfold q3_9 C3 Try.f15 seq1 seq2 blockC loopC
  simp only [Option.getD_some, lits, Nat.reduceAdd, u0, u1, u2, u3, u9, u10, u11, u12, u13, u14]
  clear u0 u1 u2 u3 u9 u10 u11 u12 u13 u14
  go_wp2_with fail
  first
    | exact ⟨⟨rfl, rfl, by
      intro p hp
      simp only [List.mem_cons, List.not_mem_nil, or_false] at hp
      rcases hp with rfl | rfl | rfl | rfl | rfl | rfl | rfl | rfl | rfl | rfl | rfl <;> first | rfl | exact congrArg I (by omega) | exact congrArg Value.bool (by simp <;> omega) | exact congrArg Value.bool (by simp) | (simp; done)⟩, rfl⟩
    | exact ⟨rfl, rfl, by
      intro p hp
      simp only [List.mem_cons, List.not_mem_nil, or_false] at hp
      rcases hp with rfl | rfl | rfl | rfl | rfl | rfl | rfl | rfl | rfl | rfl | rfl <;> first | rfl | exact congrArg I (by omega) | exact congrArg Value.bool (by simp <;> omega) | exact congrArg Value.bool (by simp) | (simp; done)⟩
    | exact ⟨rfl, ⟨rfl, rfl, by
      intro p hp
      simp only [List.mem_cons, List.not_mem_nil, or_false] at hp
      rcases hp with rfl | rfl | rfl | rfl | rfl | rfl | rfl | rfl | rfl | rfl | rfl <;> first | rfl | exact congrArg I (by omega) | exact congrArg Value.bool (by simp <;> omega) | exact congrArg Value.bool (by simp) | (simp; done)⟩, rfl⟩

set_option maxHeartbeats 1000000 in
set_option maxRecDepth 100000 in
theorem p3_11t {v : World} {a : Act} {s0 s1 s2 s3 : Value} {lp : Option Addr} {m lc : Nat} {i k j : Nat}  (hA : Fl 254 [(0, s0), (1, s1), (2, s2), (3, s3), (9, .bool true), (10, .slice lp m lc), (11, I (i : Nat)), (12, I (k : Nat)), (13, .bool true), (14, I (j : Nat))] a) :
    q3_11.wp Try.prog (fun e a' w' => e = .normal ∧ (Fl 254 [(0, s0), (1, s1), (2, s2), (3, s3), (9, .bool true), (10, .slice lp m lc), (11, I (i : Nat)), (12, I (k : Nat)), (13, .bool true), (14, I (j : Nat))] a' ∧ w' = v)) a v := by
  obtain ⟨hsz, hd, hp⟩ := hA
  obtain ⟨u, rfl, hg⟩ := litN hsz hd
  simp only [List.forall_mem_cons, hg] at hp
  obtain ⟨u0, u1, u2, u3, u9, u10, u11, u12, u13, u14, -⟩ := hp
  clear hg hsz hd
  unfold q3_11 C3 Try.f15 seq1 seq2 blockC loopC
  simp only [Option.getD_some, lits, Nat.reduceAdd, u0, u1, u2, u3, u9, u10, u11, u12, u13, u14]
  clear u0 u1 u2 u3 u9 u10 u11 u12 u13 u14
  go_wp2_with fail
  first
    | exact ⟨⟨rfl, rfl, by
      intro p hp
      simp only [List.mem_cons, List.not_mem_nil, or_false] at hp
      rcases hp with rfl | rfl | rfl | rfl | rfl | rfl | rfl | rfl | rfl | rfl <;> first | rfl | exact congrArg I (by omega) | exact congrArg Value.bool (by simp <;> omega) | exact congrArg Value.bool (by simp) | (simp; done)⟩, rfl⟩
    | exact ⟨rfl, rfl, by
      intro p hp
      simp only [List.mem_cons, List.not_mem_nil, or_false] at hp
      rcases hp with rfl | rfl | rfl | rfl | rfl | rfl | rfl | rfl | rfl | rfl <;> first | rfl | exact congrArg I (by omega) | exact congrArg Value.bool (by simp <;> omega) | exact congrArg Value.bool (by simp) | (simp; done)⟩
    | exact ⟨rfl, ⟨rfl, rfl, by
      intro p hp
      simp only [List.mem_cons, List.not_mem_nil, or_false] at hp
      rcases hp with rfl | rfl | rfl | rfl | rfl | rfl | rfl | rfl | rfl | rfl <;> first | rfl | exact congrArg I (by omega) | exact congrArg Value.bool (by simp <;> omega) | exact congrArg Value.bool (by simp) | (simp; done)⟩, rfl⟩

set_option maxHeartbeats 1000000 in
set_option maxRecDepth 100000 in
theorem p3_11f {v : World} {a : Act} {s0 s1 s2 s3 : Value} {g m lc i k j y : Nat} (hj : j < m) (d : v.cell? ⟨g, j, none⟩ = some (I (y : Nat))) (hA : Fl 254 [(0, s0), (1, s1), (2, s2), (3, s3), (9, .bool true), (10, .slice (some ⟨g, 0, none⟩) m lc), (11, I (i : Nat)), (12, I (k : Nat)), (13, .bool false), (14, I (j : Nat))] a) :
    q3_11.wp Try.prog (fun e a' w' => e = .normal ∧ (Fl 254 [(0, s0), (1, s1), (2, s2), (3, s3), (9, .bool true), (10, .slice (some ⟨g, 0, none⟩) m lc), (11, I (i : Nat)), (12, I (k : Nat)), (13, .bool ((y : Int) == (k : Int))), (14, I (j : Nat))] a' ∧ w' = v)) a v := by
  have hj' : (j : Int) < (m : Int) := by omega
  obtain ⟨hsz, hd, hp⟩ := hA
  obtain ⟨u, rfl, hg⟩ := litN hsz hd
  simp only [List.forall_mem_cons, hg] at hp
  obtain ⟨u0, u1, u2, u3, u9, u10, u11, u12, u13, u14, -⟩ := hp
  clear hg hsz hd
  unfold q3_11 C3 Try.f15 seq1 seq2 blockC loopC
  simp only [Option.getD_some, lits, Nat.reduceAdd, u0, u1, u2, u3, u9, u10, u11, u12, u13, u14]
  clear u0 u1 u2 u3 u9 u10 u11 u12 u13 u14
  go_wp2_with fail
  first
    | exact ⟨⟨rfl, rfl, by
      intro p hp
      simp only [List.mem_cons, List.not_mem_nil, or_false] at hp
      rcases hp with rfl | rfl | rfl | rfl | rfl | rfl | rfl | rfl | rfl | rfl <;> first | rfl | exact congrArg I (by omega) | exact congrArg Value.bool (by simp <;> omega) | exact congrArg Value.bool (by simp) | (simp; done)⟩, rfl⟩
    | exact ⟨rfl, rfl, by
      intro p hp
      simp only [List.mem_cons, List.not_mem_nil, or_false] at hp
      rcases hp with rfl | rfl | rfl | rfl | rfl | rfl | rfl | rfl | rfl | rfl <;> first | rfl | exact congrArg I (by omega) | exact congrArg Value.bool (by simp <;> omega) | exact congrArg Value.bool (by simp) | (simp; done)⟩
    | exact ⟨rfl, ⟨rfl, rfl, by
      intro p hp
      simp only [List.mem_cons, List.not_mem_nil, or_false] at hp
      rcases hp with rfl | rfl | rfl | rfl | rfl | rfl | rfl | rfl | rfl | rfl <;> first | rfl | exact congrArg I (by omega) | exact congrArg Value.bool (by simp <;> omega) | exact congrArg Value.bool (by simp) | (simp; done)⟩, rfl⟩

set_option maxHeartbeats 1000000 in
set_option maxRecDepth 100000 in
theorem p3_10 {v : World} {a : Act} {s0 s1 s2 s3 : Value} {lp : Option Addr} {m lc : Nat} {i k : Nat} {kn : Bool} {j : Nat} (hq : j < 1000000000) (hA : Fl 254 [(0, s0), (1, s1), (2, s2), (3, s3), (9, .bool true), (10, .slice lp m lc), (11, I (i : Nat)), (12, I (k : Nat)), (13, .bool kn), (14, I (j : Nat))] a) :
    q3_10.wp Try.prog (fun e a' w' => e = .normal ∧ (Fl 254 [(0, s0), (1, s1), (2, s2), (3, s3), (9, .bool true), (10, .slice lp m lc), (11, I (i : Nat)), (12, I (k : Nat)), (13, .bool kn), (14, I ((j + 1 : Nat) : Int))] a' ∧ w' = v)) a v := by
  have h9 : wrap64 ((j : Int) + 1) = ((j + 1 : Nat) : Int) := by unfold wrap64; omega
  obtain ⟨hsz, hd, hp⟩ := hA
  obtain ⟨u, rfl, hg⟩ := litN hsz hd
  simp only [List.forall_mem_cons, hg] at hp
  obtain ⟨u0, u1, u2, u3, u9, u10, u11, u12, u13, u14, -⟩ := hp
  clear hg hsz hd
  unfold q3_10 C3 Try.f15 seq1 seq2 blockC loopC
  simp only [Option.getD_some, lits, Nat.reduceAdd, u0, u1, u2, u3, u9, u10, u11, u12, u13, u14]
  clear u0 u1 u2 u3 u9 u10 u11 u12 u13 u14
  go_wp2_with fail
  first
    | exact ⟨⟨rfl, rfl, by
      intro p hp
      simp only [List.mem_cons, List.not_mem_nil, or_false] at hp
      rcases hp with rfl | rfl | rfl | rfl | rfl | rfl | rfl | rfl | rfl | rfl <;> first | rfl | exact congrArg I (by omega) | exact congrArg Value.bool (by simp <;> omega) | exact congrArg Value.bool (by simp) | (simp; done)⟩, rfl⟩
    | exact ⟨rfl, rfl, by
      intro p hp
      simp only [List.mem_cons, List.not_mem_nil, or_false] at hp
      rcases hp with rfl | rfl | rfl | rfl | rfl | rfl | rfl | rfl | rfl | rfl <;> first | rfl | exact congrArg I (by omega) | exact congrArg Value.bool (by simp <;> omega) | exact congrArg Value.bool (by simp) | (simp; done)⟩
    | exact ⟨rfl, ⟨rfl, rfl, by
      intro p hp
      simp only [List.mem_cons, List.not_mem_nil, or_false] at hp
      rcases hp with rfl | rfl | rfl | rfl | rfl | rfl | rfl | rfl | rfl | rfl <;> first | rfl | exact congrArg I (by omega) | exact congrArg Value.bool (by simp <;> omega) | exact congrArg Value.bool (by simp) | (simp; done)⟩, rfl⟩

set_option maxHeartbeats 1000000 in
set_option maxRecDepth 100000 in
theorem p3_12 {v : World} {a : Act} {s0 s1 s2 s3 : Value} {lp : Option Addr} {m lc : Nat} {i k : Nat} {kn : Bool}  (hA : Fl 254 [(0, s0), (1, s1), (2, s2), (3, s3), (9, .bool true), (10, .slice lp m lc), (11, I (i : Nat)), (12, I (k : Nat)), (13, .bool kn)] a) :
    q3_12.wp Try.prog (fun e a' w' => e = .normal ∧ (Fl 254 [(62, .bool (!kn)), (0, s0), (1, s1), (2, s2), (3, s3), (9, .bool true), (10, .slice lp m lc), (11, I (i : Nat)), (12, I (k : Nat)), (13, .bool kn)] a' ∧ w' = v)) a v := by
  obtain ⟨hsz, hd, hp⟩ := hA
  obtain ⟨u, rfl, hg⟩ := litN hsz hd
  simp only [List.forall_mem_cons, hg] at hp
  obtain ⟨u0, u1, u2, u3, u9, u10, u11, u12, u13, -⟩ := hp
  clear hg hsz hd
  unfold q3_12 C3 Try.f15 seq1 seq2 blockC loopC
  simp only [Option.getD_some, lits, Nat.reduceAdd, u0, u1, u2, u3, u9, u10, u11, u12, u13]
  clear u0 u1 u2 u3 u9 u10 u11 u12 u13
  go_wp2_with fail
  first
    | exact ⟨⟨rfl, rfl, by
      intro p hp
      simp only [List.mem_cons, List.not_mem_nil, or_false] at hp
      rcases hp with rfl | rfl | rfl | rfl | rfl | rfl | rfl | rfl | rfl | rfl <;> first | rfl | exact congrArg I (by omega) | exact congrArg Value.bool (by simp <;> omega) | exact congrArg Value.bool (by simp) | (simp; done)⟩, rfl⟩
    | exact ⟨rfl, rfl, by
      intro p hp
      simp only [List.mem_cons, List.not_mem_nil, or_false] at hp
      rcases hp with rfl | rfl | rfl | rfl | rfl | rfl | rfl | rfl | rfl | rfl <;> first | rfl | exact congrArg I (by omega) | exact congrArg Value.bool (by simp <;> omega) | exact congrArg Value.bool (by simp) | (simp; done)⟩
    | exact ⟨rfl, ⟨rfl, rfl, by
      intro p hp
      simp only [List.mem_cons, List.not_mem_nil, or_false] at hp
      rcases hp with rfl | rfl | rfl | rfl | rfl | rfl | rfl | rfl | rfl | rfl <;> first | rfl | exact congrArg I (by omega) | exact congrArg Value.bool (by simp <;> omega) | exact congrArg Value.bool (by simp) | (simp; done)⟩, rfl⟩

set_option maxHeartbeats 1000000 in
set_option maxRecDepth 100000 in
theorem p3_14 {v : World} {a : Act} {s0 s1 s2 s3 : Value} {lp : Option Addr} {m lc : Nat}  (hA : Fl 254 [(0, s0), (1, s1), (2, s2), (3, s3), (9, .bool true), (10, .slice lp m lc)] a) :
    q3_14.wp Try.prog (fun e a' w' => e = .normal ∧ (Fl 254 [(69, .bool ((m : Int) == 0)), (0, s0), (1, s1), (2, s2), (3, s3), (9, .bool true), (10, .slice lp m lc)] a' ∧ w' = v)) a v := by
  obtain ⟨hsz, hd, hp⟩ := hA
  obtain ⟨u, rfl, hg⟩ := litN hsz hd
  simp only [List.forall_mem_cons, hg] at hp
  obtain ⟨u0, u1, u2, u3, u9, u10, -⟩ := hp
  clear hg hsz hd
  unfold q3_14 C3 Try.f15 seq1 seq2
  simp only [Option.getD_some, lits, Nat.reduceAdd, u0, u1, u2, u3, u9, u10]
  clear u0 u1 u2 u3 u9 u10
  go_wp2_with fail
  first
    | exact ⟨⟨rfl, rfl, by
      intro p hp
      simp only [List.mem_cons, List.not_mem_nil, or_false] at hp
      rcases hp with rfl | rfl | rfl | rfl | rfl | rfl | rfl <;> first | rfl | exact congrArg I (by omega) | exact congrArg Value.bool (by simp <;> omega) | exact congrArg Value.bool (by simp) | (simp; done)⟩, rfl⟩
    | exact ⟨rfl, rfl, by
      intro p hp
      simp only [List.mem_cons, List.not_mem_nil, or_false] at hp
      rcases hp with rfl | rfl | rfl | rfl | rfl | rfl | rfl <;> first | rfl | exact congrArg I (by omega) | exact congrArg Value.bool (by simp <;> omega) | exact congrArg Value.bool (by simp) | (simp; done)⟩
    | exact ⟨rfl, ⟨rfl, rfl, by
      intro p hp
      simp only [List.mem_cons, List.not_mem_nil, or_false] at hp
      rcases hp with rfl | rfl | rfl | rfl | rfl | rfl | rfl <;> first | rfl | exact congrArg I (by omega) | exact congrArg Value.bool (by simp <;> omega) | exact congrArg Value.bool (by simp) | (simp; done)⟩, rfl⟩

set_option maxHeartbeats 1000000 in
set_option maxRecDepth 100000 in
theorem p3_15 {v : World} {a : Act}   (hA : Fl 254 [(9, .bool true)] a) :
    q3_15.wp Try.prog (fun e a' w' => e = .normal ∧ (Fl 254 [(8, .bool true)] a' ∧ w' = v)) a v := by
  obtain ⟨hsz, hd, hp⟩ := hA
  obtain ⟨u, rfl, hg⟩ := litN hsz hd
  simp only [List.forall_mem_cons, hg] at hp
  obtain ⟨u9, -⟩ := hp
  clear hg hsz hd
  unfold q3_15 C3 Try.f15 seq1 seq2 condA
  simp only [Option.getD_some, lits, Nat.reduceAdd, u9]
  clear u9
  go_wp2_with fail
  first
    | exact ⟨⟨rfl, rfl, by
      intro p hp
      simp only [List.mem_cons, List.not_mem_nil, or_false] at hp
      rcases hp with rfl <;> first | rfl | exact congrArg I (by omega) | exact congrArg Value.bool (by simp <;> omega) | exact congrArg Value.bool (by simp) | (simp; done)⟩, rfl⟩
    | exact ⟨rfl, rfl, by
      intro p hp
      simp only [List.mem_cons, List.not_mem_nil, or_false] at hp
      rcases hp with rfl <;> first | rfl | exact congrArg I (by omega) | exact congrArg Value.bool (by simp <;> omega) | exact congrArg Value.bool (by simp) | (simp; done)⟩
    | exact ⟨rfl, ⟨rfl, rfl, by
      intro p hp
      simp only [List.mem_cons, List.not_mem_nil, or_false] at hp
      rcases hp with rfl <;> first | rfl | exact congrArg I (by omega) | exact congrArg Value.bool (by simp <;> omega) | exact congrArg Value.bool (by simp) | (simp; done)⟩, rfl⟩

set_option maxHeartbeats 1000000 in
set_option maxRecDepth 100000 in
theorem p3_16 {v : World} {a : Act} {s0 s1 s2 s3 : Value} {lp : Option Addr} {m lc : Nat}  (hA : Fl 254 [(0, s0), (1, s1), (2, s2), (3, s3), (9, .bool true), (10, .slice lp m lc)] a) :
    q3_16.wp Try.prog (fun e a' w' => e = .normal ∧ (Fl 254 [(0, s0), (1, s1), (2, s2), (3, s3), (9, .bool true), (10, .slice lp m lc), (15, .slice (some ⟨v.heap.size, 0, none⟩) 4 4)] a' ∧ w' = v.alloc (.cells (madeCells #[.slice none 0 0] 4) 37))) a v := by
  have hmk := make_23
  obtain ⟨hsz, hd, hp⟩ := hA
  obtain ⟨u, rfl, hg⟩ := litN hsz hd
  simp only [List.forall_mem_cons, hg] at hp
  obtain ⟨u0, u1, u2, u3, u9, u10, -⟩ := hp
  clear hg hsz hd
  unfold q3_16 C3 Try.f15 seq1 seq2
  simp only [Option.getD_some, lits, Nat.reduceAdd, u0, u1, u2, u3, u9, u10]
  clear u0 u1 u2 u3 u9 u10
  go_wp2_with fail
  first
    | exact ⟨⟨rfl, rfl, by
      intro p hp
      simp only [List.mem_cons, List.not_mem_nil, or_false] at hp
      rcases hp with rfl | rfl | rfl | rfl | rfl | rfl | rfl <;> first | rfl | exact congrArg I (by omega) | exact congrArg Value.bool (by simp <;> omega) | exact congrArg Value.bool (by simp) | (simp; done)⟩, rfl⟩
    | exact ⟨rfl, rfl, by
      intro p hp
      simp only [List.mem_cons, List.not_mem_nil, or_false] at hp
      rcases hp with rfl | rfl | rfl | rfl | rfl | rfl | rfl <;> first | rfl | exact congrArg I (by omega) | exact congrArg Value.bool (by simp <;> omega) | exact congrArg Value.bool (by simp) | (simp; done)⟩
    | exact ⟨rfl, ⟨rfl, rfl, by
      intro p hp
      simp only [List.mem_cons, List.not_mem_nil, or_false] at hp
      rcases hp with rfl | rfl | rfl | rfl | rfl | rfl | rfl <;> first | rfl | exact congrArg I (by omega) | exact congrArg Value.bool (by simp <;> omega) | exact congrArg Value.bool (by simp) | (simp; done)⟩, rfl⟩

set_option maxHeartbeats 1000000 in
set_option maxRecDepth 100000 in
theorem p3_17 {v : World} {a : Act} {s0 s1 s2 s3 : Value} {lp : Option Addr} {m lc : Nat} {Sb : Nat}  (hA : Fl 254 [(0, s0), (1, s1), (2, s2), (3, s3), (9, .bool true), (10, .slice lp m lc), (15, .slice (some ⟨Sb, 0, none⟩) 4 4)] a) :
    q3_17.wp Try.prog (fun e a' w' => e = .normal ∧ (Fl 254 [(0, s0), (1, s1), (2, s2), (3, s3), (9, .bool true), (10, .slice lp m lc), (15, .slice (some ⟨Sb, 0, none⟩) 4 4), (16, I ((0 : Nat) : Int))] a' ∧ w' = v)) a v := by
  obtain ⟨hsz, hd, hp⟩ := hA
  obtain ⟨u, rfl, hg⟩ := litN hsz hd
  simp only [List.forall_mem_cons, hg] at hp
  obtain ⟨u0, u1, u2, u3, u9, u10, u15, -⟩ := hp
  clear hg hsz hd
  unfold q3_17 C3 Try.f15 seq1 seq2
  simp only [Option.getD_some, lits, Nat.reduceAdd, u0, u1, u2, u3, u9, u10, u15]
  clear u0 u1 u2 u3 u9 u10 u15
  go_wp2_with fail
  first
    | exact ⟨⟨rfl, rfl, by
      intro p hp
      simp only [List.mem_cons, List.not_mem_nil, or_false] at hp
      rcases hp with rfl | rfl | rfl | rfl | rfl | rfl | rfl | rfl <;> first | rfl | exact congrArg I (by omega) | exact congrArg Value.bool (by simp <;> omega) | exact congrArg Value.bool (by simp) | (simp; done)⟩, rfl⟩
    | exact ⟨rfl, rfl, by
      intro p hp
      simp only [List.mem_cons, List.not_mem_nil, or_false] at hp
      rcases hp with rfl | rfl | rfl | rfl | rfl | rfl | rfl | rfl <;> first | rfl | exact congrArg I (by omega) | exact congrArg Value.bool (by simp <;> omega) | exact congrArg Value.bool (by simp) | (simp; done)⟩
    | exact ⟨rfl, ⟨rfl, rfl, by
      intro p hp
      simp only [List.mem_cons, List.not_mem_nil, or_false] at hp
      rcases hp with rfl | rfl | rfl | rfl | rfl | rfl | rfl | rfl <;> first | rfl | exact congrArg I (by omega) | exact congrArg Value.bool (by simp <;> omega) | exact congrArg Value.bool (by simp) | (simp; done)⟩, rfl⟩

set_option maxHeartbeats 1000000 in
set_option maxRecDepth 100000 in
theorem p3_18a {v : World} {a : Act} {s0 s1 s2 : Value} {lp p3 : Option Addr} {m lc Sb n3 c3 i : Nat} (hi : i < n3) (hm : i < 20) (hA : Fl 254 [(0, s0), (1, s1), (2, s2), (3, .slice p3 n3 c3), (9, .bool true), (10, .slice lp m lc), (15, .slice (some ⟨Sb, 0, none⟩) 4 4), (16, I (i : Nat))] a) :
    q3_18.wp Try.prog (fun e a' w' => e = .normal ∧ (Fl 254 [(79, .bool true), (0, s0), (1, s1), (2, s2), (3, .slice p3 n3 c3), (9, .bool true), (10, .slice lp m lc), (15, .slice (some ⟨Sb, 0, none⟩) 4 4), (16, I (i : Nat))] a' ∧ w' = v)) a v := by
  have hi' : (i : Int) < (n3 : Int) := by omega
  have hm' : (i : Int) < 20 := by omega
  obtain ⟨hsz, hd, hp⟩ := hA
  obtain ⟨u, rfl, hg⟩ := litN hsz hd
  simp only [List.forall_mem_cons, hg] at hp
  obtain ⟨u0, u1, u2, u3, u9, u10, u15, u16, -⟩ := hp
  clear hg hsz hd
  unfold q3_18 C3 Try.f15 seq1 seq2 blockC loopC
  simp only [Option.getD_some, lits, Nat.reduceAdd, u0, u1, u2, u3, u9, u10, u15, u16]
  clear u0 u1 u2 u3 u9 u10 u15 u16
  go_wp2_with fail
  first
    | exact ⟨⟨rfl, rfl, by
      intro p hp
      simp only [List.mem_cons, List.not_mem_nil, or_false] at hp
      rcases hp with rfl | rfl | rfl | rfl | rfl | rfl | rfl | rfl | rfl <;> first | rfl | exact congrArg I (by omega) | exact congrArg Value.bool (by simp <;> omega) | exact congrArg Value.bool (by simp) | (simp; done)⟩, rfl⟩
    | exact ⟨rfl, rfl, by
      intro p hp
      simp only [List.mem_cons, List.not_mem_nil, or_false] at hp
      rcases hp with rfl | rfl | rfl | rfl | rfl | rfl | rfl | rfl | rfl <;> first | rfl | exact congrArg I (by omega) | exact congrArg Value.bool (by simp <;> omega) | exact congrArg Value.bool (by simp) | (simp; done)⟩
    | exact ⟨rfl, ⟨rfl, rfl, by
      intro p hp
      simp only [List.mem_cons, List.not_mem_nil, or_false] at hp
      rcases hp with rfl | rfl | rfl | rfl | rfl | rfl | rfl | rfl | rfl <;> first | rfl | exact congrArg I (by omega) | exact congrArg Value.bool (by simp <;> omega) | exact congrArg Value.bool (by simp) | (simp; done)⟩, rfl⟩

set_option maxHeartbeats 1000000 in
set_option maxRecDepth 100000 in
theorem p3_18b {v : World} {a : Act} {s0 s1 s2 : Value} {lp p3 : Option Addr} {m lc Sb n3 c3 i : Nat} (hi : i < n3) (hm : ¬ i < 20) (hA : Fl 254 [(0, s0), (1, s1), (2, s2), (3, .slice p3 n3 c3), (9, .bool true), (10, .slice lp m lc), (15, .slice (some ⟨Sb, 0, none⟩) 4 4), (16, I (i : Nat))] a) :
    q3_18.wp Try.prog (fun e a' w' => e = .normal ∧ (Fl 254 [(79, .bool false), (0, s0), (1, s1), (2, s2), (3, .slice p3 n3 c3), (9, .bool true), (10, .slice lp m lc), (15, .slice (some ⟨Sb, 0, none⟩) 4 4), (16, I (i : Nat))] a' ∧ w' = v)) a v := by
  have hi' : (i : Int) < (n3 : Int) := by omega
  have hm' : ¬ (i : Int) < 20 := by omega
  obtain ⟨hsz, hd, hp⟩ := hA
  obtain ⟨u, rfl, hg⟩ := litN hsz hd
  simp only [List.forall_mem_cons, hg] at hp
  obtain ⟨u0, u1, u2, u3, u9, u10, u15, u16, -⟩ := hp
  clear hg hsz hd
  unfold q3_18 C3 Try.f15 seq1 seq2 blockC loopC
  simp only [Option.getD_some, lits, Nat.reduceAdd, u0, u1, u2, u3, u9, u10, u15, u16]
  clear u0 u1 u2 u3 u9 u10 u15 u16
  go_wp2_with fail
  first
    | exact ⟨⟨rfl, rfl, by
      intro p hp
      simp only [List.mem_cons, List.not_mem_nil, or_false] at hp
      rcases hp with rfl | rfl | rfl | rfl | rfl | rfl | rfl | rfl | rfl <;> first | rfl | exact congrArg I (by omega) | exact congrArg Value.bool (by simp <;> omega) | exact congrArg Value.bool (by simp) | (simp; done)⟩, rfl⟩
    | exact ⟨rfl, rfl, by
      intro p hp
      simp only [List.mem_cons, List.not_mem_nil, or_false] at hp
      rcases hp with rfl | rfl | rfl | rfl | rfl | rfl | rfl | rfl | rfl <;> first | rfl | exact congrArg I (by omega) | exact congrArg Value.bool (by simp <;> omega) | exact congrArg Value.bool (by simp) | (simp; done)⟩
    | exact ⟨rfl, ⟨rfl, rfl, by
      intro p hp
      simp only [List.mem_cons, List.not_mem_nil, or_false] at hp
      rcases hp with rfl | rfl | rfl | rfl | rfl | rfl | rfl | rfl | rfl <;> first | rfl | exact congrArg I (by omega) | exact congrArg Value.bool (by simp <;> omega) | exact congrArg Value.bool (by simp) | (simp; done)⟩, rfl⟩

set_option maxHeartbeats 1000000 in
set_option maxRecDepth 100000 in
theorem p3_18c {v : World} {a : Act} {s0 s1 s2 : Value} {lp p3 : Option Addr} {m lc Sb n3 c3 i : Nat} (hi : ¬ i < n3) (hA : Fl 254 [(0, s0), (1, s1), (2, s2), (3, .slice p3 n3 c3), (9, .bool true), (10, .slice lp m lc), (15, .slice (some ⟨Sb, 0, none⟩) 4 4), (16, I (i : Nat))] a) :
    q3_18.wp Try.prog (fun e a' w' => e = .normal ∧ (Fl 254 [(79, .bool false), (0, s0), (1, s1), (2, s2), (3, .slice p3 n3 c3), (9, .bool true), (10, .slice lp m lc), (15, .slice (some ⟨Sb, 0, none⟩) 4 4), (16, I (i : Nat))] a' ∧ w' = v)) a v := by
  have hi' : ¬ (i : Int) < (n3 : Int) := by omega
  obtain ⟨hsz, hd, hp⟩ := hA
  obtain ⟨u, rfl, hg⟩ := litN hsz hd
  simp only [List.forall_mem_cons, hg] at hp
  obtain ⟨u0, u1, u2, u3, u9, u10, u15, u16, -⟩ := hp
  clear hg hsz hd
  unfold q3_18 C3 Try.f15 seq1 seq2 blockC loopC
  simp only [Option.getD_some, lits, Nat.reduceAdd, u0, u1, u2, u3, u9, u10, u15, u16]
  clear u0 u1 u2 u3 u9 u10 u15 u16
  go_wp2_with fail
  first
    | exact ⟨⟨rfl, rfl, by
      intro p hp
      simp only [List.mem_cons, List.not_mem_nil, or_false] at hp
      rcases hp with rfl | rfl | rfl | rfl | rfl | rfl | rfl | rfl | rfl <;> first | rfl | exact congrArg I (by omega) | exact congrArg Value.bool (by simp <;> omega) | exact congrArg Value.bool (by simp) | (simp; done)⟩, rfl⟩
    | exact ⟨rfl, rfl, by
      intro p hp
      simp only [List.mem_cons, List.not_mem_nil, or_false] at hp
      rcases hp with rfl | rfl | rfl | rfl | rfl | rfl | rfl | rfl | rfl <;> first | rfl | exact congrArg I (by omega) | exact congrArg Value.bool (by simp <;> omega) | exact congrArg Value.bool (by simp) | (simp; done)⟩
    | exact ⟨rfl, ⟨rfl, rfl, by
      intro p hp
      simp only [List.mem_cons, List.not_mem_nil, or_false] at hp
      rcases hp with rfl | rfl | rfl | rfl | rfl | rfl | rfl | rfl | rfl <;> first | rfl | exact congrArg I (by omega) | exact congrArg Value.bool (by simp <;> omega) | exact congrArg Value.bool (by simp) | (simp; done)⟩, rfl⟩

set_option maxHeartbeats 1000000 in
set_option maxRecDepth 100000 in
theorem p3_19 {v : World} {a : Act} {s0 s1 s2 s3 : Value} {lp : Option Addr} {m lc : Nat} {Sb : Nat} {i : Nat} (hq : i < 1000000000) (hA : Fl 254 [(0, s0), (1, s1), (2, s2), (3, s3), (9, .bool true), (10, .slice lp m lc), (15, .slice (some ⟨Sb, 0, none⟩) 4 4), (16, I (i : Nat))] a) :
    q3_19.wp Try.prog (fun e a' w' => e = .normal ∧ (Fl 254 [(0, s0), (1, s1), (2, s2), (3, s3), (9, .bool true), (10, .slice lp m lc), (15, .slice (some ⟨Sb, 0, none⟩) 4 4), (16, I ((i + 1 : Nat) : Int))] a' ∧ w' = v)) a v := by
  have h9 : wrap64 ((i : Int) + 1) = ((i + 1 : Nat) : Int) := by unfold wrap64; omega
  obtain ⟨hsz, hd, hp⟩ := hA
  obtain ⟨u, rfl, hg⟩ := litN hsz hd
  simp only [List.forall_mem_cons, hg] at hp
  obtain ⟨u0, u1, u2, u3, u9, u10, u15, u16, -⟩ := hp
  clear hg hsz hd
  unfold q3_19 C3 Try.f15 seq1 seq2 blockC loopC
  simp only [Option.getD_some, lits, Nat.reduceAdd, u0, u1, u2, u3, u9, u10, u15, u16]
  clear u0 u1 u2 u3 u9 u10 u15 u16
  go_wp2_with fail
  first
    | exact ⟨⟨rfl, rfl, by
      intro p hp
      simp only [List.mem_cons, List.not_mem_nil, or_false] at hp
      rcases hp with rfl | rfl | rfl | rfl | rfl | rfl | rfl | rfl <;> first | rfl | exact congrArg I (by omega) | exact congrArg Value.bool (by simp <;> omega) | exact congrArg Value.bool (by simp) | (simp; done)⟩, rfl⟩
    | exact ⟨rfl, rfl, by
      intro p hp
      simp only [List.mem_cons, List.not_mem_nil, or_false] at hp
      rcases hp with rfl | rfl | rfl | rfl | rfl | rfl | rfl | rfl <;> first | rfl | exact congrArg I (by omega) | exact congrArg Value.bool (by simp <;> omega) | exact congrArg Value.bool (by simp) | (simp; done)⟩
    | exact ⟨rfl, ⟨rfl, rfl, by
      intro p hp
      simp only [List.mem_cons, List.not_mem_nil, or_false] at hp
      rcases hp with rfl | rfl | rfl | rfl | rfl | rfl | rfl | rfl <;> first | rfl | exact congrArg I (by omega) | exact congrArg Value.bool (by simp <;> omega) | exact congrArg Value.bool (by simp) | (simp; done)⟩, rfl⟩

set_option maxHeartbeats 1000000 in
set_option maxRecDepth 100000 in
theorem p3_22 {v : World} {a : Act} {s0 s1 s2 s3 : Value} {lp : Option Addr} {m lc : Nat} {Sb : Nat}  (hA : Fl 254 [(0, s0), (1, s1), (2, s2), (3, s3), (9, .bool true), (10, .slice lp m lc), (15, .slice (some ⟨Sb, 0, none⟩) 4 4)] a) :
    q3_22.wp Try.prog (fun e a' w' => e = .normal ∧ (Fl 254 [(0, s0), (1, s1), (2, s2), (3, s3), (9, .bool true), (10, .slice lp m lc), (15, .slice (some ⟨Sb, 0, none⟩) 4 4), (18, I ((0 : Nat) : Int))] a' ∧ w' = v)) a v := by
  obtain ⟨hsz, hd, hp⟩ := hA
  obtain ⟨u, rfl, hg⟩ := litN hsz hd
  simp only [List.forall_mem_cons, hg] at hp
  obtain ⟨u0, u1, u2, u3, u9, u10, u15, -⟩ := hp
  clear hg hsz hd
  unfold q3_22 C3 Try.f15 seq1 seq2
  simp only [Option.getD_some, lits, Nat.reduceAdd, u0, u1, u2, u3, u9, u10, u15]
  clear u0 u1 u2 u3 u9 u10 u15
  go_wp2_with fail
  first
    | exact ⟨⟨rfl, rfl, by
      intro p hp
      simp only [List.mem_cons, List.not_mem_nil, or_false] at hp
      rcases hp with rfl | rfl | rfl | rfl | rfl | rfl | rfl | rfl <;> first | rfl | exact congrArg I (by omega) | exact congrArg Value.bool (by simp <;> omega) | exact congrArg Value.bool (by simp) | (simp; done)⟩, rfl⟩
    | exact ⟨rfl, rfl, by
      intro p hp
      simp only [List.mem_cons, List.not_mem_nil, or_false] at hp
      rcases hp with rfl | rfl | rfl | rfl | rfl | rfl | rfl | rfl <;> first | rfl | exact congrArg I (by omega) | exact congrArg Value.bool (by simp <;> omega) | exact congrArg Value.bool (by simp) | (simp; done)⟩
    | exact ⟨rfl, ⟨rfl, rfl, by
      intro p hp
      simp only [List.mem_cons, List.not_mem_nil, or_false] at hp
      rcases hp with rfl | rfl | rfl | rfl | rfl | rfl | rfl | rfl <;> first | rfl | exact congrArg I (by omega) | exact congrArg Value.bool (by simp <;> omega) | exact congrArg Value.bool (by simp) | (simp; done)⟩, rfl⟩

set_option maxHeartbeats 1000000 in
set_option maxRecDepth 100000 in
theorem p3_23 {v : World} {a : Act} {s0 s1 s2 s3 : Value} {lp : Option Addr} {m lc : Nat} {Sb : Nat} {i : Nat}  (hA : Fl 254 [(0, s0), (1, s1), (2, s2), (3, s3), (9, .bool true), (10, .slice lp m lc), (15, .slice (some ⟨Sb, 0, none⟩) 4 4), (18, I (i : Nat))] a) :
    q3_23.wp Try.prog (fun e a' w' => e = .normal ∧ (Fl 254 [(110, .bool (decide (i < m))), (0, s0), (1, s1), (2, s2), (3, s3), (9, .bool true), (10, .slice lp m lc), (15, .slice (some ⟨Sb, 0, none⟩) 4 4), (18, I (i : Nat))] a' ∧ w' = v)) a v := by
  obtain ⟨hsz, hd, hp⟩ := hA
  obtain ⟨u, rfl, hg⟩ := litN hsz hd
  simp only [List.forall_mem_cons, hg] at hp
  obtain ⟨u0, u1, u2, u3, u9, u10, u15, u18, -⟩ := hp
  clear hg hsz hd
  unfold q3_23 C3 Try.f15 seq1 seq2 blockC loopC
  simp only [Option.getD_some, lits, Nat.reduceAdd, u0, u1, u2, u3, u9, u10, u15, u18]
  clear u0 u1 u2 u3 u9 u10 u15 u18
  go_wp2_with fail
  first
    | exact ⟨⟨rfl, rfl, by
      intro p hp
      simp only [List.mem_cons, List.not_mem_nil, or_false] at hp
      rcases hp with rfl | rfl | rfl | rfl | rfl | rfl | rfl | rfl | rfl <;> first | rfl | exact congrArg I (by omega) | exact congrArg Value.bool (by simp <;> omega) | exact congrArg Value.bool (by simp) | (simp; done)⟩, rfl⟩
    | exact ⟨rfl, rfl, by
      intro p hp
      simp only [List.mem_cons, List.not_mem_nil, or_false] at hp
      rcases hp with rfl | rfl | rfl | rfl | rfl | rfl | rfl | rfl | rfl <;> first | rfl | exact congrArg I (by omega) | exact congrArg Value.bool (by simp <;> omega) | exact congrArg Value.bool (by simp) | (simp; done)⟩
    | exact ⟨rfl, ⟨rfl, rfl, by
      intro p hp
      simp only [List.mem_cons, List.not_mem_nil, or_false] at hp
      rcases hp with rfl | rfl | rfl | rfl | rfl | rfl | rfl | rfl | rfl <;> first | rfl | exact congrArg I (by omega) | exact congrArg Value.bool (by simp <;> omega) | exact congrArg Value.bool (by simp) | (simp; done)⟩, rfl⟩

set_option maxHeartbeats 1000000 in
set_option maxRecDepth 100000 in
theorem p3_25 {v : World} {a : Act} {s0 s1 s2 s3 : Value} {lp : Option Addr} {m lc : Nat} {Sb : Nat} {i : Nat} (hi : i < 1000) (hA : Fl 254 [(0, s0), (1, s1), (2, s2), (3, s3), (9, .bool true), (10, .slice lp m lc), (15, .slice (some ⟨Sb, 0, none⟩) 4 4), (18, I (i : Nat))] a) :
    q3_25.wp Try.prog (fun e a' w' => e = .normal ∧ (Fl 254 [(0, s0), (1, s1), (2, s2), (3, s3), (9, .bool true), (10, .slice lp m lc), (15, .slice (some ⟨Sb, 0, none⟩) 4 4), (18, I (i : Nat)), (19, I ((i % 4 : Nat) : Int))] a' ∧ w' = v)) a v := by
  have h4 : wrap64 ((i : Int).tmod 4) = ((i % 4 : Nat) : Int) := by
    have : (i : Int).tmod 4 = ((i % 4 : Nat) : Int) := by rw [Int.tmod_eq_emod_of_nonneg (by omega)]; omega
    rw [this]; unfold wrap64; omega
  obtain ⟨hsz, hd, hp⟩ := hA
  obtain ⟨u, rfl, hg⟩ := litN hsz hd
  simp only [List.forall_mem_cons, hg] at hp
  obtain ⟨u0, u1, u2, u3, u9, u10, u15, u18, -⟩ := hp
  clear hg hsz hd
  unfold q3_25 C3 Try.f15 seq1 seq2 blockC loopC
  simp only [Option.getD_some, lits, Nat.reduceAdd, u0, u1, u2, u3, u9, u10, u15, u18]
  clear u0 u1 u2 u3 u9 u10 u15 u18
  go_wp2_with fail
  first
    | exact ⟨⟨rfl, rfl, by
      intro p hp
      simp only [List.mem_cons, List.not_mem_nil, or_false] at hp
      rcases hp with rfl | rfl | rfl | rfl | rfl | rfl | rfl | rfl | rfl <;> first | rfl | exact congrArg I (by omega) | exact congrArg Value.bool (by simp <;> omega) | exact congrArg Value.bool (by simp) | (simp; done)⟩, rfl⟩
    | exact ⟨rfl, rfl, by
      intro p hp
      simp only [List.mem_cons, List.not_mem_nil, or_false] at hp
      rcases hp with rfl | rfl | rfl | rfl | rfl | rfl | rfl | rfl | rfl <;> first | rfl | exact congrArg I (by omega) | exact congrArg Value.bool (by simp <;> omega) | exact congrArg Value.bool (by simp) | (simp; done)⟩
    | exact ⟨rfl, ⟨rfl, rfl, by
      intro p hp
      simp only [List.mem_cons, List.not_mem_nil, or_false] at hp
      rcases hp with rfl | rfl | rfl | rfl | rfl | rfl | rfl | rfl | rfl <;> first | rfl | exact congrArg I (by omega) | exact congrArg Value.bool (by simp <;> omega) | exact congrArg Value.bool (by simp) | (simp; done)⟩, rfl⟩

set_option maxHeartbeats 1000000 in
set_option maxRecDepth 100000 in
theorem p3_26 {v : World} {a : Act} {s0 s1 s3 : Value} {lp p2 : Option Addr} {m lc Sb n2 c2 i t : Nat}  (hA : Fl 254 [(0, s0), (1, s1), (2, .slice p2 n2 c2), (3, s3), (9, .bool true), (10, .slice lp m lc), (15, .slice (some ⟨Sb, 0, none⟩) 4 4), (18, I (i : Nat)), (19, I (t : Nat))] a) :
    q3_26.wp Try.prog (fun e a' w' => e = .normal ∧ (Fl 254 [(118, .bool (decide (i < n2))), (0, s0), (1, s1), (2, .slice p2 n2 c2), (3, s3), (9, .bool true), (10, .slice lp m lc), (15, .slice (some ⟨Sb, 0, none⟩) 4 4), (18, I (i : Nat)), (19, I (t : Nat))] a' ∧ w' = v)) a v := by
  obtain ⟨hsz, hd, hp⟩ := hA
  obtain ⟨u, rfl, hg⟩ := litN hsz hd
  simp only [List.forall_mem_cons, hg] at hp
  obtain ⟨u0, u1, u2, u3, u9, u10, u15, u18, u19, -⟩ := hp
  clear hg hsz hd
  unfold q3_26 C3 Try.f15 seq1 seq2 blockC loopC
  simp only [Option.getD_some, lits, Nat.reduceAdd, u0, u1, u2, u3, u9, u10, u15, u18, u19]
  clear u0 u1 u2 u3 u9 u10 u15 u18 u19
  go_wp2_with fail
  first
    | exact ⟨⟨rfl, rfl, by
      intro p hp
      simp only [List.mem_cons, List.not_mem_nil, or_false] at hp
      rcases hp with rfl | rfl | rfl | rfl | rfl | rfl | rfl | rfl | rfl | rfl <;> first | rfl | exact congrArg I (by omega) | exact congrArg Value.bool (by simp <;> omega) | exact congrArg Value.bool (by simp) | (simp; done)⟩, rfl⟩
    | exact ⟨rfl, rfl, by
      intro p hp
      simp only [List.mem_cons, List.not_mem_nil, or_false] at hp
      rcases hp with rfl | rfl | rfl | rfl | rfl | rfl | rfl | rfl | rfl | rfl <;> first | rfl | exact congrArg I (by omega) | exact congrArg Value.bool (by simp <;> omega) | exact congrArg Value.bool (by simp) | (simp; done)⟩
    | exact ⟨rfl, ⟨rfl, rfl, by
      intro p hp
      simp only [List.mem_cons, List.not_mem_nil, or_false] at hp
      rcases hp with rfl | rfl | rfl | rfl | rfl | rfl | rfl | rfl | rfl | rfl <;> first | rfl | exact congrArg I (by omega) | exact congrArg Value.bool (by simp <;> omega) | exact congrArg Value.bool (by simp) | (simp; done)⟩, rfl⟩

set_option maxHeartbeats 1000000 in
set_option maxRecDepth 100000 in
theorem p3_27 {v : World} {a : Act} {s0 s1 s3 : Value} {lp : Option Addr} {m lc Sb b2 o2 n2 c2 i t t' : Nat} {x : Int} (hi : i < n2) (d : v.cell? ⟨b2, o2 + i, none⟩ = some (I x)) (hx : bits .and .i64 x 3 = (t' : Int)) (hA : Fl 254 [(0, s0), (1, s1), (2, .slice (some ⟨b2, o2, none⟩) n2 c2), (3, s3), (9, .bool true), (10, .slice lp m lc), (15, .slice (some ⟨Sb, 0, none⟩) 4 4), (18, I (i : Nat)), (19, I (t : Nat))] a) :
    q3_27.wp Try.prog (fun e a' w' => e = .normal ∧ (Fl 254 [(0, s0), (1, s1), (2, .slice (some ⟨b2, o2, none⟩) n2 c2), (3, s3), (9, .bool true), (10, .slice lp m lc), (15, .slice (some ⟨Sb, 0, none⟩) 4 4), (18, I (i : Nat)), (19, I (t' : Nat))] a' ∧ w' = v)) a v := by
  have hi' : (i : Int) < (n2 : Int) := by omega
  obtain ⟨hsz, hd, hp⟩ := hA
  obtain ⟨u, rfl, hg⟩ := litN hsz hd
  simp only [List.forall_mem_cons, hg] at hp
  obtain ⟨u0, u1, u2, u3, u9, u10, u15, u18, u19, -⟩ := hp
  clear hg hsz hd
  unfold q3_27 C3 Try.f15 seq1 seq2 condA blockC loopC
  simp only [Option.getD_some, lits, Nat.reduceAdd, u0, u1, u2, u3, u9, u10, u15, u18, u19]
  clear u0 u1 u2 u3 u9 u10 u15 u18 u19
  go_wp2_with fail
  first
    | exact ⟨⟨rfl, rfl, by
      intro p hp
      simp only [List.mem_cons, List.not_mem_nil, or_false] at hp
      rcases hp with rfl | rfl | rfl | rfl | rfl | rfl | rfl | rfl | rfl <;> first | rfl | exact congrArg I (by omega) | exact congrArg Value.bool (by simp <;> omega) | exact congrArg Value.bool (by simp) | (simp; done)⟩, rfl⟩
    | exact ⟨rfl, rfl, by
      intro p hp
      simp only [List.mem_cons, List.not_mem_nil, or_false] at hp
      rcases hp with rfl | rfl | rfl | rfl | rfl | rfl | rfl | rfl | rfl <;> first | rfl | exact congrArg I (by omega) | exact congrArg Value.bool (by simp <;> omega) | exact congrArg Value.bool (by simp) | (simp; done)⟩
    | exact ⟨rfl, ⟨rfl, rfl, by
      intro p hp
      simp only [List.mem_cons, List.not_mem_nil, or_false] at hp
      rcases hp with rfl | rfl | rfl | rfl | rfl | rfl | rfl | rfl | rfl <;> first | rfl | exact congrArg I (by omega) | exact congrArg Value.bool (by simp <;> omega) | exact congrArg Value.bool (by simp) | (simp; done)⟩, rfl⟩

set_option maxHeartbeats 1000000 in
set_option maxRecDepth 100000 in
theorem p3_24 {v : World} {a : Act} {s0 s1 s2 s3 : Value} {lp : Option Addr} {m lc : Nat} {Sb : Nat} {i : Nat} (hq : i < 1000000000) (hA : Fl 254 [(0, s0), (1, s1), (2, s2), (3, s3), (9, .bool true), (10, .slice lp m lc), (15, .slice (some ⟨Sb, 0, none⟩) 4 4), (18, I (i : Nat))] a) :
    q3_24.wp Try.prog (fun e a' w' => e = .normal ∧ (Fl 254 [(0, s0), (1, s1), (2, s2), (3, s3), (9, .bool true), (10, .slice lp m lc), (15, .slice (some ⟨Sb, 0, none⟩) 4 4), (18, I ((i + 1 : Nat) : Int))] a' ∧ w' = v)) a v := by
  have h9 : wrap64 ((i : Int) + 1) = ((i + 1 : Nat) : Int) := by unfold wrap64; omega
  obtain ⟨hsz, hd, hp⟩ := hA
  obtain ⟨u, rfl, hg⟩ := litN hsz hd
  simp only [List.forall_mem_cons, hg] at hp
  obtain ⟨u0, u1, u2, u3, u9, u10, u15, u18, -⟩ := hp
  clear hg hsz hd
  unfold q3_24 C3 Try.f15 seq1 seq2 blockC loopC
  simp only [Option.getD_some, lits, Nat.reduceAdd, u0, u1, u2, u3, u9, u10, u15, u18]
  clear u0 u1 u2 u3 u9 u10 u15 u18
  go_wp2_with fail
  first
    | exact ⟨⟨rfl, rfl, by
      intro p hp
      simp only [List.mem_cons, List.not_mem_nil, or_false] at hp
      rcases hp with rfl | rfl | rfl | rfl | rfl | rfl | rfl | rfl <;> first | rfl | exact congrArg I (by omega) | exact congrArg Value.bool (by simp <;> omega) | exact congrArg Value.bool (by simp) | (simp; done)⟩, rfl⟩
    | exact ⟨rfl, rfl, by
      intro p hp
      simp only [List.mem_cons, List.not_mem_nil, or_false] at hp
      rcases hp with rfl | rfl | rfl | rfl | rfl | rfl | rfl | rfl <;> first | rfl | exact congrArg I (by omega) | exact congrArg Value.bool (by simp <;> omega) | exact congrArg Value.bool (by simp) | (simp; done)⟩
    | exact ⟨rfl, ⟨rfl, rfl, by
      intro p hp
      simp only [List.mem_cons, List.not_mem_nil, or_false] at hp
      rcases hp with rfl | rfl | rfl | rfl | rfl | rfl | rfl | rfl <;> first | rfl | exact congrArg I (by omega) | exact congrArg Value.bool (by simp <;> omega) | exact congrArg Value.bool (by simp) | (simp; done)⟩, rfl⟩

set_option maxHeartbeats 1000000 in
set_option maxRecDepth 100000 in
theorem p3_31 {v : World} {a : Act} {Sb wb M : Nat}  (hA : Fl 254 [(9, .bool true), (15, .slice (some ⟨Sb, 0, none⟩) 4 4), (20, Pt wb 0), (21, .slice (some ⟨M, 0, none⟩) 4 4), (22, I 0)] a) :
    q3_31.wp Try.prog (fun e a' w' => e = .normal ∧ (Fl 254 [(164, .bool false), (15, .slice (some ⟨Sb, 0, none⟩) 4 4), (20, Pt wb 0), (21, .slice (some ⟨M, 0, none⟩) 4 4)] a' ∧ w' = v)) a v := by
  obtain ⟨hsz, hd, hp⟩ := hA
  obtain ⟨u, rfl, hg⟩ := litN hsz hd
  simp only [List.forall_mem_cons, hg] at hp
  obtain ⟨u9, u15, u20, u21, u22, -⟩ := hp
  clear hg hsz hd
  unfold q3_31 C3 Try.f15 seq1 seq2
  simp only [Option.getD_some, lits, Nat.reduceAdd, u9, u15, u20, u21, u22]
  clear u9 u15 u20 u21 u22
  go_wp2_with fail
  first
    | exact ⟨⟨rfl, rfl, by
      intro p hp
      simp only [List.mem_cons, List.not_mem_nil, or_false] at hp
      rcases hp with rfl | rfl | rfl | rfl <;> first | rfl | exact congrArg I (by omega) | exact congrArg Value.bool (by simp <;> omega) | exact congrArg Value.bool (by simp) | (simp; done)⟩, rfl⟩
    | exact ⟨rfl, rfl, by
      intro p hp
      simp only [List.mem_cons, List.not_mem_nil, or_false] at hp
      rcases hp with rfl | rfl | rfl | rfl <;> first | rfl | exact congrArg I (by omega) | exact congrArg Value.bool (by simp <;> omega) | exact congrArg Value.bool (by simp) | (simp; done)⟩
    | exact ⟨rfl, ⟨rfl, rfl, by
      intro p hp
      simp only [List.mem_cons, List.not_mem_nil, or_false] at hp
      rcases hp with rfl | rfl | rfl | rfl <;> first | rfl | exact congrArg I (by omega) | exact congrArg Value.bool (by simp <;> omega) | exact congrArg Value.bool (by simp) | (simp; done)⟩, rfl⟩

set_option maxHeartbeats 1000000 in
set_option maxRecDepth 100000 in
theorem p3_33 {v : World} {a : Act} {Sb wb M : Nat}  (hA : Fl 254 [(15, .slice (some ⟨Sb, 0, none⟩) 4 4), (20, Pt wb 0), (21, .slice (some ⟨M, 0, none⟩) 4 4)] a) :
    q3_33.wp Try.prog (fun e a' w' => e = .normal ∧ (Fl 254 [(15, .slice (some ⟨Sb, 0, none⟩) 4 4), (20, Pt wb 0), (21, .slice (some ⟨M, 0, none⟩) 4 4), (23, Pt v.heap.size 0)] a' ∧ w' = v.alloc (.cells #[I 0, I 0] 42))) a v := by
  obtain ⟨hsz, hd, hp⟩ := hA
  obtain ⟨u, rfl, hg⟩ := litN hsz hd
  simp only [List.forall_mem_cons, hg] at hp
  obtain ⟨u15, u20, u21, -⟩ := hp
  clear hg hsz hd
  unfold q3_33 C3 Try.f15 seq1 seq2
  simp only [Option.getD_some, lits, Nat.reduceAdd, u15, u20, u21]
  clear u15 u20 u21
  go_wp2_with fail
  first
    | exact ⟨⟨rfl, rfl, by
      intro p hp
      simp only [List.mem_cons, List.not_mem_nil, or_false] at hp
      rcases hp with rfl | rfl | rfl | rfl <;> first | rfl | exact congrArg I (by omega) | exact congrArg Value.bool (by simp <;> omega) | exact congrArg Value.bool (by simp) | (simp; done)⟩, rfl⟩
    | exact ⟨rfl, rfl, by
      intro p hp
      simp only [List.mem_cons, List.not_mem_nil, or_false] at hp
      rcases hp with rfl | rfl | rfl | rfl <;> first | rfl | exact congrArg I (by omega) | exact congrArg Value.bool (by simp <;> omega) | exact congrArg Value.bool (by simp) | (simp; done)⟩
    | exact ⟨rfl, ⟨rfl, rfl, by
      intro p hp
      simp only [List.mem_cons, List.not_mem_nil, or_false] at hp
      rcases hp with rfl | rfl | rfl | rfl <;> first | rfl | exact congrArg I (by omega) | exact congrArg Value.bool (by simp <;> omega) | exact congrArg Value.bool (by simp) | (simp; done)⟩, rfl⟩

set_option maxHeartbeats 1000000 in
set_option maxRecDepth 100000 in
theorem p3_35 {v : World} {a : Act} {Sb wb M Lb : Nat} {p : Option Addr} {T ct : Nat}  (hA : Fl 254 [(15, .slice (some ⟨Sb, 0, none⟩) 4 4), (20, Pt wb 0), (21, .slice (some ⟨M, 0, none⟩) 4 4), (23, Pt Lb 0), (24, .slice p T ct)] a) :
    q3_35.wp Try.prog (fun e a' w' => e = .normal ∧ (Fl 254 [(15, .slice (some ⟨Sb, 0, none⟩) 4 4), (20, Pt wb 0), (21, .slice (some ⟨M, 0, none⟩) 4 4), (23, Pt Lb 0), (24, .slice p T ct), (25, .slice (some ⟨v.heap.size, 0, none⟩) 4 4)] a' ∧ w' = v.alloc (.cells (madeCells #[I 0] 4) 3))) a v := by
  have hmk := make_3f
  obtain ⟨hsz, hd, hp⟩ := hA
  obtain ⟨u, rfl, hg⟩ := litN hsz hd
  simp only [List.forall_mem_cons, hg] at hp
  obtain ⟨u15, u20, u21, u23, u24, -⟩ := hp
  clear hg hsz hd
  unfold q3_35 C3 Try.f15 seq1 seq2
  simp only [Option.getD_some, lits, Nat.reduceAdd, u15, u20, u21, u23, u24]
  clear u15 u20 u21 u23 u24
  go_wp2_with fail
  first
    | exact ⟨⟨rfl, rfl, by
      intro p hp
      simp only [List.mem_cons, List.not_mem_nil, or_false] at hp
      rcases hp with rfl | rfl | rfl | rfl | rfl | rfl <;> first | rfl | exact congrArg I (by omega) | exact congrArg Value.bool (by simp <;> omega) | exact congrArg Value.bool (by simp) | (simp; done)⟩, rfl⟩
    | exact ⟨rfl, rfl, by
      intro p hp
      simp only [List.mem_cons, List.not_mem_nil, or_false] at hp
      rcases hp with rfl | rfl | rfl | rfl | rfl | rfl <;> first | rfl | exact congrArg I (by omega) | exact congrArg Value.bool (by simp <;> omega) | exact congrArg Value.bool (by simp) | (simp; done)⟩
    | exact ⟨rfl, ⟨rfl, rfl, by
      intro p hp
      simp only [List.mem_cons, List.not_mem_nil, or_false] at hp
      rcases hp with rfl | rfl | rfl | rfl | rfl | rfl <;> first | rfl | exact congrArg I (by omega) | exact congrArg Value.bool (by simp <;> omega) | exact congrArg Value.bool (by simp) | (simp; done)⟩, rfl⟩

set_option maxHeartbeats 1000000 in
set_option maxRecDepth 100000 in
theorem p3_36 {v : World} {a : Act} {Sb wb M Lb Z : Nat} {p : Option Addr} {T ct : Nat}  (hA : Fl 254 [(15, .slice (some ⟨Sb, 0, none⟩) 4 4), (20, Pt wb 0), (21, .slice (some ⟨M, 0, none⟩) 4 4), (23, Pt Lb 0), (24, .slice p T ct), (25, .slice (some ⟨Z, 0, none⟩) 4 4)] a) :
    q3_36.wp Try.prog (fun e a' w' => e = .normal ∧ (Fl 254 [(15, .slice (some ⟨Sb, 0, none⟩) 4 4), (20, Pt wb 0), (21, .slice (some ⟨M, 0, none⟩) 4 4), (23, Pt Lb 0), (24, .slice p T ct), (25, .slice (some ⟨Z, 0, none⟩) 4 4), (26, I ((0 : Nat) : Int))] a' ∧ w' = v)) a v := by
  obtain ⟨hsz, hd, hp⟩ := hA
  obtain ⟨u, rfl, hg⟩ := litN hsz hd
  simp only [List.forall_mem_cons, hg] at hp
  obtain ⟨u15, u20, u21, u23, u24, u25, -⟩ := hp
  clear hg hsz hd
  unfold q3_36 C3 Try.f15 seq1 seq2
  simp only [Option.getD_some, lits, Nat.reduceAdd, u15, u20, u21, u23, u24, u25]
  clear u15 u20 u21 u23 u24 u25
  go_wp2_with fail
  first
    | exact ⟨⟨rfl, rfl, by
      intro p hp
      simp only [List.mem_cons, List.not_mem_nil, or_false] at hp
      rcases hp with rfl | rfl | rfl | rfl | rfl | rfl | rfl <;> first | rfl | exact congrArg I (by omega) | exact congrArg Value.bool (by simp <;> omega) | exact congrArg Value.bool (by simp) | (simp; done)⟩, rfl⟩
    | exact ⟨rfl, rfl, by
      intro p hp
      simp only [List.mem_cons, List.not_mem_nil, or_false] at hp
      rcases hp with rfl | rfl | rfl | rfl | rfl | rfl | rfl <;> first | rfl | exact congrArg I (by omega) | exact congrArg Value.bool (by simp <;> omega) | exact congrArg Value.bool (by simp) | (simp; done)⟩
    | exact ⟨rfl, ⟨rfl, rfl, by
      intro p hp
      simp only [List.mem_cons, List.not_mem_nil, or_false] at hp
      rcases hp with rfl | rfl | rfl | rfl | rfl | rfl | rfl <;> first | rfl | exact congrArg I (by omega) | exact congrArg Value.bool (by simp <;> omega) | exact congrArg Value.bool (by simp) | (simp; done)⟩, rfl⟩

set_option maxHeartbeats 1000000 in
set_option maxRecDepth 100000 in
theorem p3_37 {v : World} {a : Act} {Sb wb M Lb Z : Nat} {p : Option Addr} {T ct : Nat} {k : Nat}  (hA : Fl 254 [(15, .slice (some ⟨Sb, 0, none⟩) 4 4), (20, Pt wb 0), (21, .slice (some ⟨M, 0, none⟩) 4 4), (23, Pt Lb 0), (24, .slice p T ct), (25, .slice (some ⟨Z, 0, none⟩) 4 4), (26, I (k : Nat))] a) :
    q3_37.wp Try.prog (fun e a' w' => e = .normal ∧ (Fl 254 [(172, .bool (decide (k < T))), (15, .slice (some ⟨Sb, 0, none⟩) 4 4), (20, Pt wb 0), (21, .slice (some ⟨M, 0, none⟩) 4 4), (23, Pt Lb 0), (24, .slice p T ct), (25, .slice (some ⟨Z, 0, none⟩) 4 4), (26, I (k : Nat))] a' ∧ w' = v)) a v := by
  obtain ⟨hsz, hd, hp⟩ := hA
  obtain ⟨u, rfl, hg⟩ := litN hsz hd
  simp only [List.forall_mem_cons, hg] at hp
  obtain ⟨u15, u20, u21, u23, u24, u25, u26, -⟩ := hp
  clear hg hsz hd
  unfold q3_37 C3 Try.f15 seq1 seq2 blockC loopC
  simp only [Option.getD_some, lits, Nat.reduceAdd, u15, u20, u21, u23, u24, u25, u26]
  clear u15 u20 u21 u23 u24 u25 u26
  go_wp2_with fail
  first
    | exact ⟨⟨rfl, rfl, by
      intro p hp
      simp only [List.mem_cons, List.not_mem_nil, or_false] at hp
      rcases hp with rfl | rfl | rfl | rfl | rfl | rfl | rfl | rfl <;> first | rfl | exact congrArg I (by omega) | exact congrArg Value.bool (by simp <;> omega) | exact congrArg Value.bool (by simp) | (simp; done)⟩, rfl⟩
    | exact ⟨rfl, rfl, by
      intro p hp
      simp only [List.mem_cons, List.not_mem_nil, or_false] at hp
      rcases hp with rfl | rfl | rfl | rfl | rfl | rfl | rfl | rfl <;> first | rfl | exact congrArg I (by omega) | exact congrArg Value.bool (by simp <;> omega) | exact congrArg Value.bool (by simp) | (simp; done)⟩
    | exact ⟨rfl, ⟨rfl, rfl, by
      intro p hp
      simp only [List.mem_cons, List.not_mem_nil, or_false] at hp
      rcases hp with rfl | rfl | rfl | rfl | rfl | rfl | rfl | rfl <;> first | rfl | exact congrArg I (by omega) | exact congrArg Value.bool (by simp <;> omega) | exact congrArg Value.bool (by simp) | (simp; done)⟩, rfl⟩

set_option maxHeartbeats 1000000 in
set_option maxRecDepth 100000 in
theorem p3_39 {v : World} {a : Act} {Sb wb M Lb Z g T ct k : Nat} {th ce op ol ne : Int} (hk : k < T) (d0 : v.cell? ⟨g, k * 5, none⟩ = some (I th)) (d1 : v.cell? ⟨g, k * 5 + 1, none⟩ = some (I ce)) (d2 : v.cell? ⟨g, k * 5 + 2, none⟩ = some (I op)) (d3 : v.cell? ⟨g, k * 5 + 3, none⟩ = some (I ol)) (d4 : v.cell? ⟨g, k * 5 + 4, none⟩ = some (I ne)) (hA : Fl 254 [(15, .slice (some ⟨Sb, 0, none⟩) 4 4), (20, Pt wb 0), (21, .slice (some ⟨M, 0, none⟩) 4 4), (23, Pt Lb 0), (24, .slice (some ⟨g, 0, none⟩) T ct), (25, .slice (some ⟨Z, 0, none⟩) 4 4), (26, I (k : Nat))] a) :
    q3_39.wp Try.prog (fun e a' w' => e = .normal ∧ (Fl 254 [(15, .slice (some ⟨Sb, 0, none⟩) 4 4), (20, Pt wb 0), (21, .slice (some ⟨M, 0, none⟩) 4 4), (23, Pt Lb 0), (24, .slice (some ⟨g, 0, none⟩) T ct), (25, .slice (some ⟨Z, 0, none⟩) 4 4), (26, I (k : Nat)), (27, Pt v.heap.size 0)] a' ∧ w' = v.alloc (.cells #[I th, I ce, I op, I ol, I ne] 34))) a v := by
  have hk' : (k : Int) < (T : Int) := by omega
  obtain ⟨hsz, hd, hp⟩ := hA
  obtain ⟨u, rfl, hg⟩ := litN hsz hd
  simp only [List.forall_mem_cons, hg] at hp
  obtain ⟨u15, u20, u21, u23, u24, u25, u26, -⟩ := hp
  clear hg hsz hd
  unfold q3_39 C3 Try.f15 seq1 seq2 blockC loopC
  simp only [Option.getD_some, lits, Nat.reduceAdd, u15, u20, u21, u23, u24, u25, u26]
  clear u15 u20 u21 u23 u24 u25 u26
  go_wp2_with fail
  first
    | exact ⟨⟨rfl, rfl, by
      intro p hp
      simp only [List.mem_cons, List.not_mem_nil, or_false] at hp
      rcases hp with rfl | rfl | rfl | rfl | rfl | rfl | rfl | rfl <;> first | rfl | exact congrArg I (by omega) | exact congrArg Value.bool (by simp <;> omega) | exact congrArg Value.bool (by simp) | (simp; done)⟩, rfl⟩
    | exact ⟨rfl, rfl, by
      intro p hp
      simp only [List.mem_cons, List.not_mem_nil, or_false] at hp
      rcases hp with rfl | rfl | rfl | rfl | rfl | rfl | rfl | rfl <;> first | rfl | exact congrArg I (by omega) | exact congrArg Value.bool (by simp <;> omega) | exact congrArg Value.bool (by simp) | (simp; done)⟩
    | exact ⟨rfl, ⟨rfl, rfl, by
      intro p hp
      simp only [List.mem_cons, List.not_mem_nil, or_false] at hp
      rcases hp with rfl | rfl | rfl | rfl | rfl | rfl | rfl | rfl <;> first | rfl | exact congrArg I (by omega) | exact congrArg Value.bool (by simp <;> omega) | exact congrArg Value.bool (by simp) | (simp; done)⟩, rfl⟩

set_option maxHeartbeats 1000000 in
set_option maxRecDepth 100000 in
theorem p3_40 {v : World} {a : Act} {Sb wb M Lb Z g T ct k x : Nat} {t : Nat} (c0 : v.cell? ⟨x, 0, none⟩ = some (I (t : Nat))) (ht : t < 4) (hA : Fl 254 [(15, .slice (some ⟨Sb, 0, none⟩) 4 4), (20, Pt wb 0), (21, .slice (some ⟨M, 0, none⟩) 4 4), (23, Pt Lb 0), (24, .slice (some ⟨g, 0, none⟩) T ct), (25, .slice (some ⟨Z, 0, none⟩) 4 4), (26, I (k : Nat)), (27, Pt x 0)] a) :
    q3_40.wp Try.prog (fun e a' w' => e = .normal ∧ (Fl 254 [(186, .bool false), (15, .slice (some ⟨Sb, 0, none⟩) 4 4), (20, Pt wb 0), (21, .slice (some ⟨M, 0, none⟩) 4 4), (23, Pt Lb 0), (24, .slice (some ⟨g, 0, none⟩) T ct), (25, .slice (some ⟨Z, 0, none⟩) 4 4), (26, I (k : Nat)), (27, Pt x 0)] a' ∧ w' = v)) a v := by
  have h1 : ¬ (t : Int) < 0 := by omega
  have h2 : ¬ (t : Int) > 3 := by omega
  obtain ⟨hsz, hd, hp⟩ := hA
  obtain ⟨u, rfl, hg⟩ := litN hsz hd
  simp only [List.forall_mem_cons, hg] at hp
  obtain ⟨u15, u20, u21, u23, u24, u25, u26, u27, -⟩ := hp
  clear hg hsz hd
  unfold q3_40 C3 Try.f15 seq1 seq2 blockC loopC
  simp only [Option.getD_some, lits, Nat.reduceAdd, u15, u20, u21, u23, u24, u25, u26, u27]
  clear u15 u20 u21 u23 u24 u25 u26 u27
  go_wp2_with fail
  first
    | exact ⟨⟨rfl, rfl, by
      intro p hp
      simp only [List.mem_cons, List.not_mem_nil, or_false] at hp
      rcases hp with rfl | rfl | rfl | rfl | rfl | rfl | rfl | rfl | rfl <;> first | rfl | exact congrArg I (by omega) | exact congrArg Value.bool (by simp <;> omega) | exact congrArg Value.bool (by simp) | (simp; done)⟩, rfl⟩
    | exact ⟨rfl, rfl, by
      intro p hp
      simp only [List.mem_cons, List.not_mem_nil, or_false] at hp
      rcases hp with rfl | rfl | rfl | rfl | rfl | rfl | rfl | rfl | rfl <;> first | rfl | exact congrArg I (by omega) | exact congrArg Value.bool (by simp <;> omega) | exact congrArg Value.bool (by simp) | (simp; done)⟩
    | exact ⟨rfl, ⟨rfl, rfl, by
      intro p hp
      simp only [List.mem_cons, List.not_mem_nil, or_false] at hp
      rcases hp with rfl | rfl | rfl | rfl | rfl | rfl | rfl | rfl | rfl <;> first | rfl | exact congrArg I (by omega) | exact congrArg Value.bool (by simp <;> omega) | exact congrArg Value.bool (by simp) | (simp; done)⟩, rfl⟩

set_option maxHeartbeats 1000000 in
set_option maxRecDepth 100000 in
theorem p3_42 {v : World} {a : Act} {Sb wb M Lb Z g T ct k x : Nat} {op : Int} (c2 : v.cell? ⟨x, 2, none⟩ = some (I op)) (hA : Fl 254 [(15, .slice (some ⟨Sb, 0, none⟩) 4 4), (20, Pt wb 0), (21, .slice (some ⟨M, 0, none⟩) 4 4), (23, Pt Lb 0), (24, .slice (some ⟨g, 0, none⟩) T ct), (25, .slice (some ⟨Z, 0, none⟩) 4 4), (26, I (k : Nat)), (27, Pt x 0)] a) :
    q3_42.wp Try.prog (fun e a' w' => e = .normal ∧ (Fl 254 [(189, .bool (op == 9)), (15, .slice (some ⟨Sb, 0, none⟩) 4 4), (20, Pt wb 0), (21, .slice (some ⟨M, 0, none⟩) 4 4), (23, Pt Lb 0), (24, .slice (some ⟨g, 0, none⟩) T ct), (25, .slice (some ⟨Z, 0, none⟩) 4 4), (26, I (k : Nat)), (27, Pt x 0)] a' ∧ w' = v)) a v := by
  obtain ⟨hsz, hd, hp⟩ := hA
  obtain ⟨u, rfl, hg⟩ := litN hsz hd
  simp only [List.forall_mem_cons, hg] at hp
  obtain ⟨u15, u20, u21, u23, u24, u25, u26, u27, -⟩ := hp
  clear hg hsz hd
  unfold q3_42 C3 Try.f15 seq1 seq2 blockC loopC
  simp only [Option.getD_some, lits, Nat.reduceAdd, u15, u20, u21, u23, u24, u25, u26, u27]
  clear u15 u20 u21 u23 u24 u25 u26 u27
  go_wp2_with fail
  first
    | exact ⟨⟨rfl, rfl, by
      intro p hp
      simp only [List.mem_cons, List.not_mem_nil, or_false] at hp
      rcases hp with rfl | rfl | rfl | rfl | rfl | rfl | rfl | rfl | rfl <;> first | rfl | exact congrArg I (by omega) | exact congrArg Value.bool (by simp <;> omega) | exact congrArg Value.bool (by simp) | (simp; done)⟩, rfl⟩
    | exact ⟨rfl, rfl, by
      intro p hp
      simp only [List.mem_cons, List.not_mem_nil, or_false] at hp
      rcases hp with rfl | rfl | rfl | rfl | rfl | rfl | rfl | rfl | rfl <;> first | rfl | exact congrArg I (by omega) | exact congrArg Value.bool (by simp <;> omega) | exact congrArg Value.bool (by simp) | (simp; done)⟩
    | exact ⟨rfl, ⟨rfl, rfl, by
      intro p hp
      simp only [List.mem_cons, List.not_mem_nil, or_false] at hp
      rcases hp with rfl | rfl | rfl | rfl | rfl | rfl | rfl | rfl | rfl <;> first | rfl | exact congrArg I (by omega) | exact congrArg Value.bool (by simp <;> omega) | exact congrArg Value.bool (by simp) | (simp; done)⟩, rfl⟩

set_option maxHeartbeats 1000000 in
set_option maxRecDepth 100000 in
theorem p3_43 {v : World} {a : Act} {Sb wb M Lb Z g T ct k x : Nat} {t : Nat} {ol c : Int} (c0 : v.cell? ⟨x, 0, none⟩ = some (I (t : Nat))) (c3 : v.cell? ⟨x, 3, none⟩ = some (I ol)) (ht : t < 4) (c1 : v.cell? ⟨Z, t, none⟩ = some (I c)) (f1 : v.frozen? ⟨Z, t, none⟩ = false) (hA : Fl 254 [(15, .slice (some ⟨Sb, 0, none⟩) 4 4), (20, Pt wb 0), (21, .slice (some ⟨M, 0, none⟩) 4 4), (23, Pt Lb 0), (24, .slice (some ⟨g, 0, none⟩) T ct), (25, .slice (some ⟨Z, 0, none⟩) 4 4), (26, I (k : Nat)), (27, Pt x 0)] a) :
    q3_43.wp Try.prog (fun e a' w' => e = .normal ∧ (Fl 254 [(15, .slice (some ⟨Sb, 0, none⟩) 4 4), (20, Pt wb 0), (21, .slice (some ⟨M, 0, none⟩) 4 4), (23, Pt Lb 0), (24, .slice (some ⟨g, 0, none⟩) T ct), (25, .slice (some ⟨Z, 0, none⟩) 4 4), (26, I (k : Nat)), (27, Pt x 0)] a' ∧ w' = v.setCell ⟨Z, t, none⟩ (I ol))) a v := by
  have ht' : (t : Int) < 4 := by omega
  obtain ⟨hsz, hd, hp⟩ := hA
  obtain ⟨u, rfl, hg⟩ := litN hsz hd
  simp only [List.forall_mem_cons, hg] at hp
  obtain ⟨u15, u20, u21, u23, u24, u25, u26, u27, -⟩ := hp
  clear hg hsz hd
  unfold q3_43 C3 Try.f15 seq1 seq2 condA blockC loopC
  simp only [Option.getD_some, lits, Nat.reduceAdd, u15, u20, u21, u23, u24, u25, u26, u27]
  clear u15 u20 u21 u23 u24 u25 u26 u27
  go_wp2_with fail
  first
    | exact ⟨⟨rfl, rfl, by
      intro p hp
      simp only [List.mem_cons, List.not_mem_nil, or_false] at hp
      rcases hp with rfl | rfl | rfl | rfl | rfl | rfl | rfl | rfl <;> first | rfl | exact congrArg I (by omega) | exact congrArg Value.bool (by simp <;> omega) | exact congrArg Value.bool (by simp) | (simp; done)⟩, rfl⟩
    | exact ⟨rfl, rfl, by
      intro p hp
      simp only [List.mem_cons, List.not_mem_nil, or_false] at hp
      rcases hp with rfl | rfl | rfl | rfl | rfl | rfl | rfl | rfl <;> first | rfl | exact congrArg I (by omega) | exact congrArg Value.bool (by simp <;> omega) | exact congrArg Value.bool (by simp) | (simp; done)⟩
    | exact ⟨rfl, ⟨rfl, rfl, by
      intro p hp
      simp only [List.mem_cons, List.not_mem_nil, or_false] at hp
      rcases hp with rfl | rfl | rfl | rfl | rfl | rfl | rfl | rfl <;> first | rfl | exact congrArg I (by omega) | exact congrArg Value.bool (by simp <;> omega) | exact congrArg Value.bool (by simp) | (simp; done)⟩, rfl⟩

set_option maxHeartbeats 1000000 in
set_option maxRecDepth 100000 in
theorem p3_44 {v : World} {a : Act} {Sb wb M Lb Z g T ct k x : Nat} {t c : Nat} (c0 : v.cell? ⟨x, 0, none⟩ = some (I (t : Nat))) (ht : t < 4) (c1 : v.cell? ⟨Z, t, none⟩ = some (I (c : Nat))) (hA : Fl 254 [(15, .slice (some ⟨Sb, 0, none⟩) 4 4), (20, Pt wb 0), (21, .slice (some ⟨M, 0, none⟩) 4 4), (23, Pt Lb 0), (24, .slice (some ⟨g, 0, none⟩) T ct), (25, .slice (some ⟨Z, 0, none⟩) 4 4), (26, I (k : Nat)), (27, Pt x 0)] a) :
    q3_44.wp Try.prog (fun e a' w' => e = .normal ∧ (Fl 254 [(15, .slice (some ⟨Sb, 0, none⟩) 4 4), (20, Pt wb 0), (21, .slice (some ⟨M, 0, none⟩) 4 4), (23, Pt Lb 0), (24, .slice (some ⟨g, 0, none⟩) T ct), (25, .slice (some ⟨Z, 0, none⟩) 4 4), (26, I (k : Nat)), (27, Pt x 0), (28, I (c : Nat))] a' ∧ w' = v)) a v := by
  have ht' : (t : Int) < 4 := by omega
  obtain ⟨hsz, hd, hp⟩ := hA
  obtain ⟨u, rfl, hg⟩ := litN hsz hd
  simp only [List.forall_mem_cons, hg] at hp
  obtain ⟨u15, u20, u21, u23, u24, u25, u26, u27, -⟩ := hp
  clear hg hsz hd
  unfold q3_44 C3 Try.f15 seq1 seq2 blockC loopC
  simp only [Option.getD_some, lits, Nat.reduceAdd, u15, u20, u21, u23, u24, u25, u26, u27]
  clear u15 u20 u21 u23 u24 u25 u26 u27
  go_wp2_with fail
  first
    | exact ⟨⟨rfl, rfl, by
      intro p hp
      simp only [List.mem_cons, List.not_mem_nil, or_false] at hp
      rcases hp with rfl | rfl | rfl | rfl | rfl | rfl | rfl | rfl | rfl <;> first | rfl | exact congrArg I (by omega) | exact congrArg Value.bool (by simp <;> omega) | exact congrArg Value.bool (by simp) | (simp; done)⟩, rfl⟩
    | exact ⟨rfl, rfl, by
      intro p hp
      simp only [List.mem_cons, List.not_mem_nil, or_false] at hp
      rcases hp with rfl | rfl | rfl | rfl | rfl | rfl | rfl | rfl | rfl <;> first | rfl | exact congrArg I (by omega) | exact congrArg Value.bool (by simp <;> omega) | exact congrArg Value.bool (by simp) | (simp; done)⟩
    | exact ⟨rfl, ⟨rfl, rfl, by
      intro p hp
      simp only [List.mem_cons, List.not_mem_nil, or_false] at hp
      rcases hp with rfl | rfl | rfl | rfl | rfl | rfl | rfl | rfl | rfl <;> first | rfl | exact congrArg I (by omega) | exact congrArg Value.bool (by simp <;> omega) | exact congrArg Value.bool (by simp) | (simp; done)⟩, rfl⟩

set_option maxHeartbeats 1000000 in
set_option maxRecDepth 100000 in
theorem p3_47n {v : World} {a : Act} {Sb wb M Lb Z g T ct k x c : Nat} {op : Int} (c2 : v.cell? ⟨x, 2, none⟩ = some (I op)) (h2 : ¬ op = 2) (hA : Fl 254 [(15, .slice (some ⟨Sb, 0, none⟩) 4 4), (20, Pt wb 0), (21, .slice (some ⟨M, 0, none⟩) 4 4), (23, Pt Lb 0), (24, .slice (some ⟨g, 0, none⟩) T ct), (25, .slice (some ⟨Z, 0, none⟩) 4 4), (26, I (k : Nat)), (27, Pt x 0), (28, I (c : Nat))] a) :
    q3_47.wp Try.prog (fun e a' w' => e = .normal ∧ (Fl 254 [(242, .bool false), (15, .slice (some ⟨Sb, 0, none⟩) 4 4), (20, Pt wb 0), (21, .slice (some ⟨M, 0, none⟩) 4 4), (23, Pt Lb 0), (24, .slice (some ⟨g, 0, none⟩) T ct), (25, .slice (some ⟨Z, 0, none⟩) 4 4), (26, I (k : Nat)), (27, Pt x 0), (28, I (c : Nat))] a' ∧ w' = v)) a v := by
  have h3 : (op == 2) = false := by simp [h2]
  obtain ⟨hsz, hd, hp⟩ := hA
  obtain ⟨u, rfl, hg⟩ := litN hsz hd
  simp only [List.forall_mem_cons, hg] at hp
  obtain ⟨u15, u20, u21, u23, u24, u25, u26, u27, u28, -⟩ := hp
  clear hg hsz hd
  unfold q3_47 C3 Try.f15 seq1 seq2 blockC loopC
  simp only [Option.getD_some, lits, Nat.reduceAdd, u15, u20, u21, u23, u24, u25, u26, u27, u28]
  clear u15 u20 u21 u23 u24 u25 u26 u27 u28
  go_wp2_with fail
  first
    | exact ⟨⟨rfl, rfl, by
      intro p hp
      simp only [List.mem_cons, List.not_mem_nil, or_false] at hp
      rcases hp with rfl | rfl | rfl | rfl | rfl | rfl | rfl | rfl | rfl | rfl <;> first | rfl | exact congrArg I (by omega) | exact congrArg Value.bool (by simp <;> omega) | exact congrArg Value.bool (by simp) | (simp; done)⟩, rfl⟩
    | exact ⟨rfl, rfl, by
      intro p hp
      simp only [List.mem_cons, List.not_mem_nil, or_false] at hp
      rcases hp with rfl | rfl | rfl | rfl | rfl | rfl | rfl | rfl | rfl | rfl <;> first | rfl | exact congrArg I (by omega) | exact congrArg Value.bool (by simp <;> omega) | exact congrArg Value.bool (by simp) | (simp; done)⟩
    | exact ⟨rfl, ⟨rfl, rfl, by
      intro p hp
      simp only [List.mem_cons, List.not_mem_nil, or_false] at hp
      rcases hp with rfl | rfl | rfl | rfl | rfl | rfl | rfl | rfl | rfl | rfl <;> first | rfl | exact congrArg I (by omega) | exact congrArg Value.bool (by simp <;> omega) | exact congrArg Value.bool (by simp) | (simp; done)⟩, rfl⟩

set_option maxHeartbeats 1000000 in
set_option maxRecDepth 100000 in
theorem p3_47y {v : World} {a : Act} {Sb wb M Lb Z g T ct k x c : Nat} {t L cc rb ro : Nat} {ca : Int} (c2 : v.cell? ⟨x, 2, none⟩ = some (I 2)) (c0 : v.cell? ⟨x, 0, none⟩ = some (I (t : Nat))) (ht : t < 4) (d : v.cell? ⟨Sb, t, none⟩ = some (.slice (some ⟨rb, ro, none⟩) L cc)) (hc : c < L) (e : v.cell? ⟨rb, ro + c * 4 + 1, none⟩ = some (I ca)) (hA : Fl 254 [(15, .slice (some ⟨Sb, 0, none⟩) 4 4), (20, Pt wb 0), (21, .slice (some ⟨M, 0, none⟩) 4 4), (23, Pt Lb 0), (24, .slice (some ⟨g, 0, none⟩) T ct), (25, .slice (some ⟨Z, 0, none⟩) 4 4), (26, I (k : Nat)), (27, Pt x 0), (28, I (c : Nat))] a) :
    q3_47.wp Try.prog (fun e a' w' => e = .normal ∧ (Fl 254 [(242, .bool (decide (ca < 12))), (15, .slice (some ⟨Sb, 0, none⟩) 4 4), (20, Pt wb 0), (21, .slice (some ⟨M, 0, none⟩) 4 4), (23, Pt Lb 0), (24, .slice (some ⟨g, 0, none⟩) T ct), (25, .slice (some ⟨Z, 0, none⟩) 4 4), (26, I (k : Nat)), (27, Pt x 0), (28, I (c : Nat))] a' ∧ w' = v)) a v := by
  have ht' : (t : Int) < 4 := by omega
  have hc' : (c : Int) < (L : Int) := by omega
  obtain ⟨hsz, hd, hp⟩ := hA
  obtain ⟨u, rfl, hg⟩ := litN hsz hd
  simp only [List.forall_mem_cons, hg] at hp
  obtain ⟨u15, u20, u21, u23, u24, u25, u26, u27, u28, -⟩ := hp
  clear hg hsz hd
  unfold q3_47 C3 Try.f15 seq1 seq2 blockC loopC
  simp only [Option.getD_some, lits, Nat.reduceAdd, u15, u20, u21, u23, u24, u25, u26, u27, u28]
  clear u15 u20 u21 u23 u24 u25 u26 u27 u28
  go_wp2_with fail
  first
    | exact ⟨⟨rfl, rfl, by
      intro p hp
      simp only [List.mem_cons, List.not_mem_nil, or_false] at hp
      rcases hp with rfl | rfl | rfl | rfl | rfl | rfl | rfl | rfl | rfl | rfl <;> first | rfl | exact congrArg I (by omega) | exact congrArg Value.bool (by simp <;> omega) | exact congrArg Value.bool (by simp) | (simp; done)⟩, rfl⟩
    | exact ⟨rfl, rfl, by
      intro p hp
      simp only [List.mem_cons, List.not_mem_nil, or_false] at hp
      rcases hp with rfl | rfl | rfl | rfl | rfl | rfl | rfl | rfl | rfl | rfl <;> first | rfl | exact congrArg I (by omega) | exact congrArg Value.bool (by simp <;> omega) | exact congrArg Value.bool (by simp) | (simp; done)⟩
    | exact ⟨rfl, ⟨rfl, rfl, by
      intro p hp
      simp only [List.mem_cons, List.not_mem_nil, or_false] at hp
      rcases hp with rfl | rfl | rfl | rfl | rfl | rfl | rfl | rfl | rfl | rfl <;> first | rfl | exact congrArg I (by omega) | exact congrArg Value.bool (by simp <;> omega) | exact congrArg Value.bool (by simp) | (simp; done)⟩, rfl⟩

set_option maxHeartbeats 1000000 in
set_option maxRecDepth 100000 in
theorem p3_38 {v : World} {a : Act} {Sb wb M Lb Z : Nat} {p : Option Addr} {T ct : Nat} {k : Nat} (hq : k < 1000000000) (hA : Fl 254 [(15, .slice (some ⟨Sb, 0, none⟩) 4 4), (20, Pt wb 0), (21, .slice (some ⟨M, 0, none⟩) 4 4), (23, Pt Lb 0), (24, .slice p T ct), (25, .slice (some ⟨Z, 0, none⟩) 4 4), (26, I (k : Nat))] a) :
    q3_38.wp Try.prog (fun e a' w' => e = .normal ∧ (Fl 254 [(15, .slice (some ⟨Sb, 0, none⟩) 4 4), (20, Pt wb 0), (21, .slice (some ⟨M, 0, none⟩) 4 4), (23, Pt Lb 0), (24, .slice p T ct), (25, .slice (some ⟨Z, 0, none⟩) 4 4), (26, I ((k + 1 : Nat) : Int))] a' ∧ w' = v)) a v := by
  have h9 : wrap64 ((k : Int) + 1) = ((k + 1 : Nat) : Int) := by unfold wrap64; omega
  obtain ⟨hsz, hd, hp⟩ := hA
  obtain ⟨u, rfl, hg⟩ := litN hsz hd
  simp only [List.forall_mem_cons, hg] at hp
  obtain ⟨u15, u20, u21, u23, u24, u25, u26, -⟩ := hp
  clear hg hsz hd
  unfold q3_38 C3 Try.f15 seq1 seq2 blockC loopC
  simp only [Option.getD_some, lits, Nat.reduceAdd, u15, u20, u21, u23, u24, u25, u26]
  clear u15 u20 u21 u23 u24 u25 u26
  go_wp2_with fail
  first
    | exact ⟨⟨rfl, rfl, by
      intro p hp
      simp only [List.mem_cons, List.not_mem_nil, or_false] at hp
      rcases hp with rfl | rfl | rfl | rfl | rfl | rfl | rfl <;> first | rfl | exact congrArg I (by omega) | exact congrArg Value.bool (by simp <;> omega) | exact congrArg Value.bool (by simp) | (simp; done)⟩, rfl⟩
    | exact ⟨rfl, rfl, by
      intro p hp
      simp only [List.mem_cons, List.not_mem_nil, or_false] at hp
      rcases hp with rfl | rfl | rfl | rfl | rfl | rfl | rfl <;> first | rfl | exact congrArg I (by omega) | exact congrArg Value.bool (by simp <;> omega) | exact congrArg Value.bool (by simp) | (simp; done)⟩
    | exact ⟨rfl, ⟨rfl, rfl, by
      intro p hp
      simp only [List.mem_cons, List.not_mem_nil, or_false] at hp
      rcases hp with rfl | rfl | rfl | rfl | rfl | rfl | rfl <;> first | rfl | exact congrArg I (by omega) | exact congrArg Value.bool (by simp <;> omega) | exact congrArg Value.bool (by simp) | (simp; done)⟩, rfl⟩

set_option maxHeartbeats 1000000 in
set_option maxRecDepth 100000 in
theorem p3_49 {v : World} {a : Act} {Lb : Nat} (c0 : v.cell? ⟨Lb, 0, none⟩ = some (I 0)) (c1 : v.cell? ⟨Lb, 1, none⟩ = some (I 1)) (hA : Fl 254 [(23, Pt Lb 0)] a) :
    q3_49.wp Try.prog (fun e a' w' => e = .normal ∧ (Fl 254 [(8, .bool true)] a' ∧ w' = v)) a v := by
  obtain ⟨hsz, hd, hp⟩ := hA
  obtain ⟨u, rfl, hg⟩ := litN hsz hd
  simp only [List.forall_mem_cons, hg] at hp
  obtain ⟨u23, -⟩ := hp
  clear hg hsz hd
  unfold q3_49 C3 Try.f15 seq1 seq2
  simp only [Option.getD_some, lits, Nat.reduceAdd, u23]
  clear u23
  go_wp2_with fail
  first
    | exact ⟨⟨rfl, rfl, by
      intro p hp
      simp only [List.mem_cons, List.not_mem_nil, or_false] at hp
      rcases hp with rfl <;> first | rfl | exact congrArg I (by omega) | exact congrArg Value.bool (by simp <;> omega) | exact congrArg Value.bool (by simp) | (simp; done)⟩, rfl⟩
    | exact ⟨rfl, rfl, by
      intro p hp
      simp only [List.mem_cons, List.not_mem_nil, or_false] at hp
      rcases hp with rfl <;> first | rfl | exact congrArg I (by omega) | exact congrArg Value.bool (by simp <;> omega) | exact congrArg Value.bool (by simp) | (simp; done)⟩
    | exact ⟨rfl, ⟨rfl, rfl, by
      intro p hp
      simp only [List.mem_cons, List.not_mem_nil, or_false] at hp
      rcases hp with rfl <;> first | rfl | exact congrArg I (by omega) | exact congrArg Value.bool (by simp <;> omega) | exact congrArg Value.bool (by simp) | (simp; done)⟩, rfl⟩

set_option maxHeartbeats 1000000 in
set_option maxRecDepth 100000 in
theorem p3_48 {v : World} {a : Act} {Sb wb M Lb Z g T ct k x c : Nat} {t A L cc : Nat} {q y e0 y0 : Int} (c0 : v.cell? ⟨x, 0, none⟩ = some (I (t : Nat))) (ht : t < 4) (d : v.cell? ⟨M, t, none⟩ = some (.slice (some ⟨A, 0, none⟩) L cc)) (hc : c < L) (d0 : v.cell? ⟨A, c * 2, none⟩ = some (I q)) (d1 : v.cell? ⟨A, c * 2 + 1, none⟩ = some (I y)) (l0 : v.cell? ⟨Lb, 0, none⟩ = some (I e0)) (l1 : v.cell? ⟨Lb, 1, none⟩ = some (I y0)) (f0 : v.frozen? ⟨Lb, 0, none⟩ = false) (f1 : v.frozen? ⟨Lb, 1, none⟩ = false) (hA : Fl 254 [(15, .slice (some ⟨Sb, 0, none⟩) 4 4), (20, Pt wb 0), (21, .slice (some ⟨M, 0, none⟩) 4 4), (23, Pt Lb 0), (24, .slice (some ⟨g, 0, none⟩) T ct), (25, .slice (some ⟨Z, 0, none⟩) 4 4), (26, I (k : Nat)), (27, Pt x 0), (28, I (c : Nat))] a) :
    q3_48.wp Try.prog (fun e a' w' => e = .normal ∧ (Fl 254 [(15, .slice (some ⟨Sb, 0, none⟩) 4 4), (20, Pt wb 0), (21, .slice (some ⟨M, 0, none⟩) 4 4), (23, Pt Lb 0), (24, .slice (some ⟨g, 0, none⟩) T ct), (25, .slice (some ⟨Z, 0, none⟩) 4 4), (26, I (k : Nat)), (27, Pt x 0)] a' ∧ w' = (v.setCell ⟨Lb, 0, none⟩ (I q)).setCell ⟨Lb, 1, none⟩ (I y))) a v := by
  have ht' : (t : Int) < 4 := by omega
  have hc' : (c : Int) < (L : Int) := by omega
  obtain ⟨hsz, hd, hp⟩ := hA
  obtain ⟨u, rfl, hg⟩ := litN hsz hd
  simp only [List.forall_mem_cons, hg] at hp
  obtain ⟨u15, u20, u21, u23, u24, u25, u26, u27, u28, -⟩ := hp
  clear hg hsz hd
  unfold q3_48 C3 Try.f15 seq1 seq2 condA blockC loopC
  simp only [Option.getD_some, lits, Nat.reduceAdd, u15, u20, u21, u23, u24, u25, u26, u27, u28]
  clear u15 u20 u21 u23 u24 u25 u26 u27 u28
  go_wp2_with fail
  first
    | exact ⟨⟨rfl, rfl, by
      intro p hp
      simp only [List.mem_cons, List.not_mem_nil, or_false] at hp
      rcases hp with rfl | rfl | rfl | rfl | rfl | rfl | rfl | rfl <;> first | rfl | exact congrArg I (by omega) | exact congrArg Value.bool (by simp <;> omega) | exact congrArg Value.bool (by simp) | (simp; done)⟩, rfl⟩
    | exact ⟨rfl, rfl, by
      intro p hp
      simp only [List.mem_cons, List.not_mem_nil, or_false] at hp
      rcases hp with rfl | rfl | rfl | rfl | rfl | rfl | rfl | rfl <;> first | rfl | exact congrArg I (by omega) | exact congrArg Value.bool (by simp <;> omega) | exact congrArg Value.bool (by simp) | (simp; done)⟩
    | exact ⟨rfl, ⟨rfl, rfl, by
      intro p hp
      simp only [List.mem_cons, List.not_mem_nil, or_false] at hp
      rcases hp with rfl | rfl | rfl | rfl | rfl | rfl | rfl | rfl <;> first | rfl | exact congrArg I (by omega) | exact congrArg Value.bool (by simp <;> omega) | exact congrArg Value.bool (by simp) | (simp; done)⟩, rfl⟩

end Go.Proofs.Ytfjjoohflcchnaa.Gen
