/- LockFree is true of the program at this commit: by one free thread alone, of two locks of no world, Lock, Try and Unlock answer as two numbers each say, whatever the calls; no conditions. Part 24 of 30. (Joined, by program, of: Fr9a, GObj.) -/
import Derived.Test.YtfjjoohflcchnaaLockFree22
import Derived.Test.YtfjjoohflcchnaaLockFree23
import Derived.Deep.RegionHeld3
set_option linter.unusedSimpArgs false
set_option linter.unusedVariables false
namespace Go.Proofs.Ytfjjoohflcchnaa.Gen
open Go Go.Lift Go.Conc Go.RowKit

def condB : Code → Code
  | .cond _ _ b => b
  | _ => .skip
noncomputable def B9 : Code := Try.f9.body.getD .skip
noncomputable def C9 : Code := seq1 (seq2 (seq2 (seq2 (seq2 (seq2 (seq2 (seq2 (seq2 B9))))))))
noncomputable def L9 : Code := loopC (blockC (seq2 C9))
noncomputable def I9 : Code := blockC (seq1 (seq2 L9))
noncomputable def q10 : Code := seq1 (seq1 L9)
noncomputable def q12 : Code := seq1 I9
noncomputable def q13 : Code := seq1 (seq2 I9)
noncomputable def q14 : Code := seq1 (seq2 (seq2 I9))
noncomputable def q16 : Code := seq1 (seq2 (seq2 (seq2 I9)))
noncomputable def S9 : Code := blockC (seq2 (seq2 (seq2 (seq2 I9))))
noncomputable def q19 : Code := seq1 S9
noncomputable def K1 : Code := condA (seq2 S9)
noncomputable def q20 : Code := seq1 (seq1 K1)
noncomputable def q21 : Code := seq1 (seq2 K1)
noncomputable def q22 : Code := seq1 (seq2 (seq2 K1))
noncomputable def q24 : Code := seq2 (seq2 (seq2 K1))
noncomputable def D9 : Code := condB (seq2 S9)
noncomputable def q25 : Code := seq1 D9
noncomputable def K2 : Code := condA (seq2 D9)
noncomputable def q26 : Code := seq1 K2
noncomputable def q27 : Code := seq1 (seq2 K2)
noncomputable def q29 : Code := seq2 (seq2 K2)
noncomputable def K3 : Code := condB (seq2 D9)
noncomputable def q17 : Code := seq1 K3
noncomputable def q18 : Code := seq2 K3
noncomputable def q11 : Code := seq2 (seq2 L9)
theorem eL9 : L9 = .seq (.seq q10 (.cond (.tmp 33) .skip (.exit 0))) (.seq (.block 1 I9) q11) := by kernel_rfl
theorem eI9 : I9 = .seq q12 (.seq q13 (.seq q14 (.seq q16 (.block 2 S9)))) := by kernel_rfl
theorem eS9 : S9 = .seq q19 (.cond (.tmp 60) K1 D9) := by kernel_rfl
theorem eK1 : K1 = .seq (.seq q20 (.cond (.tmp 70) (.exit 1) .skip)) (.seq q21 (.seq q22 q24)) := by kernel_rfl
theorem eD9 : D9 = .seq q25 (.cond (.tmp 82) K2 K3) := by kernel_rfl
theorem eK2 : K2 = .seq q26 (.seq q27 q29) := by kernel_rfl
theorem eK3 : K3 = .seq q17 q18 := by kernel_rfl
/-- What the law's loop holds. -/
structure A9 (lst : Value) (tb la lc N W : Nat) (i : Nat) (a : Act) : Prop where
  size : a.tmps.size = 105
  defers : a.defers = []
  t0 : a.tmps.getD 0 undef = lst
  t4 : a.tmps.getD 4 undef = Pt tb 0
  t5 : a.tmps.getD 5 undef = Pt la 0
  t6 : a.tmps.getD 6 undef = Pt lc 0
  t7 : a.tmps.getD 7 undef = .slice (some ⟨N, 0, none⟩) 2 2
  t8 : a.tmps.getD 8 undef = .slice (some ⟨W, 0, none⟩) 2 2
  t9 : a.tmps.getD 9 undef = I (i : Int)
set_option maxHeartbeats 4000000 in
set_option maxRecDepth 100000 in
theorem q10_wp {v : World} {a : Act} {lst : Value} {tb la lc N W i : Nat} {p : Option Addr} {n cap : Nat} (hl : lst = .slice p n cap) (hA : A9 lst tb la lc N W i a) :
    q10.wp Try.prog (fun e a' w' => e = .normal ∧ A9 lst tb la lc N W i a' ∧ a'.tmps.getD 33 undef = .bool (decide ((i : Int) < (n : Int))) ∧ w'.heap = v.heap ∧ w'.os = v.os ∧ w'.output = v.output) a v := by
  obtain ⟨u, rfl, hg⟩ := litN hA.size hA.defers
  have u0 := (hg 0).symm.trans hA.t0
  have u4 := (hg 4).symm.trans hA.t4
  have u5 := (hg 5).symm.trans hA.t5
  have u6 := (hg 6).symm.trans hA.t6
  have u7 := (hg 7).symm.trans hA.t7
  have u8 := (hg 8).symm.trans hA.t8
  have u9 := (hg 9).symm.trans hA.t9
  clear hg hA
  unfold q10 L9 C9 B9 Try.f9 seq2 seq1 blockC loopC
  simp only [Option.getD_some, lits, Nat.reduceAdd, u0, u4, u5, u6, u7, u8, u9]
  clear u0 u4 u5 u6 u7 u8 u9
  subst hl
  go_wp2_with fail

  first
    | exact ⟨rfl, rfl, rfl, rfl, rfl, rfl, rfl, rfl, rfl⟩
    | exact ⟨⟨rfl, rfl, rfl, rfl, rfl, rfl, rfl, rfl, rfl⟩, rfl⟩
    | exact ⟨⟨rfl, rfl, rfl, rfl, rfl, rfl, rfl, rfl, rfl⟩, rfl, rfl⟩
    | exact ⟨⟨rfl, rfl, rfl, rfl, rfl, rfl, rfl, rfl, rfl⟩, rfl, rfl, rfl⟩
    | exact ⟨⟨rfl, rfl, rfl, rfl, rfl, rfl, rfl, rfl, rfl⟩, rfl, rfl, rfl, rfl⟩
    | exact ⟨⟨rfl, rfl, rfl, rfl, rfl, rfl, rfl, rfl, rfl⟩, rfl, rfl, rfl, rfl, rfl⟩
    | exact ⟨rfl, ⟨rfl, rfl, rfl, rfl, rfl, rfl, rfl, rfl, rfl⟩, rfl, rfl, rfl, rfl, rfl, rfl⟩
    | trace_state


set_option maxHeartbeats 4000000 in
set_option maxRecDepth 100000 in
theorem q12_wp {v : World} {a : Act} {lst : Value} {tb la lc N W i : Nat} {lb lo n cap : Nat} {ca : Int} (hl : lst = .slice (some ⟨lb, lo, none⟩) n cap) (hin : i < n) (c1 : v.cell? ⟨lb, lo + i * 4 + 1, none⟩ = some (I ca)) (hA : A9 lst tb la lc N W i a) :
    q12.wp Try.prog (fun e a' w' => e = .normal ∧ A9 lst tb la lc N W i a' ∧ a'.tmps.getD 10 undef = I (bits .and .i64 ca 1) ∧ w'.heap = v.heap ∧ w'.os = v.os ∧ w'.output = v.output) a v := by
  obtain ⟨u, rfl, hg⟩ := litN hA.size hA.defers
  have u0 := (hg 0).symm.trans hA.t0
  have u4 := (hg 4).symm.trans hA.t4
  have u5 := (hg 5).symm.trans hA.t5
  have u6 := (hg 6).symm.trans hA.t6
  have u7 := (hg 7).symm.trans hA.t7
  have u8 := (hg 8).symm.trans hA.t8
  have u9 := (hg 9).symm.trans hA.t9
  clear hg hA
  unfold q12 I9 L9 C9 B9 Try.f9 seq2 seq1 blockC loopC
  simp only [Option.getD_some, lits, Nat.reduceAdd, u0, u4, u5, u6, u7, u8, u9]
  clear u0 u4 u5 u6 u7 u8 u9
  subst hl
  have hin' : (i : Int) < (n : Int) := by omega
  go_wp2_with fail

  first
    | exact ⟨rfl, rfl, rfl, rfl, rfl, rfl, rfl, rfl, rfl⟩
    | exact ⟨⟨rfl, rfl, rfl, rfl, rfl, rfl, rfl, rfl, rfl⟩, rfl⟩
    | exact ⟨⟨rfl, rfl, rfl, rfl, rfl, rfl, rfl, rfl, rfl⟩, rfl, rfl⟩
    | exact ⟨⟨rfl, rfl, rfl, rfl, rfl, rfl, rfl, rfl, rfl⟩, rfl, rfl, rfl⟩
    | exact ⟨⟨rfl, rfl, rfl, rfl, rfl, rfl, rfl, rfl, rfl⟩, rfl, rfl, rfl, rfl⟩
    | exact ⟨⟨rfl, rfl, rfl, rfl, rfl, rfl, rfl, rfl, rfl⟩, rfl, rfl, rfl, rfl, rfl⟩
    | exact ⟨rfl, ⟨rfl, rfl, rfl, rfl, rfl, rfl, rfl, rfl, rfl⟩, rfl, rfl, rfl, rfl, rfl, rfl⟩
    | trace_state


set_option maxHeartbeats 4000000 in
set_option maxRecDepth 100000 in
theorem q13_wp {v : World} {a : Act} {lst : Value} {tb la lc N W i : Nat} {k : Nat}  (hA : A9 lst tb la lc N W i a) (h10 : a.tmps.getD 10 undef = I (k : Int)) :
    q13.wp Try.prog (fun e a' w' => e = .normal ∧ A9 lst tb la lc N W i a' ∧ a'.tmps.getD 10 undef = I (k : Int) ∧ a'.tmps.getD 11 undef = Pt la 0 ∧ w'.heap = v.heap ∧ w'.os = v.os ∧ w'.output = v.output) a v := by
  obtain ⟨u, rfl, hg⟩ := litN hA.size hA.defers
  have u0 := (hg 0).symm.trans hA.t0
  have u4 := (hg 4).symm.trans hA.t4
  have u5 := (hg 5).symm.trans hA.t5
  have u6 := (hg 6).symm.trans hA.t6
  have u7 := (hg 7).symm.trans hA.t7
  have u8 := (hg 8).symm.trans hA.t8
  have u9 := (hg 9).symm.trans hA.t9
  have u10 := (hg 10).symm.trans h10
  clear hg hA h10
  unfold q13 I9 L9 C9 B9 Try.f9 seq2 seq1 blockC loopC
  simp only [Option.getD_some, lits, Nat.reduceAdd, u0, u4, u5, u6, u7, u8, u9, u10]
  clear u0 u4 u5 u6 u7 u8 u9 u10
  go_wp2_with fail

  first
    | exact ⟨rfl, rfl, rfl, rfl, rfl, rfl, rfl, rfl, rfl⟩
    | exact ⟨⟨rfl, rfl, rfl, rfl, rfl, rfl, rfl, rfl, rfl⟩, rfl⟩
    | exact ⟨⟨rfl, rfl, rfl, rfl, rfl, rfl, rfl, rfl, rfl⟩, rfl, rfl⟩
    | exact ⟨⟨rfl, rfl, rfl, rfl, rfl, rfl, rfl, rfl, rfl⟩, rfl, rfl, rfl⟩
    | exact ⟨⟨rfl, rfl, rfl, rfl, rfl, rfl, rfl, rfl, rfl⟩, rfl, rfl, rfl, rfl⟩
    | exact ⟨⟨rfl, rfl, rfl, rfl, rfl, rfl, rfl, rfl, rfl⟩, rfl, rfl, rfl, rfl, rfl⟩
    | exact ⟨rfl, ⟨rfl, rfl, rfl, rfl, rfl, rfl, rfl, rfl, rfl⟩, rfl, rfl, rfl, rfl, rfl, rfl⟩
    | trace_state


set_option maxHeartbeats 4000000 in
set_option maxRecDepth 100000 in
theorem q14_wp {v : World} {a : Act} {lst : Value} {tb la lc N W i : Nat} {k : Nat} (hk : k = 0 ∨ k = 1) (hA : A9 lst tb la lc N W i a) (h10 : a.tmps.getD 10 undef = I (k : Int)) (h11 : a.tmps.getD 11 undef = Pt la 0) :
    q14.wp Try.prog (fun e a' w' => e = .normal ∧ A9 lst tb la lc N W i a' ∧ a'.tmps.getD 10 undef = I (k : Int) ∧ a'.tmps.getD 11 undef = Pt (if k = 1 then lc else la) 0 ∧ w'.heap = v.heap ∧ w'.os = v.os ∧ w'.output = v.output) a v := by
  obtain ⟨u, rfl, hg⟩ := litN hA.size hA.defers
  have u0 := (hg 0).symm.trans hA.t0
  have u4 := (hg 4).symm.trans hA.t4
  have u5 := (hg 5).symm.trans hA.t5
  have u6 := (hg 6).symm.trans hA.t6
  have u7 := (hg 7).symm.trans hA.t7
  have u8 := (hg 8).symm.trans hA.t8
  have u9 := (hg 9).symm.trans hA.t9
  have u10 := (hg 10).symm.trans h10
  have u11 := (hg 11).symm.trans h11
  clear hg hA h10 h11
  unfold q14 I9 L9 C9 B9 Try.f9 seq2 seq1 blockC loopC
  simp only [Option.getD_some, lits, Nat.reduceAdd, u0, u4, u5, u6, u7, u8, u9, u10, u11]
  clear u0 u4 u5 u6 u7 u8 u9 u10 u11
  rcases hk with rfl | rfl
  all_goals
    go_wp2_with fail
    first
      | exact ⟨rfl, rfl, rfl, rfl, rfl, rfl, rfl, rfl, rfl⟩
      | exact ⟨⟨rfl, rfl, rfl, rfl, rfl, rfl, rfl, rfl, rfl⟩, rfl⟩
      | exact ⟨⟨rfl, rfl, rfl, rfl, rfl, rfl, rfl, rfl, rfl⟩, rfl, rfl⟩
      | exact ⟨⟨rfl, rfl, rfl, rfl, rfl, rfl, rfl, rfl, rfl⟩, rfl, rfl, rfl⟩
      | exact ⟨⟨rfl, rfl, rfl, rfl, rfl, rfl, rfl, rfl, rfl⟩, rfl, rfl, rfl, rfl⟩
      | exact ⟨⟨rfl, rfl, rfl, rfl, rfl, rfl, rfl, rfl, rfl⟩, rfl, rfl, rfl, rfl, rfl⟩
      | exact ⟨rfl, ⟨rfl, rfl, rfl, rfl, rfl, rfl, rfl, rfl, rfl⟩, rfl, rfl, rfl, rfl, rfl, rfl⟩
      | trace_state



set_option maxHeartbeats 4000000 in
set_option maxRecDepth 100000 in
theorem q16_wp {v : World} {a : Act} {lst : Value} {tb la lc N W i : Nat} {lb lo n cap : Nat} {po : Int} {e10 e11 : Value} (hl : lst = .slice (some ⟨lb, lo, none⟩) n cap) (hin : i < n) (c0 : v.cell? ⟨lb, lo + i * 4, none⟩ = some (I po)) (hA : A9 lst tb la lc N W i a) (h10 : a.tmps.getD 10 undef = e10) (h11 : a.tmps.getD 11 undef = e11) :
    q16.wp Try.prog (fun e a' w' => e = .normal ∧ A9 lst tb la lc N W i a' ∧ a'.tmps.getD 10 undef = e10 ∧ a'.tmps.getD 11 undef = e11 ∧ a'.tmps.getD 50 undef = I po ∧ w'.heap = v.heap ∧ w'.os = v.os ∧ w'.output = v.output) a v := by
  obtain ⟨u, rfl, hg⟩ := litN hA.size hA.defers
  have u0 := (hg 0).symm.trans hA.t0
  have u4 := (hg 4).symm.trans hA.t4
  have u5 := (hg 5).symm.trans hA.t5
  have u6 := (hg 6).symm.trans hA.t6
  have u7 := (hg 7).symm.trans hA.t7
  have u8 := (hg 8).symm.trans hA.t8
  have u9 := (hg 9).symm.trans hA.t9
  have u10 := (hg 10).symm.trans h10
  have u11 := (hg 11).symm.trans h11
  clear hg hA h10 h11
  unfold q16 I9 L9 C9 B9 Try.f9 seq2 seq1 blockC loopC
  simp only [Option.getD_some, lits, Nat.reduceAdd, u0, u4, u5, u6, u7, u8, u9, u10, u11]
  clear u0 u4 u5 u6 u7 u8 u9 u10 u11
  subst hl
  have hin' : (i : Int) < (n : Int) := by omega
  go_wp2_with fail

  first
    | exact ⟨rfl, rfl, rfl, rfl, rfl, rfl, rfl, rfl, rfl⟩
    | exact ⟨⟨rfl, rfl, rfl, rfl, rfl, rfl, rfl, rfl, rfl⟩, rfl⟩
    | exact ⟨⟨rfl, rfl, rfl, rfl, rfl, rfl, rfl, rfl, rfl⟩, rfl, rfl⟩
    | exact ⟨⟨rfl, rfl, rfl, rfl, rfl, rfl, rfl, rfl, rfl⟩, rfl, rfl, rfl⟩
    | exact ⟨⟨rfl, rfl, rfl, rfl, rfl, rfl, rfl, rfl, rfl⟩, rfl, rfl, rfl, rfl⟩
    | exact ⟨⟨rfl, rfl, rfl, rfl, rfl, rfl, rfl, rfl, rfl⟩, rfl, rfl, rfl, rfl, rfl⟩
    | exact ⟨rfl, ⟨rfl, rfl, rfl, rfl, rfl, rfl, rfl, rfl, rfl⟩, rfl, rfl, rfl, rfl, rfl, rfl⟩
    | trace_state


set_option maxHeartbeats 4000000 in
set_option maxRecDepth 100000 in
theorem q19_wp {v : World} {a : Act} {lst : Value} {tb la lc N W i : Nat} {po : Int} {e10 e11 : Value}  (hA : A9 lst tb la lc N W i a) (h10 : a.tmps.getD 10 undef = e10) (h11 : a.tmps.getD 11 undef = e11) (h50 : a.tmps.getD 50 undef = I po) :
    q19.wp Try.prog (fun e a' w' => e = .normal ∧ A9 lst tb la lc N W i a' ∧ a'.tmps.getD 10 undef = e10 ∧ a'.tmps.getD 11 undef = e11 ∧ a'.tmps.getD 50 undef = I po ∧ a'.tmps.getD 60 undef = .bool (po == 1) ∧ w'.heap = v.heap ∧ w'.os = v.os ∧ w'.output = v.output) a v := by
  obtain ⟨u, rfl, hg⟩ := litN hA.size hA.defers
  have u0 := (hg 0).symm.trans hA.t0
  have u4 := (hg 4).symm.trans hA.t4
  have u5 := (hg 5).symm.trans hA.t5
  have u6 := (hg 6).symm.trans hA.t6
  have u7 := (hg 7).symm.trans hA.t7
  have u8 := (hg 8).symm.trans hA.t8
  have u9 := (hg 9).symm.trans hA.t9
  have u10 := (hg 10).symm.trans h10
  have u11 := (hg 11).symm.trans h11
  have u50 := (hg 50).symm.trans h50
  clear hg hA h10 h11 h50
  unfold q19 S9 I9 L9 C9 B9 Try.f9 seq2 seq1 blockC loopC
  simp only [Option.getD_some, lits, Nat.reduceAdd, u0, u4, u5, u6, u7, u8, u9, u10, u11, u50]
  clear u0 u4 u5 u6 u7 u8 u9 u10 u11 u50
  go_wp2_with fail

  first
    | exact ⟨rfl, rfl, rfl, rfl, rfl, rfl, rfl, rfl, rfl⟩
    | exact ⟨⟨rfl, rfl, rfl, rfl, rfl, rfl, rfl, rfl, rfl⟩, rfl⟩
    | exact ⟨⟨rfl, rfl, rfl, rfl, rfl, rfl, rfl, rfl, rfl⟩, rfl, rfl⟩
    | exact ⟨⟨rfl, rfl, rfl, rfl, rfl, rfl, rfl, rfl, rfl⟩, rfl, rfl, rfl⟩
    | exact ⟨⟨rfl, rfl, rfl, rfl, rfl, rfl, rfl, rfl, rfl⟩, rfl, rfl, rfl, rfl⟩
    | exact ⟨⟨rfl, rfl, rfl, rfl, rfl, rfl, rfl, rfl, rfl⟩, rfl, rfl, rfl, rfl, rfl⟩
    | exact ⟨rfl, ⟨rfl, rfl, rfl, rfl, rfl, rfl, rfl, rfl, rfl⟩, rfl, rfl, rfl, rfl, rfl, rfl⟩
    | trace_state


set_option maxHeartbeats 4000000 in
set_option maxRecDepth 100000 in
theorem q25_wp {v : World} {a : Act} {lst : Value} {tb la lc N W i : Nat} {po : Int} {e10 e11 : Value}  (hA : A9 lst tb la lc N W i a) (h10 : a.tmps.getD 10 undef = e10) (h11 : a.tmps.getD 11 undef = e11) (h50 : a.tmps.getD 50 undef = I po) :
    q25.wp Try.prog (fun e a' w' => e = .normal ∧ A9 lst tb la lc N W i a' ∧ a'.tmps.getD 10 undef = e10 ∧ a'.tmps.getD 11 undef = e11 ∧ a'.tmps.getD 82 undef = .bool (po == 2) ∧ w'.heap = v.heap ∧ w'.os = v.os ∧ w'.output = v.output) a v := by
  obtain ⟨u, rfl, hg⟩ := litN hA.size hA.defers
  have u0 := (hg 0).symm.trans hA.t0
  have u4 := (hg 4).symm.trans hA.t4
  have u5 := (hg 5).symm.trans hA.t5
  have u6 := (hg 6).symm.trans hA.t6
  have u7 := (hg 7).symm.trans hA.t7
  have u8 := (hg 8).symm.trans hA.t8
  have u9 := (hg 9).symm.trans hA.t9
  have u10 := (hg 10).symm.trans h10
  have u11 := (hg 11).symm.trans h11
  have u50 := (hg 50).symm.trans h50
  clear hg hA h10 h11 h50
  unfold q25 D9 S9 I9 L9 C9 B9 Try.f9 seq2 seq1 blockC loopC condB
  simp only [Option.getD_some, lits, Nat.reduceAdd, u0, u4, u5, u6, u7, u8, u9, u10, u11, u50]
  clear u0 u4 u5 u6 u7 u8 u9 u10 u11 u50
  go_wp2_with fail

  first
    | exact ⟨rfl, rfl, rfl, rfl, rfl, rfl, rfl, rfl, rfl⟩
    | exact ⟨⟨rfl, rfl, rfl, rfl, rfl, rfl, rfl, rfl, rfl⟩, rfl⟩
    | exact ⟨⟨rfl, rfl, rfl, rfl, rfl, rfl, rfl, rfl, rfl⟩, rfl, rfl⟩
    | exact ⟨⟨rfl, rfl, rfl, rfl, rfl, rfl, rfl, rfl, rfl⟩, rfl, rfl, rfl⟩
    | exact ⟨⟨rfl, rfl, rfl, rfl, rfl, rfl, rfl, rfl, rfl⟩, rfl, rfl, rfl, rfl⟩
    | exact ⟨⟨rfl, rfl, rfl, rfl, rfl, rfl, rfl, rfl, rfl⟩, rfl, rfl, rfl, rfl, rfl⟩
    | exact ⟨rfl, ⟨rfl, rfl, rfl, rfl, rfl, rfl, rfl, rfl, rfl⟩, rfl, rfl, rfl, rfl, rfl, rfl⟩
    | trace_state


set_option maxHeartbeats 4000000 in
set_option maxRecDepth 100000 in
theorem q20_wp {v : World} {a : Act} {lst : Value} {tb la lc N W i : Nat} {x y : Nat → Int} {k : Nat} {e11 : Value} (hk : k = 0 ∨ k = 1) (n0 : v.cell? ⟨N, 0, none⟩ = some (I (x 0))) (n1 : v.cell? ⟨N, 1, none⟩ = some (I (x 1))) (w0 : v.cell? ⟨W, 0, none⟩ = some (I (y 0))) (w1 : v.cell? ⟨W, 1, none⟩ = some (I (y 1))) (hA : A9 lst tb la lc N W i a) (h10 : a.tmps.getD 10 undef = I (k : Int)) (h11 : a.tmps.getD 11 undef = e11) :
    q20.wp Try.prog (fun e a' w' => e = .normal ∧ A9 lst tb la lc N W i a' ∧ a'.tmps.getD 10 undef = I (k : Int) ∧ a'.tmps.getD 11 undef = e11 ∧ a'.tmps.getD 70 undef = .bool (x k != y k) ∧ w'.heap = v.heap ∧ w'.os = v.os ∧ w'.output = v.output) a v := by
  obtain ⟨u, rfl, hg⟩ := litN hA.size hA.defers
  have u0 := (hg 0).symm.trans hA.t0
  have u4 := (hg 4).symm.trans hA.t4
  have u5 := (hg 5).symm.trans hA.t5
  have u6 := (hg 6).symm.trans hA.t6
  have u7 := (hg 7).symm.trans hA.t7
  have u8 := (hg 8).symm.trans hA.t8
  have u9 := (hg 9).symm.trans hA.t9
  have u10 := (hg 10).symm.trans h10
  have u11 := (hg 11).symm.trans h11
  clear hg hA h10 h11
  unfold q20 K1 S9 I9 L9 C9 B9 Try.f9 seq2 seq1 blockC loopC condA
  simp only [Option.getD_some, lits, Nat.reduceAdd, u0, u4, u5, u6, u7, u8, u9, u10, u11]
  clear u0 u4 u5 u6 u7 u8 u9 u10 u11
  rcases hk with rfl | rfl
  all_goals
    go_wp2_with fail
    go_quiet (fail)
    first
      | exact ⟨rfl, rfl, rfl, rfl, rfl, rfl, rfl, rfl, rfl⟩
      | exact ⟨⟨rfl, rfl, rfl, rfl, rfl, rfl, rfl, rfl, rfl⟩, rfl⟩
      | exact ⟨⟨rfl, rfl, rfl, rfl, rfl, rfl, rfl, rfl, rfl⟩, rfl, rfl⟩
      | exact ⟨⟨rfl, rfl, rfl, rfl, rfl, rfl, rfl, rfl, rfl⟩, rfl, rfl, rfl⟩
      | exact ⟨⟨rfl, rfl, rfl, rfl, rfl, rfl, rfl, rfl, rfl⟩, rfl, rfl, rfl, rfl⟩
      | exact ⟨⟨rfl, rfl, rfl, rfl, rfl, rfl, rfl, rfl, rfl⟩, rfl, rfl, rfl, rfl, rfl⟩
      | exact ⟨rfl, ⟨rfl, rfl, rfl, rfl, rfl, rfl, rfl, rfl, rfl⟩, rfl, rfl, rfl, rfl, rfl, rfl⟩
      | trace_state



set_option maxHeartbeats 4000000 in
set_option maxRecDepth 100000 in
theorem q22_wp {v : World} {a : Act} {lst : Value} {tb la lc N W i : Nat} {e10 : Value}  (hA : A9 lst tb la lc N W i a) (h10 : a.tmps.getD 10 undef = e10) (h12 : a.tmps.getD 12 undef = .bool true) :
    q22.wp Try.prog (fun e a' w' => e = .normal ∧ A9 lst tb la lc N W i a' ∧ a'.tmps.getD 10 undef = e10 ∧ w'.heap = v.heap ∧ w'.os = v.os ∧ w'.output = v.output) a v := by
  obtain ⟨u, rfl, hg⟩ := litN hA.size hA.defers
  have u0 := (hg 0).symm.trans hA.t0
  have u4 := (hg 4).symm.trans hA.t4
  have u5 := (hg 5).symm.trans hA.t5
  have u6 := (hg 6).symm.trans hA.t6
  have u7 := (hg 7).symm.trans hA.t7
  have u8 := (hg 8).symm.trans hA.t8
  have u9 := (hg 9).symm.trans hA.t9
  have u10 := (hg 10).symm.trans h10
  have u12 := (hg 12).symm.trans h12
  clear hg hA h10 h12
  unfold q22 K1 S9 I9 L9 C9 B9 Try.f9 seq2 seq1 blockC loopC condA
  simp only [Option.getD_some, lits, Nat.reduceAdd, u0, u4, u5, u6, u7, u8, u9, u10, u12]
  clear u0 u4 u5 u6 u7 u8 u9 u10 u12
  go_wp2_with fail

  first
    | exact ⟨rfl, rfl, rfl, rfl, rfl, rfl, rfl, rfl, rfl⟩
    | exact ⟨⟨rfl, rfl, rfl, rfl, rfl, rfl, rfl, rfl, rfl⟩, rfl⟩
    | exact ⟨⟨rfl, rfl, rfl, rfl, rfl, rfl, rfl, rfl, rfl⟩, rfl, rfl⟩
    | exact ⟨⟨rfl, rfl, rfl, rfl, rfl, rfl, rfl, rfl, rfl⟩, rfl, rfl, rfl⟩
    | exact ⟨⟨rfl, rfl, rfl, rfl, rfl, rfl, rfl, rfl, rfl⟩, rfl, rfl, rfl, rfl⟩
    | exact ⟨⟨rfl, rfl, rfl, rfl, rfl, rfl, rfl, rfl, rfl⟩, rfl, rfl, rfl, rfl, rfl⟩
    | exact ⟨rfl, ⟨rfl, rfl, rfl, rfl, rfl, rfl, rfl, rfl, rfl⟩, rfl, rfl, rfl, rfl, rfl, rfl⟩
    | trace_state


set_option maxHeartbeats 4000000 in
set_option maxRecDepth 100000 in
theorem q24_wp {v : World} {a : Act} {lst : Value} {tb la lc N W i : Nat} {x y : Nat → Int} {k : Nat} (hk : k = 0 ∨ k = 1) (n0 : v.cell? ⟨N, 0, none⟩ = some (I (x 0))) (n1 : v.cell? ⟨N, 1, none⟩ = some (I (x 1))) (hf : v.frozen? ⟨N, k, none⟩ = false) (hA : A9 lst tb la lc N W i a) (h10 : a.tmps.getD 10 undef = I (k : Int)) :
    q24.wp Try.prog (fun e a' w' => e = .normal ∧ A9 lst tb la lc N W i a' ∧ w'.heap = (v.setCell ⟨N, k, none⟩ (I (wrap64 (x k + 1)))).heap ∧ w'.os = v.os ∧ w'.output = v.output) a v := by
  obtain ⟨u, rfl, hg⟩ := litN hA.size hA.defers
  have u0 := (hg 0).symm.trans hA.t0
  have u4 := (hg 4).symm.trans hA.t4
  have u5 := (hg 5).symm.trans hA.t5
  have u6 := (hg 6).symm.trans hA.t6
  have u7 := (hg 7).symm.trans hA.t7
  have u8 := (hg 8).symm.trans hA.t8
  have u9 := (hg 9).symm.trans hA.t9
  have u10 := (hg 10).symm.trans h10
  clear hg hA h10
  unfold q24 K1 S9 I9 L9 C9 B9 Try.f9 seq2 seq1 blockC loopC condA
  simp only [Option.getD_some, lits, Nat.reduceAdd, u0, u4, u5, u6, u7, u8, u9, u10]
  clear u0 u4 u5 u6 u7 u8 u9 u10
  rcases hk with rfl | rfl
  all_goals
    go_wp2_with fail
    first
      | exact ⟨rfl, rfl, rfl, rfl, rfl, rfl, rfl, rfl, rfl⟩
      | exact ⟨⟨rfl, rfl, rfl, rfl, rfl, rfl, rfl, rfl, rfl⟩, rfl⟩
      | exact ⟨⟨rfl, rfl, rfl, rfl, rfl, rfl, rfl, rfl, rfl⟩, rfl, rfl⟩
      | exact ⟨⟨rfl, rfl, rfl, rfl, rfl, rfl, rfl, rfl, rfl⟩, rfl, rfl, rfl⟩
      | exact ⟨⟨rfl, rfl, rfl, rfl, rfl, rfl, rfl, rfl, rfl⟩, rfl, rfl, rfl, rfl⟩
      | exact ⟨⟨rfl, rfl, rfl, rfl, rfl, rfl, rfl, rfl, rfl⟩, rfl, rfl, rfl, rfl, rfl⟩
      | exact ⟨rfl, ⟨rfl, rfl, rfl, rfl, rfl, rfl, rfl, rfl, rfl⟩, rfl, rfl, rfl, rfl, rfl, rfl⟩
      | trace_state



set_option maxHeartbeats 4000000 in
set_option maxRecDepth 100000 in
theorem q27_wp {v : World} {a : Act} {lst : Value} {tb la lc N W i : Nat} {x y : Nat → Int} {k : Nat} (hk : k = 0 ∨ k = 1) (n0 : v.cell? ⟨N, 0, none⟩ = some (I (x 0))) (n1 : v.cell? ⟨N, 1, none⟩ = some (I (x 1))) (w0 : v.cell? ⟨W, 0, none⟩ = some (I (y 0))) (w1 : v.cell? ⟨W, 1, none⟩ = some (I (y 1))) (b : Bool) (hb : (x k == y k) = b) (hA : A9 lst tb la lc N W i a) (h10 : a.tmps.getD 10 undef = I (k : Int)) (h13 : a.tmps.getD 13 undef = .bool b) :
    q27.wp Try.prog (fun e a' w' => e = .normal ∧ A9 lst tb la lc N W i a' ∧ a'.tmps.getD 10 undef = I (k : Int) ∧ a'.tmps.getD 13 undef = .bool b ∧ w'.heap = v.heap ∧ w'.os = v.os ∧ w'.output = v.output) a v := by
  obtain ⟨u, rfl, hg⟩ := litN hA.size hA.defers
  have u0 := (hg 0).symm.trans hA.t0
  have u4 := (hg 4).symm.trans hA.t4
  have u5 := (hg 5).symm.trans hA.t5
  have u6 := (hg 6).symm.trans hA.t6
  have u7 := (hg 7).symm.trans hA.t7
  have u8 := (hg 8).symm.trans hA.t8
  have u9 := (hg 9).symm.trans hA.t9
  have u10 := (hg 10).symm.trans h10
  have u13 := (hg 13).symm.trans h13
  clear hg hA h10 h13
  unfold q27 K2 D9 S9 I9 L9 C9 B9 Try.f9 seq2 seq1 blockC loopC condA condB
  simp only [Option.getD_some, lits, Nat.reduceAdd, u0, u4, u5, u6, u7, u8, u9, u10, u13]
  clear u0 u4 u5 u6 u7 u8 u9 u10 u13
  subst hb
  rcases hk with rfl | rfl
  all_goals
    go_wp2_with fail
    go_quiet (fail)
    go_wp2_with fail
    first
      | exact ⟨rfl, rfl, rfl, rfl, rfl, rfl, rfl, rfl, rfl⟩
      | exact ⟨⟨rfl, rfl, rfl, rfl, rfl, rfl, rfl, rfl, rfl⟩, rfl⟩
      | exact ⟨⟨rfl, rfl, rfl, rfl, rfl, rfl, rfl, rfl, rfl⟩, rfl, rfl⟩
      | exact ⟨⟨rfl, rfl, rfl, rfl, rfl, rfl, rfl, rfl, rfl⟩, rfl, rfl, rfl⟩
      | exact ⟨⟨rfl, rfl, rfl, rfl, rfl, rfl, rfl, rfl, rfl⟩, rfl, rfl, rfl, rfl⟩
      | exact ⟨⟨rfl, rfl, rfl, rfl, rfl, rfl, rfl, rfl, rfl⟩, rfl, rfl, rfl, rfl, rfl⟩
      | exact ⟨rfl, ⟨rfl, rfl, rfl, rfl, rfl, rfl, rfl, rfl, rfl⟩, rfl, rfl, rfl, rfl, rfl, rfl⟩
      | trace_state



set_option maxHeartbeats 4000000 in
set_option maxRecDepth 100000 in
theorem q29_wpy {v : World} {a : Act} {lst : Value} {tb la lc N W i : Nat} {x y : Nat → Int} {k : Nat} (hk : k = 0 ∨ k = 1) (n0 : v.cell? ⟨N, 0, none⟩ = some (I (x 0))) (n1 : v.cell? ⟨N, 1, none⟩ = some (I (x 1))) (hf : v.frozen? ⟨N, k, none⟩ = false) (hA : A9 lst tb la lc N W i a) (h10 : a.tmps.getD 10 undef = I (k : Int)) (h13 : a.tmps.getD 13 undef = .bool true) :
    q29.wp Try.prog (fun e a' w' => e = .normal ∧ A9 lst tb la lc N W i a' ∧ w'.heap = (v.setCell ⟨N, k, none⟩ (I (wrap64 (x k + 1)))).heap ∧ w'.os = v.os ∧ w'.output = v.output) a v := by
  obtain ⟨u, rfl, hg⟩ := litN hA.size hA.defers
  have u0 := (hg 0).symm.trans hA.t0
  have u4 := (hg 4).symm.trans hA.t4
  have u5 := (hg 5).symm.trans hA.t5
  have u6 := (hg 6).symm.trans hA.t6
  have u7 := (hg 7).symm.trans hA.t7
  have u8 := (hg 8).symm.trans hA.t8
  have u9 := (hg 9).symm.trans hA.t9
  have u10 := (hg 10).symm.trans h10
  have u13 := (hg 13).symm.trans h13
  clear hg hA h10 h13
  unfold q29 K2 D9 S9 I9 L9 C9 B9 Try.f9 seq2 seq1 blockC loopC condA condB
  simp only [Option.getD_some, lits, Nat.reduceAdd, u0, u4, u5, u6, u7, u8, u9, u10, u13]
  clear u0 u4 u5 u6 u7 u8 u9 u10 u13
  rcases hk with rfl | rfl
  all_goals
    go_wp2_with fail
    first
      | exact ⟨rfl, rfl, rfl, rfl, rfl, rfl, rfl, rfl, rfl⟩
      | exact ⟨⟨rfl, rfl, rfl, rfl, rfl, rfl, rfl, rfl, rfl⟩, rfl⟩
      | exact ⟨⟨rfl, rfl, rfl, rfl, rfl, rfl, rfl, rfl, rfl⟩, rfl, rfl⟩
      | exact ⟨⟨rfl, rfl, rfl, rfl, rfl, rfl, rfl, rfl, rfl⟩, rfl, rfl, rfl⟩
      | exact ⟨⟨rfl, rfl, rfl, rfl, rfl, rfl, rfl, rfl, rfl⟩, rfl, rfl, rfl, rfl⟩
      | exact ⟨⟨rfl, rfl, rfl, rfl, rfl, rfl, rfl, rfl, rfl⟩, rfl, rfl, rfl, rfl, rfl⟩
      | exact ⟨rfl, ⟨rfl, rfl, rfl, rfl, rfl, rfl, rfl, rfl, rfl⟩, rfl, rfl, rfl, rfl, rfl, rfl⟩
      | trace_state



set_option maxHeartbeats 4000000 in
set_option maxRecDepth 100000 in
theorem q29_wpn {v : World} {a : Act} {lst : Value} {tb la lc N W i : Nat}   (hA : A9 lst tb la lc N W i a) (h13 : a.tmps.getD 13 undef = .bool false) :
    q29.wp Try.prog (fun e a' w' => e = .normal ∧ A9 lst tb la lc N W i a' ∧ w'.heap = v.heap ∧ w'.os = v.os ∧ w'.output = v.output) a v := by
  obtain ⟨u, rfl, hg⟩ := litN hA.size hA.defers
  have u0 := (hg 0).symm.trans hA.t0
  have u4 := (hg 4).symm.trans hA.t4
  have u5 := (hg 5).symm.trans hA.t5
  have u6 := (hg 6).symm.trans hA.t6
  have u7 := (hg 7).symm.trans hA.t7
  have u8 := (hg 8).symm.trans hA.t8
  have u9 := (hg 9).symm.trans hA.t9
  have u13 := (hg 13).symm.trans h13
  clear hg hA h13
  unfold q29 K2 D9 S9 I9 L9 C9 B9 Try.f9 seq2 seq1 blockC loopC condA condB
  simp only [Option.getD_some, lits, Nat.reduceAdd, u0, u4, u5, u6, u7, u8, u9, u13]
  clear u0 u4 u5 u6 u7 u8 u9 u13
  go_wp2_with fail

  first
    | exact ⟨rfl, rfl, rfl, rfl, rfl, rfl, rfl, rfl, rfl⟩
    | exact ⟨⟨rfl, rfl, rfl, rfl, rfl, rfl, rfl, rfl, rfl⟩, rfl⟩
    | exact ⟨⟨rfl, rfl, rfl, rfl, rfl, rfl, rfl, rfl, rfl⟩, rfl, rfl⟩
    | exact ⟨⟨rfl, rfl, rfl, rfl, rfl, rfl, rfl, rfl, rfl⟩, rfl, rfl, rfl⟩
    | exact ⟨⟨rfl, rfl, rfl, rfl, rfl, rfl, rfl, rfl, rfl⟩, rfl, rfl, rfl, rfl⟩
    | exact ⟨⟨rfl, rfl, rfl, rfl, rfl, rfl, rfl, rfl, rfl⟩, rfl, rfl, rfl, rfl, rfl⟩
    | exact ⟨rfl, ⟨rfl, rfl, rfl, rfl, rfl, rfl, rfl, rfl, rfl⟩, rfl, rfl, rfl, rfl, rfl, rfl⟩
    | trace_state


set_option maxHeartbeats 4000000 in
set_option maxRecDepth 100000 in
theorem q18_wp {v : World} {a : Act} {lst : Value} {tb la lc N W i : Nat} {y : Nat → Int} {k : Nat} (hk : k = 0 ∨ k = 1) (w0 : v.cell? ⟨W, 0, none⟩ = some (I (y 0))) (w1 : v.cell? ⟨W, 1, none⟩ = some (I (y 1))) (hf : v.frozen? ⟨W, k, none⟩ = false) (hA : A9 lst tb la lc N W i a) (h10 : a.tmps.getD 10 undef = I (k : Int)) :
    q18.wp Try.prog (fun e a' w' => e = .normal ∧ A9 lst tb la lc N W i a' ∧ w'.heap = (v.setCell ⟨W, k, none⟩ (I (wrap64 (y k + 1)))).heap ∧ w'.os = v.os ∧ w'.output = v.output) a v := by
  obtain ⟨u, rfl, hg⟩ := litN hA.size hA.defers
  have u0 := (hg 0).symm.trans hA.t0
  have u4 := (hg 4).symm.trans hA.t4
  have u5 := (hg 5).symm.trans hA.t5
  have u6 := (hg 6).symm.trans hA.t6
  have u7 := (hg 7).symm.trans hA.t7
  have u8 := (hg 8).symm.trans hA.t8
  have u9 := (hg 9).symm.trans hA.t9
  have u10 := (hg 10).symm.trans h10
  clear hg hA h10
  unfold q18 K3 D9 S9 I9 L9 C9 B9 Try.f9 seq2 seq1 blockC loopC condB
  simp only [Option.getD_some, lits, Nat.reduceAdd, u0, u4, u5, u6, u7, u8, u9, u10]
  clear u0 u4 u5 u6 u7 u8 u9 u10
  rcases hk with rfl | rfl
  all_goals
    go_wp2_with fail
    first
      | exact ⟨rfl, rfl, rfl, rfl, rfl, rfl, rfl, rfl, rfl⟩
      | exact ⟨⟨rfl, rfl, rfl, rfl, rfl, rfl, rfl, rfl, rfl⟩, rfl⟩
      | exact ⟨⟨rfl, rfl, rfl, rfl, rfl, rfl, rfl, rfl, rfl⟩, rfl, rfl⟩
      | exact ⟨⟨rfl, rfl, rfl, rfl, rfl, rfl, rfl, rfl, rfl⟩, rfl, rfl, rfl⟩
      | exact ⟨⟨rfl, rfl, rfl, rfl, rfl, rfl, rfl, rfl, rfl⟩, rfl, rfl, rfl, rfl⟩
      | exact ⟨⟨rfl, rfl, rfl, rfl, rfl, rfl, rfl, rfl, rfl⟩, rfl, rfl, rfl, rfl, rfl⟩
      | exact ⟨rfl, ⟨rfl, rfl, rfl, rfl, rfl, rfl, rfl, rfl, rfl⟩, rfl, rfl, rfl, rfl, rfl, rfl⟩
      | trace_state



set_option maxHeartbeats 4000000 in
set_option maxRecDepth 100000 in
theorem q11_wp {v : World} {a : Act} {lst : Value} {tb la lc N W i : Nat}  (h9 : wrap64 ((i : Int) + 1) = ((i + 1 : Nat) : Int)) (hA : A9 lst tb la lc N W i a) :
    q11.wp Try.prog (fun e a' w' => e = .normal ∧ A9 lst tb la lc N W (i + 1) a' ∧ w'.heap = v.heap ∧ w'.os = v.os ∧ w'.output = v.output) a v := by
  obtain ⟨u, rfl, hg⟩ := litN hA.size hA.defers
  have u0 := (hg 0).symm.trans hA.t0
  have u4 := (hg 4).symm.trans hA.t4
  have u5 := (hg 5).symm.trans hA.t5
  have u6 := (hg 6).symm.trans hA.t6
  have u7 := (hg 7).symm.trans hA.t7
  have u8 := (hg 8).symm.trans hA.t8
  have u9 := (hg 9).symm.trans hA.t9
  clear hg hA
  unfold q11 L9 C9 B9 Try.f9 seq2 seq1 blockC loopC
  simp only [Option.getD_some, lits, Nat.reduceAdd, u0, u4, u5, u6, u7, u8, u9]
  clear u0 u4 u5 u6 u7 u8 u9
  go_wp2_with fail

  exact ⟨rfl, rfl, rfl, rfl, rfl, rfl, rfl, rfl, congrArg I (by omega)⟩

theorem fine_q10 : fineCode Try.prog true LV q10 := fineCode_askS callV extT (by kernel_rfl)
theorem fine_q12 : fineCode Try.prog true LV q12 := fineCode_askS callV extT (by kernel_rfl)
theorem fine_q13 : fineCode Try.prog true LV q13 := fineCode_askS callV extT (by kernel_rfl)
theorem fine_q14 : fineCode Try.prog true LV q14 := fineCode_askS callV extT (by kernel_rfl)
theorem fine_q16 : fineCode Try.prog true LV q16 := fineCode_askS callV extT (by kernel_rfl)
theorem fine_q19 : fineCode Try.prog true LV q19 := fineCode_askS callV extT (by kernel_rfl)
theorem fine_q20 : fineCode Try.prog true LV q20 := fineCode_askS callV extT (by kernel_rfl)
theorem fine_q22 : fineCode Try.prog true LV q22 := fineCode_askS callV extT (by kernel_rfl)
theorem fine_q24 : fineCode Try.prog true LV q24 := fineCode_askS callV extT (by kernel_rfl)
theorem fine_q25 : fineCode Try.prog true LV q25 := fineCode_askS callV extT (by kernel_rfl)
theorem fine_q27 : fineCode Try.prog true LV q27 := fineCode_askS callV extT (by kernel_rfl)
theorem fine_q29 : fineCode Try.prog true LV q29 := fineCode_askS callV extT (by kernel_rfl)
theorem fine_q18 : fineCode Try.prog true LV q18 := fineCode_askS callV extT (by kernel_rfl)
theorem fine_q11 : fineCode Try.prog true LV q11 := fineCode_askS callV extT (by kernel_rfl)
end Go.Proofs.Ytfjjoohflcchnaa.Gen

namespace Go.Proofs.Ytfjjoohflcchnaa.Gen
open Go Go.Lift Go.Conc Go.RowKit

def padd (pk : Nat → Option Obj) (b : Nat) (o : Obj) : Nat → Option Obj := fun x => if x = b then some o else pk x
theorem padd_at (pk : Nat → Option Obj) (b : Nat) (o : Obj) : padd pk b o b = some o := by unfold padd; rw [if_pos rfl]
theorem padd_ne {pk : Nat → Option Obj} {b x : Nat} {o : Obj} (h : x ≠ b) : padd pk b o x = pk x := by unfold padd; rw [if_neg h]
theorem cell_of {v : World} {b j : Nat} {c : Array Value} {t : TypeId} {f : Nat × Nat} {x : Value} (h : v.heap[b]? = some (.cells c t f)) (hj : c[j]? = some x) : v.cell? ⟨b, j, none⟩ = some x := by
  unfold World.cell?
  rw [h]
  exact hj

section
variable {v u u' : World} {S S1 : TS} {K : List (Nat × Int)} {xs : List Int} {pk : Nat → Option Obj}
theorem Objs.start (hm : Mem zn S [] v) (hch : S.chg = []) : Objs v S [] (fun _ => none) S [] v :=
  ⟨Cel.refl hm, rfl, ⟨S.cv, by unfold cellsS; rw [List.length_nil, List.replicate_zero, ← hch]⟩, fun b o h => (by cases h), fun b h => absurd rfl h, fun b o h => (by cases h)⟩
theorem Objs.push (h : Objs v S xs pk S1 K u) {c : Array Value} {t : TypeId} (e : u'.heap = u.heap.push (.cells c t)) (e1 : u'.os = u.os) (e2 : u'.output = u.output) : Objs v S xs (padd pk u.heap.size (.cells c t)) S1 K u' := by
  refine ⟨h.cel.push e e1 e2, h.vals, h.st, fun b o hb => ?_, fun b hb => ?_, fun b o hb => ?_⟩
  · by_cases hbu : b = u.heap.size
    · subst hbu
      rw [padd_at] at hb
      cases hb
      rw [e]
      exact Array.getElem?_push_size
    · rw [padd_ne hbu] at hb
      have := h.has b o hb
      have hl := (Array.getElem?_eq_some_iff.1 this).1
      rw [e, Array.getElem?_push, if_neg (by omega)]
      exact this
  · by_cases hbu : b = u.heap.size
    · subst hbu
      exact ⟨h.cel.fr.size, fun ho => by have := h.cel.mem.lt ho; omega⟩
    · rw [padd_ne hbu] at hb
      exact h.new b hb
  · by_cases hbu : b = u.heap.size
    · subst hbu
      rw [padd_at] at hb
      cases hb
      exact ⟨_, _, _, rfl⟩
    · rw [padd_ne hbu] at hb
      exact h.row b o hb
theorem Objs.more (h : Objs v S xs pk S1 K u) {S2 : TS} {K2 : List (Nat × Int)} {ys : List Int} (c : Cel zn S1 K u S2 K2 u') (hv : K2.map (·.2) = ys) (hs : ∃ cv, S2 = cellsS S cv ys.length) : Objs v S ys pk S2 K2 u' := by
  have hl : ∀ b o, pk b = some o → b < u.heap.size := fun b o hb => (Array.getElem?_eq_some_iff.1 (h.has b o hb)).1
  refine ⟨h.cel.trans c, hv, hs, fun b o hb => ?_, fun b hb => ?_, h.row⟩
  · rw [c.fr.block b (hl b o hb) (h.new b (by rw [hb]; simp)).2]
    exact h.has b o hb
  · obtain ⟨o, ho⟩ := Option.ne_none_iff_exists'.1 hb
    refine ⟨(h.new b hb).1, fun ho' => ?_⟩
    rcases c.own b ho' with e | e
    · exact (h.new b hb).2 e
    · have := hl b o ho; omega
/-- cell.New. -/
theorem Objs.cell (h : Objs v S xs pk S1 K u) (x : Int) (hl : xs.length ≤ 1000000) : Calls Try.prog 21 #[Pt S.wb 0, I x] u (fun e w' => ∃ cb, e = .returned (Pt cb 0) ∧ u.heap.size ≤ w'.heap.size ∧ ∃ S2, Objs v S (xs ++ [x]) pk S2 (K ++ [(cb, x)]) w') := by
  obtain ⟨cv, rfl⟩ := h.st
  have h10 := (body10 h.cel.mem x (by show (List.replicate xs.length (0 : Int)).length ≤ _; simp; omega)).calls Try.func21 rfl
  refine h10.mono ?_
  rintro e w' ⟨r, rfl, cb, cv', rfl, hm1, hf1, hn1⟩
  refine ⟨cb, rfl, hf1.size, _, h.more ⟨hm1, hf1, hn1⟩ (by rw [List.map_append, h.vals]; rfl) ⟨cv', ?_⟩⟩
  unfold celledS cellsS
  simp only [List.length_append, List.length_cons, List.length_nil, Nat.zero_add, List.replicate_succ']
end
end Go.Proofs.Ytfjjoohflcchnaa.Gen
