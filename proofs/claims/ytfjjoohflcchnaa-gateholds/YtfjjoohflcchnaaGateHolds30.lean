/- GateHolds: for every schedule and all scripts, nobody enters behind the first Shut's step, one Shut at most is the first, nobody is in when a Shut answers, and the answers say how many are in; no conditions. Part 30 of 38. (Joined, by program, of: La47a.) -/
import Derived.Test.YtfjjoohflcchnaaGateHolds22
import Derived.Test.YtfjjoohflcchnaaGateHolds24
import Derived.Test.YtfjjoohflcchnaaGateHolds29
import Derived.BigQuiet
import Derived.BigRegion
import Derived.Deep.RegionHeld3
set_option linter.unusedSimpArgs false
set_option linter.unusedVariables false
namespace Go.Proofs.Ytfjjoohflcchnaa.Gen
open Go Go.Lift Go.Conc Go.RowKit

def condB : Code → Code
  | .cond _ _ b => b
  | _ => .skip
noncomputable def LB47 : Code := Try.f49.body.getD .skip
noncomputable def c0 : Code := seq1 LB47
noncomputable def c1 : Code := seq1 (seq1 (seq2 LB47))
noncomputable def c2 : Code := condA (seq2 (seq1 (seq2 LB47)))
noncomputable def c3 : Code := seq1 (seq2 (seq2 LB47))
noncomputable def c4 : Code := seq1 (seq2 (seq2 (seq2 LB47)))
noncomputable def c5 : Code := seq1 (seq2 (seq2 (seq2 (seq2 LB47))))
noncomputable def CL : Code := seq1 (seq2 (seq2 (seq2 (seq2 (seq2 LB47)))))
noncomputable def c22 : Code := (seq2 (seq2 (seq2 (seq2 (seq2 (seq2 LB47))))))
noncomputable def c6 : Code := seq1 CL
noncomputable def CLo : Code := loopC (blockC (seq2 CL))
noncomputable def c7 : Code := seq1 (seq1 CLo)
noncomputable def c8 : Code := seq2 (seq2 CLo)
noncomputable def CI : Code := blockC (seq1 (seq2 CLo))
noncomputable def c9 : Code := seq1 (seq1 CI)
noncomputable def c10 : Code := condA (seq2 (seq1 CI))
noncomputable def c11 : Code := seq1 (seq2 CI)
noncomputable def CJ : Code := loopC (blockC (seq2 (seq2 CI)))
noncomputable def c12 : Code := seq1 (seq1 CJ)
noncomputable def c13 : Code := seq2 (seq2 CJ)
noncomputable def CK : Code := blockC (seq1 (seq2 CJ))
noncomputable def c14 : Code := seq1 CK
noncomputable def c15 : Code := seq1 (seq2 CK)
noncomputable def CS : Code := blockC (seq2 (seq2 CK))
noncomputable def c16 : Code := seq1 CS
noncomputable def c17 : Code := condA (seq2 CS)
noncomputable def CT8 : Code := condB (seq2 CS)
noncomputable def c18 : Code := seq1 CT8
noncomputable def c19 : Code := condA (seq2 CT8)
noncomputable def CT9 : Code := condB (seq2 CT8)
noncomputable def c20 : Code := seq1 CT9
noncomputable def c21 : Code := condA (seq2 CT9)
theorem eLB47 : LB47 = .seq c0 (.seq (.seq c1 (.cond (.tmp 19) c2 .skip)) (.seq c3 (.seq c4 (.seq c5 (.seq (.seq c6 (.block 0 (.loop CLo))) c22))))) := by kernel_rfl
theorem eCLo : CLo = .seq (.seq c7 (.cond (.tmp 23) .skip (.exit 0))) (.seq (.block 1 CI) c8) := by kernel_rfl
theorem eCI : CI = .seq (.seq c9 (.cond (.tmp 36) c10 .skip)) (.seq c11 (.block 2 (.loop CJ))) := by kernel_rfl
theorem eCJ : CJ = .seq (.seq c12 (.cond (.tmp 43) .skip (.exit 2))) (.seq (.block 3 CK) c13) := by kernel_rfl
theorem eCK : CK = .seq c14 (.seq c15 (.block 4 (.seq c16 (.cond (.tmp 59) c17 (.seq c18 (.cond (.tmp 76) c19 (.seq c20 (.cond (.tmp 93) c21 .skip)))))))) := by kernel_rfl
set_option maxHeartbeats 4000000
set_option maxRecDepth 100000
section
variable {v : World} {a : Act} {b o n cap M i lt ca cp k A sb rb ro : Nat} {ai bi nn ff ec x po : Int} {st : Bool} {pa pc : Option Addr}
theorem c0_wp  (hA : Fl 131 [(0, .slice (some ⟨b, o, none⟩) n cap), (1, .slice (some ⟨M, 0, none⟩) n n), (2, I ai), (3, I bi)] a) : c0.wp Try.prog (fun e a' w' => e = .normal ∧ Fl 131 [(0, .slice (some ⟨b, o, none⟩) n cap), (1, .slice (some ⟨M, 0, none⟩) n n), (2, I ai), (3, I bi)] a' ∧ w'.heap = v.heap ∧ w'.os = v.os ∧ w'.output = v.output) a v := by
  obtain ⟨hsz, hd, hp⟩ := hA
  obtain ⟨u, rfl, hg⟩ := litN hsz hd
  simp only [List.forall_mem_cons, hg] at hp
  obtain ⟨u0, u1, u2, u3, -⟩ := hp
  clear hg hsz hd
  unfold c0 LB47 Try.f49 seq1
  simp only [Option.getD_some, lits, Nat.reduceAdd, u0, u1, u2, u3]
  clear u0 u1 u2 u3
  go_wp2_with fail
  first | refine ⟨?_, rfl, rfl, rfl⟩ | refine ⟨?_, rfl, rfl⟩ | refine ⟨?_, rfl⟩ | skip
  exact ⟨rfl, rfl, by
   intro p hp
   simp only [List.mem_cons, List.not_mem_nil, or_false] at hp
   rcases hp with rfl | rfl | rfl | rfl <;> first | rfl | exact congrArg I (by omega) | exact congrArg Value.bool (by simp)⟩

theorem c1_wp  (hA : Fl 131 [(0, .slice (some ⟨b, o, none⟩) n cap), (1, .slice (some ⟨M, 0, none⟩) n n), (2, I ai), (3, I bi)] a) : c1.wp Try.prog (fun e a' w' => e = .normal ∧ Fl 131 [(0, .slice (some ⟨b, o, none⟩) n cap), (1, .slice (some ⟨M, 0, none⟩) n n), (2, I ai), (3, I bi), (19, .bool false)] a' ∧ w'.heap = v.heap ∧ w'.os = v.os ∧ w'.output = v.output) a v := by
  obtain ⟨hsz, hd, hp⟩ := hA
  obtain ⟨u, rfl, hg⟩ := litN hsz hd
  simp only [List.forall_mem_cons, hg] at hp
  obtain ⟨u0, u1, u2, u3, -⟩ := hp
  clear hg hsz hd
  unfold c1 LB47 Try.f49 seq2 seq1
  simp only [Option.getD_some, lits, Nat.reduceAdd, u0, u1, u2, u3]
  clear u0 u1 u2 u3
  go_wp2_with fail
  first | refine ⟨?_, rfl, rfl, rfl⟩ | refine ⟨?_, rfl, rfl⟩ | refine ⟨?_, rfl⟩ | skip
  exact ⟨rfl, rfl, by
   intro p hp
   simp only [List.mem_cons, List.not_mem_nil, or_false] at hp
   rcases hp with rfl | rfl | rfl | rfl | rfl <;> first | rfl | exact congrArg I (by omega) | exact congrArg Value.bool (by simp)⟩

theorem c3_wp  (hA : Fl 131 [(0, .slice (some ⟨b, o, none⟩) n cap), (1, .slice (some ⟨M, 0, none⟩) n n), (2, I ai), (3, I bi)] a) : c3.wp Try.prog (fun e a' w' => e = .normal ∧ Fl 131 [(0, .slice (some ⟨b, o, none⟩) n cap), (1, .slice (some ⟨M, 0, none⟩) n n), (2, I ai), (3, I bi), (9, I 0)] a' ∧ w'.heap = v.heap ∧ w'.os = v.os ∧ w'.output = v.output) a v := by
  obtain ⟨hsz, hd, hp⟩ := hA
  obtain ⟨u, rfl, hg⟩ := litN hsz hd
  simp only [List.forall_mem_cons, hg] at hp
  obtain ⟨u0, u1, u2, u3, -⟩ := hp
  clear hg hsz hd
  unfold c3 LB47 Try.f49 seq2 seq1
  simp only [Option.getD_some, lits, Nat.reduceAdd, u0, u1, u2, u3]
  clear u0 u1 u2 u3
  go_wp2_with fail
  first | refine ⟨?_, rfl, rfl, rfl⟩ | refine ⟨?_, rfl, rfl⟩ | refine ⟨?_, rfl⟩ | skip
  exact ⟨rfl, rfl, by
   intro p hp
   simp only [List.mem_cons, List.not_mem_nil, or_false] at hp
   rcases hp with rfl | rfl | rfl | rfl | rfl <;> first | rfl | exact congrArg I (by omega) | exact congrArg Value.bool (by simp)⟩

theorem c4_wp  (hA : Fl 131 [(0, .slice (some ⟨b, o, none⟩) n cap), (1, .slice (some ⟨M, 0, none⟩) n n), (2, I ai), (3, I bi), (9, I 0)] a) : c4.wp Try.prog (fun e a' w' => e = .normal ∧ Fl 131 [(0, .slice (some ⟨b, o, none⟩) n cap), (1, .slice (some ⟨M, 0, none⟩) n n), (2, I ai), (3, I bi), (9, I 0), (10, I 0)] a' ∧ w'.heap = v.heap ∧ w'.os = v.os ∧ w'.output = v.output) a v := by
  obtain ⟨hsz, hd, hp⟩ := hA
  obtain ⟨u, rfl, hg⟩ := litN hsz hd
  simp only [List.forall_mem_cons, hg] at hp
  obtain ⟨u0, u1, u2, u3, u9, -⟩ := hp
  clear hg hsz hd
  unfold c4 LB47 Try.f49 seq2 seq1
  simp only [Option.getD_some, lits, Nat.reduceAdd, u0, u1, u2, u3, u9]
  clear u0 u1 u2 u3 u9
  go_wp2_with fail
  first | refine ⟨?_, rfl, rfl, rfl⟩ | refine ⟨?_, rfl, rfl⟩ | refine ⟨?_, rfl⟩ | skip
  exact ⟨rfl, rfl, by
   intro p hp
   simp only [List.mem_cons, List.not_mem_nil, or_false] at hp
   rcases hp with rfl | rfl | rfl | rfl | rfl | rfl <;> first | rfl | exact congrArg I (by omega) | exact congrArg Value.bool (by simp)⟩

theorem c5_wp  (hA : Fl 131 [(0, .slice (some ⟨b, o, none⟩) n cap), (1, .slice (some ⟨M, 0, none⟩) n n), (2, I ai), (3, I bi), (9, I 0), (10, I 0)] a) : c5.wp Try.prog (fun e a' w' => e = .normal ∧ Fl 131 [(0, .slice (some ⟨b, o, none⟩) n cap), (1, .slice (some ⟨M, 0, none⟩) n n), (2, I ai), (3, I bi), (9, I 0), (10, I 0), (11, .bool false)] a' ∧ w'.heap = v.heap ∧ w'.os = v.os ∧ w'.output = v.output) a v := by
  obtain ⟨hsz, hd, hp⟩ := hA
  obtain ⟨u, rfl, hg⟩ := litN hsz hd
  simp only [List.forall_mem_cons, hg] at hp
  obtain ⟨u0, u1, u2, u3, u9, u10, -⟩ := hp
  clear hg hsz hd
  unfold c5 LB47 Try.f49 seq2 seq1
  simp only [Option.getD_some, lits, Nat.reduceAdd, u0, u1, u2, u3, u9, u10]
  clear u0 u1 u2 u3 u9 u10
  go_wp2_with fail
  first | refine ⟨?_, rfl, rfl, rfl⟩ | refine ⟨?_, rfl, rfl⟩ | refine ⟨?_, rfl⟩ | skip
  exact ⟨rfl, rfl, by
   intro p hp
   simp only [List.mem_cons, List.not_mem_nil, or_false] at hp
   rcases hp with rfl | rfl | rfl | rfl | rfl | rfl | rfl <;> first | rfl | exact congrArg I (by omega) | exact congrArg Value.bool (by simp)⟩

theorem c6_wp  (hA : Fl 131 [(0, .slice (some ⟨b, o, none⟩) n cap), (1, .slice (some ⟨M, 0, none⟩) n n), (2, I ai), (3, I bi), (9, I nn), (10, I ff), (11, .bool st)] a) : c6.wp Try.prog (fun e a' w' => e = .normal ∧ Fl 131 [(0, .slice (some ⟨b, o, none⟩) n cap), (1, .slice (some ⟨M, 0, none⟩) n n), (2, I ai), (3, I bi), (9, I nn), (10, I ff), (11, .bool st), (12, I 0)] a' ∧ w'.heap = v.heap ∧ w'.os = v.os ∧ w'.output = v.output) a v := by
  obtain ⟨hsz, hd, hp⟩ := hA
  obtain ⟨u, rfl, hg⟩ := litN hsz hd
  simp only [List.forall_mem_cons, hg] at hp
  obtain ⟨u0, u1, u2, u3, u9, u10, u11, -⟩ := hp
  clear hg hsz hd
  unfold c6 CL LB47 Try.f49 seq2 seq1
  simp only [Option.getD_some, lits, Nat.reduceAdd, u0, u1, u2, u3, u9, u10, u11]
  clear u0 u1 u2 u3 u9 u10 u11
  go_wp2_with fail
  first | refine ⟨?_, rfl, rfl, rfl⟩ | refine ⟨?_, rfl, rfl⟩ | refine ⟨?_, rfl⟩ | skip
  exact ⟨rfl, rfl, by
   intro p hp
   simp only [List.mem_cons, List.not_mem_nil, or_false] at hp
   rcases hp with rfl | rfl | rfl | rfl | rfl | rfl | rfl | rfl <;> first | rfl | exact congrArg I (by omega) | exact congrArg Value.bool (by simp)⟩

theorem c7_wp  (hA : Fl 131 [(0, .slice (some ⟨b, o, none⟩) n cap), (1, .slice (some ⟨M, 0, none⟩) n n), (2, I ai), (3, I bi), (9, I nn), (10, I ff), (11, .bool st), (12, I (i : Int))] a) : c7.wp Try.prog (fun e a' w' => e = .normal ∧ Fl 131 [(0, .slice (some ⟨b, o, none⟩) n cap), (1, .slice (some ⟨M, 0, none⟩) n n), (2, I ai), (3, I bi), (9, I nn), (10, I ff), (11, .bool st), (12, I (i : Int)), (23, .bool (decide ((i : Int) < (n : Int))))] a' ∧ w'.heap = v.heap ∧ w'.os = v.os ∧ w'.output = v.output) a v := by
  obtain ⟨hsz, hd, hp⟩ := hA
  obtain ⟨u, rfl, hg⟩ := litN hsz hd
  simp only [List.forall_mem_cons, hg] at hp
  obtain ⟨u0, u1, u2, u3, u9, u10, u11, u12, -⟩ := hp
  clear hg hsz hd
  unfold c7 CLo CL LB47 Try.f49 seq2 seq1 blockC loopC
  simp only [Option.getD_some, lits, Nat.reduceAdd, u0, u1, u2, u3, u9, u10, u11, u12]
  clear u0 u1 u2 u3 u9 u10 u11 u12
  go_wp2_with fail
  first | refine ⟨?_, rfl, rfl, rfl⟩ | refine ⟨?_, rfl, rfl⟩ | refine ⟨?_, rfl⟩ | skip
  exact ⟨rfl, rfl, by
   intro p hp
   simp only [List.mem_cons, List.not_mem_nil, or_false] at hp
   rcases hp with rfl | rfl | rfl | rfl | rfl | rfl | rfl | rfl | rfl <;> first | rfl | exact congrArg I (by omega) | exact congrArg Value.bool (by simp)⟩

theorem c8_wp (h9 : wrap64 ((i : Int) + 1) = ((i + 1 : Nat) : Int)) (hA : Fl 131 [(0, .slice (some ⟨b, o, none⟩) n cap), (1, .slice (some ⟨M, 0, none⟩) n n), (2, I ai), (3, I bi), (9, I nn), (10, I ff), (11, .bool st), (12, I (i : Int))] a) : c8.wp Try.prog (fun e a' w' => e = .normal ∧ Fl 131 [(0, .slice (some ⟨b, o, none⟩) n cap), (1, .slice (some ⟨M, 0, none⟩) n n), (2, I ai), (3, I bi), (9, I nn), (10, I ff), (11, .bool st), (12, I ((i + 1 : Nat) : Int))] a' ∧ w'.heap = v.heap ∧ w'.os = v.os ∧ w'.output = v.output) a v := by
  obtain ⟨hsz, hd, hp⟩ := hA
  obtain ⟨u, rfl, hg⟩ := litN hsz hd
  simp only [List.forall_mem_cons, hg] at hp
  obtain ⟨u0, u1, u2, u3, u9, u10, u11, u12, -⟩ := hp
  clear hg hsz hd
  unfold c8 CLo CL LB47 Try.f49 seq2 seq1 blockC loopC
  simp only [Option.getD_some, lits, Nat.reduceAdd, u0, u1, u2, u3, u9, u10, u11, u12]
  clear u0 u1 u2 u3 u9 u10 u11 u12
  go_wp2_with fail
  first | refine ⟨?_, rfl, rfl, rfl⟩ | refine ⟨?_, rfl, rfl⟩ | refine ⟨?_, rfl⟩ | skip
  exact ⟨rfl, rfl, by
   intro p hp
   simp only [List.mem_cons, List.not_mem_nil, or_false] at hp
   rcases hp with rfl | rfl | rfl | rfl | rfl | rfl | rfl | rfl <;> first | rfl | exact congrArg I (by omega) | exact congrArg Value.bool (by simp)⟩

theorem c9_wp (hi : i < n) (d1 : v.cell? ⟨M, i, none⟩ = some (.slice pa lt ca)) (d2 : v.cell? ⟨b, o + i, none⟩ = some (.slice pc lt cp)) (hA : Fl 131 [(0, .slice (some ⟨b, o, none⟩) n cap), (1, .slice (some ⟨M, 0, none⟩) n n), (2, I ai), (3, I bi), (9, I nn), (10, I ff), (11, .bool st), (12, I (i : Int))] a) : c9.wp Try.prog (fun e a' w' => e = .normal ∧ Fl 131 [(0, .slice (some ⟨b, o, none⟩) n cap), (1, .slice (some ⟨M, 0, none⟩) n n), (2, I ai), (3, I bi), (9, I nn), (10, I ff), (11, .bool st), (12, I (i : Int)), (36, .bool false)] a' ∧ w'.heap = v.heap ∧ w'.os = v.os ∧ w'.output = v.output) a v := by
  obtain ⟨hsz, hd, hp⟩ := hA
  obtain ⟨u, rfl, hg⟩ := litN hsz hd
  simp only [List.forall_mem_cons, hg] at hp
  obtain ⟨u0, u1, u2, u3, u9, u10, u11, u12, -⟩ := hp
  clear hg hsz hd
  have hi' : (i : Int) < (n : Int) := by omega
  have hi2 : ¬ n ≤ i := by omega
  unfold c9 CI CLo CL LB47 Try.f49 seq2 seq1 blockC loopC
  simp only [Option.getD_some, lits, Nat.reduceAdd, u0, u1, u2, u3, u9, u10, u11, u12]
  clear u0 u1 u2 u3 u9 u10 u11 u12
  go_wp2_with fail
  go_quiet (fail)
  go_wp2_with fail
  first | refine ⟨?_, rfl, rfl, rfl⟩ | refine ⟨?_, rfl, rfl⟩ | refine ⟨?_, rfl⟩ | skip
  exact ⟨rfl, rfl, by
   intro p hp
   simp only [List.mem_cons, List.not_mem_nil, or_false] at hp
   rcases hp with rfl | rfl | rfl | rfl | rfl | rfl | rfl | rfl | rfl <;> first | rfl | exact congrArg I (by omega) | exact congrArg Value.bool (by simp)⟩

theorem c11_wp  (hA : Fl 131 [(0, .slice (some ⟨b, o, none⟩) n cap), (1, .slice (some ⟨M, 0, none⟩) n n), (2, I ai), (3, I bi), (9, I nn), (10, I ff), (11, .bool st), (12, I (i : Int))] a) : c11.wp Try.prog (fun e a' w' => e = .normal ∧ Fl 131 [(0, .slice (some ⟨b, o, none⟩) n cap), (1, .slice (some ⟨M, 0, none⟩) n n), (2, I ai), (3, I bi), (9, I nn), (10, I ff), (11, .bool st), (12, I (i : Int)), (13, I 0)] a' ∧ w'.heap = v.heap ∧ w'.os = v.os ∧ w'.output = v.output) a v := by
  obtain ⟨hsz, hd, hp⟩ := hA
  obtain ⟨u, rfl, hg⟩ := litN hsz hd
  simp only [List.forall_mem_cons, hg] at hp
  obtain ⟨u0, u1, u2, u3, u9, u10, u11, u12, -⟩ := hp
  clear hg hsz hd
  unfold c11 CI CLo CL LB47 Try.f49 seq2 seq1 blockC loopC
  simp only [Option.getD_some, lits, Nat.reduceAdd, u0, u1, u2, u3, u9, u10, u11, u12]
  clear u0 u1 u2 u3 u9 u10 u11 u12
  go_wp2_with fail
  first | refine ⟨?_, rfl, rfl, rfl⟩ | refine ⟨?_, rfl, rfl⟩ | refine ⟨?_, rfl⟩ | skip
  exact ⟨rfl, rfl, by
   intro p hp
   simp only [List.mem_cons, List.not_mem_nil, or_false] at hp
   rcases hp with rfl | rfl | rfl | rfl | rfl | rfl | rfl | rfl | rfl <;> first | rfl | exact congrArg I (by omega) | exact congrArg Value.bool (by simp)⟩

theorem c12_wp (hi : i < n) (d1 : v.cell? ⟨M, i, none⟩ = some (.slice pa lt ca)) (hA : Fl 131 [(0, .slice (some ⟨b, o, none⟩) n cap), (1, .slice (some ⟨M, 0, none⟩) n n), (2, I ai), (3, I bi), (9, I nn), (10, I ff), (11, .bool st), (12, I (i : Int)), (13, I (k : Int))] a) : c12.wp Try.prog (fun e a' w' => e = .normal ∧ Fl 131 [(0, .slice (some ⟨b, o, none⟩) n cap), (1, .slice (some ⟨M, 0, none⟩) n n), (2, I ai), (3, I bi), (9, I nn), (10, I ff), (11, .bool st), (12, I (i : Int)), (13, I (k : Int)), (43, .bool (decide ((k : Int) < (lt : Int))))] a' ∧ w'.heap = v.heap ∧ w'.os = v.os ∧ w'.output = v.output) a v := by
  obtain ⟨hsz, hd, hp⟩ := hA
  obtain ⟨u, rfl, hg⟩ := litN hsz hd
  simp only [List.forall_mem_cons, hg] at hp
  obtain ⟨u0, u1, u2, u3, u9, u10, u11, u12, u13, -⟩ := hp
  clear hg hsz hd
  have hi' : (i : Int) < (n : Int) := by omega
  have hi2 : ¬ n ≤ i := by omega
  unfold c12 CJ CI CLo CL LB47 Try.f49 seq2 seq1 blockC loopC
  simp only [Option.getD_some, lits, Nat.reduceAdd, u0, u1, u2, u3, u9, u10, u11, u12, u13]
  clear u0 u1 u2 u3 u9 u10 u11 u12 u13
  go_wp2_with fail
  first | refine ⟨?_, rfl, rfl, rfl⟩ | refine ⟨?_, rfl, rfl⟩ | refine ⟨?_, rfl⟩ | skip
  exact ⟨rfl, rfl, by
   intro p hp
   simp only [List.mem_cons, List.not_mem_nil, or_false] at hp
   rcases hp with rfl | rfl | rfl | rfl | rfl | rfl | rfl | rfl | rfl | rfl <;> first | rfl | exact congrArg I (by omega) | exact congrArg Value.bool (by simp)⟩

theorem c13_wp (h9 : wrap64 ((k : Int) + 1) = ((k + 1 : Nat) : Int)) (hA : Fl 131 [(0, .slice (some ⟨b, o, none⟩) n cap), (1, .slice (some ⟨M, 0, none⟩) n n), (2, I ai), (3, I bi), (9, I nn), (10, I ff), (11, .bool st), (12, I (i : Int)), (13, I (k : Int))] a) : c13.wp Try.prog (fun e a' w' => e = .normal ∧ Fl 131 [(0, .slice (some ⟨b, o, none⟩) n cap), (1, .slice (some ⟨M, 0, none⟩) n n), (2, I ai), (3, I bi), (9, I nn), (10, I ff), (11, .bool st), (12, I (i : Int)), (13, I ((k + 1 : Nat) : Int))] a' ∧ w'.heap = v.heap ∧ w'.os = v.os ∧ w'.output = v.output) a v := by
  obtain ⟨hsz, hd, hp⟩ := hA
  obtain ⟨u, rfl, hg⟩ := litN hsz hd
  simp only [List.forall_mem_cons, hg] at hp
  obtain ⟨u0, u1, u2, u3, u9, u10, u11, u12, u13, -⟩ := hp
  clear hg hsz hd
  unfold c13 CJ CI CLo CL LB47 Try.f49 seq2 seq1 blockC loopC
  simp only [Option.getD_some, lits, Nat.reduceAdd, u0, u1, u2, u3, u9, u10, u11, u12, u13]
  clear u0 u1 u2 u3 u9 u10 u11 u12 u13
  go_wp2_with fail
  first | refine ⟨?_, rfl, rfl, rfl⟩ | refine ⟨?_, rfl, rfl⟩ | refine ⟨?_, rfl⟩ | skip
  exact ⟨rfl, rfl, by
   intro p hp
   simp only [List.mem_cons, List.not_mem_nil, or_false] at hp
   rcases hp with rfl | rfl | rfl | rfl | rfl | rfl | rfl | rfl | rfl <;> first | rfl | exact congrArg I (by omega) | exact congrArg Value.bool (by simp)⟩

theorem c14_wp (hi : i < n) (hk : k < lt) (d1 : v.cell? ⟨M, i, none⟩ = some (.slice (some ⟨A, 0, none⟩) lt ca)) (a0 : v.cell? ⟨A, k * 2, none⟩ = some (I ec)) (a1 : v.cell? ⟨A, k * 2 + 1, none⟩ = some (I x)) (hA : Fl 131 [(0, .slice (some ⟨b, o, none⟩) n cap), (1, .slice (some ⟨M, 0, none⟩) n n), (2, I ai), (3, I bi), (9, I nn), (10, I ff), (11, .bool st), (12, I (i : Int)), (13, I (k : Int))] a) : c14.wp Try.prog (fun e a' w' => e = .normal ∧ Fl 131 [(0, .slice (some ⟨b, o, none⟩) n cap), (1, .slice (some ⟨M, 0, none⟩) n n), (2, I ai), (3, I bi), (9, I nn), (10, I ff), (11, .bool st), (12, I (i : Int)), (13, I (k : Int)), (14, Pt v.heap.size 0)] a' ∧ w'.heap = v.heap.push (.cells #[I ec, I x] 42) ∧ w'.os = v.os ∧ w'.output = v.output) a v := by
  obtain ⟨hsz, hd, hp⟩ := hA
  obtain ⟨u, rfl, hg⟩ := litN hsz hd
  simp only [List.forall_mem_cons, hg] at hp
  obtain ⟨u0, u1, u2, u3, u9, u10, u11, u12, u13, -⟩ := hp
  clear hg hsz hd
  have hi' : (i : Int) < (n : Int) := by omega
  have hi2 : ¬ n ≤ i := by omega
  have hk' : (k : Int) < (lt : Int) := by omega
  have hk2 : ¬ lt ≤ k := by omega
  unfold c14 CK CJ CI CLo CL LB47 Try.f49 seq2 seq1 blockC loopC
  simp only [Option.getD_some, lits, Nat.reduceAdd, u0, u1, u2, u3, u9, u10, u11, u12, u13]
  clear u0 u1 u2 u3 u9 u10 u11 u12 u13
  go_wp2_with fail
  first | refine ⟨?_, rfl, rfl, rfl⟩ | refine ⟨?_, rfl, rfl⟩ | refine ⟨?_, rfl⟩ | skip
  exact ⟨rfl, rfl, by
   intro p hp
   simp only [List.mem_cons, List.not_mem_nil, or_false] at hp
   rcases hp with rfl | rfl | rfl | rfl | rfl | rfl | rfl | rfl | rfl | rfl <;> first | rfl | exact congrArg I (by omega) | exact congrArg Value.bool (by simp)⟩

theorem c15_wpt (a0 : v.cell? ⟨sb, 0, none⟩ = some (I ec)) (hA : Fl 131 [(0, .slice (some ⟨b, o, none⟩) n cap), (1, .slice (some ⟨M, 0, none⟩) n n), (2, I ai), (3, I bi), (9, I nn), (10, I ff), (11, .bool true), (12, I (i : Int)), (13, I (k : Int)), (14, Pt sb 0)] a) : c15.wp Try.prog (fun e a' w' => e = .normal ∧ Fl 131 [(0, .slice (some ⟨b, o, none⟩) n cap), (1, .slice (some ⟨M, 0, none⟩) n n), (2, I ai), (3, I bi), (9, I nn), (10, I ff), (11, .bool true), (12, I (i : Int)), (13, I (k : Int)), (14, Pt sb 0)] a' ∧ w'.heap = v.heap ∧ w'.os = v.os ∧ w'.output = v.output) a v := by
  obtain ⟨hsz, hd, hp⟩ := hA
  obtain ⟨u, rfl, hg⟩ := litN hsz hd
  simp only [List.forall_mem_cons, hg] at hp
  obtain ⟨u0, u1, u2, u3, u9, u10, u11, u12, u13, u14, -⟩ := hp
  clear hg hsz hd
  unfold c15 CK CJ CI CLo CL LB47 Try.f49 seq2 seq1 blockC loopC
  simp only [Option.getD_some, lits, Nat.reduceAdd, u0, u1, u2, u3, u9, u10, u11, u12, u13, u14]
  clear u0 u1 u2 u3 u9 u10 u11 u12 u13 u14
  go_wp2_with fail
  first | refine ⟨?_, rfl, rfl, rfl⟩ | refine ⟨?_, rfl, rfl⟩ | refine ⟨?_, rfl⟩ | skip
  exact ⟨rfl, rfl, by
   intro p hp
   simp only [List.mem_cons, List.not_mem_nil, or_false] at hp
   rcases hp with rfl | rfl | rfl | rfl | rfl | rfl | rfl | rfl | rfl | rfl <;> first | rfl | exact congrArg I (by omega) | exact congrArg Value.bool (by simp)⟩

theorem c15_wpf (a0 : v.cell? ⟨sb, 0, none⟩ = some (I ec)) (hA : Fl 131 [(0, .slice (some ⟨b, o, none⟩) n cap), (1, .slice (some ⟨M, 0, none⟩) n n), (2, I ai), (3, I bi), (9, I nn), (10, I ff), (11, .bool false), (12, I (i : Int)), (13, I (k : Int)), (14, Pt sb 0)] a) : c15.wp Try.prog (fun e a' w' => e = .normal ∧ Fl 131 [(0, .slice (some ⟨b, o, none⟩) n cap), (1, .slice (some ⟨M, 0, none⟩) n n), (2, I ai), (3, I bi), (9, I nn), (10, I ff), (11, .bool (ec == 4)), (12, I (i : Int)), (13, I (k : Int)), (14, Pt sb 0)] a' ∧ w'.heap = v.heap ∧ w'.os = v.os ∧ w'.output = v.output) a v := by
  obtain ⟨hsz, hd, hp⟩ := hA
  obtain ⟨u, rfl, hg⟩ := litN hsz hd
  simp only [List.forall_mem_cons, hg] at hp
  obtain ⟨u0, u1, u2, u3, u9, u10, u11, u12, u13, u14, -⟩ := hp
  clear hg hsz hd
  unfold c15 CK CJ CI CLo CL LB47 Try.f49 seq2 seq1 blockC loopC
  simp only [Option.getD_some, lits, Nat.reduceAdd, u0, u1, u2, u3, u9, u10, u11, u12, u13, u14]
  clear u0 u1 u2 u3 u9 u10 u11 u12 u13 u14
  go_wp2_with fail
  first | refine ⟨?_, rfl, rfl, rfl⟩ | refine ⟨?_, rfl, rfl⟩ | refine ⟨?_, rfl⟩ | skip
  exact ⟨rfl, rfl, by
   intro p hp
   simp only [List.mem_cons, List.not_mem_nil, or_false] at hp
   rcases hp with rfl | rfl | rfl | rfl | rfl | rfl | rfl | rfl | rfl | rfl <;> first | rfl | exact congrArg I (by omega) | exact congrArg Value.bool (by simp)⟩

theorem c16_wpy (hi : i < n) (hk : k < lt) (s0 : v.cell? ⟨b, o + i, none⟩ = some (.slice (some ⟨rb, ro, none⟩) lt cp)) (s1 : v.cell? ⟨rb, ro + k * 4, none⟩ = some (I po)) (a0 : v.cell? ⟨sb, 0, none⟩ = some (I ec)) (hp : po = 1) (hA : Fl 131 [(0, .slice (some ⟨b, o, none⟩) n cap), (1, .slice (some ⟨M, 0, none⟩) n n), (2, I ai), (3, I bi), (9, I nn), (10, I ff), (11, .bool st), (12, I (i : Int)), (13, I (k : Int)), (14, Pt sb 0)] a) : c16.wp Try.prog (fun e a' w' => e = .normal ∧ Fl 131 [(0, .slice (some ⟨b, o, none⟩) n cap), (1, .slice (some ⟨M, 0, none⟩) n n), (2, I ai), (3, I bi), (9, I nn), (10, I ff), (11, .bool st), (12, I (i : Int)), (13, I (k : Int)), (14, Pt sb 0), (59, .bool (ec == 0))] a' ∧ w'.heap = v.heap ∧ w'.os = v.os ∧ w'.output = v.output) a v := by
  obtain ⟨hsz, hd, hp⟩ := hA
  obtain ⟨u, rfl, hg⟩ := litN hsz hd
  simp only [List.forall_mem_cons, hg] at hp
  obtain ⟨u0, u1, u2, u3, u9, u10, u11, u12, u13, u14, -⟩ := hp
  clear hg hsz hd
  have hi' : (i : Int) < (n : Int) := by omega
  have hi2 : ¬ n ≤ i := by omega
  have hk' : (k : Int) < (lt : Int) := by omega
  have hk2 : ¬ lt ≤ k := by omega
  subst hp
  unfold c16 CS CK CJ CI CLo CL LB47 Try.f49 seq2 seq1 blockC loopC
  simp only [Option.getD_some, lits, Nat.reduceAdd, u0, u1, u2, u3, u9, u10, u11, u12, u13, u14]
  clear u0 u1 u2 u3 u9 u10 u11 u12 u13 u14
  go_wp2_with fail
  first | refine ⟨?_, rfl, rfl, rfl⟩ | refine ⟨?_, rfl, rfl⟩ | refine ⟨?_, rfl⟩ | skip
  exact ⟨rfl, rfl, by
   intro p hp
   simp only [List.mem_cons, List.not_mem_nil, or_false] at hp
   rcases hp with rfl | rfl | rfl | rfl | rfl | rfl | rfl | rfl | rfl | rfl | rfl <;> first | rfl | exact congrArg I (by omega) | exact congrArg Value.bool (by simp)⟩

theorem c16_wpn (hi : i < n) (hk : k < lt) (s0 : v.cell? ⟨b, o + i, none⟩ = some (.slice (some ⟨rb, ro, none⟩) lt cp)) (s1 : v.cell? ⟨rb, ro + k * 4, none⟩ = some (I po)) (a0 : v.cell? ⟨sb, 0, none⟩ = some (I ec)) (hp : po ≠ 1) (hA : Fl 131 [(0, .slice (some ⟨b, o, none⟩) n cap), (1, .slice (some ⟨M, 0, none⟩) n n), (2, I ai), (3, I bi), (9, I nn), (10, I ff), (11, .bool st), (12, I (i : Int)), (13, I (k : Int)), (14, Pt sb 0)] a) : c16.wp Try.prog (fun e a' w' => e = .normal ∧ Fl 131 [(0, .slice (some ⟨b, o, none⟩) n cap), (1, .slice (some ⟨M, 0, none⟩) n n), (2, I ai), (3, I bi), (9, I nn), (10, I ff), (11, .bool st), (12, I (i : Int)), (13, I (k : Int)), (14, Pt sb 0), (59, .bool false)] a' ∧ w'.heap = v.heap ∧ w'.os = v.os ∧ w'.output = v.output) a v := by
  obtain ⟨hsz, hd, hp⟩ := hA
  obtain ⟨u, rfl, hg⟩ := litN hsz hd
  simp only [List.forall_mem_cons, hg] at hp
  obtain ⟨u0, u1, u2, u3, u9, u10, u11, u12, u13, u14, -⟩ := hp
  clear hg hsz hd
  have hi' : (i : Int) < (n : Int) := by omega
  have hi2 : ¬ n ≤ i := by omega
  have hk' : (k : Int) < (lt : Int) := by omega
  have hk2 : ¬ lt ≤ k := by omega
  have f1 : (po == 1) = false := by simp [hp]
  unfold c16 CS CK CJ CI CLo CL LB47 Try.f49 seq2 seq1 blockC loopC
  simp only [Option.getD_some, lits, Nat.reduceAdd, u0, u1, u2, u3, u9, u10, u11, u12, u13, u14]
  clear u0 u1 u2 u3 u9 u10 u11 u12 u13 u14
  go_wp2_with fail
  first | refine ⟨?_, rfl, rfl, rfl⟩ | refine ⟨?_, rfl, rfl⟩ | refine ⟨?_, rfl⟩ | skip
  exact ⟨rfl, rfl, by
   intro p hp
   simp only [List.mem_cons, List.not_mem_nil, or_false] at hp
   rcases hp with rfl | rfl | rfl | rfl | rfl | rfl | rfl | rfl | rfl | rfl | rfl <;> first | rfl | exact congrArg I (by omega) | exact congrArg Value.bool (by simp)⟩

theorem c17_wp (h9 : wrap64 (nn + 1) = nn + 1) (hA : Fl 131 [(0, .slice (some ⟨b, o, none⟩) n cap), (1, .slice (some ⟨M, 0, none⟩) n n), (2, I ai), (3, I bi), (9, I nn), (10, I ff), (11, .bool st), (12, I (i : Int)), (13, I (k : Int)), (14, Pt sb 0)] a) : c17.wp Try.prog (fun e a' w' => e = .normal ∧ Fl 131 [(0, .slice (some ⟨b, o, none⟩) n cap), (1, .slice (some ⟨M, 0, none⟩) n n), (2, I ai), (3, I bi), (9, I (nn + 1)), (10, I ff), (11, .bool st), (12, I (i : Int)), (13, I (k : Int)), (14, Pt sb 0)] a' ∧ w'.heap = v.heap ∧ w'.os = v.os ∧ w'.output = v.output) a v := by
  obtain ⟨hsz, hd, hp⟩ := hA
  obtain ⟨u, rfl, hg⟩ := litN hsz hd
  simp only [List.forall_mem_cons, hg] at hp
  obtain ⟨u0, u1, u2, u3, u9, u10, u11, u12, u13, u14, -⟩ := hp
  clear hg hsz hd
  unfold c17 CS CK CJ CI CLo CL LB47 Try.f49 seq2 seq1 blockC loopC condA
  simp only [Option.getD_some, lits, Nat.reduceAdd, u0, u1, u2, u3, u9, u10, u11, u12, u13, u14]
  clear u0 u1 u2 u3 u9 u10 u11 u12 u13 u14
  go_wp2_with fail
  first | refine ⟨?_, rfl, rfl, rfl⟩ | refine ⟨?_, rfl, rfl⟩ | refine ⟨?_, rfl⟩ | skip
  exact ⟨rfl, rfl, by
   intro p hp
   simp only [List.mem_cons, List.not_mem_nil, or_false] at hp
   rcases hp with rfl | rfl | rfl | rfl | rfl | rfl | rfl | rfl | rfl | rfl <;> first | rfl | exact congrArg I (by omega) | exact congrArg Value.bool (by simp)⟩

theorem c18_wpy (hi : i < n) (hk : k < lt) (s0 : v.cell? ⟨b, o + i, none⟩ = some (.slice (some ⟨rb, ro, none⟩) lt cp)) (s1 : v.cell? ⟨rb, ro + k * 4, none⟩ = some (I po)) (a0 : v.cell? ⟨sb, 0, none⟩ = some (I ec)) (hp : po = 2) (hA : Fl 131 [(0, .slice (some ⟨b, o, none⟩) n cap), (1, .slice (some ⟨M, 0, none⟩) n n), (2, I ai), (3, I bi), (9, I nn), (10, I ff), (11, .bool st), (12, I (i : Int)), (13, I (k : Int)), (14, Pt sb 0)] a) : c18.wp Try.prog (fun e a' w' => e = .normal ∧ Fl 131 [(0, .slice (some ⟨b, o, none⟩) n cap), (1, .slice (some ⟨M, 0, none⟩) n n), (2, I ai), (3, I bi), (9, I nn), (10, I ff), (11, .bool st), (12, I (i : Int)), (13, I (k : Int)), (14, Pt sb 0), (76, .bool (ec == 0))] a' ∧ w'.heap = v.heap ∧ w'.os = v.os ∧ w'.output = v.output) a v := by
  obtain ⟨hsz, hd, hp⟩ := hA
  obtain ⟨u, rfl, hg⟩ := litN hsz hd
  simp only [List.forall_mem_cons, hg] at hp
  obtain ⟨u0, u1, u2, u3, u9, u10, u11, u12, u13, u14, -⟩ := hp
  clear hg hsz hd
  have hi' : (i : Int) < (n : Int) := by omega
  have hi2 : ¬ n ≤ i := by omega
  have hk' : (k : Int) < (lt : Int) := by omega
  have hk2 : ¬ lt ≤ k := by omega
  subst hp
  unfold c18 CT8 CS CK CJ CI CLo CL LB47 Try.f49 seq2 seq1 blockC loopC condB
  simp only [Option.getD_some, lits, Nat.reduceAdd, u0, u1, u2, u3, u9, u10, u11, u12, u13, u14]
  clear u0 u1 u2 u3 u9 u10 u11 u12 u13 u14
  go_wp2_with fail
  first | refine ⟨?_, rfl, rfl, rfl⟩ | refine ⟨?_, rfl, rfl⟩ | refine ⟨?_, rfl⟩ | skip
  exact ⟨rfl, rfl, by
   intro p hp
   simp only [List.mem_cons, List.not_mem_nil, or_false] at hp
   rcases hp with rfl | rfl | rfl | rfl | rfl | rfl | rfl | rfl | rfl | rfl | rfl <;> first | rfl | exact congrArg I (by omega) | exact congrArg Value.bool (by simp)⟩

theorem c18_wpn (hi : i < n) (hk : k < lt) (s0 : v.cell? ⟨b, o + i, none⟩ = some (.slice (some ⟨rb, ro, none⟩) lt cp)) (s1 : v.cell? ⟨rb, ro + k * 4, none⟩ = some (I po)) (a0 : v.cell? ⟨sb, 0, none⟩ = some (I ec)) (hp : po ≠ 2) (hA : Fl 131 [(0, .slice (some ⟨b, o, none⟩) n cap), (1, .slice (some ⟨M, 0, none⟩) n n), (2, I ai), (3, I bi), (9, I nn), (10, I ff), (11, .bool st), (12, I (i : Int)), (13, I (k : Int)), (14, Pt sb 0)] a) : c18.wp Try.prog (fun e a' w' => e = .normal ∧ Fl 131 [(0, .slice (some ⟨b, o, none⟩) n cap), (1, .slice (some ⟨M, 0, none⟩) n n), (2, I ai), (3, I bi), (9, I nn), (10, I ff), (11, .bool st), (12, I (i : Int)), (13, I (k : Int)), (14, Pt sb 0), (76, .bool false)] a' ∧ w'.heap = v.heap ∧ w'.os = v.os ∧ w'.output = v.output) a v := by
  obtain ⟨hsz, hd, hp⟩ := hA
  obtain ⟨u, rfl, hg⟩ := litN hsz hd
  simp only [List.forall_mem_cons, hg] at hp
  obtain ⟨u0, u1, u2, u3, u9, u10, u11, u12, u13, u14, -⟩ := hp
  clear hg hsz hd
  have hi' : (i : Int) < (n : Int) := by omega
  have hi2 : ¬ n ≤ i := by omega
  have hk' : (k : Int) < (lt : Int) := by omega
  have hk2 : ¬ lt ≤ k := by omega
  have f1 : (po == 2) = false := by simp [hp]
  unfold c18 CT8 CS CK CJ CI CLo CL LB47 Try.f49 seq2 seq1 blockC loopC condB
  simp only [Option.getD_some, lits, Nat.reduceAdd, u0, u1, u2, u3, u9, u10, u11, u12, u13, u14]
  clear u0 u1 u2 u3 u9 u10 u11 u12 u13 u14
  go_wp2_with fail
  first | refine ⟨?_, rfl, rfl, rfl⟩ | refine ⟨?_, rfl, rfl⟩ | refine ⟨?_, rfl⟩ | skip
  exact ⟨rfl, rfl, by
   intro p hp
   simp only [List.mem_cons, List.not_mem_nil, or_false] at hp
   rcases hp with rfl | rfl | rfl | rfl | rfl | rfl | rfl | rfl | rfl | rfl | rfl <;> first | rfl | exact congrArg I (by omega) | exact congrArg Value.bool (by simp)⟩

theorem c19_wp (h9 : wrap64 (nn - 1) = nn - 1) (hA : Fl 131 [(0, .slice (some ⟨b, o, none⟩) n cap), (1, .slice (some ⟨M, 0, none⟩) n n), (2, I ai), (3, I bi), (9, I nn), (10, I ff), (11, .bool st), (12, I (i : Int)), (13, I (k : Int)), (14, Pt sb 0)] a) : c19.wp Try.prog (fun e a' w' => e = .normal ∧ Fl 131 [(0, .slice (some ⟨b, o, none⟩) n cap), (1, .slice (some ⟨M, 0, none⟩) n n), (2, I ai), (3, I bi), (9, I (nn - 1)), (10, I ff), (11, .bool st), (12, I (i : Int)), (13, I (k : Int)), (14, Pt sb 0)] a' ∧ w'.heap = v.heap ∧ w'.os = v.os ∧ w'.output = v.output) a v := by
  obtain ⟨hsz, hd, hp⟩ := hA
  obtain ⟨u, rfl, hg⟩ := litN hsz hd
  simp only [List.forall_mem_cons, hg] at hp
  obtain ⟨u0, u1, u2, u3, u9, u10, u11, u12, u13, u14, -⟩ := hp
  clear hg hsz hd
  unfold c19 CT8 CS CK CJ CI CLo CL LB47 Try.f49 seq2 seq1 blockC loopC condB condA
  simp only [Option.getD_some, lits, Nat.reduceAdd, u0, u1, u2, u3, u9, u10, u11, u12, u13, u14]
  clear u0 u1 u2 u3 u9 u10 u11 u12 u13 u14
  go_wp2_with fail
  first | refine ⟨?_, rfl, rfl, rfl⟩ | refine ⟨?_, rfl, rfl⟩ | refine ⟨?_, rfl⟩ | skip
  exact ⟨rfl, rfl, by
   intro p hp
   simp only [List.mem_cons, List.not_mem_nil, or_false] at hp
   rcases hp with rfl | rfl | rfl | rfl | rfl | rfl | rfl | rfl | rfl | rfl <;> first | rfl | exact congrArg I (by omega) | exact congrArg Value.bool (by simp)⟩

theorem c20_wpy (hi : i < n) (hk : k < lt) (s0 : v.cell? ⟨b, o + i, none⟩ = some (.slice (some ⟨rb, ro, none⟩) lt cp)) (s1 : v.cell? ⟨rb, ro + k * 4, none⟩ = some (I po)) (a0 : v.cell? ⟨sb, 0, none⟩ = some (I ec)) (a1 : v.cell? ⟨sb, 1, none⟩ = some (I x)) (hp : po = 3) (he : ec = 0) (hA : Fl 131 [(0, .slice (some ⟨b, o, none⟩) n cap), (1, .slice (some ⟨M, 0, none⟩) n n), (2, I ai), (3, I bi), (9, I nn), (10, I ff), (11, .bool st), (12, I (i : Int)), (13, I (k : Int)), (14, Pt sb 0)] a) : c20.wp Try.prog (fun e a' w' => e = .normal ∧ Fl 131 [(0, .slice (some ⟨b, o, none⟩) n cap), (1, .slice (some ⟨M, 0, none⟩) n n), (2, I ai), (3, I bi), (9, I nn), (10, I ff), (11, .bool st), (12, I (i : Int)), (13, I (k : Int)), (14, Pt sb 0), (93, .bool (x == 1))] a' ∧ w'.heap = v.heap ∧ w'.os = v.os ∧ w'.output = v.output) a v := by
  obtain ⟨hsz, hd, hp⟩ := hA
  obtain ⟨u, rfl, hg⟩ := litN hsz hd
  simp only [List.forall_mem_cons, hg] at hp
  obtain ⟨u0, u1, u2, u3, u9, u10, u11, u12, u13, u14, -⟩ := hp
  clear hg hsz hd
  have hi' : (i : Int) < (n : Int) := by omega
  have hi2 : ¬ n ≤ i := by omega
  have hk' : (k : Int) < (lt : Int) := by omega
  have hk2 : ¬ lt ≤ k := by omega
  subst hp he
  unfold c20 CT9 CT8 CS CK CJ CI CLo CL LB47 Try.f49 seq2 seq1 blockC loopC condB
  simp only [Option.getD_some, lits, Nat.reduceAdd, u0, u1, u2, u3, u9, u10, u11, u12, u13, u14]
  clear u0 u1 u2 u3 u9 u10 u11 u12 u13 u14
  go_wp2_with fail
  first | refine ⟨?_, rfl, rfl, rfl⟩ | refine ⟨?_, rfl, rfl⟩ | refine ⟨?_, rfl⟩ | skip
  exact ⟨rfl, rfl, by
   intro p hp
   simp only [List.mem_cons, List.not_mem_nil, or_false] at hp
   rcases hp with rfl | rfl | rfl | rfl | rfl | rfl | rfl | rfl | rfl | rfl | rfl <;> first | rfl | exact congrArg I (by omega) | exact congrArg Value.bool (by simp)⟩

theorem c20_wpm (hi : i < n) (hk : k < lt) (s0 : v.cell? ⟨b, o + i, none⟩ = some (.slice (some ⟨rb, ro, none⟩) lt cp)) (s1 : v.cell? ⟨rb, ro + k * 4, none⟩ = some (I po)) (a0 : v.cell? ⟨sb, 0, none⟩ = some (I ec)) (a1 : v.cell? ⟨sb, 1, none⟩ = some (I x)) (hp : po = 3) (he : ec ≠ 0) (hA : Fl 131 [(0, .slice (some ⟨b, o, none⟩) n cap), (1, .slice (some ⟨M, 0, none⟩) n n), (2, I ai), (3, I bi), (9, I nn), (10, I ff), (11, .bool st), (12, I (i : Int)), (13, I (k : Int)), (14, Pt sb 0)] a) : c20.wp Try.prog (fun e a' w' => e = .normal ∧ Fl 131 [(0, .slice (some ⟨b, o, none⟩) n cap), (1, .slice (some ⟨M, 0, none⟩) n n), (2, I ai), (3, I bi), (9, I nn), (10, I ff), (11, .bool st), (12, I (i : Int)), (13, I (k : Int)), (14, Pt sb 0), (93, .bool false)] a' ∧ w'.heap = v.heap ∧ w'.os = v.os ∧ w'.output = v.output) a v := by
  obtain ⟨hsz, hd, hp⟩ := hA
  obtain ⟨u, rfl, hg⟩ := litN hsz hd
  simp only [List.forall_mem_cons, hg] at hp
  obtain ⟨u0, u1, u2, u3, u9, u10, u11, u12, u13, u14, -⟩ := hp
  clear hg hsz hd
  have hi' : (i : Int) < (n : Int) := by omega
  have hi2 : ¬ n ≤ i := by omega
  have hk' : (k : Int) < (lt : Int) := by omega
  have hk2 : ¬ lt ≤ k := by omega
  subst hp
  have f2 : (ec == 0) = false := by simp [he]
  unfold c20 CT9 CT8 CS CK CJ CI CLo CL LB47 Try.f49 seq2 seq1 blockC loopC condB
  simp only [Option.getD_some, lits, Nat.reduceAdd, u0, u1, u2, u3, u9, u10, u11, u12, u13, u14]
  clear u0 u1 u2 u3 u9 u10 u11 u12 u13 u14
  go_wp2_with fail
  first | refine ⟨?_, rfl, rfl, rfl⟩ | refine ⟨?_, rfl, rfl⟩ | refine ⟨?_, rfl⟩ | skip
  exact ⟨rfl, rfl, by
   intro p hp
   simp only [List.mem_cons, List.not_mem_nil, or_false] at hp
   rcases hp with rfl | rfl | rfl | rfl | rfl | rfl | rfl | rfl | rfl | rfl | rfl <;> first | rfl | exact congrArg I (by omega) | exact congrArg Value.bool (by simp)⟩

theorem c20_wpn (hi : i < n) (hk : k < lt) (s0 : v.cell? ⟨b, o + i, none⟩ = some (.slice (some ⟨rb, ro, none⟩) lt cp)) (s1 : v.cell? ⟨rb, ro + k * 4, none⟩ = some (I po)) (a0 : v.cell? ⟨sb, 0, none⟩ = some (I ec)) (a1 : v.cell? ⟨sb, 1, none⟩ = some (I x)) (hp : po ≠ 3) (hA : Fl 131 [(0, .slice (some ⟨b, o, none⟩) n cap), (1, .slice (some ⟨M, 0, none⟩) n n), (2, I ai), (3, I bi), (9, I nn), (10, I ff), (11, .bool st), (12, I (i : Int)), (13, I (k : Int)), (14, Pt sb 0)] a) : c20.wp Try.prog (fun e a' w' => e = .normal ∧ Fl 131 [(0, .slice (some ⟨b, o, none⟩) n cap), (1, .slice (some ⟨M, 0, none⟩) n n), (2, I ai), (3, I bi), (9, I nn), (10, I ff), (11, .bool st), (12, I (i : Int)), (13, I (k : Int)), (14, Pt sb 0), (93, .bool false)] a' ∧ w'.heap = v.heap ∧ w'.os = v.os ∧ w'.output = v.output) a v := by
  obtain ⟨hsz, hd, hp⟩ := hA
  obtain ⟨u, rfl, hg⟩ := litN hsz hd
  simp only [List.forall_mem_cons, hg] at hp
  obtain ⟨u0, u1, u2, u3, u9, u10, u11, u12, u13, u14, -⟩ := hp
  clear hg hsz hd
  have hi' : (i : Int) < (n : Int) := by omega
  have hi2 : ¬ n ≤ i := by omega
  have hk' : (k : Int) < (lt : Int) := by omega
  have hk2 : ¬ lt ≤ k := by omega
  have f1 : (po == 3) = false := by simp [hp]
  unfold c20 CT9 CT8 CS CK CJ CI CLo CL LB47 Try.f49 seq2 seq1 blockC loopC condB
  simp only [Option.getD_some, lits, Nat.reduceAdd, u0, u1, u2, u3, u9, u10, u11, u12, u13, u14]
  clear u0 u1 u2 u3 u9 u10 u11 u12 u13 u14
  go_wp2_with fail
  first | refine ⟨?_, rfl, rfl, rfl⟩ | refine ⟨?_, rfl, rfl⟩ | refine ⟨?_, rfl⟩ | skip
  exact ⟨rfl, rfl, by
   intro p hp
   simp only [List.mem_cons, List.not_mem_nil, or_false] at hp
   rcases hp with rfl | rfl | rfl | rfl | rfl | rfl | rfl | rfl | rfl | rfl | rfl <;> first | rfl | exact congrArg I (by omega) | exact congrArg Value.bool (by simp)⟩

theorem c21_wp (h9 : wrap64 (ff + 1) = ff + 1) (hA : Fl 131 [(0, .slice (some ⟨b, o, none⟩) n cap), (1, .slice (some ⟨M, 0, none⟩) n n), (2, I ai), (3, I bi), (9, I nn), (10, I ff), (11, .bool st), (12, I (i : Int)), (13, I (k : Int)), (14, Pt sb 0)] a) : c21.wp Try.prog (fun e a' w' => e = .normal ∧ Fl 131 [(0, .slice (some ⟨b, o, none⟩) n cap), (1, .slice (some ⟨M, 0, none⟩) n n), (2, I ai), (3, I bi), (9, I nn), (10, I (ff + 1)), (11, .bool st), (12, I (i : Int)), (13, I (k : Int)), (14, Pt sb 0)] a' ∧ w'.heap = v.heap ∧ w'.os = v.os ∧ w'.output = v.output) a v := by
  obtain ⟨hsz, hd, hp⟩ := hA
  obtain ⟨u, rfl, hg⟩ := litN hsz hd
  simp only [List.forall_mem_cons, hg] at hp
  obtain ⟨u0, u1, u2, u3, u9, u10, u11, u12, u13, u14, -⟩ := hp
  clear hg hsz hd
  unfold c21 CT9 CT8 CS CK CJ CI CLo CL LB47 Try.f49 seq2 seq1 blockC loopC condB condA
  simp only [Option.getD_some, lits, Nat.reduceAdd, u0, u1, u2, u3, u9, u10, u11, u12, u13, u14]
  clear u0 u1 u2 u3 u9 u10 u11 u12 u13 u14
  go_wp2_with fail
  first | refine ⟨?_, rfl, rfl, rfl⟩ | refine ⟨?_, rfl, rfl⟩ | refine ⟨?_, rfl⟩ | skip
  exact ⟨rfl, rfl, by
   intro p hp
   simp only [List.mem_cons, List.not_mem_nil, or_false] at hp
   rcases hp with rfl | rfl | rfl | rfl | rfl | rfl | rfl | rfl | rfl | rfl <;> first | rfl | exact congrArg I (by omega) | exact congrArg Value.bool (by simp)⟩

theorem c22_wpy (h1 : nn = ai) (h2 : ff = bi) (hA : Fl 131 [(0, .slice (some ⟨b, o, none⟩) n cap), (1, .slice (some ⟨M, 0, none⟩) n n), (2, I ai), (3, I bi), (9, I nn), (10, I ff), (11, .bool st)] a) : c22.wp Try.prog (fun e a' w' => e = .ret ∧ Fl 131 [(8, .bool true)] a' ∧ w'.heap = v.heap ∧ w'.os = v.os ∧ w'.output = v.output) a v := by
  obtain ⟨hsz, hd, hp⟩ := hA
  obtain ⟨u, rfl, hg⟩ := litN hsz hd
  simp only [List.forall_mem_cons, hg] at hp
  obtain ⟨u0, u1, u2, u3, u9, u10, u11, -⟩ := hp
  clear hg hsz hd
  subst h1 h2
  have q1 : ff ≤ ff := Int.le_refl _
  unfold c22 LB47 Try.f49 seq2
  simp only [Option.getD_some, lits, Nat.reduceAdd, u0, u1, u2, u3, u9, u10, u11]
  clear u0 u1 u2 u3 u9 u10 u11
  go_wp2_with fail
  first | refine ⟨?_, rfl, rfl, rfl⟩ | refine ⟨?_, rfl, rfl⟩ | refine ⟨?_, rfl⟩ | skip
  exact ⟨rfl, rfl, by
   intro p hp
   simp only [List.mem_cons, List.not_mem_nil, or_false] at hp
   rcases hp with rfl <;> first | rfl | exact congrArg I (by omega) | exact congrArg Value.bool (by simp)⟩

theorem c22_wpn (h1 : nn = ai) (h2 : ff < bi) (hA : Fl 131 [(0, .slice (some ⟨b, o, none⟩) n cap), (1, .slice (some ⟨M, 0, none⟩) n n), (2, I ai), (3, I bi), (9, I nn), (10, I ff), (11, .bool true)] a) : c22.wp Try.prog (fun e a' w' => e = .ret ∧ Fl 131 [(8, .bool true)] a' ∧ w'.heap = v.heap ∧ w'.os = v.os ∧ w'.output = v.output) a v := by
  obtain ⟨hsz, hd, hp⟩ := hA
  obtain ⟨u, rfl, hg⟩ := litN hsz hd
  simp only [List.forall_mem_cons, hg] at hp
  obtain ⟨u0, u1, u2, u3, u9, u10, u11, -⟩ := hp
  clear hg hsz hd
  subst h1
  have q1 : ff ≤ bi := by omega
  have q2 : (ff == bi) = false := by simp; omega
  unfold c22 LB47 Try.f49 seq2
  simp only [Option.getD_some, lits, Nat.reduceAdd, u0, u1, u2, u3, u9, u10, u11]
  clear u0 u1 u2 u3 u9 u10 u11
  go_wp2_with fail
  first | refine ⟨?_, rfl, rfl, rfl⟩ | refine ⟨?_, rfl, rfl⟩ | refine ⟨?_, rfl⟩ | skip
  exact ⟨rfl, rfl, by
   intro p hp
   simp only [List.mem_cons, List.not_mem_nil, or_false] at hp
   rcases hp with rfl <;> first | rfl | exact congrArg I (by omega) | exact congrArg Value.bool (by simp)⟩

end
end Go.Proofs.Ytfjjoohflcchnaa.Gen
