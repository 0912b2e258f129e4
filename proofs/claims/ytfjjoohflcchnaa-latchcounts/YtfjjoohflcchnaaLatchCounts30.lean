/- LatchCounts: whatever the schedule, the number and the scripts, what the calls are told and what the trace says of the number is as the law asks. Part 30 of 35. (Joined, by program, of: La10d.) -/
import Derived.Test.YtfjjoohflcchnaaLatchCounts22
import Derived.Test.YtfjjoohflcchnaaLatchCounts29
import Derived.BigRegion
import Derived.Deep.RegionLaw
set_option linter.unusedSimpArgs false
set_option linter.unusedVariables false
namespace Go.Proofs.Ytfjjoohflcchnaa.Gen
open Go Go.Lift Go.Conc Go.RowKit

set_option maxHeartbeats 4000000 in
set_option maxRecDepth 100000 in
theorem e4_wp {v : World} {a : Act} {n0 : Int} {wb : Nat} {sc an : Value}  (hA : Fl 223 [(1, I n0), (2, sc), (8, Pt wb 0), (9, an), (7, .bool true), (10, I 0)] a) : e4.wp Try.prog (fun e a' w' => e = .normal ∧ Fl 223 [(1, I n0), (2, sc), (8, Pt wb 0), (9, an)] a' ∧ w'.heap = v.heap ∧ w'.os = v.os ∧ w'.output = v.output) a v := by
  obtain ⟨hsz, hd, hp⟩ := hA
  obtain ⟨u, rfl, hg⟩ := litN hsz hd
  have u1 := (hg 1).symm.trans (hp (1, I n0) (by simp))
  have u2 := (hg 2).symm.trans (hp (2, sc) (by simp))
  have u8 := (hg 8).symm.trans (hp (8, Pt wb 0) (by simp))
  have u9 := (hg 9).symm.trans (hp (9, an) (by simp))
  have u7 := (hg 7).symm.trans (hp (7, .bool true) (by simp))
  have u10 := (hg 10).symm.trans (hp (10, I 0) (by simp))
  clear hg hp hsz hd
  unfold e4 LB10 Try.f10 seq2 seq1
  simp only [Option.getD_some, lits, Nat.reduceAdd, u1, u2, u8, u9, u7, u10]
  clear u1 u2 u8 u9 u7 u10
  go_wp2_with fail
  first | refine ⟨?_, rfl, rfl, rfl⟩ | refine ⟨?_, rfl, rfl⟩ | refine ⟨?_, rfl⟩ | skip
  exact ⟨rfl, rfl, by
   intro p hp
   simp only [List.mem_cons, List.not_mem_nil, or_false] at hp
   rcases hp with rfl | rfl | rfl | rfl <;> first | rfl | exact congrArg I (by omega) | exact congrArg Value.bool (by simp)⟩

set_option maxHeartbeats 4000000 in
set_option maxRecDepth 100000 in
theorem e6_wp {v : World} {a : Act} {n0 : Int} {wb : Nat} {sc an : Value} {n c1 c2 : Nat} {p1 p2 : Option Addr} (ha : an = .slice p1 n c1) (hs : sc = .slice p2 n c2) (hA : Fl 223 [(1, I n0), (2, sc), (8, Pt wb 0), (9, an)] a) : e6.wp Try.prog (fun e a' w' => e = .normal ∧ Fl 223 [(1, I n0), (2, sc), (8, Pt wb 0), (9, an)] a' ∧ w'.heap = v.heap ∧ w'.os = v.os ∧ w'.output = v.output) a v := by
  obtain ⟨hsz, hd, hp⟩ := hA
  obtain ⟨u, rfl, hg⟩ := litN hsz hd
  have u1 := (hg 1).symm.trans (hp (1, I n0) (by simp))
  have u2 := (hg 2).symm.trans (hp (2, sc) (by simp))
  have u8 := (hg 8).symm.trans (hp (8, Pt wb 0) (by simp))
  have u9 := (hg 9).symm.trans (hp (9, an) (by simp))
  clear hg hp hsz hd
  subst ha hs
  unfold e6 LB10 Try.f10 seq2 seq1
  simp only [Option.getD_some, lits, Nat.reduceAdd, u1, u2, u8, u9]
  clear u1 u2 u8 u9
  go_wp2_with fail
  first | refine ⟨?_, rfl, rfl, rfl⟩ | refine ⟨?_, rfl, rfl⟩ | refine ⟨?_, rfl⟩ | skip
  exact ⟨rfl, rfl, by
   intro p hp
   simp only [List.mem_cons, List.not_mem_nil, or_false] at hp
   rcases hp with rfl | rfl | rfl | rfl <;> first | rfl | exact congrArg I (by omega) | exact congrArg Value.bool (by simp)⟩

set_option maxHeartbeats 4000000 in
set_option maxRecDepth 100000 in
theorem e8_wp {v : World} {a : Act} {n0 : Int} {wb : Nat} {sc an : Value}  (hA : Fl 223 [(1, I n0), (2, sc), (8, Pt wb 0), (9, an)] a) : e8.wp Try.prog (fun e a' w' => e = .normal ∧ Fl 223 [(1, I n0), (2, sc), (8, Pt wb 0), (9, an), (11, I 0)] a' ∧ w'.heap = v.heap ∧ w'.os = v.os ∧ w'.output = v.output) a v := by
  obtain ⟨hsz, hd, hp⟩ := hA
  obtain ⟨u, rfl, hg⟩ := litN hsz hd
  have u1 := (hg 1).symm.trans (hp (1, I n0) (by simp))
  have u2 := (hg 2).symm.trans (hp (2, sc) (by simp))
  have u8 := (hg 8).symm.trans (hp (8, Pt wb 0) (by simp))
  have u9 := (hg 9).symm.trans (hp (9, an) (by simp))
  clear hg hp hsz hd
  unfold e8 LB10 Try.f10 seq2 seq1
  simp only [Option.getD_some, lits, Nat.reduceAdd, u1, u2, u8, u9]
  clear u1 u2 u8 u9
  go_wp2_with fail
  first | refine ⟨?_, rfl, rfl, rfl⟩ | refine ⟨?_, rfl, rfl⟩ | refine ⟨?_, rfl⟩ | skip
  exact ⟨rfl, rfl, by
   intro p hp
   simp only [List.mem_cons, List.not_mem_nil, or_false] at hp
   rcases hp with rfl | rfl | rfl | rfl | rfl <;> first | rfl | exact congrArg I (by omega) | exact congrArg Value.bool (by simp)⟩

set_option maxHeartbeats 4000000 in
set_option maxRecDepth 100000 in
theorem e9_wp {v : World} {a : Act} {n0 : Int} {wb : Nat} {sc an : Value}  (hA : Fl 223 [(1, I n0), (2, sc), (8, Pt wb 0), (9, an), (11, I 0)] a) : e9.wp Try.prog (fun e a' w' => e = .normal ∧ Fl 223 [(1, I n0), (2, sc), (8, Pt wb 0), (9, an), (11, I 0), (12, I 0)] a' ∧ w'.heap = v.heap ∧ w'.os = v.os ∧ w'.output = v.output) a v := by
  obtain ⟨hsz, hd, hp⟩ := hA
  obtain ⟨u, rfl, hg⟩ := litN hsz hd
  have u1 := (hg 1).symm.trans (hp (1, I n0) (by simp))
  have u2 := (hg 2).symm.trans (hp (2, sc) (by simp))
  have u8 := (hg 8).symm.trans (hp (8, Pt wb 0) (by simp))
  have u9 := (hg 9).symm.trans (hp (9, an) (by simp))
  have u11 := (hg 11).symm.trans (hp (11, I 0) (by simp))
  clear hg hp hsz hd
  unfold e9 LB10 Try.f10 seq2 seq1
  simp only [Option.getD_some, lits, Nat.reduceAdd, u1, u2, u8, u9, u11]
  clear u1 u2 u8 u9 u11
  go_wp2_with fail
  first | refine ⟨?_, rfl, rfl, rfl⟩ | refine ⟨?_, rfl, rfl⟩ | refine ⟨?_, rfl⟩ | skip
  exact ⟨rfl, rfl, by
   intro p hp
   simp only [List.mem_cons, List.not_mem_nil, or_false] at hp
   rcases hp with rfl | rfl | rfl | rfl | rfl | rfl <;> first | rfl | exact congrArg I (by omega) | exact congrArg Value.bool (by simp)⟩

set_option maxHeartbeats 4000000 in
set_option maxRecDepth 100000 in
theorem e10_wp {v : World} {a : Act} {n0 : Int} {wb : Nat} {sc an : Value}  (hA : Fl 223 [(1, I n0), (2, sc), (8, Pt wb 0), (9, an), (11, I 0), (12, I 0)] a) : e10.wp Try.prog (fun e a' w' => e = .normal ∧ Fl 223 [(1, I n0), (2, sc), (8, Pt wb 0), (9, an), (11, I 0), (12, I 0), (13, I 0)] a' ∧ w'.heap = v.heap ∧ w'.os = v.os ∧ w'.output = v.output) a v := by
  obtain ⟨hsz, hd, hp⟩ := hA
  obtain ⟨u, rfl, hg⟩ := litN hsz hd
  have u1 := (hg 1).symm.trans (hp (1, I n0) (by simp))
  have u2 := (hg 2).symm.trans (hp (2, sc) (by simp))
  have u8 := (hg 8).symm.trans (hp (8, Pt wb 0) (by simp))
  have u9 := (hg 9).symm.trans (hp (9, an) (by simp))
  have u11 := (hg 11).symm.trans (hp (11, I 0) (by simp))
  have u12 := (hg 12).symm.trans (hp (12, I 0) (by simp))
  clear hg hp hsz hd
  unfold e10 LB10 Try.f10 seq2 seq1
  simp only [Option.getD_some, lits, Nat.reduceAdd, u1, u2, u8, u9, u11, u12]
  clear u1 u2 u8 u9 u11 u12
  go_wp2_with fail
  first | refine ⟨?_, rfl, rfl, rfl⟩ | refine ⟨?_, rfl, rfl⟩ | refine ⟨?_, rfl⟩ | skip
  exact ⟨rfl, rfl, by
   intro p hp
   simp only [List.mem_cons, List.not_mem_nil, or_false] at hp
   rcases hp with rfl | rfl | rfl | rfl | rfl | rfl | rfl <;> first | rfl | exact congrArg I (by omega) | exact congrArg Value.bool (by simp)⟩

set_option maxHeartbeats 4000000 in
set_option maxRecDepth 100000 in
theorem e11_wp {v : World} {a : Act} {n0 : Int} {wb : Nat} {sc an : Value}  (hA : Fl 223 [(1, I n0), (2, sc), (8, Pt wb 0), (9, an), (11, I 0), (12, I 0), (13, I 0)] a) : e11.wp Try.prog (fun e a' w' => e = .normal ∧ Fl 223 [(1, I n0), (2, sc), (8, Pt wb 0), (9, an), (11, I 0), (12, I 0), (13, I 0), (14, I 0)] a' ∧ w'.heap = v.heap ∧ w'.os = v.os ∧ w'.output = v.output) a v := by
  obtain ⟨hsz, hd, hp⟩ := hA
  obtain ⟨u, rfl, hg⟩ := litN hsz hd
  have u1 := (hg 1).symm.trans (hp (1, I n0) (by simp))
  have u2 := (hg 2).symm.trans (hp (2, sc) (by simp))
  have u8 := (hg 8).symm.trans (hp (8, Pt wb 0) (by simp))
  have u9 := (hg 9).symm.trans (hp (9, an) (by simp))
  have u11 := (hg 11).symm.trans (hp (11, I 0) (by simp))
  have u12 := (hg 12).symm.trans (hp (12, I 0) (by simp))
  have u13 := (hg 13).symm.trans (hp (13, I 0) (by simp))
  clear hg hp hsz hd
  unfold e11 LB10 Try.f10 seq2 seq1
  simp only [Option.getD_some, lits, Nat.reduceAdd, u1, u2, u8, u9, u11, u12, u13]
  clear u1 u2 u8 u9 u11 u12 u13
  go_wp2_with fail
  first | refine ⟨?_, rfl, rfl, rfl⟩ | refine ⟨?_, rfl, rfl⟩ | refine ⟨?_, rfl⟩ | skip
  exact ⟨rfl, rfl, by
   intro p hp
   simp only [List.mem_cons, List.not_mem_nil, or_false] at hp
   rcases hp with rfl | rfl | rfl | rfl | rfl | rfl | rfl | rfl <;> first | rfl | exact congrArg I (by omega) | exact congrArg Value.bool (by simp)⟩

set_option maxHeartbeats 4000000 in
set_option maxRecDepth 100000 in
theorem e32_wp {v : World} {a : Act} {n0 d f s w : Int} {wb : Nat} {sc an tr : Value}  (hA : Fl 223 [(1, I n0), (2, sc), (8, Pt wb 0), (9, an), (11, I d), (12, I f), (13, I s), (14, I w), (18, tr)] a) : e32.wp Try.prog (fun e a' w' => e = .normal ∧ Fl 223 [(1, I n0), (2, sc), (8, Pt wb 0), (9, an), (11, I d), (12, I f), (13, I s), (14, I w), (18, tr), (19, I 0)] a' ∧ w'.heap = v.heap ∧ w'.os = v.os ∧ w'.output = v.output) a v := by
  obtain ⟨hsz, hd, hp⟩ := hA
  obtain ⟨u, rfl, hg⟩ := litN hsz hd
  have u1 := (hg 1).symm.trans (hp (1, I n0) (by simp))
  have u2 := (hg 2).symm.trans (hp (2, sc) (by simp))
  have u8 := (hg 8).symm.trans (hp (8, Pt wb 0) (by simp))
  have u9 := (hg 9).symm.trans (hp (9, an) (by simp))
  have u11 := (hg 11).symm.trans (hp (11, I d) (by simp))
  have u12 := (hg 12).symm.trans (hp (12, I f) (by simp))
  have u13 := (hg 13).symm.trans (hp (13, I s) (by simp))
  have u14 := (hg 14).symm.trans (hp (14, I w) (by simp))
  have u18 := (hg 18).symm.trans (hp (18, tr) (by simp))
  clear hg hp hsz hd
  unfold e32 LB10 Try.f10 seq2 seq1
  simp only [Option.getD_some, lits, Nat.reduceAdd, u1, u2, u8, u9, u11, u12, u13, u14, u18]
  clear u1 u2 u8 u9 u11 u12 u13 u14 u18
  go_wp2_with fail
  first | refine ⟨?_, rfl, rfl, rfl⟩ | refine ⟨?_, rfl, rfl⟩ | refine ⟨?_, rfl⟩ | skip
  exact ⟨rfl, rfl, by
   intro p hp
   simp only [List.mem_cons, List.not_mem_nil, or_false] at hp
   rcases hp with rfl | rfl | rfl | rfl | rfl | rfl | rfl | rfl | rfl | rfl <;> first | rfl | exact congrArg I (by omega) | exact congrArg Value.bool (by simp)⟩

set_option maxHeartbeats 4000000 in
set_option maxRecDepth 100000 in
theorem e33_wp {v : World} {a : Act} {n0 x d f s w : Int} {wb : Nat} {sc an tr : Value}  (hA : Fl 223 [(1, I n0), (2, sc), (8, Pt wb 0), (9, an), (11, I d), (12, I f), (13, I s), (14, I w), (18, tr), (19, I x)] a) : e33.wp Try.prog (fun e a' w' => e = .normal ∧ Fl 223 [(1, I n0), (2, sc), (8, Pt wb 0), (9, an), (11, I d), (12, I f), (13, I s), (14, I w), (18, tr), (19, I x), (20, I 0)] a' ∧ w'.heap = v.heap ∧ w'.os = v.os ∧ w'.output = v.output) a v := by
  obtain ⟨hsz, hd, hp⟩ := hA
  obtain ⟨u, rfl, hg⟩ := litN hsz hd
  have u1 := (hg 1).symm.trans (hp (1, I n0) (by simp))
  have u2 := (hg 2).symm.trans (hp (2, sc) (by simp))
  have u8 := (hg 8).symm.trans (hp (8, Pt wb 0) (by simp))
  have u9 := (hg 9).symm.trans (hp (9, an) (by simp))
  have u11 := (hg 11).symm.trans (hp (11, I d) (by simp))
  have u12 := (hg 12).symm.trans (hp (12, I f) (by simp))
  have u13 := (hg 13).symm.trans (hp (13, I s) (by simp))
  have u14 := (hg 14).symm.trans (hp (14, I w) (by simp))
  have u18 := (hg 18).symm.trans (hp (18, tr) (by simp))
  have u19 := (hg 19).symm.trans (hp (19, I x) (by simp))
  clear hg hp hsz hd
  unfold e33 CT LB10 Try.f10 seq2 seq1
  simp only [Option.getD_some, lits, Nat.reduceAdd, u1, u2, u8, u9, u11, u12, u13, u14, u18, u19]
  clear u1 u2 u8 u9 u11 u12 u13 u14 u18 u19
  go_wp2_with fail
  first | refine ⟨?_, rfl, rfl, rfl⟩ | refine ⟨?_, rfl, rfl⟩ | refine ⟨?_, rfl⟩ | skip
  exact ⟨rfl, rfl, by
   intro p hp
   simp only [List.mem_cons, List.not_mem_nil, or_false] at hp
   rcases hp with rfl | rfl | rfl | rfl | rfl | rfl | rfl | rfl | rfl | rfl | rfl <;> first | rfl | exact congrArg I (by omega) | exact congrArg Value.bool (by simp)⟩

set_option maxHeartbeats 4000000 in
set_option maxRecDepth 100000 in
theorem t34_wp {v : World} {a : Act} {n0 x d f s w : Int} {wb : Nat} {sc an tr : Value} {k T ct : Nat} {p : Option Addr} (ht : tr = .slice p T ct) (hA : Fl 223 [(1, I n0), (2, sc), (8, Pt wb 0), (9, an), (11, I d), (12, I f), (13, I s), (14, I w), (18, tr), (19, I x), (20, I (k : Int))] a) : t34.wp Try.prog (fun e a' w' => e = .normal ∧ Fl 223 [(1, I n0), (2, sc), (8, Pt wb 0), (9, an), (11, I d), (12, I f), (13, I s), (14, I w), (18, tr), (19, I x), (20, I (k : Int)), (118, .bool (decide ((k : Int) < (T : Int))))] a' ∧ w'.heap = v.heap ∧ w'.os = v.os ∧ w'.output = v.output) a v := by
  obtain ⟨hsz, hd, hp⟩ := hA
  obtain ⟨u, rfl, hg⟩ := litN hsz hd
  have u1 := (hg 1).symm.trans (hp (1, I n0) (by simp))
  have u2 := (hg 2).symm.trans (hp (2, sc) (by simp))
  have u8 := (hg 8).symm.trans (hp (8, Pt wb 0) (by simp))
  have u9 := (hg 9).symm.trans (hp (9, an) (by simp))
  have u11 := (hg 11).symm.trans (hp (11, I d) (by simp))
  have u12 := (hg 12).symm.trans (hp (12, I f) (by simp))
  have u13 := (hg 13).symm.trans (hp (13, I s) (by simp))
  have u14 := (hg 14).symm.trans (hp (14, I w) (by simp))
  have u18 := (hg 18).symm.trans (hp (18, tr) (by simp))
  have u19 := (hg 19).symm.trans (hp (19, I x) (by simp))
  have u20 := (hg 20).symm.trans (hp (20, I (k : Int)) (by simp))
  clear hg hp hsz hd
  subst ht
  unfold t34 LT CT LB10 Try.f10 seq2 seq1 blockC loopC
  simp only [Option.getD_some, lits, Nat.reduceAdd, u1, u2, u8, u9, u11, u12, u13, u14, u18, u19, u20]
  clear u1 u2 u8 u9 u11 u12 u13 u14 u18 u19 u20
  go_wp2_with fail
  first | refine ⟨?_, rfl, rfl, rfl⟩ | refine ⟨?_, rfl, rfl⟩ | refine ⟨?_, rfl⟩ | skip
  exact ⟨rfl, rfl, by
   intro p hp
   simp only [List.mem_cons, List.not_mem_nil, or_false] at hp
   rcases hp with rfl | rfl | rfl | rfl | rfl | rfl | rfl | rfl | rfl | rfl | rfl | rfl <;> first | rfl | exact congrArg I (by omega) | exact congrArg Value.bool (by simp)⟩

set_option maxHeartbeats 4000000 in
set_option maxRecDepth 100000 in
theorem t35_wp {v : World} {a : Act} {n0 x d f s w : Int} {wb : Nat} {sc an tr : Value} {k : Nat} (h9 : wrap64 ((k : Int) + 1) = ((k + 1 : Nat) : Int)) (hA : Fl 223 [(1, I n0), (2, sc), (8, Pt wb 0), (9, an), (11, I d), (12, I f), (13, I s), (14, I w), (18, tr), (19, I x), (20, I (k : Int))] a) : t35.wp Try.prog (fun e a' w' => e = .normal ∧ Fl 223 [(1, I n0), (2, sc), (8, Pt wb 0), (9, an), (11, I d), (12, I f), (13, I s), (14, I w), (18, tr), (19, I x), (20, I ((k + 1 : Nat) : Int))] a' ∧ w'.heap = v.heap ∧ w'.os = v.os ∧ w'.output = v.output) a v := by
  obtain ⟨hsz, hd, hp⟩ := hA
  obtain ⟨u, rfl, hg⟩ := litN hsz hd
  have u1 := (hg 1).symm.trans (hp (1, I n0) (by simp))
  have u2 := (hg 2).symm.trans (hp (2, sc) (by simp))
  have u8 := (hg 8).symm.trans (hp (8, Pt wb 0) (by simp))
  have u9 := (hg 9).symm.trans (hp (9, an) (by simp))
  have u11 := (hg 11).symm.trans (hp (11, I d) (by simp))
  have u12 := (hg 12).symm.trans (hp (12, I f) (by simp))
  have u13 := (hg 13).symm.trans (hp (13, I s) (by simp))
  have u14 := (hg 14).symm.trans (hp (14, I w) (by simp))
  have u18 := (hg 18).symm.trans (hp (18, tr) (by simp))
  have u19 := (hg 19).symm.trans (hp (19, I x) (by simp))
  have u20 := (hg 20).symm.trans (hp (20, I (k : Int)) (by simp))
  clear hg hp hsz hd
  unfold t35 LT CT LB10 Try.f10 seq2 seq1 blockC loopC
  simp only [Option.getD_some, lits, Nat.reduceAdd, u1, u2, u8, u9, u11, u12, u13, u14, u18, u19, u20]
  clear u1 u2 u8 u9 u11 u12 u13 u14 u18 u19 u20
  go_wp2_with fail
  first | refine ⟨?_, rfl, rfl, rfl⟩ | refine ⟨?_, rfl, rfl⟩ | refine ⟨?_, rfl⟩ | skip
  exact ⟨rfl, rfl, by
   intro p hp
   simp only [List.mem_cons, List.not_mem_nil, or_false] at hp
   rcases hp with rfl | rfl | rfl | rfl | rfl | rfl | rfl | rfl | rfl | rfl | rfl <;> first | rfl | exact congrArg I (by omega) | exact congrArg Value.bool (by simp)⟩

set_option maxHeartbeats 4000000 in
set_option maxRecDepth 100000 in
theorem t36_wp {v : World} {a : Act} {n0 x d f s w : Int} {wb : Nat} {sc an tr : Value} {k T ct g : Nat} {th ce op ol ne : Int} (ht : tr = .slice (some ⟨g, 0, none⟩) T ct) (hk : k < T) (c0 : v.cell? ⟨g, k * 5, none⟩ = some (I th)) (c1 : v.cell? ⟨g, k * 5 + 1, none⟩ = some (I ce)) (c2 : v.cell? ⟨g, k * 5 + 2, none⟩ = some (I op)) (c3 : v.cell? ⟨g, k * 5 + 3, none⟩ = some (I ol)) (c4 : v.cell? ⟨g, k * 5 + 4, none⟩ = some (I ne)) (hA : Fl 223 [(1, I n0), (2, sc), (8, Pt wb 0), (9, an), (11, I d), (12, I f), (13, I s), (14, I w), (18, tr), (19, I x), (20, I (k : Int))] a) : t36.wp Try.prog (fun e a' w' => e = .normal ∧ Fl 223 [(1, I n0), (2, sc), (8, Pt wb 0), (9, an), (11, I d), (12, I f), (13, I s), (14, I w), (18, tr), (19, I x), (20, I (k : Int)), (21, Pt v.heap.size 0)] a' ∧ w'.heap = v.heap.push (.cells #[I th, I ce, I op, I ol, I ne] 34) ∧ w'.os = v.os ∧ w'.output = v.output) a v := by
  obtain ⟨hsz, hd, hp⟩ := hA
  obtain ⟨u, rfl, hg⟩ := litN hsz hd
  have u1 := (hg 1).symm.trans (hp (1, I n0) (by simp))
  have u2 := (hg 2).symm.trans (hp (2, sc) (by simp))
  have u8 := (hg 8).symm.trans (hp (8, Pt wb 0) (by simp))
  have u9 := (hg 9).symm.trans (hp (9, an) (by simp))
  have u11 := (hg 11).symm.trans (hp (11, I d) (by simp))
  have u12 := (hg 12).symm.trans (hp (12, I f) (by simp))
  have u13 := (hg 13).symm.trans (hp (13, I s) (by simp))
  have u14 := (hg 14).symm.trans (hp (14, I w) (by simp))
  have u18 := (hg 18).symm.trans (hp (18, tr) (by simp))
  have u19 := (hg 19).symm.trans (hp (19, I x) (by simp))
  have u20 := (hg 20).symm.trans (hp (20, I (k : Int)) (by simp))
  clear hg hp hsz hd
  subst ht
  have hk' : (k : Int) < (T : Int) := by omega
  unfold t36 IT LT CT LB10 Try.f10 seq2 seq1 blockC loopC
  simp only [Option.getD_some, lits, Nat.reduceAdd, u1, u2, u8, u9, u11, u12, u13, u14, u18, u19, u20]
  clear u1 u2 u8 u9 u11 u12 u13 u14 u18 u19 u20
  go_wp2_with fail
  first | refine ⟨?_, rfl, rfl, rfl⟩ | refine ⟨?_, rfl, rfl⟩ | refine ⟨?_, rfl⟩ | skip
  exact ⟨rfl, rfl, by
   intro p hp
   simp only [List.mem_cons, List.not_mem_nil, or_false] at hp
   rcases hp with rfl | rfl | rfl | rfl | rfl | rfl | rfl | rfl | rfl | rfl | rfl | rfl <;> first | rfl | exact congrArg I (by omega) | exact congrArg Value.bool (by simp)⟩

set_option maxHeartbeats 4000000 in
set_option maxRecDepth 100000 in
theorem t37_wpy {v : World} {a : Act} {n0 x d f s w : Int} {wb : Nat} {sc an tr : Value} {k sb : Nat} {op ol ne : Int} (c2 : v.cell? ⟨sb, 2, none⟩ = some (I op)) (c3 : v.cell? ⟨sb, 3, none⟩ = some (I ol)) (c4 : v.cell? ⟨sb, 4, none⟩ = some (I ne)) (h4 : op = 4) (hA : Fl 223 [(1, I n0), (2, sc), (8, Pt wb 0), (9, an), (11, I d), (12, I f), (13, I s), (14, I w), (18, tr), (19, I x), (20, I (k : Int)), (21, Pt sb 0)] a) : t37.wp Try.prog (fun e a' w' => e = .normal ∧ Fl 223 [(1, I n0), (2, sc), (8, Pt wb 0), (9, an), (11, I d), (12, I f), (13, I s), (14, I w), (18, tr), (19, I x), (20, I (k : Int)), (21, Pt sb 0), (135, .bool (ne == wrap64 (ol - 1)))] a' ∧ w'.heap = v.heap ∧ w'.os = v.os ∧ w'.output = v.output) a v := by
  obtain ⟨hsz, hd, hp⟩ := hA
  obtain ⟨u, rfl, hg⟩ := litN hsz hd
  have u1 := (hg 1).symm.trans (hp (1, I n0) (by simp))
  have u2 := (hg 2).symm.trans (hp (2, sc) (by simp))
  have u8 := (hg 8).symm.trans (hp (8, Pt wb 0) (by simp))
  have u9 := (hg 9).symm.trans (hp (9, an) (by simp))
  have u11 := (hg 11).symm.trans (hp (11, I d) (by simp))
  have u12 := (hg 12).symm.trans (hp (12, I f) (by simp))
  have u13 := (hg 13).symm.trans (hp (13, I s) (by simp))
  have u14 := (hg 14).symm.trans (hp (14, I w) (by simp))
  have u18 := (hg 18).symm.trans (hp (18, tr) (by simp))
  have u19 := (hg 19).symm.trans (hp (19, I x) (by simp))
  have u20 := (hg 20).symm.trans (hp (20, I (k : Int)) (by simp))
  have u21 := (hg 21).symm.trans (hp (21, Pt sb 0) (by simp))
  clear hg hp hsz hd
  subst h4
  unfold t37 IT LT CT LB10 Try.f10 seq2 seq1 blockC loopC
  simp only [Option.getD_some, lits, Nat.reduceAdd, u1, u2, u8, u9, u11, u12, u13, u14, u18, u19, u20, u21]
  clear u1 u2 u8 u9 u11 u12 u13 u14 u18 u19 u20 u21
  go_wp2_with fail
  first | refine ⟨?_, rfl, rfl, rfl⟩ | refine ⟨?_, rfl, rfl⟩ | refine ⟨?_, rfl⟩ | skip
  exact ⟨rfl, rfl, by
   intro p hp
   simp only [List.mem_cons, List.not_mem_nil, or_false] at hp
   rcases hp with rfl | rfl | rfl | rfl | rfl | rfl | rfl | rfl | rfl | rfl | rfl | rfl | rfl <;> first | rfl | exact congrArg I (by omega) | exact congrArg Value.bool (by simp)⟩

set_option maxHeartbeats 4000000 in
set_option maxRecDepth 100000 in
theorem t37_wpn {v : World} {a : Act} {n0 x d f s w : Int} {wb : Nat} {sc an tr : Value} {k sb : Nat} {op ol ne : Int} (c2 : v.cell? ⟨sb, 2, none⟩ = some (I op)) (c3 : v.cell? ⟨sb, 3, none⟩ = some (I ol)) (c4 : v.cell? ⟨sb, 4, none⟩ = some (I ne)) (h4 : op ≠ 4) (hA : Fl 223 [(1, I n0), (2, sc), (8, Pt wb 0), (9, an), (11, I d), (12, I f), (13, I s), (14, I w), (18, tr), (19, I x), (20, I (k : Int)), (21, Pt sb 0)] a) : t37.wp Try.prog (fun e a' w' => e = .normal ∧ Fl 223 [(1, I n0), (2, sc), (8, Pt wb 0), (9, an), (11, I d), (12, I f), (13, I s), (14, I w), (18, tr), (19, I x), (20, I (k : Int)), (21, Pt sb 0), (135, .bool false)] a' ∧ w'.heap = v.heap ∧ w'.os = v.os ∧ w'.output = v.output) a v := by
  obtain ⟨hsz, hd, hp⟩ := hA
  obtain ⟨u, rfl, hg⟩ := litN hsz hd
  have u1 := (hg 1).symm.trans (hp (1, I n0) (by simp))
  have u2 := (hg 2).symm.trans (hp (2, sc) (by simp))
  have u8 := (hg 8).symm.trans (hp (8, Pt wb 0) (by simp))
  have u9 := (hg 9).symm.trans (hp (9, an) (by simp))
  have u11 := (hg 11).symm.trans (hp (11, I d) (by simp))
  have u12 := (hg 12).symm.trans (hp (12, I f) (by simp))
  have u13 := (hg 13).symm.trans (hp (13, I s) (by simp))
  have u14 := (hg 14).symm.trans (hp (14, I w) (by simp))
  have u18 := (hg 18).symm.trans (hp (18, tr) (by simp))
  have u19 := (hg 19).symm.trans (hp (19, I x) (by simp))
  have u20 := (hg 20).symm.trans (hp (20, I (k : Int)) (by simp))
  have u21 := (hg 21).symm.trans (hp (21, Pt sb 0) (by simp))
  clear hg hp hsz hd
  have h5 : (op == 4) = false := by simp [h4]
  unfold t37 IT LT CT LB10 Try.f10 seq2 seq1 blockC loopC
  simp only [Option.getD_some, lits, Nat.reduceAdd, u1, u2, u8, u9, u11, u12, u13, u14, u18, u19, u20, u21]
  clear u1 u2 u8 u9 u11 u12 u13 u14 u18 u19 u20 u21
  go_wp2_with fail
  first | refine ⟨?_, rfl, rfl, rfl⟩ | refine ⟨?_, rfl, rfl⟩ | refine ⟨?_, rfl⟩ | skip
  exact ⟨rfl, rfl, by
   intro p hp
   simp only [List.mem_cons, List.not_mem_nil, or_false] at hp
   rcases hp with rfl | rfl | rfl | rfl | rfl | rfl | rfl | rfl | rfl | rfl | rfl | rfl | rfl <;> first | rfl | exact congrArg I (by omega) | exact congrArg Value.bool (by simp)⟩

set_option maxHeartbeats 4000000 in
set_option maxRecDepth 100000 in
theorem t38_wp {v : World} {a : Act} {n0 x d f s w : Int} {wb : Nat} {sc an tr : Value} {k sb : Nat} (h9 : wrap64 (x + 1) = x + 1) (hA : Fl 223 [(1, I n0), (2, sc), (8, Pt wb 0), (9, an), (11, I d), (12, I f), (13, I s), (14, I w), (18, tr), (19, I x), (20, I (k : Int)), (21, Pt sb 0)] a) : t38.wp Try.prog (fun e a' w' => e = .normal ∧ Fl 223 [(1, I n0), (2, sc), (8, Pt wb 0), (9, an), (11, I d), (12, I f), (13, I s), (14, I w), (18, tr), (19, I (x + 1)), (20, I (k : Int)), (21, Pt sb 0)] a' ∧ w'.heap = v.heap ∧ w'.os = v.os ∧ w'.output = v.output) a v := by
  obtain ⟨hsz, hd, hp⟩ := hA
  obtain ⟨u, rfl, hg⟩ := litN hsz hd
  have u1 := (hg 1).symm.trans (hp (1, I n0) (by simp))
  have u2 := (hg 2).symm.trans (hp (2, sc) (by simp))
  have u8 := (hg 8).symm.trans (hp (8, Pt wb 0) (by simp))
  have u9 := (hg 9).symm.trans (hp (9, an) (by simp))
  have u11 := (hg 11).symm.trans (hp (11, I d) (by simp))
  have u12 := (hg 12).symm.trans (hp (12, I f) (by simp))
  have u13 := (hg 13).symm.trans (hp (13, I s) (by simp))
  have u14 := (hg 14).symm.trans (hp (14, I w) (by simp))
  have u18 := (hg 18).symm.trans (hp (18, tr) (by simp))
  have u19 := (hg 19).symm.trans (hp (19, I x) (by simp))
  have u20 := (hg 20).symm.trans (hp (20, I (k : Int)) (by simp))
  have u21 := (hg 21).symm.trans (hp (21, Pt sb 0) (by simp))
  clear hg hp hsz hd
  unfold t38 IT LT CT LB10 Try.f10 seq2 seq1 blockC loopC condA
  simp only [Option.getD_some, lits, Nat.reduceAdd, u1, u2, u8, u9, u11, u12, u13, u14, u18, u19, u20, u21]
  clear u1 u2 u8 u9 u11 u12 u13 u14 u18 u19 u20 u21
  go_wp2_with fail
  first | refine ⟨?_, rfl, rfl, rfl⟩ | refine ⟨?_, rfl, rfl⟩ | refine ⟨?_, rfl⟩ | skip
  exact ⟨rfl, rfl, by
   intro p hp
   simp only [List.mem_cons, List.not_mem_nil, or_false] at hp
   rcases hp with rfl | rfl | rfl | rfl | rfl | rfl | rfl | rfl | rfl | rfl | rfl | rfl <;> first | rfl | exact congrArg I (by omega) | exact congrArg Value.bool (by simp)⟩

set_option maxHeartbeats 4000000 in
set_option maxRecDepth 100000 in
theorem t39_wp {v : World} {a : Act} {n0 x d f s w : Int} {wb : Nat} {sc an tr : Value} {k sb : Nat} {op : Int} (c2 : v.cell? ⟨sb, 2, none⟩ = some (I op)) (hA : Fl 223 [(1, I n0), (2, sc), (8, Pt wb 0), (9, an), (11, I d), (12, I f), (13, I s), (14, I w), (18, tr), (19, I x), (20, I (k : Int)), (21, Pt sb 0)] a) : t39.wp Try.prog (fun e a' w' => e = .normal ∧ Fl 223 [(1, I n0), (2, sc), (8, Pt wb 0), (9, an), (11, I d), (12, I f), (13, I s), (14, I w), (18, tr), (19, I x), (20, I (k : Int)), (21, Pt sb 0), (140, .bool (op != 10))] a' ∧ w'.heap = v.heap ∧ w'.os = v.os ∧ w'.output = v.output) a v := by
  obtain ⟨hsz, hd, hp⟩ := hA
  obtain ⟨u, rfl, hg⟩ := litN hsz hd
  have u1 := (hg 1).symm.trans (hp (1, I n0) (by simp))
  have u2 := (hg 2).symm.trans (hp (2, sc) (by simp))
  have u8 := (hg 8).symm.trans (hp (8, Pt wb 0) (by simp))
  have u9 := (hg 9).symm.trans (hp (9, an) (by simp))
  have u11 := (hg 11).symm.trans (hp (11, I d) (by simp))
  have u12 := (hg 12).symm.trans (hp (12, I f) (by simp))
  have u13 := (hg 13).symm.trans (hp (13, I s) (by simp))
  have u14 := (hg 14).symm.trans (hp (14, I w) (by simp))
  have u18 := (hg 18).symm.trans (hp (18, tr) (by simp))
  have u19 := (hg 19).symm.trans (hp (19, I x) (by simp))
  have u20 := (hg 20).symm.trans (hp (20, I (k : Int)) (by simp))
  have u21 := (hg 21).symm.trans (hp (21, Pt sb 0) (by simp))
  clear hg hp hsz hd
  unfold t39 IT LT CT LB10 Try.f10 seq2 seq1 blockC loopC
  simp only [Option.getD_some, lits, Nat.reduceAdd, u1, u2, u8, u9, u11, u12, u13, u14, u18, u19, u20, u21]
  clear u1 u2 u8 u9 u11 u12 u13 u14 u18 u19 u20 u21
  go_wp2_with fail
  first | refine ⟨?_, rfl, rfl, rfl⟩ | refine ⟨?_, rfl, rfl⟩ | refine ⟨?_, rfl⟩ | skip
  exact ⟨rfl, rfl, by
   intro p hp
   simp only [List.mem_cons, List.not_mem_nil, or_false] at hp
   rcases hp with rfl | rfl | rfl | rfl | rfl | rfl | rfl | rfl | rfl | rfl | rfl | rfl | rfl <;> first | rfl | exact congrArg I (by omega) | exact congrArg Value.bool (by simp)⟩

set_option maxHeartbeats 4000000 in
set_option maxRecDepth 100000 in
theorem t40_wp {v : World} {a : Act} {n0 x d f s w : Int} {wb : Nat} {sc an tr : Value} {k sb : Nat} {i ii n b o cap ln cp rb ro : Nat} (hs : sc = .slice (some ⟨b, o, none⟩) n cap) (hin : i < n) (a2 : v.cell? ⟨b, o + i, none⟩ = some (.slice (some ⟨rb, ro, none⟩) ln cp)) (hkl : ii < ln) (c0 : v.cell? ⟨sb, 0, none⟩ = some (I (i : Int))) (c3 : v.cell? ⟨sb, 3, none⟩ = some (I (ii : Int))) (hA : Fl 223 [(1, I n0), (2, sc), (8, Pt wb 0), (9, an), (11, I d), (12, I f), (13, I s), (14, I w), (18, tr), (19, I x), (20, I (k : Int)), (21, Pt sb 0)] a) : t40.wp Try.prog (fun e a' w' => e = .normal ∧ Fl 223 [(1, I n0), (2, sc), (8, Pt wb 0), (9, an), (11, I d), (12, I f), (13, I s), (14, I w), (18, tr), (19, I x), (20, I (k : Int)), (21, Pt sb 0)] a' ∧ w'.heap = v.heap ∧ w'.os = v.os ∧ w'.output = v.output) a v := by
  obtain ⟨hsz, hd, hp⟩ := hA
  obtain ⟨u, rfl, hg⟩ := litN hsz hd
  have u1 := (hg 1).symm.trans (hp (1, I n0) (by simp))
  have u2 := (hg 2).symm.trans (hp (2, sc) (by simp))
  have u8 := (hg 8).symm.trans (hp (8, Pt wb 0) (by simp))
  have u9 := (hg 9).symm.trans (hp (9, an) (by simp))
  have u11 := (hg 11).symm.trans (hp (11, I d) (by simp))
  have u12 := (hg 12).symm.trans (hp (12, I f) (by simp))
  have u13 := (hg 13).symm.trans (hp (13, I s) (by simp))
  have u14 := (hg 14).symm.trans (hp (14, I w) (by simp))
  have u18 := (hg 18).symm.trans (hp (18, tr) (by simp))
  have u19 := (hg 19).symm.trans (hp (19, I x) (by simp))
  have u20 := (hg 20).symm.trans (hp (20, I (k : Int)) (by simp))
  have u21 := (hg 21).symm.trans (hp (21, Pt sb 0) (by simp))
  clear hg hp hsz hd
  subst hs
  have q1 : ¬ ((i : Int) < 0) := by omega
  have q2 : ¬ ((i : Int) ≥ (n : Int)) := by omega
  have q3 : ¬ ((ii : Int) < 0) := by omega
  have q4 : ¬ ((ii : Int) ≥ (ln : Int)) := by omega
  have q5 : (i : Int) < (n : Int) := by omega
  have q6 : (ii : Int) < (ln : Int) := by omega
  have q7 : ¬ n ≤ i := by omega
  have q8 : ¬ ln ≤ ii := by omega
  unfold t40 IT LT CT LB10 Try.f10 seq2 seq1 blockC loopC
  simp only [Option.getD_some, lits, Nat.reduceAdd, u1, u2, u8, u9, u11, u12, u13, u14, u18, u19, u20, u21]
  clear u1 u2 u8 u9 u11 u12 u13 u14 u18 u19 u20 u21
  go_wp2_with fail
  go_quiet (fail)
  go_wp2_with fail
  first | refine ⟨?_, rfl, rfl, rfl⟩ | refine ⟨?_, rfl, rfl⟩ | refine ⟨?_, rfl⟩ | skip
  exact ⟨rfl, rfl, by
   intro p hp
   simp only [List.mem_cons, List.not_mem_nil, or_false] at hp
   rcases hp with rfl | rfl | rfl | rfl | rfl | rfl | rfl | rfl | rfl | rfl | rfl | rfl <;> first | rfl | exact congrArg I (by omega) | exact congrArg Value.bool (by simp)⟩

set_option maxHeartbeats 4000000 in
set_option maxRecDepth 100000 in
theorem t42_wp {v : World} {a : Act} {n0 x d f s w : Int} {wb : Nat} {sc an tr : Value} {k sb : Nat} {i ii n b o cap ln cp rb ro : Nat} {po ca cb cc : Int} (hs : sc = .slice (some ⟨b, o, none⟩) n cap) (hin : i < n) (a2 : v.cell? ⟨b, o + i, none⟩ = some (.slice (some ⟨rb, ro, none⟩) ln cp)) (hkl : ii < ln) (c0 : v.cell? ⟨sb, 0, none⟩ = some (I (i : Int))) (c3 : v.cell? ⟨sb, 3, none⟩ = some (I (ii : Int))) (p0 : v.cell? ⟨rb, ro + ii * 4, none⟩ = some (I po)) (p1 : v.cell? ⟨rb, ro + ii * 4 + 1, none⟩ = some (I ca)) (p2 : v.cell? ⟨rb, ro + ii * 4 + 2, none⟩ = some (I cb)) (p3 : v.cell? ⟨rb, ro + ii * 4 + 3, none⟩ = some (I cc)) (hA : Fl 223 [(1, I n0), (2, sc), (8, Pt wb 0), (9, an), (11, I d), (12, I f), (13, I s), (14, I w), (18, tr), (19, I x), (20, I (k : Int)), (21, Pt sb 0)] a) : t42.wp Try.prog (fun e a' w' => e = .normal ∧ Fl 223 [(1, I n0), (2, sc), (8, Pt wb 0), (9, an), (11, I d), (12, I f), (13, I s), (14, I w), (18, tr), (19, I x), (20, I (k : Int)), (21, Pt sb 0), (22, Pt v.heap.size 0)] a' ∧ w'.heap = v.heap.push (.cells #[I po, I ca, I cb, I cc] 39) ∧ w'.os = v.os ∧ w'.output = v.output) a v := by
  obtain ⟨hsz, hd, hp⟩ := hA
  obtain ⟨u, rfl, hg⟩ := litN hsz hd
  have u1 := (hg 1).symm.trans (hp (1, I n0) (by simp))
  have u2 := (hg 2).symm.trans (hp (2, sc) (by simp))
  have u8 := (hg 8).symm.trans (hp (8, Pt wb 0) (by simp))
  have u9 := (hg 9).symm.trans (hp (9, an) (by simp))
  have u11 := (hg 11).symm.trans (hp (11, I d) (by simp))
  have u12 := (hg 12).symm.trans (hp (12, I f) (by simp))
  have u13 := (hg 13).symm.trans (hp (13, I s) (by simp))
  have u14 := (hg 14).symm.trans (hp (14, I w) (by simp))
  have u18 := (hg 18).symm.trans (hp (18, tr) (by simp))
  have u19 := (hg 19).symm.trans (hp (19, I x) (by simp))
  have u20 := (hg 20).symm.trans (hp (20, I (k : Int)) (by simp))
  have u21 := (hg 21).symm.trans (hp (21, Pt sb 0) (by simp))
  clear hg hp hsz hd
  subst hs
  have q1 : ¬ ((i : Int) < 0) := by omega
  have q2 : ¬ ((i : Int) ≥ (n : Int)) := by omega
  have q3 : ¬ ((ii : Int) < 0) := by omega
  have q4 : ¬ ((ii : Int) ≥ (ln : Int)) := by omega
  have q5 : (i : Int) < (n : Int) := by omega
  have q6 : (ii : Int) < (ln : Int) := by omega
  have q7 : ¬ n ≤ i := by omega
  have q8 : ¬ ln ≤ ii := by omega
  unfold t42 IT LT CT LB10 Try.f10 seq2 seq1 blockC loopC
  simp only [Option.getD_some, lits, Nat.reduceAdd, u1, u2, u8, u9, u11, u12, u13, u14, u18, u19, u20, u21]
  clear u1 u2 u8 u9 u11 u12 u13 u14 u18 u19 u20 u21
  have n1 := World.new_ne v _ a2
  have n2 := World.new_ne v _ c0
  have n3 := World.new_ne v _ p0
  go_wp2_with fail
  go_region_held3 (fun u => u.cell? ⟨b, o + i, none⟩ = some (.slice (some ⟨rb, ro, none⟩) ln cp) ∧ u.cell? ⟨sb, 0, none⟩ = some (I (i : Int)) ∧ u.cell? ⟨sb, 3, none⟩ = some (I (ii : Int)) ∧ (u.cell? ⟨rb, ro + ii * 4, none⟩ = some (I po) ∧ u.cell? ⟨rb, ro + ii * 4 + 1, none⟩ = some (I ca) ∧ u.cell? ⟨rb, ro + ii * 4 + 2, none⟩ = some (I cb) ∧ u.cell? ⟨rb, ro + ii * 4 + 3, none⟩ = some (I cc)))
    (go_keep)
    (fail)
  refine ⟨rfl, ⟨rfl, rfl, by
   intro p hp
   simp only [List.mem_cons, List.not_mem_nil, or_false] at hp
   rcases hp with rfl | rfl | rfl | rfl | rfl | rfl | rfl | rfl | rfl | rfl | rfl | rfl | rfl <;> first | rfl | exact congrArg I (by omega) | exact congrArg Value.bool (by simp)⟩, rfl, rfl, rfl⟩

set_option maxHeartbeats 4000000 in
set_option maxRecDepth 100000 in
theorem t43_wpa {v : World} {a : Act} {n0 x d f s w : Int} {wb : Nat} {sc an tr : Value} {k sb : Nat} {pb : Nat} {ne po : Int}  (c4 : v.cell? ⟨sb, 4, none⟩ = some (I ne)) (pp : v.cell? ⟨pb, 0, none⟩ = some (I po)) (h1 : ne = 50) (h2 : po = 2) (hx : ¬ x < n0) (hA : Fl 223 [(1, I n0), (2, sc), (8, Pt wb 0), (9, an), (11, I d), (12, I f), (13, I s), (14, I w), (18, tr), (19, I x), (20, I (k : Int)), (21, Pt sb 0), (22, Pt pb 0)] a) : t43.wp Try.prog (fun e a' w' => e = .normal ∧ Fl 223 [(1, I n0), (2, sc), (8, Pt wb 0), (9, an), (11, I d), (12, I f), (13, I s), (14, I w), (18, tr), (19, I x), (20, I (k : Int)), (21, Pt sb 0)] a' ∧ w'.heap = v.heap ∧ w'.os = v.os ∧ w'.output = v.output) a v := by
  obtain ⟨hsz, hd, hp⟩ := hA
  obtain ⟨u, rfl, hg⟩ := litN hsz hd
  have u1 := (hg 1).symm.trans (hp (1, I n0) (by simp))
  have u2 := (hg 2).symm.trans (hp (2, sc) (by simp))
  have u8 := (hg 8).symm.trans (hp (8, Pt wb 0) (by simp))
  have u9 := (hg 9).symm.trans (hp (9, an) (by simp))
  have u11 := (hg 11).symm.trans (hp (11, I d) (by simp))
  have u12 := (hg 12).symm.trans (hp (12, I f) (by simp))
  have u13 := (hg 13).symm.trans (hp (13, I s) (by simp))
  have u14 := (hg 14).symm.trans (hp (14, I w) (by simp))
  have u18 := (hg 18).symm.trans (hp (18, tr) (by simp))
  have u19 := (hg 19).symm.trans (hp (19, I x) (by simp))
  have u20 := (hg 20).symm.trans (hp (20, I (k : Int)) (by simp))
  have u21 := (hg 21).symm.trans (hp (21, Pt sb 0) (by simp))
  have u22 := (hg 22).symm.trans (hp (22, Pt pb 0) (by simp))
  clear hg hp hsz hd
  subst h1 h2
  have hx2 : n0 ≤ x := by omega
  unfold t43 IT LT CT LB10 Try.f10 seq2 seq1 blockC loopC
  simp only [Option.getD_some, lits, Nat.reduceAdd, u1, u2, u8, u9, u11, u12, u13, u14, u18, u19, u20, u21, u22]
  clear u1 u2 u8 u9 u11 u12 u13 u14 u18 u19 u20 u21 u22
  go_wp2_with fail
  first | refine ⟨?_, rfl, rfl, rfl⟩ | refine ⟨?_, rfl, rfl⟩ | refine ⟨?_, rfl⟩ | skip
  exact ⟨rfl, rfl, by
   intro p hp
   simp only [List.mem_cons, List.not_mem_nil, or_false] at hp
   rcases hp with rfl | rfl | rfl | rfl | rfl | rfl | rfl | rfl | rfl | rfl | rfl | rfl <;> first | rfl | exact congrArg I (by omega) | exact congrArg Value.bool (by simp)⟩

set_option maxHeartbeats 4000000 in
set_option maxRecDepth 100000 in
theorem t43_wpb {v : World} {a : Act} {n0 x d f s w : Int} {wb : Nat} {sc an tr : Value} {k sb : Nat} {pb : Nat} {ne po : Int}  (c4 : v.cell? ⟨sb, 4, none⟩ = some (I ne)) (pp : v.cell? ⟨pb, 0, none⟩ = some (I po)) (h1 : ne = 50) (h2 : po ≠ 2) (hx : ¬ x < n0) (hA : Fl 223 [(1, I n0), (2, sc), (8, Pt wb 0), (9, an), (11, I d), (12, I f), (13, I s), (14, I w), (18, tr), (19, I x), (20, I (k : Int)), (21, Pt sb 0), (22, Pt pb 0)] a) : t43.wp Try.prog (fun e a' w' => e = .normal ∧ Fl 223 [(1, I n0), (2, sc), (8, Pt wb 0), (9, an), (11, I d), (12, I f), (13, I s), (14, I w), (18, tr), (19, I x), (20, I (k : Int)), (21, Pt sb 0)] a' ∧ w'.heap = v.heap ∧ w'.os = v.os ∧ w'.output = v.output) a v := by
  obtain ⟨hsz, hd, hp⟩ := hA
  obtain ⟨u, rfl, hg⟩ := litN hsz hd
  have u1 := (hg 1).symm.trans (hp (1, I n0) (by simp))
  have u2 := (hg 2).symm.trans (hp (2, sc) (by simp))
  have u8 := (hg 8).symm.trans (hp (8, Pt wb 0) (by simp))
  have u9 := (hg 9).symm.trans (hp (9, an) (by simp))
  have u11 := (hg 11).symm.trans (hp (11, I d) (by simp))
  have u12 := (hg 12).symm.trans (hp (12, I f) (by simp))
  have u13 := (hg 13).symm.trans (hp (13, I s) (by simp))
  have u14 := (hg 14).symm.trans (hp (14, I w) (by simp))
  have u18 := (hg 18).symm.trans (hp (18, tr) (by simp))
  have u19 := (hg 19).symm.trans (hp (19, I x) (by simp))
  have u20 := (hg 20).symm.trans (hp (20, I (k : Int)) (by simp))
  have u21 := (hg 21).symm.trans (hp (21, Pt sb 0) (by simp))
  have u22 := (hg 22).symm.trans (hp (22, Pt pb 0) (by simp))
  clear hg hp hsz hd
  subst h1
  have hx2 : n0 ≤ x := by omega
  have h5 : (po == 2) = false := by simp [h2]
  unfold t43 IT LT CT LB10 Try.f10 seq2 seq1 blockC loopC
  simp only [Option.getD_some, lits, Nat.reduceAdd, u1, u2, u8, u9, u11, u12, u13, u14, u18, u19, u20, u21, u22]
  clear u1 u2 u8 u9 u11 u12 u13 u14 u18 u19 u20 u21 u22
  go_wp2_with fail
  first | refine ⟨?_, rfl, rfl, rfl⟩ | refine ⟨?_, rfl, rfl⟩ | refine ⟨?_, rfl⟩ | skip
  exact ⟨rfl, rfl, by
   intro p hp
   simp only [List.mem_cons, List.not_mem_nil, or_false] at hp
   rcases hp with rfl | rfl | rfl | rfl | rfl | rfl | rfl | rfl | rfl | rfl | rfl | rfl <;> first | rfl | exact congrArg I (by omega) | exact congrArg Value.bool (by simp)⟩

set_option maxHeartbeats 4000000 in
set_option maxRecDepth 100000 in
theorem t43_wpc {v : World} {a : Act} {n0 x d f s w : Int} {wb : Nat} {sc an tr : Value} {k sb : Nat} {pb : Nat} {ne po : Int}  (c4 : v.cell? ⟨sb, 4, none⟩ = some (I ne)) (pp : v.cell? ⟨pb, 0, none⟩ = some (I po)) (h1 : ne = 0) (h2 : po = 2) (hx : ¬ x < n0) (hA : Fl 223 [(1, I n0), (2, sc), (8, Pt wb 0), (9, an), (11, I d), (12, I f), (13, I s), (14, I w), (18, tr), (19, I x), (20, I (k : Int)), (21, Pt sb 0), (22, Pt pb 0)] a) : t43.wp Try.prog (fun e a' w' => e = .normal ∧ Fl 223 [(1, I n0), (2, sc), (8, Pt wb 0), (9, an), (11, I d), (12, I f), (13, I s), (14, I w), (18, tr), (19, I x), (20, I (k : Int)), (21, Pt sb 0)] a' ∧ w'.heap = v.heap ∧ w'.os = v.os ∧ w'.output = v.output) a v := by
  obtain ⟨hsz, hd, hp⟩ := hA
  obtain ⟨u, rfl, hg⟩ := litN hsz hd
  have u1 := (hg 1).symm.trans (hp (1, I n0) (by simp))
  have u2 := (hg 2).symm.trans (hp (2, sc) (by simp))
  have u8 := (hg 8).symm.trans (hp (8, Pt wb 0) (by simp))
  have u9 := (hg 9).symm.trans (hp (9, an) (by simp))
  have u11 := (hg 11).symm.trans (hp (11, I d) (by simp))
  have u12 := (hg 12).symm.trans (hp (12, I f) (by simp))
  have u13 := (hg 13).symm.trans (hp (13, I s) (by simp))
  have u14 := (hg 14).symm.trans (hp (14, I w) (by simp))
  have u18 := (hg 18).symm.trans (hp (18, tr) (by simp))
  have u19 := (hg 19).symm.trans (hp (19, I x) (by simp))
  have u20 := (hg 20).symm.trans (hp (20, I (k : Int)) (by simp))
  have u21 := (hg 21).symm.trans (hp (21, Pt sb 0) (by simp))
  have u22 := (hg 22).symm.trans (hp (22, Pt pb 0) (by simp))
  clear hg hp hsz hd
  subst h1 h2
  have hx2 : n0 ≤ x := by omega
  unfold t43 IT LT CT LB10 Try.f10 seq2 seq1 blockC loopC
  simp only [Option.getD_some, lits, Nat.reduceAdd, u1, u2, u8, u9, u11, u12, u13, u14, u18, u19, u20, u21, u22]
  clear u1 u2 u8 u9 u11 u12 u13 u14 u18 u19 u20 u21 u22
  go_wp2_with fail
  first | refine ⟨?_, rfl, rfl, rfl⟩ | refine ⟨?_, rfl, rfl⟩ | refine ⟨?_, rfl⟩ | skip
  exact ⟨rfl, rfl, by
   intro p hp
   simp only [List.mem_cons, List.not_mem_nil, or_false] at hp
   rcases hp with rfl | rfl | rfl | rfl | rfl | rfl | rfl | rfl | rfl | rfl | rfl | rfl <;> first | rfl | exact congrArg I (by omega) | exact congrArg Value.bool (by simp)⟩

set_option maxHeartbeats 4000000 in
set_option maxRecDepth 100000 in
theorem t43_wpd {v : World} {a : Act} {n0 x d f s w : Int} {wb : Nat} {sc an tr : Value} {k sb : Nat} {pb : Nat} {ne po : Int}  (c4 : v.cell? ⟨sb, 4, none⟩ = some (I ne)) (pp : v.cell? ⟨pb, 0, none⟩ = some (I po)) (h1 : ne ≠ 50) (h3 : ne ≠ 0) (h2 : po = 2) (hA : Fl 223 [(1, I n0), (2, sc), (8, Pt wb 0), (9, an), (11, I d), (12, I f), (13, I s), (14, I w), (18, tr), (19, I x), (20, I (k : Int)), (21, Pt sb 0), (22, Pt pb 0)] a) : t43.wp Try.prog (fun e a' w' => e = .normal ∧ Fl 223 [(1, I n0), (2, sc), (8, Pt wb 0), (9, an), (11, I d), (12, I f), (13, I s), (14, I w), (18, tr), (19, I x), (20, I (k : Int)), (21, Pt sb 0)] a' ∧ w'.heap = v.heap ∧ w'.os = v.os ∧ w'.output = v.output) a v := by
  obtain ⟨hsz, hd, hp⟩ := hA
  obtain ⟨u, rfl, hg⟩ := litN hsz hd
  have u1 := (hg 1).symm.trans (hp (1, I n0) (by simp))
  have u2 := (hg 2).symm.trans (hp (2, sc) (by simp))
  have u8 := (hg 8).symm.trans (hp (8, Pt wb 0) (by simp))
  have u9 := (hg 9).symm.trans (hp (9, an) (by simp))
  have u11 := (hg 11).symm.trans (hp (11, I d) (by simp))
  have u12 := (hg 12).symm.trans (hp (12, I f) (by simp))
  have u13 := (hg 13).symm.trans (hp (13, I s) (by simp))
  have u14 := (hg 14).symm.trans (hp (14, I w) (by simp))
  have u18 := (hg 18).symm.trans (hp (18, tr) (by simp))
  have u19 := (hg 19).symm.trans (hp (19, I x) (by simp))
  have u20 := (hg 20).symm.trans (hp (20, I (k : Int)) (by simp))
  have u21 := (hg 21).symm.trans (hp (21, Pt sb 0) (by simp))
  have u22 := (hg 22).symm.trans (hp (22, Pt pb 0) (by simp))
  clear hg hp hsz hd
  subst h2
  have h5 : (ne == 50) = false := by simp [h1]
  have h6 : (ne == 0) = false := by simp [h3]
  unfold t43 IT LT CT LB10 Try.f10 seq2 seq1 blockC loopC
  simp only [Option.getD_some, lits, Nat.reduceAdd, u1, u2, u8, u9, u11, u12, u13, u14, u18, u19, u20, u21, u22]
  clear u1 u2 u8 u9 u11 u12 u13 u14 u18 u19 u20 u21 u22
  go_wp2_with fail
  first | refine ⟨?_, rfl, rfl, rfl⟩ | refine ⟨?_, rfl, rfl⟩ | refine ⟨?_, rfl⟩ | skip
  exact ⟨rfl, rfl, by
   intro p hp
   simp only [List.mem_cons, List.not_mem_nil, or_false] at hp
   rcases hp with rfl | rfl | rfl | rfl | rfl | rfl | rfl | rfl | rfl | rfl | rfl | rfl <;> first | rfl | exact congrArg I (by omega) | exact congrArg Value.bool (by simp)⟩

set_option maxHeartbeats 4000000 in
set_option maxRecDepth 100000 in
theorem t43_wpe {v : World} {a : Act} {n0 x d f s w : Int} {wb : Nat} {sc an tr : Value} {k sb : Nat} {pb : Nat} {ne po : Int}  (c4 : v.cell? ⟨sb, 4, none⟩ = some (I ne)) (pp : v.cell? ⟨pb, 0, none⟩ = some (I po)) (h1 : ne ≠ 50) (h2 : po ≠ 2) (hA : Fl 223 [(1, I n0), (2, sc), (8, Pt wb 0), (9, an), (11, I d), (12, I f), (13, I s), (14, I w), (18, tr), (19, I x), (20, I (k : Int)), (21, Pt sb 0), (22, Pt pb 0)] a) : t43.wp Try.prog (fun e a' w' => e = .normal ∧ Fl 223 [(1, I n0), (2, sc), (8, Pt wb 0), (9, an), (11, I d), (12, I f), (13, I s), (14, I w), (18, tr), (19, I x), (20, I (k : Int)), (21, Pt sb 0)] a' ∧ w'.heap = v.heap ∧ w'.os = v.os ∧ w'.output = v.output) a v := by
  obtain ⟨hsz, hd, hp⟩ := hA
  obtain ⟨u, rfl, hg⟩ := litN hsz hd
  have u1 := (hg 1).symm.trans (hp (1, I n0) (by simp))
  have u2 := (hg 2).symm.trans (hp (2, sc) (by simp))
  have u8 := (hg 8).symm.trans (hp (8, Pt wb 0) (by simp))
  have u9 := (hg 9).symm.trans (hp (9, an) (by simp))
  have u11 := (hg 11).symm.trans (hp (11, I d) (by simp))
  have u12 := (hg 12).symm.trans (hp (12, I f) (by simp))
  have u13 := (hg 13).symm.trans (hp (13, I s) (by simp))
  have u14 := (hg 14).symm.trans (hp (14, I w) (by simp))
  have u18 := (hg 18).symm.trans (hp (18, tr) (by simp))
  have u19 := (hg 19).symm.trans (hp (19, I x) (by simp))
  have u20 := (hg 20).symm.trans (hp (20, I (k : Int)) (by simp))
  have u21 := (hg 21).symm.trans (hp (21, Pt sb 0) (by simp))
  have u22 := (hg 22).symm.trans (hp (22, Pt pb 0) (by simp))
  clear hg hp hsz hd
  have h5 : (ne == 50) = false := by simp [h1]
  have h6 : (po == 2) = false := by simp [h2]
  unfold t43 IT LT CT LB10 Try.f10 seq2 seq1 blockC loopC
  simp only [Option.getD_some, lits, Nat.reduceAdd, u1, u2, u8, u9, u11, u12, u13, u14, u18, u19, u20, u21, u22]
  clear u1 u2 u8 u9 u11 u12 u13 u14 u18 u19 u20 u21 u22
  go_wp2_with fail
  first | refine ⟨?_, rfl, rfl, rfl⟩ | refine ⟨?_, rfl, rfl⟩ | refine ⟨?_, rfl⟩ | skip
  exact ⟨rfl, rfl, by
   intro p hp
   simp only [List.mem_cons, List.not_mem_nil, or_false] at hp
   rcases hp with rfl | rfl | rfl | rfl | rfl | rfl | rfl | rfl | rfl | rfl | rfl | rfl <;> first | rfl | exact congrArg I (by omega) | exact congrArg Value.bool (by simp)⟩

set_option maxHeartbeats 4000000 in
set_option maxRecDepth 100000 in
theorem t43_wp {v : World} {a : Act} {n0 x d f s w : Int} {wb : Nat} {sc an tr : Value} {k sb : Nat} {pb : Nat} {ne po : Int} (c4 : v.cell? ⟨sb, 4, none⟩ = some (I ne)) (pp : v.cell? ⟨pb, 0, none⟩ = some (I po)) (h50 : ne = 50 → n0 ≤ x) (h2 : po = 2 → ne = 0 → n0 ≤ x) (hA : Fl 223 [(1, I n0), (2, sc), (8, Pt wb 0), (9, an), (11, I d), (12, I f), (13, I s), (14, I w), (18, tr), (19, I x), (20, I (k : Int)), (21, Pt sb 0), (22, Pt pb 0)] a) : t43.wp Try.prog (fun e a' w' => e = .normal ∧ Fl 223 [(1, I n0), (2, sc), (8, Pt wb 0), (9, an), (11, I d), (12, I f), (13, I s), (14, I w), (18, tr), (19, I x), (20, I (k : Int)), (21, Pt sb 0)] a' ∧ w'.heap = v.heap ∧ w'.os = v.os ∧ w'.output = v.output) a v := by
  by_cases h1 : ne = 50
  · by_cases h3 : po = 2
    · exact t43_wpa c4 pp h1 h3 (by have := h50 h1; omega) hA
    · exact t43_wpb c4 pp h1 h3 (by have := h50 h1; omega) hA
  · by_cases h3 : po = 2
    · by_cases h4 : ne = 0
      · exact t43_wpc c4 pp h4 h3 (by have := h2 h3 h4; omega) hA
      · exact t43_wpd c4 pp h1 h4 h3 hA
    · exact t43_wpe c4 pp h1 h3 hA
set_option maxHeartbeats 4000000 in
set_option maxRecDepth 100000 in
theorem e45_wpy {v : World} {a : Act} {n0 x d f s w : Int} {wb : Nat} {sc an tr : Value} (h1 : ¬ n0 < f) (h2 : x = f) (h3 : f = n0) (h4 : ¬ 0 < s) (hA : Fl 223 [(1, I n0), (2, sc), (8, Pt wb 0), (9, an), (11, I d), (12, I f), (13, I s), (14, I w), (18, tr), (19, I x)] a) : e45.wp Try.prog (fun e a' w' => e = .normal ∧ Fl 223 [(1, I n0), (2, sc), (8, Pt wb 0), (9, an), (11, I d), (12, I f), (13, I s), (14, I w), (18, tr), (19, I x)] a' ∧ w'.heap = v.heap ∧ w'.os = v.os ∧ w'.output = v.output) a v := by
  obtain ⟨hsz, hd, hp⟩ := hA
  obtain ⟨u, rfl, hg⟩ := litN hsz hd
  have u1 := (hg 1).symm.trans (hp (1, I n0) (by simp))
  have u2 := (hg 2).symm.trans (hp (2, sc) (by simp))
  have u8 := (hg 8).symm.trans (hp (8, Pt wb 0) (by simp))
  have u9 := (hg 9).symm.trans (hp (9, an) (by simp))
  have u11 := (hg 11).symm.trans (hp (11, I d) (by simp))
  have u12 := (hg 12).symm.trans (hp (12, I f) (by simp))
  have u13 := (hg 13).symm.trans (hp (13, I s) (by simp))
  have u14 := (hg 14).symm.trans (hp (14, I w) (by simp))
  have u18 := (hg 18).symm.trans (hp (18, tr) (by simp))
  have u19 := (hg 19).symm.trans (hp (19, I x) (by simp))
  clear hg hp hsz hd
  subst h2 h3
  have h5 : s ≤ 0 := by omega
  unfold e45 LB10 Try.f10 seq2 seq1
  simp only [Option.getD_some, lits, Nat.reduceAdd, u1, u2, u8, u9, u11, u12, u13, u14, u18, u19]
  clear u1 u2 u8 u9 u11 u12 u13 u14 u18 u19
  go_wp2_with fail
  first | refine ⟨?_, rfl, rfl, rfl⟩ | refine ⟨?_, rfl, rfl⟩ | refine ⟨?_, rfl⟩ | skip
  exact ⟨rfl, rfl, by
   intro p hp
   simp only [List.mem_cons, List.not_mem_nil, or_false] at hp
   rcases hp with rfl | rfl | rfl | rfl | rfl | rfl | rfl | rfl | rfl | rfl <;> first | rfl | exact congrArg I (by omega) | exact congrArg Value.bool (by simp)⟩

set_option maxHeartbeats 4000000 in
set_option maxRecDepth 100000 in
theorem e45_wpn {v : World} {a : Act} {n0 x d f s w : Int} {wb : Nat} {sc an tr : Value} (h1 : ¬ n0 < f) (h2 : x = f) (h3 : f ≠ n0) (hA : Fl 223 [(1, I n0), (2, sc), (8, Pt wb 0), (9, an), (11, I d), (12, I f), (13, I s), (14, I w), (18, tr), (19, I x)] a) : e45.wp Try.prog (fun e a' w' => e = .normal ∧ Fl 223 [(1, I n0), (2, sc), (8, Pt wb 0), (9, an), (11, I d), (12, I f), (13, I s), (14, I w), (18, tr), (19, I x)] a' ∧ w'.heap = v.heap ∧ w'.os = v.os ∧ w'.output = v.output) a v := by
  obtain ⟨hsz, hd, hp⟩ := hA
  obtain ⟨u, rfl, hg⟩ := litN hsz hd
  have u1 := (hg 1).symm.trans (hp (1, I n0) (by simp))
  have u2 := (hg 2).symm.trans (hp (2, sc) (by simp))
  have u8 := (hg 8).symm.trans (hp (8, Pt wb 0) (by simp))
  have u9 := (hg 9).symm.trans (hp (9, an) (by simp))
  have u11 := (hg 11).symm.trans (hp (11, I d) (by simp))
  have u12 := (hg 12).symm.trans (hp (12, I f) (by simp))
  have u13 := (hg 13).symm.trans (hp (13, I s) (by simp))
  have u14 := (hg 14).symm.trans (hp (14, I w) (by simp))
  have u18 := (hg 18).symm.trans (hp (18, tr) (by simp))
  have u19 := (hg 19).symm.trans (hp (19, I x) (by simp))
  clear hg hp hsz hd
  subst h2
  have h5 : x ≤ n0 := by omega
  have h6 : (x == n0) = false := by simp [h3]
  unfold e45 LB10 Try.f10 seq2 seq1
  simp only [Option.getD_some, lits, Nat.reduceAdd, u1, u2, u8, u9, u11, u12, u13, u14, u18, u19]
  clear u1 u2 u8 u9 u11 u12 u13 u14 u18 u19
  go_wp2_with fail
  first | refine ⟨?_, rfl, rfl, rfl⟩ | refine ⟨?_, rfl, rfl⟩ | refine ⟨?_, rfl⟩ | skip
  exact ⟨rfl, rfl, by
   intro p hp
   simp only [List.mem_cons, List.not_mem_nil, or_false] at hp
   rcases hp with rfl | rfl | rfl | rfl | rfl | rfl | rfl | rfl | rfl | rfl <;> first | rfl | exact congrArg I (by omega) | exact congrArg Value.bool (by simp)⟩

set_option maxHeartbeats 4000000 in
set_option maxRecDepth 100000 in
theorem e45_wp {v : World} {a : Act} {n0 x d f s w : Int} {wb : Nat} {sc an tr : Value} (h1 : f ≤ n0) (h2 : x = f) (h3 : f = n0 → s ≤ 0) (hA : Fl 223 [(1, I n0), (2, sc), (8, Pt wb 0), (9, an), (11, I d), (12, I f), (13, I s), (14, I w), (18, tr), (19, I x)] a) : e45.wp Try.prog (fun e a' w' => e = .normal ∧ Fl 223 [(1, I n0), (2, sc), (8, Pt wb 0), (9, an), (11, I d), (12, I f), (13, I s), (14, I w), (18, tr), (19, I x)] a' ∧ w'.heap = v.heap ∧ w'.os = v.os ∧ w'.output = v.output) a v := by
  by_cases h4 : f = n0
  · exact e45_wpy (by omega) h2 h4 (by have := h3 h4; omega) hA
  · exact e45_wpn (by omega) h2 h4 hA
set_option maxHeartbeats 4000000 in
set_option maxRecDepth 100000 in
theorem e47_wpy {v : World} {a : Act} {n0 x d f s w : Int} {wb : Nat} {sc an tr : Value} (h1 : n0 ≤ d) (hA : Fl 223 [(1, I n0), (2, sc), (8, Pt wb 0), (9, an), (11, I d), (12, I f), (13, I s), (14, I w), (18, tr), (19, I x)] a) : e47.wp Try.prog (fun e a' w' => e = .ret ∧ Fl 223 [(6, .bool true)] a' ∧ w'.heap = v.heap ∧ w'.os = v.os ∧ w'.output = v.output) a v := by
  obtain ⟨hsz, hd, hp⟩ := hA
  obtain ⟨u, rfl, hg⟩ := litN hsz hd
  have u1 := (hg 1).symm.trans (hp (1, I n0) (by simp))
  have u2 := (hg 2).symm.trans (hp (2, sc) (by simp))
  have u8 := (hg 8).symm.trans (hp (8, Pt wb 0) (by simp))
  have u9 := (hg 9).symm.trans (hp (9, an) (by simp))
  have u11 := (hg 11).symm.trans (hp (11, I d) (by simp))
  have u12 := (hg 12).symm.trans (hp (12, I f) (by simp))
  have u13 := (hg 13).symm.trans (hp (13, I s) (by simp))
  have u14 := (hg 14).symm.trans (hp (14, I w) (by simp))
  have u18 := (hg 18).symm.trans (hp (18, tr) (by simp))
  have u19 := (hg 19).symm.trans (hp (19, I x) (by simp))
  clear hg hp hsz hd
  have h2 : d ≥ n0 := h1
  unfold e47 LB10 Try.f10 seq2
  simp only [Option.getD_some, lits, Nat.reduceAdd, u1, u2, u8, u9, u11, u12, u13, u14, u18, u19]
  clear u1 u2 u8 u9 u11 u12 u13 u14 u18 u19
  go_wp2_with fail
  first | refine ⟨?_, rfl, rfl, rfl⟩ | refine ⟨?_, rfl, rfl⟩ | refine ⟨?_, rfl⟩ | skip
  exact ⟨rfl, rfl, by
   intro p hp
   simp only [List.mem_cons, List.not_mem_nil, or_false] at hp
   rcases hp with rfl <;> first | rfl | exact congrArg I (by omega) | exact congrArg Value.bool (by simp)⟩

set_option maxHeartbeats 4000000 in
set_option maxRecDepth 100000 in
theorem e47_wpn {v : World} {a : Act} {n0 x d f s w : Int} {wb : Nat} {sc an tr : Value} (h1 : d < n0) (h2 : w = 0) (hA : Fl 223 [(1, I n0), (2, sc), (8, Pt wb 0), (9, an), (11, I d), (12, I f), (13, I s), (14, I w), (18, tr), (19, I x)] a) : e47.wp Try.prog (fun e a' w' => e = .ret ∧ Fl 223 [(6, .bool true)] a' ∧ w'.heap = v.heap ∧ w'.os = v.os ∧ w'.output = v.output) a v := by
  obtain ⟨hsz, hd, hp⟩ := hA
  obtain ⟨u, rfl, hg⟩ := litN hsz hd
  have u1 := (hg 1).symm.trans (hp (1, I n0) (by simp))
  have u2 := (hg 2).symm.trans (hp (2, sc) (by simp))
  have u8 := (hg 8).symm.trans (hp (8, Pt wb 0) (by simp))
  have u9 := (hg 9).symm.trans (hp (9, an) (by simp))
  have u11 := (hg 11).symm.trans (hp (11, I d) (by simp))
  have u12 := (hg 12).symm.trans (hp (12, I f) (by simp))
  have u13 := (hg 13).symm.trans (hp (13, I s) (by simp))
  have u14 := (hg 14).symm.trans (hp (14, I w) (by simp))
  have u18 := (hg 18).symm.trans (hp (18, tr) (by simp))
  have u19 := (hg 19).symm.trans (hp (19, I x) (by simp))
  clear hg hp hsz hd
  subst h2
  have h3 : ¬ n0 ≤ d := by omega
  unfold e47 LB10 Try.f10 seq2
  simp only [Option.getD_some, lits, Nat.reduceAdd, u1, u2, u8, u9, u11, u12, u13, u14, u18, u19]
  clear u1 u2 u8 u9 u11 u12 u13 u14 u18 u19
  go_wp2_with fail
  first | refine ⟨?_, rfl, rfl, rfl⟩ | refine ⟨?_, rfl, rfl⟩ | refine ⟨?_, rfl⟩ | skip
  exact ⟨rfl, rfl, by
   intro p hp
   simp only [List.mem_cons, List.not_mem_nil, or_false] at hp
   rcases hp with rfl <;> first | rfl | exact congrArg I (by omega) | exact congrArg Value.bool (by simp)⟩

set_option maxHeartbeats 4000000 in
set_option maxRecDepth 100000 in
theorem e47_wp {v : World} {a : Act} {n0 x d f s w : Int} {wb : Nat} {sc an tr : Value} (h1 : n0 ≤ d ∨ w = 0) (hA : Fl 223 [(1, I n0), (2, sc), (8, Pt wb 0), (9, an), (11, I d), (12, I f), (13, I s), (14, I w), (18, tr), (19, I x)] a) : e47.wp Try.prog (fun e a' w' => e = .ret ∧ Fl 223 [(6, .bool true)] a' ∧ w'.heap = v.heap ∧ w'.os = v.os ∧ w'.output = v.output) a v := by
  by_cases h4 : n0 ≤ d
  · exact e47_wpy h4 hA
  · exact e47_wpn (by omega) (h1.resolve_left h4) hA
set_option maxHeartbeats 4000000 in
set_option maxRecDepth 100000 in
theorem e4_wpa {v : World} {a : Act} {n0 : Int} {wb : Nat} {sc an : Value} {E : Int} (h1 : E = 1) (hA : Fl 223 [(1, I n0), (2, sc), (8, Pt wb 0), (9, an), (7, .bool true), (10, I E)] a) : e4.wp Try.prog (fun e a' w' => e = .ret ∧ Fl 223 [(6, .bool true)] a' ∧ w'.heap = v.heap ∧ w'.os = v.os ∧ w'.output = v.output) a v := by
  obtain ⟨hsz, hd, hp⟩ := hA
  obtain ⟨u, rfl, hg⟩ := litN hsz hd
  have u1 := (hg 1).symm.trans (hp (1, I n0) (by simp))
  have u2 := (hg 2).symm.trans (hp (2, sc) (by simp))
  have u8 := (hg 8).symm.trans (hp (8, Pt wb 0) (by simp))
  have u9 := (hg 9).symm.trans (hp (9, an) (by simp))
  have u7 := (hg 7).symm.trans (hp (7, .bool true) (by simp))
  have u10 := (hg 10).symm.trans (hp (10, I E) (by simp))
  clear hg hp hsz hd
  subst h1
  unfold e4 LB10 Try.f10 seq2 seq1
  simp only [Option.getD_some, lits, Nat.reduceAdd, u1, u2, u8, u9, u7, u10]
  clear u1 u2 u8 u9 u7 u10
  go_wp2_with fail
  first | refine ⟨?_, rfl, rfl, rfl⟩ | refine ⟨?_, rfl, rfl⟩ | refine ⟨?_, rfl⟩ | skip
  exact ⟨rfl, rfl, by
   intro p hp
   simp only [List.mem_cons, List.not_mem_nil, or_false] at hp
   rcases hp with rfl <;> first | rfl | exact congrArg I (by omega) | exact congrArg Value.bool (by simp)⟩

set_option maxHeartbeats 4000000 in
set_option maxRecDepth 100000 in
theorem e4_wpb {v : World} {a : Act} {n0 : Int} {wb : Nat} {sc an : Value} {E : Int} (h1 : E = 2) (hA : Fl 223 [(1, I n0), (2, sc), (8, Pt wb 0), (9, an), (7, .bool true), (10, I E)] a) : e4.wp Try.prog (fun e a' w' => e = .ret ∧ Fl 223 [(6, .bool true)] a' ∧ w'.heap = v.heap ∧ w'.os = v.os ∧ w'.output = v.output) a v := by
  obtain ⟨hsz, hd, hp⟩ := hA
  obtain ⟨u, rfl, hg⟩ := litN hsz hd
  have u1 := (hg 1).symm.trans (hp (1, I n0) (by simp))
  have u2 := (hg 2).symm.trans (hp (2, sc) (by simp))
  have u8 := (hg 8).symm.trans (hp (8, Pt wb 0) (by simp))
  have u9 := (hg 9).symm.trans (hp (9, an) (by simp))
  have u7 := (hg 7).symm.trans (hp (7, .bool true) (by simp))
  have u10 := (hg 10).symm.trans (hp (10, I E) (by simp))
  clear hg hp hsz hd
  subst h1
  unfold e4 LB10 Try.f10 seq2 seq1
  simp only [Option.getD_some, lits, Nat.reduceAdd, u1, u2, u8, u9, u7, u10]
  clear u1 u2 u8 u9 u7 u10
  go_wp2_with fail
  first | refine ⟨?_, rfl, rfl, rfl⟩ | refine ⟨?_, rfl, rfl⟩ | refine ⟨?_, rfl⟩ | skip
  exact ⟨rfl, rfl, by
   intro p hp
   simp only [List.mem_cons, List.not_mem_nil, or_false] at hp
   rcases hp with rfl <;> first | rfl | exact congrArg I (by omega) | exact congrArg Value.bool (by simp)⟩

theorem e4_no {v : World} {a : Act} {n0 : Int} {wb : Nat} {sc an : Value} {E : Int} (h1 : E = 1 ∨ E = 2) (hA : Fl 223 [(1, I n0), (2, sc), (8, Pt wb 0), (9, an), (7, .bool true), (10, I E)] a) : e4.wp Try.prog (fun e a' w' => e = .ret ∧ Fl 223 [(6, .bool true)] a' ∧ w'.heap = v.heap ∧ w'.os = v.os ∧ w'.output = v.output) a v := h1.elim (fun h => e4_wpa h hA) (fun h => e4_wpb h hA)
set_option maxHeartbeats 4000000 in
set_option maxRecDepth 100000 in
theorem e2_wp {v : World} {a : Act} {s1 s2 : Value} (p : Option Addr) (cap vb vo : Nat) (xs : List Int) (hp : 0 < xs.length → p = some ⟨vb, vo, none⟩) (hx1 : xs.length ≤ 17592186043904) (hv : ∀ k x, xs[k]? = some x → v.cell? ⟨vb, vo + k, none⟩ = some (I x)) (hA : Fl 223 [(0, .slice p xs.length cap), (1, s1), (2, s2), (7, .bool true)] a) :
    e2.wp Try.prog (fun e a w' => e = .normal ∧ ∃ wb bk sc, Fl 223 [(1, s1), (2, s2), (7, .bool true), (8, Pt wb 0)] a ∧ IsNew v xs wb bk sc w') a v := by
  have H7 : Hid (Calls Try.prog 18 #[.slice p xs.length cap] v _) := ⟨(body7A p vb vo cap xs hp hx1 hv).calls Try.func18 rfl⟩
  clear hp hx1 hv
  obtain ⟨hsz, hd, hp⟩ := hA
  obtain ⟨u, rfl, hg⟩ := litN hsz hd
  have u0 := (hg 0).symm.trans (hp (0, .slice p xs.length cap) (by simp))
  have u1 := (hg 1).symm.trans (hp (1, s1) (by simp))
  have u2 := (hg 2).symm.trans (hp (2, s2) (by simp))
  have u7 := (hg 7).symm.trans (hp (7, .bool true) (by simp))
  clear hg hp hsz hd
  unfold e2 LB10 Try.f10 seq2 seq1
  simp only [Option.getD_some, lits, Nat.reduceAdd, u0, u1, u2, u7]
  clear u0 u1 u2 u7
  go_wp2_with (first
    | (go_at_call 18; refine H7.out.mono ?_; rintro e w1 ⟨_, rfl, wb, bk, sc, rfl, hnew⟩))
  exact ⟨wb, ⟨rfl, rfl, by
   intro p hp
   simp only [List.mem_cons, List.not_mem_nil, or_false] at hp
   rcases hp with rfl | rfl | rfl | rfl <;> first | rfl | exact congrArg I (by omega) | exact congrArg Value.bool (by simp)⟩, bk, sc, hnew⟩

set_option maxHeartbeats 4000000 in
set_option maxRecDepth 100000 in
theorem e31_wp {v : World} {a : Act} {n0 d f s w : Int} {sc an : Value} {S : TS} {z : Nat → Option Nat} (hR : Rep z S v) (hn : S.n * 40 ≤ 140737488355328) (h1 : ∀ u ∈ S.tr, u.oneCell' = true) (hA : Fl 223 [(1, I n0), (2, sc), (8, Pt S.wb 0), (9, an), (11, I d), (12, I f), (13, I s), (14, I w)] a) :
    e31.wp Try.prog (fun e a w' => e = .normal ∧ ∃ p g cap, Fl 223 [(1, I n0), (2, sc), (8, Pt S.wb 0), (9, an), (11, I d), (12, I f), (13, I s), (14, I w), (18, .slice p S.n cap)] a ∧ (0 < S.n → p = some ⟨g, 0, none⟩ ∧ v.heap.size ≤ g) ∧ (∀ j u, S.tr[j]? = some u → w'.cell? ⟨g, j, none⟩ = some u) ∧ Grows v w') a v := by
  have H9 : Hid (Calls Try.prog 20 #[Pt S.wb 0] v _) := ⟨(body9A hR hn h1).calls Try.func20 rfl⟩
  clear hR hn h1
  obtain ⟨hsz, hd, hp⟩ := hA
  obtain ⟨u, rfl, hg⟩ := litN hsz hd
  have u1 := (hg 1).symm.trans (hp (1, I n0) (by simp))
  have u2 := (hg 2).symm.trans (hp (2, sc) (by simp))
  have u8 := (hg 8).symm.trans (hp (8, Pt S.wb 0) (by simp))
  have u9 := (hg 9).symm.trans (hp (9, an) (by simp))
  have u11 := (hg 11).symm.trans (hp (11, I d) (by simp))
  have u12 := (hg 12).symm.trans (hp (12, I f) (by simp))
  have u13 := (hg 13).symm.trans (hp (13, I s) (by simp))
  have u14 := (hg 14).symm.trans (hp (14, I w) (by simp))
  clear hg hp hsz hd
  unfold e31 LB10 Try.f10 seq2 seq1
  simp only [Option.getD_some, lits, Nat.reduceAdd, u1, u2, u8, u9, u11, u12, u13, u14]
  clear u1 u2 u8 u9 u11 u12 u13 u14
  go_wp2_with (first
    | (go_at_call 20; refine H9.out.mono ?_; rintro e w1 ⟨_, rfl, p, g, cap, rfl, k1, k2, k3⟩))
  exact ⟨p, ⟨cap, ⟨rfl, rfl, by
   intro p hp
   simp only [List.mem_cons, List.not_mem_nil, or_false] at hp
   rcases hp with rfl | rfl | rfl | rfl | rfl | rfl | rfl | rfl | rfl <;> first | rfl | exact congrArg I (by omega) | exact congrArg Value.bool (by simp)⟩⟩, g, k1, k2⟩

theorem fine_e4 : fineCode Try.prog true LV e4 := fineCode_askS callV extT (by kernel_rfl)
theorem fine_e6 : fineCode Try.prog true LV e6 := fineCode_askS callV extT (by kernel_rfl)
theorem fine_e8 : fineCode Try.prog true LV e8 := fineCode_askS callV extT (by kernel_rfl)
theorem fine_e9 : fineCode Try.prog true LV e9 := fineCode_askS callV extT (by kernel_rfl)
theorem fine_e10 : fineCode Try.prog true LV e10 := fineCode_askS callV extT (by kernel_rfl)
theorem fine_e11 : fineCode Try.prog true LV e11 := fineCode_askS callV extT (by kernel_rfl)
theorem fine_e32 : fineCode Try.prog true LV e32 := fineCode_askS callV extT (by kernel_rfl)
theorem fine_e33 : fineCode Try.prog true LV e33 := fineCode_askS callV extT (by kernel_rfl)
theorem fine_t34 : fineCode Try.prog true LV t34 := fineCode_askS callV extT (by kernel_rfl)
theorem fine_t35 : fineCode Try.prog true LV t35 := fineCode_askS callV extT (by kernel_rfl)
theorem fine_t36 : fineCode Try.prog true LV t36 := fineCode_askS callV extT (by kernel_rfl)
theorem fine_t37 : fineCode Try.prog true LV t37 := fineCode_askS callV extT (by kernel_rfl)
theorem fine_t38 : fineCode Try.prog true LV t38 := fineCode_askS callV extT (by kernel_rfl)
theorem fine_t39 : fineCode Try.prog true LV t39 := fineCode_askS callV extT (by kernel_rfl)
theorem fine_t40 : fineCode Try.prog true LV t40 := fineCode_askS callV extT (by kernel_rfl)
theorem fine_t42 : fineCode Try.prog true LV t42 := fineCode_askS callV extT (by kernel_rfl)
theorem fine_t43 : fineCode Try.prog true LV t43 := fineCode_askS callV extT (by kernel_rfl)
theorem fine_e45 : fineCode Try.prog true LV e45 := fineCode_askS callV extT (by kernel_rfl)
theorem fine_e47 : fineCode Try.prog true LV e47 := fineCode_askS callV extT (by kernel_rfl)
theorem fine_e2 : fineCode Try.prog true LV e2 := fineCode_askS callV extT (by kernel_rfl)
theorem fine_e31 : fineCode Try.prog true LV e31 := fineCode_askS callV extT (by kernel_rfl)
end Go.Proofs.Ytfjjoohflcchnaa.Gen
