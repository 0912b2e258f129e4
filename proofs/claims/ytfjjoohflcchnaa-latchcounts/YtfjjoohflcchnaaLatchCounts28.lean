/- LatchCounts: whatever the schedule, the number and the scripts, what the calls are told and what the trace says of the number is as the law asks. Part 28 of 35. (Joined, by program, of: La10b.) -/
import Derived.Test.YtfjjoohflcchnaaLatchCounts27
set_option linter.unusedSimpArgs false
set_option linter.unusedVariables false
namespace Go.Proofs.Ytfjjoohflcchnaa.Gen
open Go Go.Lift Go.Conc Go.RowKit

set_option maxHeartbeats 4000000 in
set_option maxRecDepth 100000 in
theorem e12_wp {v : World} {a : Act} {n0 d f s w : Int} {wb : Nat} {sc an : Value}  (hA : Fl 223 [(1, I n0), (2, sc), (8, Pt wb 0), (9, an), (11, I d), (12, I f), (13, I s), (14, I w)] a) : e12.wp Try.prog (fun e a' w' => e = .normal ∧ Fl 223 [(1, I n0), (2, sc), (8, Pt wb 0), (9, an), (11, I d), (12, I f), (13, I s), (14, I w), (15, I 0)] a' ∧ w'.heap = v.heap ∧ w'.os = v.os ∧ w'.output = v.output) a v := by
  obtain ⟨hsz, hd, hp⟩ := hA
  obtain ⟨u, rfl, hg⟩ := litN hsz hd
  have u1 := (hg 1).symm.trans (hp (1, I n0) (by simp))
  have u2 := (hg 2).symm.trans (hp (2, sc) (by simp))
  have u8 := (hg 8).symm.trans (hp (8, Pt wb 0) (by simp))
  have u9 := (hg 9).symm.trans (hp (9, an) (by simp))
  have u11 := (hg 11).symm.trans (hp (11, I d) (by simp))
  have u12 := (hg 12).symm.trans (hp (12, I f) (by simp))
  have u13 := (hg 13).symm.trans (hp (13, I s) (by simp))
  have u14 := (hg 14).symm.trans (hp (14, I w) (by simp))
  clear hg hp hsz hd
  unfold e12 CA LB10 Try.f10 seq2 seq1
  simp only [Option.getD_some, lits, Nat.reduceAdd, u1, u2, u8, u9, u11, u12, u13, u14]
  clear u1 u2 u8 u9 u11 u12 u13 u14
  go_wp2_with fail
  first | refine ⟨?_, rfl, rfl, rfl⟩ | refine ⟨?_, rfl, rfl⟩ | refine ⟨?_, rfl⟩ | skip
  exact ⟨rfl, rfl, by
   intro p hp
   simp only [List.mem_cons, List.not_mem_nil, or_false] at hp
   rcases hp with rfl | rfl | rfl | rfl | rfl | rfl | rfl | rfl | rfl <;> first | rfl | exact congrArg I (by omega) | exact congrArg Value.bool (by simp)⟩

set_option maxHeartbeats 4000000 in
set_option maxRecDepth 100000 in
theorem a13_wp {v : World} {a : Act} {n0 d f s w : Int} {wb : Nat} {sc an : Value} {i n cc : Nat} {p : Option Addr} (ha : an = .slice p n cc) (hA : Fl 223 [(1, I n0), (2, sc), (8, Pt wb 0), (9, an), (11, I d), (12, I f), (13, I s), (14, I w), (15, I (i : Int))] a) : a13.wp Try.prog (fun e a' w' => e = .normal ∧ Fl 223 [(1, I n0), (2, sc), (8, Pt wb 0), (9, an), (11, I d), (12, I f), (13, I s), (14, I w), (15, I (i : Int)), (56, .bool (decide ((i : Int) < (n : Int))))] a' ∧ w'.heap = v.heap ∧ w'.os = v.os ∧ w'.output = v.output) a v := by
  obtain ⟨hsz, hd, hp⟩ := hA
  obtain ⟨u, rfl, hg⟩ := litN hsz hd
  have u1 := (hg 1).symm.trans (hp (1, I n0) (by simp))
  have u2 := (hg 2).symm.trans (hp (2, sc) (by simp))
  have u8 := (hg 8).symm.trans (hp (8, Pt wb 0) (by simp))
  have u9 := (hg 9).symm.trans (hp (9, an) (by simp))
  have u11 := (hg 11).symm.trans (hp (11, I d) (by simp))
  have u12 := (hg 12).symm.trans (hp (12, I f) (by simp))
  have u13 := (hg 13).symm.trans (hp (13, I s) (by simp))
  have u14 := (hg 14).symm.trans (hp (14, I w) (by simp))
  have u15 := (hg 15).symm.trans (hp (15, I (i : Int)) (by simp))
  clear hg hp hsz hd
  subst ha
  unfold a13 LA CA LB10 Try.f10 seq2 seq1 blockC loopC
  simp only [Option.getD_some, lits, Nat.reduceAdd, u1, u2, u8, u9, u11, u12, u13, u14, u15]
  clear u1 u2 u8 u9 u11 u12 u13 u14 u15
  go_wp2_with fail
  first | refine ⟨?_, rfl, rfl, rfl⟩ | refine ⟨?_, rfl, rfl⟩ | refine ⟨?_, rfl⟩ | skip
  exact ⟨rfl, rfl, by
   intro p hp
   simp only [List.mem_cons, List.not_mem_nil, or_false] at hp
   rcases hp with rfl | rfl | rfl | rfl | rfl | rfl | rfl | rfl | rfl | rfl <;> first | rfl | exact congrArg I (by omega) | exact congrArg Value.bool (by simp)⟩

set_option maxHeartbeats 4000000 in
set_option maxRecDepth 100000 in
theorem a14_wp {v : World} {a : Act} {n0 d f s w : Int} {wb : Nat} {sc an : Value} {i : Nat} (h9 : wrap64 ((i : Int) + 1) = ((i + 1 : Nat) : Int)) (hA : Fl 223 [(1, I n0), (2, sc), (8, Pt wb 0), (9, an), (11, I d), (12, I f), (13, I s), (14, I w), (15, I (i : Int))] a) : a14.wp Try.prog (fun e a' w' => e = .normal ∧ Fl 223 [(1, I n0), (2, sc), (8, Pt wb 0), (9, an), (11, I d), (12, I f), (13, I s), (14, I w), (15, I ((i + 1 : Nat) : Int))] a' ∧ w'.heap = v.heap ∧ w'.os = v.os ∧ w'.output = v.output) a v := by
  obtain ⟨hsz, hd, hp⟩ := hA
  obtain ⟨u, rfl, hg⟩ := litN hsz hd
  have u1 := (hg 1).symm.trans (hp (1, I n0) (by simp))
  have u2 := (hg 2).symm.trans (hp (2, sc) (by simp))
  have u8 := (hg 8).symm.trans (hp (8, Pt wb 0) (by simp))
  have u9 := (hg 9).symm.trans (hp (9, an) (by simp))
  have u11 := (hg 11).symm.trans (hp (11, I d) (by simp))
  have u12 := (hg 12).symm.trans (hp (12, I f) (by simp))
  have u13 := (hg 13).symm.trans (hp (13, I s) (by simp))
  have u14 := (hg 14).symm.trans (hp (14, I w) (by simp))
  have u15 := (hg 15).symm.trans (hp (15, I (i : Int)) (by simp))
  clear hg hp hsz hd
  unfold a14 LA CA LB10 Try.f10 seq2 seq1 blockC loopC
  simp only [Option.getD_some, lits, Nat.reduceAdd, u1, u2, u8, u9, u11, u12, u13, u14, u15]
  clear u1 u2 u8 u9 u11 u12 u13 u14 u15
  go_wp2_with fail
  first | refine ⟨?_, rfl, rfl, rfl⟩ | refine ⟨?_, rfl, rfl⟩ | refine ⟨?_, rfl⟩ | skip
  exact ⟨rfl, rfl, by
   intro p hp
   simp only [List.mem_cons, List.not_mem_nil, or_false] at hp
   rcases hp with rfl | rfl | rfl | rfl | rfl | rfl | rfl | rfl | rfl <;> first | rfl | exact congrArg I (by omega) | exact congrArg Value.bool (by simp)⟩

set_option maxHeartbeats 4000000 in
set_option maxRecDepth 100000 in
theorem a15_wp {v : World} {a : Act} {n0 d f s w : Int} {wb : Nat} {sc an : Value} {i n M b o cap ln ca cp : Nat} {pa pc : Option Addr} (ha : an = .slice (some ⟨M, 0, none⟩) n n) (hs : sc = .slice (some ⟨b, o, none⟩) n cap) (hin : i < n) (a1 : v.cell? ⟨M, i, none⟩ = some (.slice pa ln ca)) (a2 : v.cell? ⟨b, o + i, none⟩ = some (.slice pc ln cp)) (hA : Fl 223 [(1, I n0), (2, sc), (8, Pt wb 0), (9, an), (11, I d), (12, I f), (13, I s), (14, I w), (15, I (i : Int))] a) : a15.wp Try.prog (fun e a' w' => e = .normal ∧ Fl 223 [(1, I n0), (2, sc), (8, Pt wb 0), (9, an), (11, I d), (12, I f), (13, I s), (14, I w), (15, I (i : Int))] a' ∧ w'.heap = v.heap ∧ w'.os = v.os ∧ w'.output = v.output) a v := by
  obtain ⟨hsz, hd, hp⟩ := hA
  obtain ⟨u, rfl, hg⟩ := litN hsz hd
  have u1 := (hg 1).symm.trans (hp (1, I n0) (by simp))
  have u2 := (hg 2).symm.trans (hp (2, sc) (by simp))
  have u8 := (hg 8).symm.trans (hp (8, Pt wb 0) (by simp))
  have u9 := (hg 9).symm.trans (hp (9, an) (by simp))
  have u11 := (hg 11).symm.trans (hp (11, I d) (by simp))
  have u12 := (hg 12).symm.trans (hp (12, I f) (by simp))
  have u13 := (hg 13).symm.trans (hp (13, I s) (by simp))
  have u14 := (hg 14).symm.trans (hp (14, I w) (by simp))
  have u15 := (hg 15).symm.trans (hp (15, I (i : Int)) (by simp))
  clear hg hp hsz hd
  subst ha hs
  have hin' : (i : Int) < (n : Int) := by omega
  have hnl : ¬ n ≤ i := by omega
  unfold a15 IA LA CA LB10 Try.f10 seq2 seq1 blockC loopC
  simp only [Option.getD_some, lits, Nat.reduceAdd, u1, u2, u8, u9, u11, u12, u13, u14, u15]
  clear u1 u2 u8 u9 u11 u12 u13 u14 u15
  go_wp2_with fail
  go_quiet (fail)
  go_wp2_with fail
  first | refine ⟨?_, rfl, rfl, rfl⟩ | refine ⟨?_, rfl, rfl⟩ | refine ⟨?_, rfl⟩ | skip
  exact ⟨rfl, rfl, by
   intro p hp
   simp only [List.mem_cons, List.not_mem_nil, or_false] at hp
   rcases hp with rfl | rfl | rfl | rfl | rfl | rfl | rfl | rfl | rfl <;> first | rfl | exact congrArg I (by omega) | exact congrArg Value.bool (by simp)⟩

set_option maxHeartbeats 4000000 in
set_option maxRecDepth 100000 in
theorem a17_wp {v : World} {a : Act} {n0 d f s w : Int} {wb : Nat} {sc an : Value} {i : Nat}  (hA : Fl 223 [(1, I n0), (2, sc), (8, Pt wb 0), (9, an), (11, I d), (12, I f), (13, I s), (14, I w), (15, I (i : Int))] a) : a17.wp Try.prog (fun e a' w' => e = .normal ∧ Fl 223 [(1, I n0), (2, sc), (8, Pt wb 0), (9, an), (11, I d), (12, I f), (13, I s), (14, I w), (15, I (i : Int)), (16, I 0)] a' ∧ w'.heap = v.heap ∧ w'.os = v.os ∧ w'.output = v.output) a v := by
  obtain ⟨hsz, hd, hp⟩ := hA
  obtain ⟨u, rfl, hg⟩ := litN hsz hd
  have u1 := (hg 1).symm.trans (hp (1, I n0) (by simp))
  have u2 := (hg 2).symm.trans (hp (2, sc) (by simp))
  have u8 := (hg 8).symm.trans (hp (8, Pt wb 0) (by simp))
  have u9 := (hg 9).symm.trans (hp (9, an) (by simp))
  have u11 := (hg 11).symm.trans (hp (11, I d) (by simp))
  have u12 := (hg 12).symm.trans (hp (12, I f) (by simp))
  have u13 := (hg 13).symm.trans (hp (13, I s) (by simp))
  have u14 := (hg 14).symm.trans (hp (14, I w) (by simp))
  have u15 := (hg 15).symm.trans (hp (15, I (i : Int)) (by simp))
  clear hg hp hsz hd
  unfold a17 IA LA CA LB10 Try.f10 seq2 seq1 blockC loopC
  simp only [Option.getD_some, lits, Nat.reduceAdd, u1, u2, u8, u9, u11, u12, u13, u14, u15]
  clear u1 u2 u8 u9 u11 u12 u13 u14 u15
  go_wp2_with fail
  first | refine ⟨?_, rfl, rfl, rfl⟩ | refine ⟨?_, rfl, rfl⟩ | refine ⟨?_, rfl⟩ | skip
  exact ⟨rfl, rfl, by
   intro p hp
   simp only [List.mem_cons, List.not_mem_nil, or_false] at hp
   rcases hp with rfl | rfl | rfl | rfl | rfl | rfl | rfl | rfl | rfl | rfl <;> first | rfl | exact congrArg I (by omega) | exact congrArg Value.bool (by simp)⟩

set_option maxHeartbeats 4000000 in
set_option maxRecDepth 100000 in
theorem a18_wp {v : World} {a : Act} {n0 d f s w : Int} {wb : Nat} {sc an : Value} {i k n M ln ca : Nat} {pa : Option Addr} (ha : an = .slice (some ⟨M, 0, none⟩) n n) (hin : i < n) (a1 : v.cell? ⟨M, i, none⟩ = some (.slice pa ln ca)) (hA : Fl 223 [(1, I n0), (2, sc), (8, Pt wb 0), (9, an), (11, I d), (12, I f), (13, I s), (14, I w), (15, I (i : Int)), (16, I (k : Int))] a) : a18.wp Try.prog (fun e a' w' => e = .normal ∧ Fl 223 [(1, I n0), (2, sc), (8, Pt wb 0), (9, an), (11, I d), (12, I f), (13, I s), (14, I w), (15, I (i : Int)), (16, I (k : Int)), (76, .bool (decide ((k : Int) < (ln : Int))))] a' ∧ w'.heap = v.heap ∧ w'.os = v.os ∧ w'.output = v.output) a v := by
  obtain ⟨hsz, hd, hp⟩ := hA
  obtain ⟨u, rfl, hg⟩ := litN hsz hd
  have u1 := (hg 1).symm.trans (hp (1, I n0) (by simp))
  have u2 := (hg 2).symm.trans (hp (2, sc) (by simp))
  have u8 := (hg 8).symm.trans (hp (8, Pt wb 0) (by simp))
  have u9 := (hg 9).symm.trans (hp (9, an) (by simp))
  have u11 := (hg 11).symm.trans (hp (11, I d) (by simp))
  have u12 := (hg 12).symm.trans (hp (12, I f) (by simp))
  have u13 := (hg 13).symm.trans (hp (13, I s) (by simp))
  have u14 := (hg 14).symm.trans (hp (14, I w) (by simp))
  have u15 := (hg 15).symm.trans (hp (15, I (i : Int)) (by simp))
  have u16 := (hg 16).symm.trans (hp (16, I (k : Int)) (by simp))
  clear hg hp hsz hd
  subst ha
  have hin' : (i : Int) < (n : Int) := by omega
  have hnl : ¬ n ≤ i := by omega
  unfold a18 LJ IA LA CA LB10 Try.f10 seq2 seq1 blockC loopC
  simp only [Option.getD_some, lits, Nat.reduceAdd, u1, u2, u8, u9, u11, u12, u13, u14, u15, u16]
  clear u1 u2 u8 u9 u11 u12 u13 u14 u15 u16
  go_wp2_with fail
  first | refine ⟨?_, rfl, rfl, rfl⟩ | refine ⟨?_, rfl, rfl⟩ | refine ⟨?_, rfl⟩ | skip
  exact ⟨rfl, rfl, by
   intro p hp
   simp only [List.mem_cons, List.not_mem_nil, or_false] at hp
   rcases hp with rfl | rfl | rfl | rfl | rfl | rfl | rfl | rfl | rfl | rfl | rfl <;> first | rfl | exact congrArg I (by omega) | exact congrArg Value.bool (by simp)⟩

set_option maxHeartbeats 4000000 in
set_option maxRecDepth 100000 in
theorem a20_wp {v : World} {a : Act} {n0 d f s w : Int} {wb : Nat} {sc an : Value} {i k n M ln ca A : Nat} {ec : Int} (ha : an = .slice (some ⟨M, 0, none⟩) n n) (hin : i < n) (a1 : v.cell? ⟨M, i, none⟩ = some (.slice (some ⟨A, 0, none⟩) ln ca)) (hkl : k < ln) (a3 : v.cell? ⟨A, k * 2, none⟩ = some (I ec)) (hA : Fl 223 [(1, I n0), (2, sc), (8, Pt wb 0), (9, an), (11, I d), (12, I f), (13, I s), (14, I w), (15, I (i : Int)), (16, I (k : Int))] a) : a20.wp Try.prog (fun e a' w' => e = .normal ∧ Fl 223 [(1, I n0), (2, sc), (8, Pt wb 0), (9, an), (11, I d), (12, I f), (13, I s), (14, I w), (15, I (i : Int)), (16, I (k : Int)), (17, I ec)] a' ∧ w'.heap = v.heap ∧ w'.os = v.os ∧ w'.output = v.output) a v := by
  obtain ⟨hsz, hd, hp⟩ := hA
  obtain ⟨u, rfl, hg⟩ := litN hsz hd
  have u1 := (hg 1).symm.trans (hp (1, I n0) (by simp))
  have u2 := (hg 2).symm.trans (hp (2, sc) (by simp))
  have u8 := (hg 8).symm.trans (hp (8, Pt wb 0) (by simp))
  have u9 := (hg 9).symm.trans (hp (9, an) (by simp))
  have u11 := (hg 11).symm.trans (hp (11, I d) (by simp))
  have u12 := (hg 12).symm.trans (hp (12, I f) (by simp))
  have u13 := (hg 13).symm.trans (hp (13, I s) (by simp))
  have u14 := (hg 14).symm.trans (hp (14, I w) (by simp))
  have u15 := (hg 15).symm.trans (hp (15, I (i : Int)) (by simp))
  have u16 := (hg 16).symm.trans (hp (16, I (k : Int)) (by simp))
  clear hg hp hsz hd
  subst ha
  have hin' : (i : Int) < (n : Int) := by omega
  have hnl : ¬ n ≤ i := by omega
  have hkl' : (k : Int) < (ln : Int) := by omega
  unfold a20 IJ LJ IA LA CA LB10 Try.f10 seq2 seq1 blockC loopC
  simp only [Option.getD_some, lits, Nat.reduceAdd, u1, u2, u8, u9, u11, u12, u13, u14, u15, u16]
  clear u1 u2 u8 u9 u11 u12 u13 u14 u15 u16
  go_wp2_with fail
  first | refine ⟨?_, rfl, rfl, rfl⟩ | refine ⟨?_, rfl, rfl⟩ | refine ⟨?_, rfl⟩ | skip
  exact ⟨rfl, rfl, by
   intro p hp
   simp only [List.mem_cons, List.not_mem_nil, or_false] at hp
   rcases hp with rfl | rfl | rfl | rfl | rfl | rfl | rfl | rfl | rfl | rfl | rfl <;> first | rfl | exact congrArg I (by omega) | exact congrArg Value.bool (by simp)⟩

set_option maxHeartbeats 4000000 in
set_option maxRecDepth 100000 in
theorem a21_wp {v : World} {a : Act} {n0 d f s w : Int} {wb : Nat} {sc an : Value} {i k n b o cap ln cp rb ro : Nat} {ec po : Int} (hs : sc = .slice (some ⟨b, o, none⟩) n cap) (hin : i < n) (a2 : v.cell? ⟨b, o + i, none⟩ = some (.slice (some ⟨rb, ro, none⟩) ln cp)) (hkl : k < ln) (a3 : v.cell? ⟨rb, ro + k * 4, none⟩ = some (I po)) (hA : Fl 223 [(1, I n0), (2, sc), (8, Pt wb 0), (9, an), (11, I d), (12, I f), (13, I s), (14, I w), (15, I (i : Int)), (16, I (k : Int)), (17, I ec)] a) : a21.wp Try.prog (fun e a' w' => e = .normal ∧ Fl 223 [(1, I n0), (2, sc), (8, Pt wb 0), (9, an), (11, I d), (12, I f), (13, I s), (14, I w), (15, I (i : Int)), (16, I (k : Int)), (17, I ec), (94, I po)] a' ∧ w'.heap = v.heap ∧ w'.os = v.os ∧ w'.output = v.output) a v := by
  obtain ⟨hsz, hd, hp⟩ := hA
  obtain ⟨u, rfl, hg⟩ := litN hsz hd
  have u1 := (hg 1).symm.trans (hp (1, I n0) (by simp))
  have u2 := (hg 2).symm.trans (hp (2, sc) (by simp))
  have u8 := (hg 8).symm.trans (hp (8, Pt wb 0) (by simp))
  have u9 := (hg 9).symm.trans (hp (9, an) (by simp))
  have u11 := (hg 11).symm.trans (hp (11, I d) (by simp))
  have u12 := (hg 12).symm.trans (hp (12, I f) (by simp))
  have u13 := (hg 13).symm.trans (hp (13, I s) (by simp))
  have u14 := (hg 14).symm.trans (hp (14, I w) (by simp))
  have u15 := (hg 15).symm.trans (hp (15, I (i : Int)) (by simp))
  have u16 := (hg 16).symm.trans (hp (16, I (k : Int)) (by simp))
  have u17 := (hg 17).symm.trans (hp (17, I ec) (by simp))
  clear hg hp hsz hd
  subst hs
  have hin' : (i : Int) < (n : Int) := by omega
  have hnl : ¬ n ≤ i := by omega
  have hkl' : (k : Int) < (ln : Int) := by omega
  unfold a21 IJ LJ IA LA CA LB10 Try.f10 seq2 seq1 blockC loopC
  simp only [Option.getD_some, lits, Nat.reduceAdd, u1, u2, u8, u9, u11, u12, u13, u14, u15, u16, u17]
  clear u1 u2 u8 u9 u11 u12 u13 u14 u15 u16 u17
  go_wp2_with fail
  first | refine ⟨?_, rfl, rfl, rfl⟩ | refine ⟨?_, rfl, rfl⟩ | refine ⟨?_, rfl⟩ | skip
  exact ⟨rfl, rfl, by
   intro p hp
   simp only [List.mem_cons, List.not_mem_nil, or_false] at hp
   rcases hp with rfl | rfl | rfl | rfl | rfl | rfl | rfl | rfl | rfl | rfl | rfl | rfl <;> first | rfl | exact congrArg I (by omega) | exact congrArg Value.bool (by simp)⟩

set_option maxHeartbeats 4000000 in
set_option maxRecDepth 100000 in
theorem a22_wp {v : World} {a : Act} {n0 d f s w : Int} {wb : Nat} {sc an : Value} {i k : Nat} {ec po : Int}  (hA : Fl 223 [(1, I n0), (2, sc), (8, Pt wb 0), (9, an), (11, I d), (12, I f), (13, I s), (14, I w), (15, I (i : Int)), (16, I (k : Int)), (17, I ec), (94, I po)] a) : a22.wp Try.prog (fun e a' w' => e = .normal ∧ Fl 223 [(1, I n0), (2, sc), (8, Pt wb 0), (9, an), (11, I d), (12, I f), (13, I s), (14, I w), (15, I (i : Int)), (16, I (k : Int)), (17, I ec), (94, I po), (95, .bool (po == 1))] a' ∧ w'.heap = v.heap ∧ w'.os = v.os ∧ w'.output = v.output) a v := by
  obtain ⟨hsz, hd, hp⟩ := hA
  obtain ⟨u, rfl, hg⟩ := litN hsz hd
  have u1 := (hg 1).symm.trans (hp (1, I n0) (by simp))
  have u2 := (hg 2).symm.trans (hp (2, sc) (by simp))
  have u8 := (hg 8).symm.trans (hp (8, Pt wb 0) (by simp))
  have u9 := (hg 9).symm.trans (hp (9, an) (by simp))
  have u11 := (hg 11).symm.trans (hp (11, I d) (by simp))
  have u12 := (hg 12).symm.trans (hp (12, I f) (by simp))
  have u13 := (hg 13).symm.trans (hp (13, I s) (by simp))
  have u14 := (hg 14).symm.trans (hp (14, I w) (by simp))
  have u15 := (hg 15).symm.trans (hp (15, I (i : Int)) (by simp))
  have u16 := (hg 16).symm.trans (hp (16, I (k : Int)) (by simp))
  have u17 := (hg 17).symm.trans (hp (17, I ec) (by simp))
  have u94 := (hg 94).symm.trans (hp (94, I po) (by simp))
  clear hg hp hsz hd
  unfold a22 SJ IJ LJ IA LA CA LB10 Try.f10 seq2 seq1 blockC loopC
  simp only [Option.getD_some, lits, Nat.reduceAdd, u1, u2, u8, u9, u11, u12, u13, u14, u15, u16, u17, u94]
  clear u1 u2 u8 u9 u11 u12 u13 u14 u15 u16 u17 u94
  go_wp2_with fail
  first | refine ⟨?_, rfl, rfl, rfl⟩ | refine ⟨?_, rfl, rfl⟩ | refine ⟨?_, rfl⟩ | skip
  exact ⟨rfl, rfl, by
   intro p hp
   simp only [List.mem_cons, List.not_mem_nil, or_false] at hp
   rcases hp with rfl | rfl | rfl | rfl | rfl | rfl | rfl | rfl | rfl | rfl | rfl | rfl | rfl <;> first | rfl | exact congrArg I (by omega) | exact congrArg Value.bool (by simp)⟩

set_option maxHeartbeats 4000000 in
set_option maxRecDepth 100000 in
theorem a23_wp {v : World} {a : Act} {n0 d f s w : Int} {wb : Nat} {sc an : Value} {i k : Nat} {ec po : Int} (h9 : wrap64 (d + 1) = d + 1) (hA : Fl 223 [(1, I n0), (2, sc), (8, Pt wb 0), (9, an), (11, I d), (12, I f), (13, I s), (14, I w), (15, I (i : Int)), (16, I (k : Int)), (17, I ec), (94, I po)] a) : a23.wp Try.prog (fun e a' w' => e = .normal ∧ Fl 223 [(1, I n0), (2, sc), (8, Pt wb 0), (9, an), (11, I (d + 1)), (12, I f), (13, I s), (14, I w), (15, I (i : Int)), (16, I (k : Int)), (17, I ec), (94, I po)] a' ∧ w'.heap = v.heap ∧ w'.os = v.os ∧ w'.output = v.output) a v := by
  obtain ⟨hsz, hd, hp⟩ := hA
  obtain ⟨u, rfl, hg⟩ := litN hsz hd
  have u1 := (hg 1).symm.trans (hp (1, I n0) (by simp))
  have u2 := (hg 2).symm.trans (hp (2, sc) (by simp))
  have u8 := (hg 8).symm.trans (hp (8, Pt wb 0) (by simp))
  have u9 := (hg 9).symm.trans (hp (9, an) (by simp))
  have u11 := (hg 11).symm.trans (hp (11, I d) (by simp))
  have u12 := (hg 12).symm.trans (hp (12, I f) (by simp))
  have u13 := (hg 13).symm.trans (hp (13, I s) (by simp))
  have u14 := (hg 14).symm.trans (hp (14, I w) (by simp))
  have u15 := (hg 15).symm.trans (hp (15, I (i : Int)) (by simp))
  have u16 := (hg 16).symm.trans (hp (16, I (k : Int)) (by simp))
  have u17 := (hg 17).symm.trans (hp (17, I ec) (by simp))
  have u94 := (hg 94).symm.trans (hp (94, I po) (by simp))
  clear hg hp hsz hd
  unfold a23 KA SJ IJ LJ IA LA CA LB10 Try.f10 seq2 seq1 blockC loopC condA
  simp only [Option.getD_some, lits, Nat.reduceAdd, u1, u2, u8, u9, u11, u12, u13, u14, u15, u16, u17, u94]
  clear u1 u2 u8 u9 u11 u12 u13 u14 u15 u16 u17 u94
  go_wp2_with fail
  first | refine ⟨?_, rfl, rfl, rfl⟩ | refine ⟨?_, rfl, rfl⟩ | refine ⟨?_, rfl⟩ | skip
  exact ⟨rfl, rfl, by
   intro p hp
   simp only [List.mem_cons, List.not_mem_nil, or_false] at hp
   rcases hp with rfl | rfl | rfl | rfl | rfl | rfl | rfl | rfl | rfl | rfl | rfl | rfl <;> first | rfl | exact congrArg I (by omega) | exact congrArg Value.bool (by simp)⟩

set_option maxHeartbeats 4000000 in
set_option maxRecDepth 100000 in
theorem a24_wp {v : World} {a : Act} {n0 d f s w : Int} {wb : Nat} {sc an : Value} {i k : Nat} {ec po : Int}  (hA : Fl 223 [(1, I n0), (2, sc), (8, Pt wb 0), (9, an), (11, I d), (12, I f), (13, I s), (14, I w), (15, I (i : Int)), (16, I (k : Int)), (17, I ec), (94, I po)] a) : a24.wp Try.prog (fun e a' w' => e = .normal ∧ Fl 223 [(1, I n0), (2, sc), (8, Pt wb 0), (9, an), (11, I d), (12, I f), (13, I s), (14, I w), (15, I (i : Int)), (16, I (k : Int)), (17, I ec), (94, I po), (100, .bool (ec == 0))] a' ∧ w'.heap = v.heap ∧ w'.os = v.os ∧ w'.output = v.output) a v := by
  obtain ⟨hsz, hd, hp⟩ := hA
  obtain ⟨u, rfl, hg⟩ := litN hsz hd
  have u1 := (hg 1).symm.trans (hp (1, I n0) (by simp))
  have u2 := (hg 2).symm.trans (hp (2, sc) (by simp))
  have u8 := (hg 8).symm.trans (hp (8, Pt wb 0) (by simp))
  have u9 := (hg 9).symm.trans (hp (9, an) (by simp))
  have u11 := (hg 11).symm.trans (hp (11, I d) (by simp))
  have u12 := (hg 12).symm.trans (hp (12, I f) (by simp))
  have u13 := (hg 13).symm.trans (hp (13, I s) (by simp))
  have u14 := (hg 14).symm.trans (hp (14, I w) (by simp))
  have u15 := (hg 15).symm.trans (hp (15, I (i : Int)) (by simp))
  have u16 := (hg 16).symm.trans (hp (16, I (k : Int)) (by simp))
  have u17 := (hg 17).symm.trans (hp (17, I ec) (by simp))
  have u94 := (hg 94).symm.trans (hp (94, I po) (by simp))
  clear hg hp hsz hd
  unfold a24 KA SJ IJ LJ IA LA CA LB10 Try.f10 seq2 seq1 blockC loopC condA
  simp only [Option.getD_some, lits, Nat.reduceAdd, u1, u2, u8, u9, u11, u12, u13, u14, u15, u16, u17, u94]
  clear u1 u2 u8 u9 u11 u12 u13 u14 u15 u16 u17 u94
  go_wp2_with fail
  first | refine ⟨?_, rfl, rfl, rfl⟩ | refine ⟨?_, rfl, rfl⟩ | refine ⟨?_, rfl⟩ | skip
  exact ⟨rfl, rfl, by
   intro p hp
   simp only [List.mem_cons, List.not_mem_nil, or_false] at hp
   rcases hp with rfl | rfl | rfl | rfl | rfl | rfl | rfl | rfl | rfl | rfl | rfl | rfl | rfl <;> first | rfl | exact congrArg I (by omega) | exact congrArg Value.bool (by simp)⟩

set_option maxHeartbeats 4000000 in
set_option maxRecDepth 100000 in
theorem a25_wp {v : World} {a : Act} {n0 d f s w : Int} {wb : Nat} {sc an : Value} {i k : Nat} {ec po : Int} (h9 : wrap64 (f + 1) = f + 1) (hA : Fl 223 [(1, I n0), (2, sc), (8, Pt wb 0), (9, an), (11, I d), (12, I f), (13, I s), (14, I w), (15, I (i : Int)), (16, I (k : Int)), (17, I ec), (94, I po)] a) : a25.wp Try.prog (fun e a' w' => e = .normal ∧ Fl 223 [(1, I n0), (2, sc), (8, Pt wb 0), (9, an), (11, I d), (12, I (f + 1)), (13, I s), (14, I w), (15, I (i : Int)), (16, I (k : Int)), (17, I ec), (94, I po)] a' ∧ w'.heap = v.heap ∧ w'.os = v.os ∧ w'.output = v.output) a v := by
  obtain ⟨hsz, hd, hp⟩ := hA
  obtain ⟨u, rfl, hg⟩ := litN hsz hd
  have u1 := (hg 1).symm.trans (hp (1, I n0) (by simp))
  have u2 := (hg 2).symm.trans (hp (2, sc) (by simp))
  have u8 := (hg 8).symm.trans (hp (8, Pt wb 0) (by simp))
  have u9 := (hg 9).symm.trans (hp (9, an) (by simp))
  have u11 := (hg 11).symm.trans (hp (11, I d) (by simp))
  have u12 := (hg 12).symm.trans (hp (12, I f) (by simp))
  have u13 := (hg 13).symm.trans (hp (13, I s) (by simp))
  have u14 := (hg 14).symm.trans (hp (14, I w) (by simp))
  have u15 := (hg 15).symm.trans (hp (15, I (i : Int)) (by simp))
  have u16 := (hg 16).symm.trans (hp (16, I (k : Int)) (by simp))
  have u17 := (hg 17).symm.trans (hp (17, I ec) (by simp))
  have u94 := (hg 94).symm.trans (hp (94, I po) (by simp))
  clear hg hp hsz hd
  unfold a25 KA SJ IJ LJ IA LA CA LB10 Try.f10 seq2 seq1 blockC loopC condA
  simp only [Option.getD_some, lits, Nat.reduceAdd, u1, u2, u8, u9, u11, u12, u13, u14, u15, u16, u17, u94]
  clear u1 u2 u8 u9 u11 u12 u13 u14 u15 u16 u17 u94
  go_wp2_with fail
  first | refine ⟨?_, rfl, rfl, rfl⟩ | refine ⟨?_, rfl, rfl⟩ | refine ⟨?_, rfl⟩ | skip
  exact ⟨rfl, rfl, by
   intro p hp
   simp only [List.mem_cons, List.not_mem_nil, or_false] at hp
   rcases hp with rfl | rfl | rfl | rfl | rfl | rfl | rfl | rfl | rfl | rfl | rfl | rfl <;> first | rfl | exact congrArg I (by omega) | exact congrArg Value.bool (by simp)⟩

set_option maxHeartbeats 4000000 in
set_option maxRecDepth 100000 in
theorem a26_wp {v : World} {a : Act} {n0 d f s w : Int} {wb : Nat} {sc an : Value} {i k : Nat} {ec po : Int}  (hA : Fl 223 [(1, I n0), (2, sc), (8, Pt wb 0), (9, an), (11, I d), (12, I f), (13, I s), (14, I w), (15, I (i : Int)), (16, I (k : Int)), (17, I ec), (94, I po)] a) : a26.wp Try.prog (fun e a' w' => e = .normal ∧ Fl 223 [(1, I n0), (2, sc), (8, Pt wb 0), (9, an), (11, I d), (12, I f), (13, I s), (14, I w), (15, I (i : Int)), (16, I (k : Int)), (17, I ec), (94, I po), (103, .bool (po == 2))] a' ∧ w'.heap = v.heap ∧ w'.os = v.os ∧ w'.output = v.output) a v := by
  obtain ⟨hsz, hd, hp⟩ := hA
  obtain ⟨u, rfl, hg⟩ := litN hsz hd
  have u1 := (hg 1).symm.trans (hp (1, I n0) (by simp))
  have u2 := (hg 2).symm.trans (hp (2, sc) (by simp))
  have u8 := (hg 8).symm.trans (hp (8, Pt wb 0) (by simp))
  have u9 := (hg 9).symm.trans (hp (9, an) (by simp))
  have u11 := (hg 11).symm.trans (hp (11, I d) (by simp))
  have u12 := (hg 12).symm.trans (hp (12, I f) (by simp))
  have u13 := (hg 13).symm.trans (hp (13, I s) (by simp))
  have u14 := (hg 14).symm.trans (hp (14, I w) (by simp))
  have u15 := (hg 15).symm.trans (hp (15, I (i : Int)) (by simp))
  have u16 := (hg 16).symm.trans (hp (16, I (k : Int)) (by simp))
  have u17 := (hg 17).symm.trans (hp (17, I ec) (by simp))
  have u94 := (hg 94).symm.trans (hp (94, I po) (by simp))
  clear hg hp hsz hd
  unfold a26 KB SJ IJ LJ IA LA CA LB10 Try.f10 seq2 seq1 blockC loopC condF
  simp only [Option.getD_some, lits, Nat.reduceAdd, u1, u2, u8, u9, u11, u12, u13, u14, u15, u16, u17, u94]
  clear u1 u2 u8 u9 u11 u12 u13 u14 u15 u16 u17 u94
  go_wp2_with fail
  first | refine ⟨?_, rfl, rfl, rfl⟩ | refine ⟨?_, rfl, rfl⟩ | refine ⟨?_, rfl⟩ | skip
  exact ⟨rfl, rfl, by
   intro p hp
   simp only [List.mem_cons, List.not_mem_nil, or_false] at hp
   rcases hp with rfl | rfl | rfl | rfl | rfl | rfl | rfl | rfl | rfl | rfl | rfl | rfl | rfl <;> first | rfl | exact congrArg I (by omega) | exact congrArg Value.bool (by simp)⟩

set_option maxHeartbeats 4000000 in
set_option maxRecDepth 100000 in
theorem a27_wp {v : World} {a : Act} {n0 d f s w : Int} {wb : Nat} {sc an : Value} {i k : Nat} {ec po : Int}  (hA : Fl 223 [(1, I n0), (2, sc), (8, Pt wb 0), (9, an), (11, I d), (12, I f), (13, I s), (14, I w), (15, I (i : Int)), (16, I (k : Int)), (17, I ec), (94, I po)] a) : a27.wp Try.prog (fun e a' w' => e = .normal ∧ Fl 223 [(1, I n0), (2, sc), (8, Pt wb 0), (9, an), (11, I d), (12, I f), (13, I s), (14, I w), (15, I (i : Int)), (16, I (k : Int)), (17, I ec), (94, I po), (106, .bool (ec == 4))] a' ∧ w'.heap = v.heap ∧ w'.os = v.os ∧ w'.output = v.output) a v := by
  obtain ⟨hsz, hd, hp⟩ := hA
  obtain ⟨u, rfl, hg⟩ := litN hsz hd
  have u1 := (hg 1).symm.trans (hp (1, I n0) (by simp))
  have u2 := (hg 2).symm.trans (hp (2, sc) (by simp))
  have u8 := (hg 8).symm.trans (hp (8, Pt wb 0) (by simp))
  have u9 := (hg 9).symm.trans (hp (9, an) (by simp))
  have u11 := (hg 11).symm.trans (hp (11, I d) (by simp))
  have u12 := (hg 12).symm.trans (hp (12, I f) (by simp))
  have u13 := (hg 13).symm.trans (hp (13, I s) (by simp))
  have u14 := (hg 14).symm.trans (hp (14, I w) (by simp))
  have u15 := (hg 15).symm.trans (hp (15, I (i : Int)) (by simp))
  have u16 := (hg 16).symm.trans (hp (16, I (k : Int)) (by simp))
  have u17 := (hg 17).symm.trans (hp (17, I ec) (by simp))
  have u94 := (hg 94).symm.trans (hp (94, I po) (by simp))
  clear hg hp hsz hd
  unfold a27 KC KB SJ IJ LJ IA LA CA LB10 Try.f10 seq2 seq1 blockC loopC condA condF
  simp only [Option.getD_some, lits, Nat.reduceAdd, u1, u2, u8, u9, u11, u12, u13, u14, u15, u16, u17, u94]
  clear u1 u2 u8 u9 u11 u12 u13 u14 u15 u16 u17 u94
  go_wp2_with fail
  first | refine ⟨?_, rfl, rfl, rfl⟩ | refine ⟨?_, rfl, rfl⟩ | refine ⟨?_, rfl⟩ | skip
  exact ⟨rfl, rfl, by
   intro p hp
   simp only [List.mem_cons, List.not_mem_nil, or_false] at hp
   rcases hp with rfl | rfl | rfl | rfl | rfl | rfl | rfl | rfl | rfl | rfl | rfl | rfl | rfl <;> first | rfl | exact congrArg I (by omega) | exact congrArg Value.bool (by simp)⟩

set_option maxHeartbeats 4000000 in
set_option maxRecDepth 100000 in
theorem a28_wp {v : World} {a : Act} {n0 d f s w : Int} {wb : Nat} {sc an : Value} {i k : Nat} {ec po : Int} (h9 : wrap64 (s + 1) = s + 1) (hA : Fl 223 [(1, I n0), (2, sc), (8, Pt wb 0), (9, an), (11, I d), (12, I f), (13, I s), (14, I w), (15, I (i : Int)), (16, I (k : Int)), (17, I ec), (94, I po)] a) : a28.wp Try.prog (fun e a' w' => e = .normal ∧ Fl 223 [(1, I n0), (2, sc), (8, Pt wb 0), (9, an), (11, I d), (12, I f), (13, I (s + 1)), (14, I w), (15, I (i : Int)), (16, I (k : Int)), (17, I ec), (94, I po)] a' ∧ w'.heap = v.heap ∧ w'.os = v.os ∧ w'.output = v.output) a v := by
  obtain ⟨hsz, hd, hp⟩ := hA
  obtain ⟨u, rfl, hg⟩ := litN hsz hd
  have u1 := (hg 1).symm.trans (hp (1, I n0) (by simp))
  have u2 := (hg 2).symm.trans (hp (2, sc) (by simp))
  have u8 := (hg 8).symm.trans (hp (8, Pt wb 0) (by simp))
  have u9 := (hg 9).symm.trans (hp (9, an) (by simp))
  have u11 := (hg 11).symm.trans (hp (11, I d) (by simp))
  have u12 := (hg 12).symm.trans (hp (12, I f) (by simp))
  have u13 := (hg 13).symm.trans (hp (13, I s) (by simp))
  have u14 := (hg 14).symm.trans (hp (14, I w) (by simp))
  have u15 := (hg 15).symm.trans (hp (15, I (i : Int)) (by simp))
  have u16 := (hg 16).symm.trans (hp (16, I (k : Int)) (by simp))
  have u17 := (hg 17).symm.trans (hp (17, I ec) (by simp))
  have u94 := (hg 94).symm.trans (hp (94, I po) (by simp))
  clear hg hp hsz hd
  unfold a28 KC KB SJ IJ LJ IA LA CA LB10 Try.f10 seq2 seq1 blockC loopC condA condF
  simp only [Option.getD_some, lits, Nat.reduceAdd, u1, u2, u8, u9, u11, u12, u13, u14, u15, u16, u17, u94]
  clear u1 u2 u8 u9 u11 u12 u13 u14 u15 u16 u17 u94
  go_wp2_with fail
  first | refine ⟨?_, rfl, rfl, rfl⟩ | refine ⟨?_, rfl, rfl⟩ | refine ⟨?_, rfl⟩ | skip
  exact ⟨rfl, rfl, by
   intro p hp
   simp only [List.mem_cons, List.not_mem_nil, or_false] at hp
   rcases hp with rfl | rfl | rfl | rfl | rfl | rfl | rfl | rfl | rfl | rfl | rfl | rfl <;> first | rfl | exact congrArg I (by omega) | exact congrArg Value.bool (by simp)⟩

set_option maxHeartbeats 4000000 in
set_option maxRecDepth 100000 in
theorem a29_wp {v : World} {a : Act} {n0 d f s w : Int} {wb : Nat} {sc an : Value} {i k : Nat} {ec po : Int}  (hA : Fl 223 [(1, I n0), (2, sc), (8, Pt wb 0), (9, an), (11, I d), (12, I f), (13, I s), (14, I w), (15, I (i : Int)), (16, I (k : Int)), (17, I ec), (94, I po)] a) : a29.wp Try.prog (fun e a' w' => e = .normal ∧ Fl 223 [(1, I n0), (2, sc), (8, Pt wb 0), (9, an), (11, I d), (12, I f), (13, I s), (14, I w), (15, I (i : Int)), (16, I (k : Int)), (17, I ec), (94, I po), (110, .bool (ec == 0))] a' ∧ w'.heap = v.heap ∧ w'.os = v.os ∧ w'.output = v.output) a v := by
  obtain ⟨hsz, hd, hp⟩ := hA
  obtain ⟨u, rfl, hg⟩ := litN hsz hd
  have u1 := (hg 1).symm.trans (hp (1, I n0) (by simp))
  have u2 := (hg 2).symm.trans (hp (2, sc) (by simp))
  have u8 := (hg 8).symm.trans (hp (8, Pt wb 0) (by simp))
  have u9 := (hg 9).symm.trans (hp (9, an) (by simp))
  have u11 := (hg 11).symm.trans (hp (11, I d) (by simp))
  have u12 := (hg 12).symm.trans (hp (12, I f) (by simp))
  have u13 := (hg 13).symm.trans (hp (13, I s) (by simp))
  have u14 := (hg 14).symm.trans (hp (14, I w) (by simp))
  have u15 := (hg 15).symm.trans (hp (15, I (i : Int)) (by simp))
  have u16 := (hg 16).symm.trans (hp (16, I (k : Int)) (by simp))
  have u17 := (hg 17).symm.trans (hp (17, I ec) (by simp))
  have u94 := (hg 94).symm.trans (hp (94, I po) (by simp))
  clear hg hp hsz hd
  unfold a29 KC KB SJ IJ LJ IA LA CA LB10 Try.f10 seq2 seq1 blockC loopC condA condF
  simp only [Option.getD_some, lits, Nat.reduceAdd, u1, u2, u8, u9, u11, u12, u13, u14, u15, u16, u17, u94]
  clear u1 u2 u8 u9 u11 u12 u13 u14 u15 u16 u17 u94
  go_wp2_with fail
  first | refine ⟨?_, rfl, rfl, rfl⟩ | refine ⟨?_, rfl, rfl⟩ | refine ⟨?_, rfl⟩ | skip
  exact ⟨rfl, rfl, by
   intro p hp
   simp only [List.mem_cons, List.not_mem_nil, or_false] at hp
   rcases hp with rfl | rfl | rfl | rfl | rfl | rfl | rfl | rfl | rfl | rfl | rfl | rfl | rfl <;> first | rfl | exact congrArg I (by omega) | exact congrArg Value.bool (by simp)⟩

set_option maxHeartbeats 4000000 in
set_option maxRecDepth 100000 in
theorem a30_wp {v : World} {a : Act} {n0 d f s w : Int} {wb : Nat} {sc an : Value} {i k : Nat} {ec po : Int} (h9 : wrap64 (w + 1) = w + 1) (hA : Fl 223 [(1, I n0), (2, sc), (8, Pt wb 0), (9, an), (11, I d), (12, I f), (13, I s), (14, I w), (15, I (i : Int)), (16, I (k : Int)), (17, I ec), (94, I po)] a) : a30.wp Try.prog (fun e a' w' => e = .normal ∧ Fl 223 [(1, I n0), (2, sc), (8, Pt wb 0), (9, an), (11, I d), (12, I f), (13, I s), (14, I (w + 1)), (15, I (i : Int)), (16, I (k : Int)), (17, I ec), (94, I po)] a' ∧ w'.heap = v.heap ∧ w'.os = v.os ∧ w'.output = v.output) a v := by
  obtain ⟨hsz, hd, hp⟩ := hA
  obtain ⟨u, rfl, hg⟩ := litN hsz hd
  have u1 := (hg 1).symm.trans (hp (1, I n0) (by simp))
  have u2 := (hg 2).symm.trans (hp (2, sc) (by simp))
  have u8 := (hg 8).symm.trans (hp (8, Pt wb 0) (by simp))
  have u9 := (hg 9).symm.trans (hp (9, an) (by simp))
  have u11 := (hg 11).symm.trans (hp (11, I d) (by simp))
  have u12 := (hg 12).symm.trans (hp (12, I f) (by simp))
  have u13 := (hg 13).symm.trans (hp (13, I s) (by simp))
  have u14 := (hg 14).symm.trans (hp (14, I w) (by simp))
  have u15 := (hg 15).symm.trans (hp (15, I (i : Int)) (by simp))
  have u16 := (hg 16).symm.trans (hp (16, I (k : Int)) (by simp))
  have u17 := (hg 17).symm.trans (hp (17, I ec) (by simp))
  have u94 := (hg 94).symm.trans (hp (94, I po) (by simp))
  clear hg hp hsz hd
  unfold a30 KC KB SJ IJ LJ IA LA CA LB10 Try.f10 seq2 seq1 blockC loopC condA condF
  simp only [Option.getD_some, lits, Nat.reduceAdd, u1, u2, u8, u9, u11, u12, u13, u14, u15, u16, u17, u94]
  clear u1 u2 u8 u9 u11 u12 u13 u14 u15 u16 u17 u94
  go_wp2_with fail
  first | refine ⟨?_, rfl, rfl, rfl⟩ | refine ⟨?_, rfl, rfl⟩ | refine ⟨?_, rfl⟩ | skip
  exact ⟨rfl, rfl, by
   intro p hp
   simp only [List.mem_cons, List.not_mem_nil, or_false] at hp
   rcases hp with rfl | rfl | rfl | rfl | rfl | rfl | rfl | rfl | rfl | rfl | rfl | rfl <;> first | rfl | exact congrArg I (by omega) | exact congrArg Value.bool (by simp)⟩

set_option maxHeartbeats 4000000 in
set_option maxRecDepth 100000 in
theorem a19_wp {v : World} {a : Act} {n0 d f s w : Int} {wb : Nat} {sc an : Value} {i k : Nat} (h9 : wrap64 ((k : Int) + 1) = ((k + 1 : Nat) : Int)) (hA : Fl 223 [(1, I n0), (2, sc), (8, Pt wb 0), (9, an), (11, I d), (12, I f), (13, I s), (14, I w), (15, I (i : Int)), (16, I (k : Int))] a) : a19.wp Try.prog (fun e a' w' => e = .normal ∧ Fl 223 [(1, I n0), (2, sc), (8, Pt wb 0), (9, an), (11, I d), (12, I f), (13, I s), (14, I w), (15, I (i : Int)), (16, I ((k + 1 : Nat) : Int))] a' ∧ w'.heap = v.heap ∧ w'.os = v.os ∧ w'.output = v.output) a v := by
  obtain ⟨hsz, hd, hp⟩ := hA
  obtain ⟨u, rfl, hg⟩ := litN hsz hd
  have u1 := (hg 1).symm.trans (hp (1, I n0) (by simp))
  have u2 := (hg 2).symm.trans (hp (2, sc) (by simp))
  have u8 := (hg 8).symm.trans (hp (8, Pt wb 0) (by simp))
  have u9 := (hg 9).symm.trans (hp (9, an) (by simp))
  have u11 := (hg 11).symm.trans (hp (11, I d) (by simp))
  have u12 := (hg 12).symm.trans (hp (12, I f) (by simp))
  have u13 := (hg 13).symm.trans (hp (13, I s) (by simp))
  have u14 := (hg 14).symm.trans (hp (14, I w) (by simp))
  have u15 := (hg 15).symm.trans (hp (15, I (i : Int)) (by simp))
  have u16 := (hg 16).symm.trans (hp (16, I (k : Int)) (by simp))
  clear hg hp hsz hd
  unfold a19 LJ IA LA CA LB10 Try.f10 seq2 seq1 blockC loopC
  simp only [Option.getD_some, lits, Nat.reduceAdd, u1, u2, u8, u9, u11, u12, u13, u14, u15, u16]
  clear u1 u2 u8 u9 u11 u12 u13 u14 u15 u16
  go_wp2_with fail
  first | refine ⟨?_, rfl, rfl, rfl⟩ | refine ⟨?_, rfl, rfl⟩ | refine ⟨?_, rfl⟩ | skip
  exact ⟨rfl, rfl, by
   intro p hp
   simp only [List.mem_cons, List.not_mem_nil, or_false] at hp
   rcases hp with rfl | rfl | rfl | rfl | rfl | rfl | rfl | rfl | rfl | rfl <;> first | rfl | exact congrArg I (by omega) | exact congrArg Value.bool (by simp)⟩

theorem fine_e12 : fineCode Try.prog true LV e12 := fineCode_askS callV extT (by kernel_rfl)
theorem fine_a13 : fineCode Try.prog true LV a13 := fineCode_askS callV extT (by kernel_rfl)
theorem fine_a14 : fineCode Try.prog true LV a14 := fineCode_askS callV extT (by kernel_rfl)
theorem fine_a15 : fineCode Try.prog true LV a15 := fineCode_askS callV extT (by kernel_rfl)
theorem fine_a17 : fineCode Try.prog true LV a17 := fineCode_askS callV extT (by kernel_rfl)
theorem fine_a18 : fineCode Try.prog true LV a18 := fineCode_askS callV extT (by kernel_rfl)
theorem fine_a20 : fineCode Try.prog true LV a20 := fineCode_askS callV extT (by kernel_rfl)
theorem fine_a21 : fineCode Try.prog true LV a21 := fineCode_askS callV extT (by kernel_rfl)
theorem fine_a22 : fineCode Try.prog true LV a22 := fineCode_askS callV extT (by kernel_rfl)
theorem fine_a23 : fineCode Try.prog true LV a23 := fineCode_askS callV extT (by kernel_rfl)
theorem fine_a24 : fineCode Try.prog true LV a24 := fineCode_askS callV extT (by kernel_rfl)
theorem fine_a25 : fineCode Try.prog true LV a25 := fineCode_askS callV extT (by kernel_rfl)
theorem fine_a26 : fineCode Try.prog true LV a26 := fineCode_askS callV extT (by kernel_rfl)
theorem fine_a27 : fineCode Try.prog true LV a27 := fineCode_askS callV extT (by kernel_rfl)
theorem fine_a28 : fineCode Try.prog true LV a28 := fineCode_askS callV extT (by kernel_rfl)
theorem fine_a29 : fineCode Try.prog true LV a29 := fineCode_askS callV extT (by kernel_rfl)
theorem fine_a30 : fineCode Try.prog true LV a30 := fineCode_askS callV extT (by kernel_rfl)
theorem fine_a19 : fineCode Try.prog true LV a19 := fineCode_askS callV extT (by kernel_rfl)
end Go.Proofs.Ytfjjoohflcchnaa.Gen
