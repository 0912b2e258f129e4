/- GateHolds: for every schedule and all scripts, nobody enters behind the first Shut's step, one Shut at most is the first, nobody is in when a Shut answers, and the answers say how many are in; no conditions. Part 32 of 38. (Joined, by program, of: La13a.) -/
import Derived.Test.YtfjjoohflcchnaaGateHolds22
import Derived.Test.YtfjjoohflcchnaaGateHolds24
import Derived.Test.YtfjjoohflcchnaaGateHolds29
import Derived.Test.YtfjjoohflcchnaaGateHolds31
import Derived.BigQuiet
import Derived.BigRegion
import Derived.Deep.RegionHeld3
import Derived.Deep.RegionLaw
set_option linter.unusedSimpArgs false
set_option linter.unusedVariables false
namespace Go.Proofs.Ytfjjoohflcchnaa.Gen
open Go Go.Lift Go.Conc Go.RowKit

noncomputable def LB13 : Code := Try.f13.body.getD .skip
noncomputable def g2 : Code := seq1 (seq2 (seq2 LB13))
noncomputable def g3 : Code := seq1 (seq2 (seq2 (seq2 LB13)))
noncomputable def g4 : Code := seq1 (seq1 (seq2 (seq2 (seq2 (seq2 LB13)))))
noncomputable def g5 : Code := condA (seq2 (seq1 (seq2 (seq2 (seq2 (seq2 LB13))))))
noncomputable def g6 : Code := seq1 (seq2 (seq2 (seq2 (seq2 (seq2 LB13)))))
noncomputable def g7 : Code := seq1 (seq2 (seq2 (seq2 (seq2 (seq2 (seq2 LB13))))))
noncomputable def g8 : Code := seq1 (seq2 (seq2 (seq2 (seq2 (seq2 (seq2 (seq2 LB13)))))))
noncomputable def GL : Code := seq1 (seq2 (seq2 (seq2 (seq2 (seq2 (seq2 (seq2 (seq2 LB13))))))))
noncomputable def g31 : Code := (seq2 (seq2 (seq2 (seq2 (seq2 (seq2 (seq2 (seq2 (seq2 LB13)))))))))
noncomputable def g9 : Code := seq1 GL
noncomputable def GA : Code := loopC (blockC (seq2 GL))
noncomputable def g10 : Code := seq1 (seq1 GA)
noncomputable def g11 : Code := seq2 (seq2 GA)
noncomputable def GB : Code := blockC (seq1 (seq2 GA))
noncomputable def g12 : Code := seq1 GB
noncomputable def g13 : Code := seq1 (seq1 (seq2 GB))
noncomputable def D14 : Code := condA (seq2 (seq1 (seq2 GB)))
noncomputable def g14 : Code := seq1 (seq1 D14)
noncomputable def D16 : Code := blockC (seq2 (seq1 D14))
noncomputable def g16 : Code := seq1 D16
noncomputable def D17 : Code := condA (seq2 D16)
noncomputable def g17 : Code := seq1 D17
noncomputable def g18 : Code := seq1 (seq2 D17)
noncomputable def g19 : Code := condA (seq2 (seq2 D17))
noncomputable def D20 : Code := condB (seq2 D16)
noncomputable def g20 : Code := seq1 D20
noncomputable def g21 : Code := condA (seq2 D20)
noncomputable def D22 : Code := condB (seq2 D20)
noncomputable def g22 : Code := seq1 D22
noncomputable def g23 : Code := condA (seq2 D22)
noncomputable def g15 : Code := condB (seq2 D22)
noncomputable def g24 : Code := seq1 (seq2 D14)
noncomputable def g25 : Code := condA (seq2 (seq2 D14))
noncomputable def E26 : Code := seq2 (seq2 GB)
noncomputable def g26 : Code := seq1 (seq1 E26)
noncomputable def g27 : Code := seq1 (seq1 (seq2 E26))
noncomputable def g28 : Code := condA (seq2 (seq1 (seq2 E26)))
noncomputable def g29 : Code := seq1 (seq2 (seq2 E26))
noncomputable def g30 : Code := condA (seq2 (seq2 (seq2 E26)))
noncomputable def T13 : Code := .seq (.seq g4 (.cond (.tmp 28) g5 .skip)) (.seq g6 (.seq g7 (.seq g8 (.seq (.seq g9 (.block 0 (.loop GA))) g31))))
noncomputable def P13 : Code := .seq g2 (.seq g3 T13)
theorem eLB13 : LB13 = .seq (seq1 LB13) (.seq (seq1 (seq2 LB13)) P13) := by kernel_rfl
theorem eGA : GA = .seq (.seq g10 (.cond (.tmp 35) .skip (.exit 0))) (.seq (.block 1 GB) g11) := by kernel_rfl
theorem eD14 : D14 = .seq (.seq g14 (.block 2 (.seq g16 (.cond (.tmp 57) (.seq g17 (.seq g18 (.cond (.tmp 62) g19 .skip))) (.seq g20 (.cond (.tmp 63) g21 (.seq g22 (.cond (.tmp 67) g23 g15)))))))) (.seq g24 (.cond (.tmp 85) g25 .skip)) := by kernel_rfl
theorem eE26 : E26 = .seq (.seq g26 (.cond (.tmp 88) (.exit 1) .skip)) (.seq (.seq g27 (.cond (.tmp 114) g28 .skip)) (.seq g29 (.cond (.tmp 138) g30 .skip))) := by kernel_rfl
theorem eGB : GB = .seq g12 (.seq (.seq g13 (.cond (.tmp 51) D14 .skip)) E26) := by kernel_rfl
set_option maxHeartbeats 4000000
set_option maxRecDepth 100000
section
variable {v : World} {a : Act} {s1 s6 s7 : Value} {E th ce oo ol ne d po : Int} {b o n cap M T ct x y i g sb x0 t k lt cp rb ro : Nat} {p : Option Addr}
set_option maxHeartbeats 4000000 in
set_option maxRecDepth 100000 in
theorem g2_wp {v : World} {a : Act} {s1 : Value} (sp : Option Addr) (scap vb vo : Nat) (xs : List Int) (hp : 0 < xs.length → sp = some ⟨vb, vo, none⟩) (hx1 : xs.length ≤ 17592186043904) (hv : ∀ k x, xs[k]? = some x → v.cell? ⟨vb, vo + k, none⟩ = some (I x)) (hA : Fl 144 [(0, .slice sp xs.length scap), (1, s1), (5, .bool true)] a) :
    g2.wp Try.prog (fun e a w' => e = .normal ∧ ∃ wb bk sc, Fl 144 [(1, s1), (5, .bool true), (6, Pt wb 0)] a ∧ IsNew v xs wb bk sc w') a v := by
  have H7 : Hid (Calls Try.prog 18 #[.slice sp xs.length scap] v _) := ⟨(body7A sp vb vo scap xs hp hx1 hv).calls Try.func18 rfl⟩
  clear hp hx1 hv
  obtain ⟨hsz, hd, hp⟩ := hA
  obtain ⟨u, rfl, hg⟩ := litN hsz hd
  have u0 := (hg 0).symm.trans (hp (0, .slice sp xs.length scap) (by simp))
  have u1 := (hg 1).symm.trans (hp (1, s1) (by simp))
  have u5 := (hg 5).symm.trans (hp (5, .bool true) (by simp))
  clear hg hp hsz hd
  unfold g2 LB13 Try.f13 seq2 seq1
  simp only [Option.getD_some, lits, Nat.reduceAdd, u0, u1, u5]
  clear u0 u1 u5
  go_wp2_with (first
    | (go_at_call 18; refine H7.out.mono ?_; rintro e w1 ⟨_, rfl, wb, bk, sc, rfl, hnew⟩))
  exact ⟨wb, ⟨rfl, rfl, by
   intro p hp
   simp only [List.mem_cons, List.not_mem_nil, or_false] at hp
   rcases hp with rfl | rfl | rfl <;> first | rfl | exact congrArg I (by omega) | exact congrArg Value.bool (by simp)⟩, bk, sc, hnew⟩

theorem g4_wp  (hA : Fl 144 [(1, s1), (5, .bool true), (6, s6), (7, s7), (8, I E)] a) : g4.wp Try.prog (fun e a' w' => e = .normal ∧ Fl 144 [(1, s1), (5, .bool true), (6, s6), (7, s7), (28, .bool (E != 0))] a' ∧ w'.heap = v.heap ∧ w'.os = v.os ∧ w'.output = v.output) a v := by
  obtain ⟨hsz, hd, hp⟩ := hA
  obtain ⟨u, rfl, hg⟩ := litN hsz hd
  simp only [List.forall_mem_cons, hg] at hp
  obtain ⟨u1, u5, u6, u7, u8, -⟩ := hp
  clear hg hsz hd
  unfold g4 LB13 Try.f13 seq2 seq1
  simp only [Option.getD_some, lits, Nat.reduceAdd, u1, u5, u6, u7, u8]
  clear u1 u5 u6 u7 u8
  go_wp2_with fail
  first | refine ⟨?_, rfl, rfl, rfl⟩ | refine ⟨?_, rfl, rfl⟩ | refine ⟨?_, rfl⟩ | skip
  exact ⟨rfl, rfl, by
   intro p hp
   simp only [List.mem_cons, List.not_mem_nil, or_false] at hp
   rcases hp with rfl | rfl | rfl | rfl | rfl <;> first | rfl | exact congrArg I (by omega) | exact congrArg Value.bool (by simp)⟩

theorem g5_wp  (hA : Fl 144 [(1, s1), (5, .bool true), (6, s6), (7, s7)] a) : g5.wp Try.prog (fun e a' w' => e = .ret ∧ Fl 144 [(4, .bool true)] a' ∧ w'.heap = v.heap ∧ w'.os = v.os ∧ w'.output = v.output) a v := by
  obtain ⟨hsz, hd, hp⟩ := hA
  obtain ⟨u, rfl, hg⟩ := litN hsz hd
  simp only [List.forall_mem_cons, hg] at hp
  obtain ⟨u1, u5, u6, u7, -⟩ := hp
  clear hg hsz hd
  unfold g5 LB13 Try.f13 seq2 seq1 condA
  simp only [Option.getD_some, lits, Nat.reduceAdd, u1, u5, u6, u7]
  clear u1 u5 u6 u7
  go_wp2_with fail
  first | refine ⟨?_, rfl, rfl, rfl⟩ | refine ⟨?_, rfl, rfl⟩ | refine ⟨?_, rfl⟩ | skip
  exact ⟨rfl, rfl, by
   intro p hp
   simp only [List.mem_cons, List.not_mem_nil, or_false] at hp
   rcases hp with rfl <;> first | rfl | exact congrArg I (by omega) | exact congrArg Value.bool (by simp)⟩

set_option maxHeartbeats 4000000 in
set_option maxRecDepth 100000 in
theorem g6_wp {v : World} {a : Act} {b o n cap M : Nat} {S : TS} {z : Nat → Option Nat} (hR : Rep z S v) (hn : S.n * 40 ≤ 140737488355328) (h1 : ∀ u ∈ S.tr, u.oneCell' = true) (hA : Fl 144 [(1, .slice (some ⟨b, o, none⟩) n cap), (7, .slice (some ⟨M, 0, none⟩) n n), (6, Pt S.wb 0)] a) :
    g6.wp Try.prog (fun e a w' => e = .normal ∧ ∃ p g ct, Fl 144 [(1, .slice (some ⟨b, o, none⟩) n cap), (7, .slice (some ⟨M, 0, none⟩) n n), (9, .slice p S.n ct)] a ∧ (0 < S.n → p = some ⟨g, 0, none⟩ ∧ v.heap.size ≤ g) ∧ (∀ j u, S.tr[j]? = some u → w'.cell? ⟨g, j, none⟩ = some u) ∧ Grows v w') a v := by
  have H7 : Hid (Calls Try.prog 20 #[Pt S.wb 0] v _) := ⟨(body9A hR hn h1).calls Try.func20 rfl⟩
  clear hR hn h1
  obtain ⟨hsz, hd, hp⟩ := hA
  obtain ⟨u, rfl, hg⟩ := litN hsz hd
  have u1 := (hg 1).symm.trans (hp (1, .slice (some ⟨b, o, none⟩) n cap) (by simp))
  have u7 := (hg 7).symm.trans (hp (7, .slice (some ⟨M, 0, none⟩) n n) (by simp))
  have u6 := (hg 6).symm.trans (hp (6, Pt S.wb 0) (by simp))
  clear hg hp hsz hd
  unfold g6 LB13 Try.f13 seq2 seq1
  simp only [Option.getD_some, lits, Nat.reduceAdd, u1, u7, u6]
  clear u1 u7 u6
  go_wp2_with (first
    | (go_at_call 20; refine H7.out.mono ?_; rintro e w1 ⟨_, rfl, p, g, cap, rfl, k1, k2, k3⟩))
  exact ⟨p, ⟨cap, ⟨rfl, rfl, by
   intro p hp
   simp only [List.mem_cons, List.not_mem_nil, or_false] at hp
   rcases hp with rfl | rfl | rfl <;> first | rfl | exact congrArg I (by omega) | exact congrArg Value.bool (by simp)⟩⟩, g, k1, k2⟩

theorem g7_wp  (hA : Fl 144 [(1, .slice (some ⟨b, o, none⟩) n cap), (7, .slice (some ⟨M, 0, none⟩) n n), (9, .slice p T ct)] a) : g7.wp Try.prog (fun e a' w' => e = .normal ∧ Fl 144 [(1, .slice (some ⟨b, o, none⟩) n cap), (7, .slice (some ⟨M, 0, none⟩) n n), (9, .slice p T ct), (10, I 0)] a' ∧ w'.heap = v.heap ∧ w'.os = v.os ∧ w'.output = v.output) a v := by
  obtain ⟨hsz, hd, hp⟩ := hA
  obtain ⟨u, rfl, hg⟩ := litN hsz hd
  simp only [List.forall_mem_cons, hg] at hp
  obtain ⟨u1, u7, u9, -⟩ := hp
  clear hg hsz hd
  unfold g7 LB13 Try.f13 seq2 seq1
  simp only [Option.getD_some, lits, Nat.reduceAdd, u1, u7, u9]
  clear u1 u7 u9
  go_wp2_with fail
  first | refine ⟨?_, rfl, rfl, rfl⟩ | refine ⟨?_, rfl, rfl⟩ | refine ⟨?_, rfl⟩ | skip
  exact ⟨rfl, rfl, by
   intro p hp
   simp only [List.mem_cons, List.not_mem_nil, or_false] at hp
   rcases hp with rfl | rfl | rfl | rfl <;> first | rfl | exact congrArg I (by omega) | exact congrArg Value.bool (by simp)⟩

theorem g8_wp  (hA : Fl 144 [(1, .slice (some ⟨b, o, none⟩) n cap), (7, .slice (some ⟨M, 0, none⟩) n n), (9, .slice p T ct), (10, I 0)] a) : g8.wp Try.prog (fun e a' w' => e = .normal ∧ Fl 144 [(1, .slice (some ⟨b, o, none⟩) n cap), (7, .slice (some ⟨M, 0, none⟩) n n), (9, .slice p T ct), (10, I 0), (11, I 0)] a' ∧ w'.heap = v.heap ∧ w'.os = v.os ∧ w'.output = v.output) a v := by
  obtain ⟨hsz, hd, hp⟩ := hA
  obtain ⟨u, rfl, hg⟩ := litN hsz hd
  simp only [List.forall_mem_cons, hg] at hp
  obtain ⟨u1, u7, u9, u10, -⟩ := hp
  clear hg hsz hd
  unfold g8 LB13 Try.f13 seq2 seq1
  simp only [Option.getD_some, lits, Nat.reduceAdd, u1, u7, u9, u10]
  clear u1 u7 u9 u10
  go_wp2_with fail
  first | refine ⟨?_, rfl, rfl, rfl⟩ | refine ⟨?_, rfl, rfl⟩ | refine ⟨?_, rfl⟩ | skip
  exact ⟨rfl, rfl, by
   intro p hp
   simp only [List.mem_cons, List.not_mem_nil, or_false] at hp
   rcases hp with rfl | rfl | rfl | rfl | rfl <;> first | rfl | exact congrArg I (by omega) | exact congrArg Value.bool (by simp)⟩

theorem g9_wp  (hA : Fl 144 [(1, .slice (some ⟨b, o, none⟩) n cap), (7, .slice (some ⟨M, 0, none⟩) n n), (9, .slice p T ct), (10, I (x : Int)), (11, I (y : Int))] a) : g9.wp Try.prog (fun e a' w' => e = .normal ∧ Fl 144 [(1, .slice (some ⟨b, o, none⟩) n cap), (7, .slice (some ⟨M, 0, none⟩) n n), (9, .slice p T ct), (10, I (x : Int)), (11, I (y : Int)), (12, I 0)] a' ∧ w'.heap = v.heap ∧ w'.os = v.os ∧ w'.output = v.output) a v := by
  obtain ⟨hsz, hd, hp⟩ := hA
  obtain ⟨u, rfl, hg⟩ := litN hsz hd
  simp only [List.forall_mem_cons, hg] at hp
  obtain ⟨u1, u7, u9, u10, u11, -⟩ := hp
  clear hg hsz hd
  unfold g9 GL LB13 Try.f13 seq2 seq1
  simp only [Option.getD_some, lits, Nat.reduceAdd, u1, u7, u9, u10, u11]
  clear u1 u7 u9 u10 u11
  go_wp2_with fail
  first | refine ⟨?_, rfl, rfl, rfl⟩ | refine ⟨?_, rfl, rfl⟩ | refine ⟨?_, rfl⟩ | skip
  exact ⟨rfl, rfl, by
   intro p hp
   simp only [List.mem_cons, List.not_mem_nil, or_false] at hp
   rcases hp with rfl | rfl | rfl | rfl | rfl | rfl <;> first | rfl | exact congrArg I (by omega) | exact congrArg Value.bool (by simp)⟩

theorem g10_wp  (hA : Fl 144 [(1, .slice (some ⟨b, o, none⟩) n cap), (7, .slice (some ⟨M, 0, none⟩) n n), (9, .slice p T ct), (10, I (x : Int)), (11, I (y : Int)), (12, I (i : Int))] a) : g10.wp Try.prog (fun e a' w' => e = .normal ∧ Fl 144 [(1, .slice (some ⟨b, o, none⟩) n cap), (7, .slice (some ⟨M, 0, none⟩) n n), (9, .slice p T ct), (10, I (x : Int)), (11, I (y : Int)), (12, I (i : Int)), (35, .bool (decide ((i : Int) < (T : Int))))] a' ∧ w'.heap = v.heap ∧ w'.os = v.os ∧ w'.output = v.output) a v := by
  obtain ⟨hsz, hd, hp⟩ := hA
  obtain ⟨u, rfl, hg⟩ := litN hsz hd
  simp only [List.forall_mem_cons, hg] at hp
  obtain ⟨u1, u7, u9, u10, u11, u12, -⟩ := hp
  clear hg hsz hd
  unfold g10 GA GL LB13 Try.f13 seq2 seq1 blockC loopC
  simp only [Option.getD_some, lits, Nat.reduceAdd, u1, u7, u9, u10, u11, u12]
  clear u1 u7 u9 u10 u11 u12
  go_wp2_with fail
  first | refine ⟨?_, rfl, rfl, rfl⟩ | refine ⟨?_, rfl, rfl⟩ | refine ⟨?_, rfl⟩ | skip
  exact ⟨rfl, rfl, by
   intro p hp
   simp only [List.mem_cons, List.not_mem_nil, or_false] at hp
   rcases hp with rfl | rfl | rfl | rfl | rfl | rfl | rfl <;> first | rfl | exact congrArg I (by omega) | exact congrArg Value.bool (by simp)⟩

theorem g11_wp (h9 : wrap64 ((i : Int) + 1) = ((i + 1 : Nat) : Int)) (hA : Fl 144 [(1, .slice (some ⟨b, o, none⟩) n cap), (7, .slice (some ⟨M, 0, none⟩) n n), (9, .slice p T ct), (10, I (x : Int)), (11, I (y : Int)), (12, I (i : Int))] a) : g11.wp Try.prog (fun e a' w' => e = .normal ∧ Fl 144 [(1, .slice (some ⟨b, o, none⟩) n cap), (7, .slice (some ⟨M, 0, none⟩) n n), (9, .slice p T ct), (10, I (x : Int)), (11, I (y : Int)), (12, I ((i + 1 : Nat) : Int))] a' ∧ w'.heap = v.heap ∧ w'.os = v.os ∧ w'.output = v.output) a v := by
  obtain ⟨hsz, hd, hp⟩ := hA
  obtain ⟨u, rfl, hg⟩ := litN hsz hd
  simp only [List.forall_mem_cons, hg] at hp
  obtain ⟨u1, u7, u9, u10, u11, u12, -⟩ := hp
  clear hg hsz hd
  unfold g11 GA GL LB13 Try.f13 seq2 seq1 blockC loopC
  simp only [Option.getD_some, lits, Nat.reduceAdd, u1, u7, u9, u10, u11, u12]
  clear u1 u7 u9 u10 u11 u12
  go_wp2_with fail
  first | refine ⟨?_, rfl, rfl, rfl⟩ | refine ⟨?_, rfl, rfl⟩ | refine ⟨?_, rfl⟩ | skip
  exact ⟨rfl, rfl, by
   intro p hp
   simp only [List.mem_cons, List.not_mem_nil, or_false] at hp
   rcases hp with rfl | rfl | rfl | rfl | rfl | rfl <;> first | rfl | exact congrArg I (by omega) | exact congrArg Value.bool (by simp)⟩

theorem g12_wp (hk : i < T) (c0 : v.cell? ⟨g, i * 5, none⟩ = some (I th)) (c1 : v.cell? ⟨g, i * 5 + 1, none⟩ = some (I ce)) (c2 : v.cell? ⟨g, i * 5 + 2, none⟩ = some (I oo)) (c3 : v.cell? ⟨g, i * 5 + 3, none⟩ = some (I ol)) (c4 : v.cell? ⟨g, i * 5 + 4, none⟩ = some (I ne)) (hA : Fl 144 [(1, .slice (some ⟨b, o, none⟩) n cap), (7, .slice (some ⟨M, 0, none⟩) n n), (9, .slice (some ⟨g, 0, none⟩) T ct), (10, I (x : Int)), (11, I (y : Int)), (12, I (i : Int))] a) : g12.wp Try.prog (fun e a' w' => e = .normal ∧ Fl 144 [(1, .slice (some ⟨b, o, none⟩) n cap), (7, .slice (some ⟨M, 0, none⟩) n n), (9, .slice (some ⟨g, 0, none⟩) T ct), (10, I (x : Int)), (11, I (y : Int)), (12, I (i : Int)), (13, Pt v.heap.size 0)] a' ∧ w'.heap = v.heap.push (.cells #[I th, I ce, I oo, I ol, I ne] 34) ∧ w'.os = v.os ∧ w'.output = v.output) a v := by
  obtain ⟨hsz, hd, hp⟩ := hA
  obtain ⟨u, rfl, hg⟩ := litN hsz hd
  simp only [List.forall_mem_cons, hg] at hp
  obtain ⟨u1, u7, u9, u10, u11, u12, -⟩ := hp
  clear hg hsz hd
  have hk' : (i : Int) < (T : Int) := by omega
  unfold g12 GB GA GL LB13 Try.f13 seq2 seq1 blockC loopC
  simp only [Option.getD_some, lits, Nat.reduceAdd, u1, u7, u9, u10, u11, u12]
  clear u1 u7 u9 u10 u11 u12
  go_wp2_with fail
  first | refine ⟨?_, rfl, rfl, rfl⟩ | refine ⟨?_, rfl, rfl⟩ | refine ⟨?_, rfl⟩ | skip
  exact ⟨rfl, rfl, by
   intro p hp
   simp only [List.mem_cons, List.not_mem_nil, or_false] at hp
   rcases hp with rfl | rfl | rfl | rfl | rfl | rfl | rfl <;> first | rfl | exact congrArg I (by omega) | exact congrArg Value.bool (by simp)⟩

theorem g13_wpy (c2 : v.cell? ⟨sb, 2, none⟩ = some (I oo)) (c3 : v.cell? ⟨sb, 3, none⟩ = some (I ol)) (c4 : v.cell? ⟨sb, 4, none⟩ = some (I ne)) (h4 : oo = 4) (hA : Fl 144 [(1, .slice (some ⟨b, o, none⟩) n cap), (7, .slice (some ⟨M, 0, none⟩) n n), (9, .slice p T ct), (10, I (x : Int)), (11, I (y : Int)), (12, I (i : Int)), (13, Pt sb 0)] a) : g13.wp Try.prog (fun e a' w' => e = .normal ∧ Fl 144 [(1, .slice (some ⟨b, o, none⟩) n cap), (7, .slice (some ⟨M, 0, none⟩) n n), (9, .slice p T ct), (10, I (x : Int)), (11, I (y : Int)), (12, I (i : Int)), (13, Pt sb 0), (51, .bool (ol != ne))] a' ∧ w'.heap = v.heap ∧ w'.os = v.os ∧ w'.output = v.output) a v := by
  obtain ⟨hsz, hd, hp⟩ := hA
  obtain ⟨u, rfl, hg⟩ := litN hsz hd
  simp only [List.forall_mem_cons, hg] at hp
  obtain ⟨u1, u7, u9, u10, u11, u12, u13, -⟩ := hp
  clear hg hsz hd
  subst h4
  unfold g13 GB GA GL LB13 Try.f13 seq2 seq1 blockC loopC
  simp only [Option.getD_some, lits, Nat.reduceAdd, u1, u7, u9, u10, u11, u12, u13]
  clear u1 u7 u9 u10 u11 u12 u13
  go_wp2_with fail
  first | refine ⟨?_, rfl, rfl, rfl⟩ | refine ⟨?_, rfl, rfl⟩ | refine ⟨?_, rfl⟩ | skip
  exact ⟨rfl, rfl, by
   intro p hp
   simp only [List.mem_cons, List.not_mem_nil, or_false] at hp
   rcases hp with rfl | rfl | rfl | rfl | rfl | rfl | rfl | rfl <;> first | rfl | exact congrArg I (by omega) | exact congrArg Value.bool (by simp)⟩

theorem g13_wpn (c2 : v.cell? ⟨sb, 2, none⟩ = some (I oo)) (c3 : v.cell? ⟨sb, 3, none⟩ = some (I ol)) (c4 : v.cell? ⟨sb, 4, none⟩ = some (I ne)) (h4 : oo ≠ 4) (hA : Fl 144 [(1, .slice (some ⟨b, o, none⟩) n cap), (7, .slice (some ⟨M, 0, none⟩) n n), (9, .slice p T ct), (10, I (x : Int)), (11, I (y : Int)), (12, I (i : Int)), (13, Pt sb 0)] a) : g13.wp Try.prog (fun e a' w' => e = .normal ∧ Fl 144 [(1, .slice (some ⟨b, o, none⟩) n cap), (7, .slice (some ⟨M, 0, none⟩) n n), (9, .slice p T ct), (10, I (x : Int)), (11, I (y : Int)), (12, I (i : Int)), (13, Pt sb 0), (51, .bool false)] a' ∧ w'.heap = v.heap ∧ w'.os = v.os ∧ w'.output = v.output) a v := by
  obtain ⟨hsz, hd, hp⟩ := hA
  obtain ⟨u, rfl, hg⟩ := litN hsz hd
  simp only [List.forall_mem_cons, hg] at hp
  obtain ⟨u1, u7, u9, u10, u11, u12, u13, -⟩ := hp
  clear hg hsz hd
  have f1 : (oo == 4) = false := by simp [h4]
  unfold g13 GB GA GL LB13 Try.f13 seq2 seq1 blockC loopC
  simp only [Option.getD_some, lits, Nat.reduceAdd, u1, u7, u9, u10, u11, u12, u13]
  clear u1 u7 u9 u10 u11 u12 u13
  go_wp2_with fail
  first | refine ⟨?_, rfl, rfl, rfl⟩ | refine ⟨?_, rfl, rfl⟩ | refine ⟨?_, rfl⟩ | skip
  exact ⟨rfl, rfl, by
   intro p hp
   simp only [List.mem_cons, List.not_mem_nil, or_false] at hp
   rcases hp with rfl | rfl | rfl | rfl | rfl | rfl | rfl | rfl <;> first | rfl | exact congrArg I (by omega) | exact congrArg Value.bool (by simp)⟩

theorem g14_wp (c3 : v.cell? ⟨sb, 3, none⟩ = some (I ol)) (c4 : v.cell? ⟨sb, 4, none⟩ = some (I ne)) (hA : Fl 144 [(1, .slice (some ⟨b, o, none⟩) n cap), (7, .slice (some ⟨M, 0, none⟩) n n), (9, .slice p T ct), (10, I (x : Int)), (11, I (y : Int)), (12, I (i : Int)), (13, Pt sb 0)] a) : g14.wp Try.prog (fun e a' w' => e = .normal ∧ Fl 144 [(1, .slice (some ⟨b, o, none⟩) n cap), (7, .slice (some ⟨M, 0, none⟩) n n), (9, .slice p T ct), (10, I (x : Int)), (11, I (y : Int)), (12, I (i : Int)), (13, Pt sb 0), (56, I (wrap64 (ne - ol)))] a' ∧ w'.heap = v.heap ∧ w'.os = v.os ∧ w'.output = v.output) a v := by
  obtain ⟨hsz, hd, hp⟩ := hA
  obtain ⟨u, rfl, hg⟩ := litN hsz hd
  simp only [List.forall_mem_cons, hg] at hp
  obtain ⟨u1, u7, u9, u10, u11, u12, u13, -⟩ := hp
  clear hg hsz hd
  unfold g14 D14 GB GA GL LB13 Try.f13 seq2 seq1 blockC loopC condA
  simp only [Option.getD_some, lits, Nat.reduceAdd, u1, u7, u9, u10, u11, u12, u13]
  clear u1 u7 u9 u10 u11 u12 u13
  go_wp2_with fail
  first | refine ⟨?_, rfl, rfl, rfl⟩ | refine ⟨?_, rfl, rfl⟩ | refine ⟨?_, rfl⟩ | skip
  exact ⟨rfl, rfl, by
   intro p hp
   simp only [List.mem_cons, List.not_mem_nil, or_false] at hp
   rcases hp with rfl | rfl | rfl | rfl | rfl | rfl | rfl | rfl <;> first | rfl | exact congrArg I (by omega) | exact congrArg Value.bool (by simp)⟩

theorem g16_wp  (hA : Fl 144 [(1, .slice (some ⟨b, o, none⟩) n cap), (7, .slice (some ⟨M, 0, none⟩) n n), (9, .slice p T ct), (10, I (x : Int)), (11, I (y : Int)), (12, I (i : Int)), (13, Pt sb 0), (56, I d)] a) : g16.wp Try.prog (fun e a' w' => e = .normal ∧ Fl 144 [(1, .slice (some ⟨b, o, none⟩) n cap), (7, .slice (some ⟨M, 0, none⟩) n n), (9, .slice p T ct), (10, I (x : Int)), (11, I (y : Int)), (12, I (i : Int)), (13, Pt sb 0), (56, I d), (57, .bool (d == 2))] a' ∧ w'.heap = v.heap ∧ w'.os = v.os ∧ w'.output = v.output) a v := by
  obtain ⟨hsz, hd, hp⟩ := hA
  obtain ⟨u, rfl, hg⟩ := litN hsz hd
  simp only [List.forall_mem_cons, hg] at hp
  obtain ⟨u1, u7, u9, u10, u11, u12, u13, u56, -⟩ := hp
  clear hg hsz hd
  unfold g16 D16 D14 GB GA GL LB13 Try.f13 seq2 seq1 blockC loopC condA
  simp only [Option.getD_some, lits, Nat.reduceAdd, u1, u7, u9, u10, u11, u12, u13, u56]
  clear u1 u7 u9 u10 u11 u12 u13 u56
  go_wp2_with fail
  first | refine ⟨?_, rfl, rfl, rfl⟩ | refine ⟨?_, rfl, rfl⟩ | refine ⟨?_, rfl⟩ | skip
  exact ⟨rfl, rfl, by
   intro p hp
   simp only [List.mem_cons, List.not_mem_nil, or_false] at hp
   rcases hp with rfl | rfl | rfl | rfl | rfl | rfl | rfl | rfl | rfl <;> first | rfl | exact congrArg I (by omega) | exact congrArg Value.bool (by simp)⟩

theorem g17_wp (h9 : wrap64 ((x : Int) + 1) = ((x + 1 : Nat) : Int)) (hA : Fl 144 [(1, .slice (some ⟨b, o, none⟩) n cap), (7, .slice (some ⟨M, 0, none⟩) n n), (9, .slice p T ct), (10, I (x : Int)), (11, I (y : Int)), (12, I (i : Int)), (13, Pt sb 0), (56, I d)] a) : g17.wp Try.prog (fun e a' w' => e = .normal ∧ Fl 144 [(1, .slice (some ⟨b, o, none⟩) n cap), (7, .slice (some ⟨M, 0, none⟩) n n), (9, .slice p T ct), (10, I ((x + 1 : Nat) : Int)), (11, I (y : Int)), (12, I (i : Int)), (13, Pt sb 0)] a' ∧ w'.heap = v.heap ∧ w'.os = v.os ∧ w'.output = v.output) a v := by
  obtain ⟨hsz, hd, hp⟩ := hA
  obtain ⟨u, rfl, hg⟩ := litN hsz hd
  simp only [List.forall_mem_cons, hg] at hp
  obtain ⟨u1, u7, u9, u10, u11, u12, u13, u56, -⟩ := hp
  clear hg hsz hd
  unfold g17 D17 D16 D14 GB GA GL LB13 Try.f13 seq2 seq1 blockC loopC condA
  simp only [Option.getD_some, lits, Nat.reduceAdd, u1, u7, u9, u10, u11, u12, u13, u56]
  clear u1 u7 u9 u10 u11 u12 u13 u56
  go_wp2_with fail
  first | refine ⟨?_, rfl, rfl, rfl⟩ | refine ⟨?_, rfl, rfl⟩ | refine ⟨?_, rfl⟩ | skip
  exact ⟨rfl, rfl, by
   intro p hp
   simp only [List.mem_cons, List.not_mem_nil, or_false] at hp
   rcases hp with rfl | rfl | rfl | rfl | rfl | rfl | rfl <;> first | rfl | exact congrArg I (by omega) | exact congrArg Value.bool (by simp)⟩

theorem g18_wp  (hA : Fl 144 [(1, .slice (some ⟨b, o, none⟩) n cap), (7, .slice (some ⟨M, 0, none⟩) n n), (9, .slice p T ct), (10, I (x : Int)), (11, I (y : Int)), (12, I (i : Int)), (13, Pt sb 0)] a) : g18.wp Try.prog (fun e a' w' => e = .normal ∧ Fl 144 [(1, .slice (some ⟨b, o, none⟩) n cap), (7, .slice (some ⟨M, 0, none⟩) n n), (9, .slice p T ct), (10, I (x : Int)), (11, I (y : Int)), (12, I (i : Int)), (13, Pt sb 0), (62, .bool (decide (0 < (y : Int))))] a' ∧ w'.heap = v.heap ∧ w'.os = v.os ∧ w'.output = v.output) a v := by
  obtain ⟨hsz, hd, hp⟩ := hA
  obtain ⟨u, rfl, hg⟩ := litN hsz hd
  simp only [List.forall_mem_cons, hg] at hp
  obtain ⟨u1, u7, u9, u10, u11, u12, u13, -⟩ := hp
  clear hg hsz hd
  unfold g18 D17 D16 D14 GB GA GL LB13 Try.f13 seq2 seq1 blockC loopC condA
  simp only [Option.getD_some, lits, Nat.reduceAdd, u1, u7, u9, u10, u11, u12, u13]
  clear u1 u7 u9 u10 u11 u12 u13
  go_wp2_with fail
  first | refine ⟨?_, rfl, rfl, rfl⟩ | refine ⟨?_, rfl, rfl⟩ | refine ⟨?_, rfl⟩ | skip
  exact ⟨rfl, rfl, by
   intro p hp
   simp only [List.mem_cons, List.not_mem_nil, or_false] at hp
   rcases hp with rfl | rfl | rfl | rfl | rfl | rfl | rfl | rfl <;> first | rfl | exact congrArg I (by omega) | exact congrArg Value.bool (by simp)⟩

theorem g20_wp  (hA : Fl 144 [(1, .slice (some ⟨b, o, none⟩) n cap), (7, .slice (some ⟨M, 0, none⟩) n n), (9, .slice p T ct), (10, I (x : Int)), (11, I (y : Int)), (12, I (i : Int)), (13, Pt sb 0), (56, I d)] a) : g20.wp Try.prog (fun e a' w' => e = .normal ∧ Fl 144 [(1, .slice (some ⟨b, o, none⟩) n cap), (7, .slice (some ⟨M, 0, none⟩) n n), (9, .slice p T ct), (10, I (x : Int)), (11, I (y : Int)), (12, I (i : Int)), (13, Pt sb 0), (56, I d), (63, .bool (d == -2))] a' ∧ w'.heap = v.heap ∧ w'.os = v.os ∧ w'.output = v.output) a v := by
  obtain ⟨hsz, hd, hp⟩ := hA
  obtain ⟨u, rfl, hg⟩ := litN hsz hd
  simp only [List.forall_mem_cons, hg] at hp
  obtain ⟨u1, u7, u9, u10, u11, u12, u13, u56, -⟩ := hp
  clear hg hsz hd
  unfold g20 D20 D16 D14 GB GA GL LB13 Try.f13 seq2 seq1 blockC loopC condA condB
  simp only [Option.getD_some, lits, Nat.reduceAdd, u1, u7, u9, u10, u11, u12, u13, u56]
  clear u1 u7 u9 u10 u11 u12 u13 u56
  go_wp2_with fail
  first | refine ⟨?_, rfl, rfl, rfl⟩ | refine ⟨?_, rfl, rfl⟩ | refine ⟨?_, rfl⟩ | skip
  exact ⟨rfl, rfl, by
   intro p hp
   simp only [List.mem_cons, List.not_mem_nil, or_false] at hp
   rcases hp with rfl | rfl | rfl | rfl | rfl | rfl | rfl | rfl | rfl <;> first | rfl | exact congrArg I (by omega) | exact congrArg Value.bool (by simp)⟩

theorem g21_wp (h9 : wrap64 ((x : Int) - 1) = (x0 : Int)) (hA : Fl 144 [(1, .slice (some ⟨b, o, none⟩) n cap), (7, .slice (some ⟨M, 0, none⟩) n n), (9, .slice p T ct), (10, I (x : Int)), (11, I (y : Int)), (12, I (i : Int)), (13, Pt sb 0), (56, I d)] a) : g21.wp Try.prog (fun e a' w' => e = .normal ∧ Fl 144 [(1, .slice (some ⟨b, o, none⟩) n cap), (7, .slice (some ⟨M, 0, none⟩) n n), (9, .slice p T ct), (10, I (x0 : Int)), (11, I (y : Int)), (12, I (i : Int)), (13, Pt sb 0)] a' ∧ w'.heap = v.heap ∧ w'.os = v.os ∧ w'.output = v.output) a v := by
  obtain ⟨hsz, hd, hp⟩ := hA
  obtain ⟨u, rfl, hg⟩ := litN hsz hd
  simp only [List.forall_mem_cons, hg] at hp
  obtain ⟨u1, u7, u9, u10, u11, u12, u13, u56, -⟩ := hp
  clear hg hsz hd
  unfold g21 D20 D16 D14 GB GA GL LB13 Try.f13 seq2 seq1 blockC loopC condA condB
  simp only [Option.getD_some, lits, Nat.reduceAdd, u1, u7, u9, u10, u11, u12, u13, u56]
  clear u1 u7 u9 u10 u11 u12 u13 u56
  go_wp2_with fail
  first | refine ⟨?_, rfl, rfl, rfl⟩ | refine ⟨?_, rfl, rfl⟩ | refine ⟨?_, rfl⟩ | skip
  exact ⟨rfl, rfl, by
   intro p hp
   simp only [List.mem_cons, List.not_mem_nil, or_false] at hp
   rcases hp with rfl | rfl | rfl | rfl | rfl | rfl | rfl <;> first | rfl | exact congrArg I (by omega) | exact congrArg Value.bool (by simp)⟩

theorem g22_wp  (hA : Fl 144 [(1, .slice (some ⟨b, o, none⟩) n cap), (7, .slice (some ⟨M, 0, none⟩) n n), (9, .slice p T ct), (10, I (x : Int)), (11, I (y : Int)), (12, I (i : Int)), (13, Pt sb 0), (56, I d)] a) : g22.wp Try.prog (fun e a' w' => e = .normal ∧ Fl 144 [(1, .slice (some ⟨b, o, none⟩) n cap), (7, .slice (some ⟨M, 0, none⟩) n n), (9, .slice p T ct), (10, I (x : Int)), (11, I (y : Int)), (12, I (i : Int)), (13, Pt sb 0), (56, I d), (67, .bool (d == 1))] a' ∧ w'.heap = v.heap ∧ w'.os = v.os ∧ w'.output = v.output) a v := by
  obtain ⟨hsz, hd, hp⟩ := hA
  obtain ⟨u, rfl, hg⟩ := litN hsz hd
  simp only [List.forall_mem_cons, hg] at hp
  obtain ⟨u1, u7, u9, u10, u11, u12, u13, u56, -⟩ := hp
  clear hg hsz hd
  unfold g22 D22 D20 D16 D14 GB GA GL LB13 Try.f13 seq2 seq1 blockC loopC condA condB
  simp only [Option.getD_some, lits, Nat.reduceAdd, u1, u7, u9, u10, u11, u12, u13, u56]
  clear u1 u7 u9 u10 u11 u12 u13 u56
  go_wp2_with fail
  first | refine ⟨?_, rfl, rfl, rfl⟩ | refine ⟨?_, rfl, rfl⟩ | refine ⟨?_, rfl⟩ | skip
  exact ⟨rfl, rfl, by
   intro p hp
   simp only [List.mem_cons, List.not_mem_nil, or_false] at hp
   rcases hp with rfl | rfl | rfl | rfl | rfl | rfl | rfl | rfl | rfl <;> first | rfl | exact congrArg I (by omega) | exact congrArg Value.bool (by simp)⟩

theorem g23_wp (h9 : wrap64 ((y : Int) + 1) = ((y + 1 : Nat) : Int)) (hA : Fl 144 [(1, .slice (some ⟨b, o, none⟩) n cap), (7, .slice (some ⟨M, 0, none⟩) n n), (9, .slice p T ct), (10, I (x : Int)), (11, I (y : Int)), (12, I (i : Int)), (13, Pt sb 0), (56, I d)] a) : g23.wp Try.prog (fun e a' w' => e = .normal ∧ Fl 144 [(1, .slice (some ⟨b, o, none⟩) n cap), (7, .slice (some ⟨M, 0, none⟩) n n), (9, .slice p T ct), (10, I (x : Int)), (11, I ((y + 1 : Nat) : Int)), (12, I (i : Int)), (13, Pt sb 0)] a' ∧ w'.heap = v.heap ∧ w'.os = v.os ∧ w'.output = v.output) a v := by
  obtain ⟨hsz, hd, hp⟩ := hA
  obtain ⟨u, rfl, hg⟩ := litN hsz hd
  simp only [List.forall_mem_cons, hg] at hp
  obtain ⟨u1, u7, u9, u10, u11, u12, u13, u56, -⟩ := hp
  clear hg hsz hd
  unfold g23 D22 D20 D16 D14 GB GA GL LB13 Try.f13 seq2 seq1 blockC loopC condA condB
  simp only [Option.getD_some, lits, Nat.reduceAdd, u1, u7, u9, u10, u11, u12, u13, u56]
  clear u1 u7 u9 u10 u11 u12 u13 u56
  go_wp2_with fail
  first | refine ⟨?_, rfl, rfl, rfl⟩ | refine ⟨?_, rfl, rfl⟩ | refine ⟨?_, rfl⟩ | skip
  exact ⟨rfl, rfl, by
   intro p hp
   simp only [List.mem_cons, List.not_mem_nil, or_false] at hp
   rcases hp with rfl | rfl | rfl | rfl | rfl | rfl | rfl <;> first | rfl | exact congrArg I (by omega) | exact congrArg Value.bool (by simp)⟩

theorem g24_wp (c4 : v.cell? ⟨sb, 4, none⟩ = some (I ne)) (h1 : ne = wrap64 (wrap64 (2 * (x : Int)) + (y : Int))) (h2 : y ≤ 1) (hA : Fl 144 [(1, .slice (some ⟨b, o, none⟩) n cap), (7, .slice (some ⟨M, 0, none⟩) n n), (9, .slice p T ct), (10, I (x : Int)), (11, I (y : Int)), (12, I (i : Int)), (13, Pt sb 0)] a) : g24.wp Try.prog (fun e a' w' => e = .normal ∧ Fl 144 [(1, .slice (some ⟨b, o, none⟩) n cap), (7, .slice (some ⟨M, 0, none⟩) n n), (9, .slice p T ct), (10, I (x : Int)), (11, I (y : Int)), (12, I (i : Int)), (13, Pt sb 0), (85, .bool false)] a' ∧ w'.heap = v.heap ∧ w'.os = v.os ∧ w'.output = v.output) a v := by
  obtain ⟨hsz, hd, hp⟩ := hA
  obtain ⟨u, rfl, hg⟩ := litN hsz hd
  simp only [List.forall_mem_cons, hg] at hp
  obtain ⟨u1, u7, u9, u10, u11, u12, u13, -⟩ := hp
  clear hg hsz hd
  subst h1
  have q1 : ¬ ((y : Int) > 1) := by omega
  have q2 : ¬ ((x : Int) < 0) := by omega
  have q3 : ¬ (1 < y) := by omega
  unfold g24 D14 GB GA GL LB13 Try.f13 seq2 seq1 blockC loopC condA
  simp only [Option.getD_some, lits, Nat.reduceAdd, u1, u7, u9, u10, u11, u12, u13]
  clear u1 u7 u9 u10 u11 u12 u13
  go_wp2_with fail
  first | refine ⟨?_, rfl, rfl, rfl⟩ | refine ⟨?_, rfl, rfl⟩ | refine ⟨?_, rfl⟩ | skip
  exact ⟨rfl, rfl, by
   intro p hp
   simp only [List.mem_cons, List.not_mem_nil, or_false] at hp
   rcases hp with rfl | rfl | rfl | rfl | rfl | rfl | rfl | rfl <;> first | rfl | exact congrArg I (by omega) | exact congrArg Value.bool (by simp)⟩

theorem g26_wp (c2 : v.cell? ⟨sb, 2, none⟩ = some (I oo)) (hA : Fl 144 [(1, .slice (some ⟨b, o, none⟩) n cap), (7, .slice (some ⟨M, 0, none⟩) n n), (9, .slice p T ct), (10, I (x : Int)), (11, I (y : Int)), (12, I (i : Int)), (13, Pt sb 0)] a) : g26.wp Try.prog (fun e a' w' => e = .normal ∧ Fl 144 [(1, .slice (some ⟨b, o, none⟩) n cap), (7, .slice (some ⟨M, 0, none⟩) n n), (9, .slice p T ct), (10, I (x : Int)), (11, I (y : Int)), (12, I (i : Int)), (13, Pt sb 0), (88, .bool (oo != 10))] a' ∧ w'.heap = v.heap ∧ w'.os = v.os ∧ w'.output = v.output) a v := by
  obtain ⟨hsz, hd, hp⟩ := hA
  obtain ⟨u, rfl, hg⟩ := litN hsz hd
  simp only [List.forall_mem_cons, hg] at hp
  obtain ⟨u1, u7, u9, u10, u11, u12, u13, -⟩ := hp
  clear hg hsz hd
  unfold g26 E26 GB GA GL LB13 Try.f13 seq2 seq1 blockC loopC
  simp only [Option.getD_some, lits, Nat.reduceAdd, u1, u7, u9, u10, u11, u12, u13]
  clear u1 u7 u9 u10 u11 u12 u13
  go_wp2_with fail
  first | refine ⟨?_, rfl, rfl, rfl⟩ | refine ⟨?_, rfl, rfl⟩ | refine ⟨?_, rfl⟩ | skip
  exact ⟨rfl, rfl, by
   intro p hp
   simp only [List.mem_cons, List.not_mem_nil, or_false] at hp
   rcases hp with rfl | rfl | rfl | rfl | rfl | rfl | rfl | rfl <;> first | rfl | exact congrArg I (by omega) | exact congrArg Value.bool (by simp)⟩

theorem g27_wp (hi : t < n) (hk : k < lt) (d1 : v.cell? ⟨b, o + t, none⟩ = some (.slice (some ⟨rb, ro, none⟩) lt cp)) (c0 : v.cell? ⟨sb, 0, none⟩ = some (I (t : Int))) (c3 : v.cell? ⟨sb, 3, none⟩ = some (I (k : Int))) (hA : Fl 144 [(1, .slice (some ⟨b, o, none⟩) n cap), (7, .slice (some ⟨M, 0, none⟩) n n), (9, .slice p T ct), (10, I (x : Int)), (11, I (y : Int)), (12, I (i : Int)), (13, Pt sb 0)] a) : g27.wp Try.prog (fun e a' w' => e = .normal ∧ Fl 144 [(1, .slice (some ⟨b, o, none⟩) n cap), (7, .slice (some ⟨M, 0, none⟩) n n), (9, .slice p T ct), (10, I (x : Int)), (11, I (y : Int)), (12, I (i : Int)), (13, Pt sb 0), (114, .bool false)] a' ∧ w'.heap = v.heap ∧ w'.os = v.os ∧ w'.output = v.output) a v := by
  obtain ⟨hsz, hd, hp⟩ := hA
  obtain ⟨u, rfl, hg⟩ := litN hsz hd
  simp only [List.forall_mem_cons, hg] at hp
  obtain ⟨u1, u7, u9, u10, u11, u12, u13, -⟩ := hp
  clear hg hsz hd
  have q1 : ¬ ((t : Int) < 0) := by omega
  have q2 : ¬ ((t : Int) ≥ (n : Int)) := by omega
  have q3 : ¬ ((k : Int) < 0) := by omega
  have q4 : ¬ ((k : Int) ≥ (lt : Int)) := by omega
  have q5 : (t : Int) < (n : Int) := by omega
  have q6 : (k : Int) < (lt : Int) := by omega
  have q7 : ¬ n ≤ t := by omega
  have q8 : ¬ lt ≤ k := by omega
  unfold g27 E26 GB GA GL LB13 Try.f13 seq2 seq1 blockC loopC
  simp only [Option.getD_some, lits, Nat.reduceAdd, u1, u7, u9, u10, u11, u12, u13]
  clear u1 u7 u9 u10 u11 u12 u13
  go_wp2_with fail
  go_quiet (fail)
  go_wp2_with fail
  first | refine ⟨?_, rfl, rfl, rfl⟩ | refine ⟨?_, rfl, rfl⟩ | refine ⟨?_, rfl⟩ | skip
  exact ⟨rfl, rfl, by
   intro p hp
   simp only [List.mem_cons, List.not_mem_nil, or_false] at hp
   rcases hp with rfl | rfl | rfl | rfl | rfl | rfl | rfl | rfl <;> first | rfl | exact congrArg I (by omega) | exact congrArg Value.bool (by simp)⟩

theorem g29_wpa (hi : t < n) (hk : k < lt) (d1 : v.cell? ⟨b, o + t, none⟩ = some (.slice (some ⟨rb, ro, none⟩) lt cp)) (c0 : v.cell? ⟨sb, 0, none⟩ = some (I (t : Int))) (c3 : v.cell? ⟨sb, 3, none⟩ = some (I (k : Int))) (s1 : v.cell? ⟨rb, ro + k * 4, none⟩ = some (I po)) (c4 : v.cell? ⟨sb, 4, none⟩ = some (I ne)) (h1 : po ≠ 3) (hA : Fl 144 [(1, .slice (some ⟨b, o, none⟩) n cap), (7, .slice (some ⟨M, 0, none⟩) n n), (9, .slice p T ct), (10, I (x : Int)), (11, I (y : Int)), (12, I (i : Int)), (13, Pt sb 0)] a) : g29.wp Try.prog (fun e a' w' => e = .normal ∧ Fl 144 [(1, .slice (some ⟨b, o, none⟩) n cap), (7, .slice (some ⟨M, 0, none⟩) n n), (9, .slice p T ct), (10, I (x : Int)), (11, I (y : Int)), (12, I (i : Int)), (13, Pt sb 0), (138, .bool false)] a' ∧ w'.heap = v.heap ∧ w'.os = v.os ∧ w'.output = v.output) a v := by
  obtain ⟨hsz, hd, hp⟩ := hA
  obtain ⟨u, rfl, hg⟩ := litN hsz hd
  simp only [List.forall_mem_cons, hg] at hp
  obtain ⟨u1, u7, u9, u10, u11, u12, u13, -⟩ := hp
  clear hg hsz hd
  have q1 : ¬ ((t : Int) < 0) := by omega
  have q2 : ¬ ((t : Int) ≥ (n : Int)) := by omega
  have q3 : ¬ ((k : Int) < 0) := by omega
  have q4 : ¬ ((k : Int) ≥ (lt : Int)) := by omega
  have q5 : (t : Int) < (n : Int) := by omega
  have q6 : (k : Int) < (lt : Int) := by omega
  have q7 : ¬ n ≤ t := by omega
  have q8 : ¬ lt ≤ k := by omega
  have f1 : (po == 3) = false := by simp [h1]
  unfold g29 E26 GB GA GL LB13 Try.f13 seq2 seq1 blockC loopC
  simp only [Option.getD_some, lits, Nat.reduceAdd, u1, u7, u9, u10, u11, u12, u13]
  clear u1 u7 u9 u10 u11 u12 u13
  go_wp2_with fail
  go_quiet (fail)
  go_wp2_with fail
  first | refine ⟨?_, rfl, rfl, rfl⟩ | refine ⟨?_, rfl, rfl⟩ | refine ⟨?_, rfl⟩ | skip
  exact ⟨rfl, rfl, by
   intro p hp
   simp only [List.mem_cons, List.not_mem_nil, or_false] at hp
   rcases hp with rfl | rfl | rfl | rfl | rfl | rfl | rfl | rfl <;> first | rfl | exact congrArg I (by omega) | exact congrArg Value.bool (by simp)⟩

theorem g29_wpb (hi : t < n) (hk : k < lt) (d1 : v.cell? ⟨b, o + t, none⟩ = some (.slice (some ⟨rb, ro, none⟩) lt cp)) (c0 : v.cell? ⟨sb, 0, none⟩ = some (I (t : Int))) (c3 : v.cell? ⟨sb, 3, none⟩ = some (I (k : Int))) (s1 : v.cell? ⟨rb, ro + k * 4, none⟩ = some (I po)) (c4 : v.cell? ⟨sb, 4, none⟩ = some (I ne)) (h1 : po = 3) (h2 : ne ≠ 0) (hA : Fl 144 [(1, .slice (some ⟨b, o, none⟩) n cap), (7, .slice (some ⟨M, 0, none⟩) n n), (9, .slice p T ct), (10, I (x : Int)), (11, I (y : Int)), (12, I (i : Int)), (13, Pt sb 0)] a) : g29.wp Try.prog (fun e a' w' => e = .normal ∧ Fl 144 [(1, .slice (some ⟨b, o, none⟩) n cap), (7, .slice (some ⟨M, 0, none⟩) n n), (9, .slice p T ct), (10, I (x : Int)), (11, I (y : Int)), (12, I (i : Int)), (13, Pt sb 0), (138, .bool false)] a' ∧ w'.heap = v.heap ∧ w'.os = v.os ∧ w'.output = v.output) a v := by
  obtain ⟨hsz, hd, hp⟩ := hA
  obtain ⟨u, rfl, hg⟩ := litN hsz hd
  simp only [List.forall_mem_cons, hg] at hp
  obtain ⟨u1, u7, u9, u10, u11, u12, u13, -⟩ := hp
  clear hg hsz hd
  have q1 : ¬ ((t : Int) < 0) := by omega
  have q2 : ¬ ((t : Int) ≥ (n : Int)) := by omega
  have q3 : ¬ ((k : Int) < 0) := by omega
  have q4 : ¬ ((k : Int) ≥ (lt : Int)) := by omega
  have q5 : (t : Int) < (n : Int) := by omega
  have q6 : (k : Int) < (lt : Int) := by omega
  have q7 : ¬ n ≤ t := by omega
  have q8 : ¬ lt ≤ k := by omega
  subst h1
  have f2 : (ne == 0) = false := by simp [h2]
  unfold g29 E26 GB GA GL LB13 Try.f13 seq2 seq1 blockC loopC
  simp only [Option.getD_some, lits, Nat.reduceAdd, u1, u7, u9, u10, u11, u12, u13]
  clear u1 u7 u9 u10 u11 u12 u13
  go_wp2_with fail
  go_quiet (fail)
  go_wp2_with fail
  first | refine ⟨?_, rfl, rfl, rfl⟩ | refine ⟨?_, rfl, rfl⟩ | refine ⟨?_, rfl⟩ | skip
  exact ⟨rfl, rfl, by
   intro p hp
   simp only [List.mem_cons, List.not_mem_nil, or_false] at hp
   rcases hp with rfl | rfl | rfl | rfl | rfl | rfl | rfl | rfl <;> first | rfl | exact congrArg I (by omega) | exact congrArg Value.bool (by simp)⟩

theorem g29_wpc (hi : t < n) (hk : k < lt) (d1 : v.cell? ⟨b, o + t, none⟩ = some (.slice (some ⟨rb, ro, none⟩) lt cp)) (c0 : v.cell? ⟨sb, 0, none⟩ = some (I (t : Int))) (c3 : v.cell? ⟨sb, 3, none⟩ = some (I (k : Int))) (s1 : v.cell? ⟨rb, ro + k * 4, none⟩ = some (I po)) (c4 : v.cell? ⟨sb, 4, none⟩ = some (I ne)) (h1 : po = 3) (h2 : ne = 0) (hA : Fl 144 [(1, .slice (some ⟨b, o, none⟩) n cap), (7, .slice (some ⟨M, 0, none⟩) n n), (9, .slice p T ct), (10, I 0), (11, I 1), (12, I (i : Int)), (13, Pt sb 0)] a) : g29.wp Try.prog (fun e a' w' => e = .normal ∧ Fl 144 [(1, .slice (some ⟨b, o, none⟩) n cap), (7, .slice (some ⟨M, 0, none⟩) n n), (9, .slice p T ct), (10, I 0), (11, I 1), (12, I (i : Int)), (13, Pt sb 0), (138, .bool false)] a' ∧ w'.heap = v.heap ∧ w'.os = v.os ∧ w'.output = v.output) a v := by
  obtain ⟨hsz, hd, hp⟩ := hA
  obtain ⟨u, rfl, hg⟩ := litN hsz hd
  simp only [List.forall_mem_cons, hg] at hp
  obtain ⟨u1, u7, u9, u10, u11, u12, u13, -⟩ := hp
  clear hg hsz hd
  have q1 : ¬ ((t : Int) < 0) := by omega
  have q2 : ¬ ((t : Int) ≥ (n : Int)) := by omega
  have q3 : ¬ ((k : Int) < 0) := by omega
  have q4 : ¬ ((k : Int) ≥ (lt : Int)) := by omega
  have q5 : (t : Int) < (n : Int) := by omega
  have q6 : (k : Int) < (lt : Int) := by omega
  have q7 : ¬ n ≤ t := by omega
  have q8 : ¬ lt ≤ k := by omega
  subst h1 h2
  unfold g29 E26 GB GA GL LB13 Try.f13 seq2 seq1 blockC loopC
  simp only [Option.getD_some, lits, Nat.reduceAdd, u1, u7, u9, u10, u11, u12, u13]
  clear u1 u7 u9 u10 u11 u12 u13
  go_wp2_with fail
  go_quiet (fail)
  go_wp2_with fail
  first | refine ⟨?_, rfl, rfl, rfl⟩ | refine ⟨?_, rfl, rfl⟩ | refine ⟨?_, rfl⟩ | skip
  exact ⟨rfl, rfl, by
   intro p hp
   simp only [List.mem_cons, List.not_mem_nil, or_false] at hp
   rcases hp with rfl | rfl | rfl | rfl | rfl | rfl | rfl | rfl <;> first | rfl | exact congrArg I (by omega) | exact congrArg Value.bool (by simp)⟩

set_option maxHeartbeats 4000000 in
set_option maxRecDepth 100000 in
theorem g31_wp {v : World} {a : Act} {b o n cap M T ct x y : Nat} {p : Option Addr} (hC : Calls Try.prog 49 #[.slice (some ⟨b, o, none⟩) n cap, .slice (some ⟨M, 0, none⟩) n n, I (x : Int), I (y : Int)] v (fun e w' => e = .returned (.bool true) ∧ Grows v w')) (hA : Fl 144 [(1, .slice (some ⟨b, o, none⟩) n cap), (7, .slice (some ⟨M, 0, none⟩) n n), (9, .slice p T ct), (10, I (x : Int)), (11, I (y : Int))] a) :
    g31.wp Try.prog (fun e a w' => e = .ret ∧ Fl 144 [(4, .bool true)] a ∧ Grows v w') a v := by
  have H7 : Hid (Calls Try.prog 49 #[.slice (some ⟨b, o, none⟩) n cap, .slice (some ⟨M, 0, none⟩) n n, I (x : Int), I (y : Int)] v (fun e w' => e = .returned (.bool true) ∧ Grows v w')) := ⟨hC⟩
  clear hC
  obtain ⟨hsz, hd, hp⟩ := hA
  obtain ⟨u, rfl, hg⟩ := litN hsz hd
  have u1 := (hg 1).symm.trans (hp (1, .slice (some ⟨b, o, none⟩) n cap) (by simp))
  have u7 := (hg 7).symm.trans (hp (7, .slice (some ⟨M, 0, none⟩) n n) (by simp))
  have u9 := (hg 9).symm.trans (hp (9, .slice p T ct) (by simp))
  have u10 := (hg 10).symm.trans (hp (10, I (x : Int)) (by simp))
  have u11 := (hg 11).symm.trans (hp (11, I (y : Int)) (by simp))
  clear hg hp hsz hd
  unfold g31 LB13 Try.f13 seq2
  simp only [Option.getD_some, lits, Nat.reduceAdd, u1, u7, u9, u10, u11]
  clear u1 u7 u9 u10 u11
  go_wp2_with (first
    | (go_at_call 49; refine H7.out.mono ?_; rintro e w1 ⟨rfl, hgr⟩))
  exact ⟨rfl, rfl, by
   intro p hp
   simp only [List.mem_cons, List.not_mem_nil, or_false] at hp
   rcases hp with rfl <;> first | rfl | exact congrArg I (by omega) | exact congrArg Value.bool (by simp)⟩

theorem fine_g2 : fineCode Try.prog true LGt g2 := fineCode_askS callGt extT (by kernel_rfl)
theorem fine_T13 : fineCode Try.prog true LGt T13 := fineCode_askS callGt extT (by kernel_rfl)
end
end Go.Proofs.Ytfjjoohflcchnaa.Gen
