/- ChainRing: of a ring the last who writes down is told, under every schedule. Part 35 of 37. (Joined, by program, of: ChAw2, GRow.) -/
import Derived.Test.YtfjjoohflcchnaaChainRing26
import Derived.Test.YtfjjoohflcchnaaChainRing30
import Derived.Test.YtfjjoohflcchnaaChainRing33
import Derived.Test.YtfjjoohflcchnaaChainRing34
import Derived.BigQuiet
import Derived.Conc.LeavingOf
import Derived.ProofKit
import Derived.OpenShut
import Derived.ChangeOld
import Derived.Lib.SmallJoins
import Derived.Deep.SlicePairs
set_option linter.unusedSimpArgs false
set_option linter.unusedVariables false
namespace Go.Proofs.Ytfjjoohflcchnaa.Gen
open Go Go.Lift Go.Conc Go.RowKit

noncomputable def hwB : Code := Try.f50.body.getD .skip
noncomputable def y0 : Code := seq1 hwB
noncomputable def y1 : Code := seq1 (seq2 hwB)
noncomputable def y2 : Code := seq1 (seq2 (seq2 hwB))
noncomputable def y3 : Code := seq1 (seq2 (seq2 (seq2 hwB)))
noncomputable def y4 : Code := seq1 (seq2 (seq2 (seq2 (seq2 hwB))))
noncomputable def y5 : Code := seq1 (seq2 (seq2 (seq2 (seq2 (seq2 hwB)))))
noncomputable def y6 : Code := seq1 (seq1 (seq2 (seq2 (seq2 (seq2 (seq2 (seq2 hwB)))))))
noncomputable def y7 : Code := condA (seq2 (seq1 (seq2 (seq2 (seq2 (seq2 (seq2 (seq2 hwB))))))))
noncomputable def y8 : Code := seq1 (seq2 (seq2 (seq2 (seq2 (seq2 (seq2 (seq2 hwB)))))))
noncomputable def y9 : Code := seq1 (seq2 (seq2 (seq2 (seq2 (seq2 (seq2 (seq2 (seq2 hwB))))))))
noncomputable def y10 : Code := seq1 (seq2 (seq2 (seq2 (seq2 (seq2 (seq2 (seq2 (seq2 (seq2 hwB)))))))))
noncomputable def y11 : Code := (seq2 (seq2 (seq2 (seq2 (seq2 (seq2 (seq2 (seq2 (seq2 (seq2 hwB))))))))))
noncomputable def Y10 : Code := .seq y10 y11
noncomputable def Y9 : Code := .seq y9 Y10
noncomputable def Y8 : Code := .seq y8 Y9
noncomputable def Y4 : Code := .seq y4 (.seq y5 (.seq (.seq y6 (.cond (.tmp 44) y7 .skip)) Y8))
noncomputable def Y3 : Code := .seq y3 Y4
theorem eHwB : hwB = .seq y0 (.seq y1 (.seq y2 Y3)) := by kernel_rfl
theorem fine_y0 : fineCode Try.prog true LV y0 := fineCode_askS callV extT (by kernel_rfl)
theorem fine_y1 : fineCode Try.prog true LV y1 := fineCode_askS callV extT (by kernel_rfl)
theorem fine_y4 : fineCode Try.prog true LV y4 := fineCode_askS callV extT (by kernel_rfl)
theorem fine_y5 : fineCode Try.prog true LV y5 := fineCode_askS callV extT (by kernel_rfl)
theorem fine_y6 : fineCode Try.prog true LV y6 := fineCode_askS callV extT (by kernel_rfl)
theorem fine_y11 : fineCode Try.prog true LV y11 := fineCode_askS callV extT (by kernel_rfl)
set_option maxHeartbeats 4000000 in
set_option maxRecDepth 100000 in
theorem y0_wp {v : World} {a : Act} (hA : Fl 89 [] a) : y0.wp Try.prog (fun e a' w' => e = .normal ∧ Fl 89 [(0, .bool false)] a' ∧ w'.heap = v.heap ∧ w'.os = v.os ∧ w'.output = v.output) a v := by
  obtain ⟨hsz, hd, hp⟩ := hA
  obtain ⟨u, rfl, hg⟩ := litN hsz hd
  clear hg hp hsz hd
  unfold y0 hwB Try.f50 seq1
  simp only [Option.getD_some, lits, Nat.reduceAdd]
  go_wp2_with fail
  first | refine ⟨?_, rfl, rfl, rfl⟩ | refine ⟨?_, rfl, rfl⟩ | refine ⟨?_, rfl⟩ | skip
  exact ⟨rfl, rfl, by
   intro p hp
   simp only [List.mem_cons, List.not_mem_nil, or_false] at hp
   rcases hp with rfl <;> first | rfl | exact congrArg I (by omega) | exact congrArg Value.bool (by simp)⟩

set_option maxHeartbeats 4000000 in
set_option maxRecDepth 100000 in
theorem y1_wp {v : World} {a : Act} (hA : Fl 89 [(0, .bool false)] a) :
    y1.wp Try.prog (fun e a w' => e = .normal ∧ ∃ wb bk sc, Fl 89 [(0, .bool false), (1, Pt wb 0)] a ∧ IsNew v [] wb bk sc w') a v := by
  have H7 : Hid (Calls Try.prog 18 #[.slice none 0 0] v _) := ⟨(body70 (v := v) none 0).calls Try.func18 rfl⟩
  obtain ⟨hsz, hd, hp⟩ := hA
  obtain ⟨u, rfl, hg⟩ := litN hsz hd
  have u0 := (hg 0).symm.trans (hp (0, .bool false) (by simp))
  clear hg hp hsz hd
  unfold y1 hwB Try.f50 seq2 seq1
  simp only [Option.getD_some, lits, Nat.reduceAdd, u0]
  clear u0
  go_wp2_with (first
    | (go_at_call 18; refine H7.out.mono ?_; rintro e w1 ⟨_, rfl, wb, bk, sc, rfl, hnew⟩))
  exact ⟨wb, ⟨rfl, rfl, by
   intro p hp
   simp only [List.mem_cons, List.not_mem_nil, or_false] at hp
   rcases hp with rfl | rfl <;> first | rfl | exact congrArg I (by omega) | exact congrArg Value.bool (by simp)⟩, bk, sc, hnew⟩

set_option maxHeartbeats 4000000 in
set_option maxRecDepth 100000 in
theorem y4_wp {v : World} {a : Act} {M : Nat} (hA : Fl 89 [(0, .bool false), (2, .slice (some ⟨M, 0, none⟩) 1 1), (3, I 0), (5, I 1)] a) :
    y4.wp Try.prog (fun e a w' => e = .normal ∧ Fl 89 [(0, .bool false), (2, .slice (some ⟨M, 0, none⟩) 1 1), (3, I 0), (5, I 1), (6, Pt v.heap.size 0)] a ∧ w'.heap = v.heap.push (.cells #[.pointer none, I 0, .chan none, I 0, I 0, I 0, I 0] 97) ∧ w'.os = v.os ∧ w'.output = v.output) a v := by
  have H7 : Hid (Calls Try.prog 22 #[I 0] v _) := ⟨(body11 v 0).calls Try.func22 rfl⟩
  obtain ⟨hsz, hd, hp⟩ := hA
  obtain ⟨u, rfl, hg⟩ := litN hsz hd
  have u0 := (hg 0).symm.trans (hp (0, .bool false) (by simp))
  have u2 := (hg 2).symm.trans (hp (2, .slice (some ⟨M, 0, none⟩) 1 1) (by simp))
  have u3 := (hg 3).symm.trans (hp (3, I 0) (by simp))
  have u5 := (hg 5).symm.trans (hp (5, I 1) (by simp))
  clear hg hp hsz hd
  unfold y4 hwB Try.f50 seq2 seq1
  simp only [Option.getD_some, lits, Nat.reduceAdd, u0, u2, u3, u5]
  clear u0 u2 u3 u5
  go_wp2_with (first
    | (go_at_call 22; refine H7.out.mono ?_; rintro e w1 ⟨_, rfl, rfl, k1, k2, k3⟩))
  first | exact ⟨⟨rfl, rfl, by
   intro p hp
   simp only [List.mem_cons, List.not_mem_nil, or_false] at hp
   rcases hp with rfl | rfl | rfl | rfl | rfl <;> first | rfl | exact congrArg I (by omega) | exact congrArg Value.bool (by simp)⟩, k1, k2, k3⟩ | exact ⟨rfl, rfl, by
   intro p hp
   simp only [List.mem_cons, List.not_mem_nil, or_false] at hp
   rcases hp with rfl | rfl | rfl | rfl | rfl <;> first | rfl | exact congrArg I (by omega) | exact congrArg Value.bool (by simp)⟩

set_option maxHeartbeats 4000000 in
set_option maxRecDepth 100000 in
theorem y5_wp {v : World} {a : Act} {M tb : Nat} (hA : Fl 89 [(0, .bool false), (2, .slice (some ⟨M, 0, none⟩) 1 1), (3, I 0), (5, I 1), (6, Pt tb 0)] a) :
    y5.wp Try.prog (fun e a w' => e = .normal ∧ Fl 89 [(0, .bool false), (2, .slice (some ⟨M, 0, none⟩) 1 1), (3, I 0), (5, I 1), (6, Pt tb 0), (7, Pt (v.heap.size + 1) 0)] a ∧ NwC v 2 v.heap.size 2 w') a v := by
  have H7 : Hid (Calls Try.prog 79 #[.pointer none, I 2] v _) := ⟨(body12n v 2 (by omega)).calls Try.func79 rfl⟩
  obtain ⟨hsz, hd, hp⟩ := hA
  obtain ⟨u, rfl, hg⟩ := litN hsz hd
  have u0 := (hg 0).symm.trans (hp (0, .bool false) (by simp))
  have u2 := (hg 2).symm.trans (hp (2, .slice (some ⟨M, 0, none⟩) 1 1) (by simp))
  have u3 := (hg 3).symm.trans (hp (3, I 0) (by simp))
  have u5 := (hg 5).symm.trans (hp (5, I 1) (by simp))
  have u6 := (hg 6).symm.trans (hp (6, Pt tb 0) (by simp))
  clear hg hp hsz hd
  unfold y5 hwB Try.f50 seq2 seq1
  simp only [Option.getD_some, lits, Nat.reduceAdd, u0, u2, u3, u5, u6]
  clear u0 u2 u3 u5 u6
  go_wp2_with (first
    | (go_at_call 79; refine H7.out.mono ?_; rintro e w1 ⟨_, rfl, rfl, k1⟩))
  exact ⟨rfl, rfl, by
   intro p hp
   simp only [List.mem_cons, List.not_mem_nil, or_false] at hp
   rcases hp with rfl | rfl | rfl | rfl | rfl | rfl <;> first | rfl | exact congrArg I (by omega) | exact congrArg Value.bool (by simp)⟩

set_option maxHeartbeats 4000000 in
set_option maxRecDepth 100000 in
theorem y6_wp {v : World} {a : Act} {M tb lb A0 : Nat} (c0 : v.cell? ⟨M, 0, none⟩ = some (.slice (some ⟨A0, 0, none⟩) 3 3)) (hA : Fl 89 [(0, .bool false), (2, .slice (some ⟨M, 0, none⟩) 1 1), (3, I 0), (5, I 1), (6, Pt tb 0), (7, Pt lb 0)] a) : y6.wp Try.prog (fun e a' w' => e = .normal ∧ Fl 89 [(0, .bool false), (2, .slice (some ⟨M, 0, none⟩) 1 1), (3, I 0), (5, I 1), (6, Pt tb 0), (7, Pt lb 0), (44, .bool false)] a' ∧ w'.heap = v.heap ∧ w'.os = v.os ∧ w'.output = v.output) a v := by
  obtain ⟨hsz, hd, hp⟩ := hA
  obtain ⟨u, rfl, hg⟩ := litN hsz hd
  have u0 := (hg 0).symm.trans (hp (0, .bool false) (by simp))
  have u2 := (hg 2).symm.trans (hp (2, .slice (some ⟨M, 0, none⟩) 1 1) (by simp))
  have u3 := (hg 3).symm.trans (hp (3, I 0) (by simp))
  have u5 := (hg 5).symm.trans (hp (5, I 1) (by simp))
  have u6 := (hg 6).symm.trans (hp (6, Pt tb 0) (by simp))
  have u7 := (hg 7).symm.trans (hp (7, Pt lb 0) (by simp))
  clear hg hp hsz hd
  unfold y6 hwB Try.f50 seq2 seq1
  simp only [Option.getD_some, lits, Nat.reduceAdd, u0, u2, u3, u5, u6, u7]
  clear u0 u2 u3 u5 u6 u7
  go_wp2_with fail
  first | refine ⟨?_, rfl, rfl, rfl⟩ | refine ⟨?_, rfl, rfl⟩ | refine ⟨?_, rfl⟩ | skip
  exact ⟨rfl, rfl, by
   intro p hp
   simp only [List.mem_cons, List.not_mem_nil, or_false] at hp
   rcases hp with rfl | rfl | rfl | rfl | rfl | rfl | rfl <;> first | rfl | exact congrArg I (by omega) | exact congrArg Value.bool (by simp)⟩

set_option maxHeartbeats 4000000 in
set_option maxRecDepth 100000 in
theorem y11_wp {v : World} {a : Act} {M tb lb A0 : Nat} (c0 : v.cell? ⟨M, 0, none⟩ = some (.slice (some ⟨A0, 0, none⟩) 3 3)) (c3 : v.cell? ⟨A0, 3, none⟩ = some (I 0)) (c4 : v.cell? ⟨A0, 4, none⟩ = some (I 0)) (c5 : v.cell? ⟨A0, 5, none⟩ = some (I 1)) (hA : Fl 89 [(0, .bool false), (2, .slice (some ⟨M, 0, none⟩) 1 1), (3, I 0), (5, I 1), (6, Pt tb 0), (7, Pt lb 0), (8, .bool false), (9, .bool true), (10, .bool false)] a) : y11.wp Try.prog (fun e a' w' => e = .ret ∧ Fl 89 [(0, .bool true)] a' ∧ w'.heap = v.heap ∧ w'.os = v.os ∧ w'.output = v.output) a v := by
  obtain ⟨hsz, hd, hp⟩ := hA
  obtain ⟨u, rfl, hg⟩ := litN hsz hd
  have u0 := (hg 0).symm.trans (hp (0, .bool false) (by simp))
  have u2 := (hg 2).symm.trans (hp (2, .slice (some ⟨M, 0, none⟩) 1 1) (by simp))
  have u3 := (hg 3).symm.trans (hp (3, I 0) (by simp))
  have u5 := (hg 5).symm.trans (hp (5, I 1) (by simp))
  have u6 := (hg 6).symm.trans (hp (6, Pt tb 0) (by simp))
  have u7 := (hg 7).symm.trans (hp (7, Pt lb 0) (by simp))
  have u8 := (hg 8).symm.trans (hp (8, .bool false) (by simp))
  have u9 := (hg 9).symm.trans (hp (9, .bool true) (by simp))
  have u10 := (hg 10).symm.trans (hp (10, .bool false) (by simp))
  clear hg hp hsz hd
  unfold y11 hwB Try.f50 seq2
  simp only [Option.getD_some, lits, Nat.reduceAdd, u0, u2, u3, u5, u6, u7, u8, u9, u10]
  clear u0 u2 u3 u5 u6 u7 u8 u9 u10
  go_wp2_with fail
  first | refine ⟨?_, rfl, rfl, rfl⟩ | refine ⟨?_, rfl, rfl⟩ | refine ⟨?_, rfl⟩ | skip
  exact ⟨rfl, rfl, by
   intro p hp
   simp only [List.mem_cons, List.not_mem_nil, or_false] at hp
   rcases hp with rfl <;> first | rfl | exact congrArg I (by omega) | exact congrArg Value.bool (by simp)⟩

set_option maxHeartbeats 4000000 in
set_option maxRecDepth 100000 in
theorem body14n {v : World} (b : Nat) {p : Option Addr} (c0 : v.cell? ⟨b, 0, none⟩ = some (.slice p 1 1)) : Body Try.f53 #[.pointer none, .slice (some ⟨b, 0, none⟩) 1 1] v (fun r v' => r = I 1 ∧ v'.heap = v.heap ∧ v'.os = v.os ∧ v'.output = v.output) := by
  intro code hb
  obtain rfl := Option.some.inj hb
  clear hb
  have hs : ∀ k, k < 1 → ∃ sb so, some (⟨b, 0, none⟩ : Addr) = some ⟨sb, so, none⟩ ∧ v.cell? ⟨sb, so + k, none⟩ = some (.slice p 1 1) := fun k hk => by
    have e : k = 0 := by omega
    subst e
    exact ⟨b, 0, rfl, c0⟩
  have h57 := (body57 (v := v) (some ⟨b, 0, none⟩) 1 1 (by omega) (fun _ => p) (fun _ => 1) (fun _ => 1) hs).calls Try.func82 rfl
  have H57 : Hid _ := ⟨h57⟩
  clear h57 hs
  simp only [Try.ntmps53, List.size_toArray, List.length_cons, List.length_nil, Nat.reduceAdd, Nat.reduceSub, Array.replicate_succ, Array.replicate_zero, List.push_toArray, List.append_toArray, List.nil_append, List.cons_append]
  go_wp2_with fail
  go_at_call 82
  refine H57.out.mono ?_
  rintro e w1 ⟨r1, rfl, rfl, hq⟩
  rcases hq with ⟨⟨k, hk, h1⟩, _⟩ | ⟨hq, rfl⟩
  · omega
  · have e1 : checkS 1 = 0 := by unfold checkS; rw [if_neg (by omega)]
    rw [e1]
    go_wp2_with fail
    go_ret
    exact ⟨_, rfl, rfl, rfl, rfl, rfl⟩
set_option maxHeartbeats 4000000 in
set_option maxRecDepth 100000 in
theorem k8c0n_wp {v : World} {a : Act} {m : Int} {b : Nat} (hA : Fl 28 [(0, .pointer none), (1, I m), (2, .slice (some ⟨b, 0, none⟩) 1 1)] a) : k8c0.wp Try.prog (fun e a w' => e = .normal ∧ Fl 28 [(0, .pointer none), (1, I m), (2, .slice (some ⟨b, 0, none⟩) 1 1), (6, .slice none 0 0), (7, I 0)] a ∧ w'.heap = v.heap ∧ w'.os = v.os ∧ w'.output = v.output) a v := by
  obtain ⟨hsz, hd, hp⟩ := hA
  obtain ⟨u, rfl, hg⟩ := litN hsz hd
  have u0 := (hg 0).symm.trans (hp (0, .pointer none) (by simp))
  have u1 := (hg 1).symm.trans (hp (1, I m) (by simp))
  have u2 := (hg 2).symm.trans (hp (2, .slice (some ⟨b, 0, none⟩) 1 1) (by simp))
  clear hg hp hsz hd
  unfold k8c0 B8c Try.f52 seq1
  simp only [Option.getD_some, lits, Nat.reduceAdd, u0, u1, u2]
  clear u0 u1 u2
  go_wp2_with fail
  first | refine ⟨?_, rfl, rfl, rfl⟩ | refine ⟨?_, rfl, rfl⟩ | refine ⟨?_, rfl⟩ | skip
  exact ⟨rfl, rfl, by
   intro p hp
   simp only [List.mem_cons, List.not_mem_nil, or_false] at hp
   rcases hp with rfl | rfl | rfl | rfl | rfl <;> first | rfl | exact congrArg I (by omega) | exact congrArg Value.bool (by simp)⟩

set_option maxHeartbeats 4000000 in
set_option maxRecDepth 100000 in
theorem k8c1_nil {v : World} {a : Act} {m : Int} {b : Nat} {p : Option Addr} (c0 : v.cell? ⟨b, 0, none⟩ = some (.slice p 1 1)) (hA : Fl 28 [(0, .pointer none), (1, I m), (2, .slice (some ⟨b, 0, none⟩) 1 1), (6, .slice none 0 0), (7, I 0)] a) :
    k8c1.wp Try.prog (fun e a w' => e = .ret ∧ ∃ x, (results Try.f52 a.tmps).run Try.prog w' = .ok x w' ∧ x = .tuple #[.slice none 0 0, I 1] ∧ w'.heap = v.heap ∧ w'.os = v.os ∧ w'.output = v.output) a v := by
  have H19 : Hid (Calls Try.prog 53 #[.pointer none, .slice (some ⟨b, 0, none⟩) 1 1] v _) := ⟨(body14n b c0).calls Try.func53 rfl⟩
  obtain ⟨hsz, hd, hp⟩ := hA
  obtain ⟨u, rfl, hg⟩ := litN hsz hd
  have u0 := (hg 0).symm.trans (hp (0, .pointer none) (by simp))
  have u1 := (hg 1).symm.trans (hp (1, I m) (by simp))
  have u2 := (hg 2).symm.trans (hp (2, .slice (some ⟨b, 0, none⟩) 1 1) (by simp))
  have u6 := (hg 6).symm.trans (hp (6, .slice none 0 0) (by simp))
  have u7 := (hg 7).symm.trans (hp (7, I 0) (by simp))
  clear hg hp hsz hd
  unfold k8c1 B8c Try.f52 seq1 seq2
  simp only [Option.getD_some, lits, Nat.reduceAdd, u0, u1, u2, u6, u7]
  clear u0 u1 u2 u6 u7
  go_wp2_with (first
    | (go_at_call 53; refine H19.out.mono ?_; rintro e w1 ⟨_, rfl, rfl, k1, k2, k3⟩))
  first
    | exact ⟨_, results_tmp2 (t := 6) (u := 7) rfl _ _ _, rfl, k1, k2, k3⟩
    | exact results_tmp2 (t := 6) (u := 7) rfl _ _ _
set_option maxHeartbeats 4000000 in
set_option maxRecDepth 100000 in
/-- Play of no world refuses. -/
theorem hplay_nil {Ch : Nat → Prop} {Stop : Goroutine → World → Prop} {main : Bool} {v w : World} (m : Int) (b : Nat) {p : Option Addr} (c0 : v.cell? ⟨b, 0, none⟩ = some (.slice p 1 1)) (cs : List Frame) {bc : Frame} {ac : Act} {ops : Array Oper} {q : Nat} {rest : List Nat} {oc : Oper} {k0 : List Item} (hoc : ops[q]? = some oc)
    (hvw : Rel zn v w) (hn : NoRow Ch v)
    (hk : ∀ v' w', Rel zn v' w' → NoRow Ch v' → v'.heap = v.heap → v'.os = v.os → v'.output = v.output → GoesI Try.prog main (DT (ScZ zn) Ch) Stop (G (bc.at (ac.put oc.dst (.tuple #[.slice none 0 0, I 1])) (.inRegion ops rest :: k0)) cs) w') :
    GoesI Try.prog main (DT (ScZ zn) Ch) Stop (G ((base 52).at { tmps := #[.pointer none, I m, .slice (some ⟨b, 0, none⟩) 1 1] ++ Array.replicate 25 undef, defers := [] } [.code B8c]) (bc.at ac (.inRegion ops (q :: rest) :: k0) :: cs)) w := by
  rw [eB8c]
  have hA0 : Fl 28 [(0, .pointer none), (1, I m), (2, .slice (some ⟨b, 0, none⟩) 1 1)] { tmps := #[.pointer none, I m, .slice (some ⟨b, 0, none⟩) 1 1] ++ Array.replicate 25 undef, defers := [] } := by
    simp only [Array.replicate_succ, Array.replicate_zero, List.push_toArray, List.append_toArray, List.nil_append, List.cons_append]
    exact ⟨rfl, rfl, by
      intro p hp
      simp only [List.mem_cons, List.not_mem_nil, or_false] at hp
      rcases hp with rfl | rfl | rfl <;> rfl⟩
  refine goesI_seq (dt_idle _ _) ?_
  refine goesI_plain (z := zn) (wr := true) (L := LV) (I := NoRow Ch) hE fineV noRow_keeps (fun v v' w w' es hi hr ho he => dt_of_z v v' w w' es hi hr ho he) hvw fine_k8c0 hA0.2.1 (by simp [base]) hn (Q := fun a w' => Fl 28 [(0, .pointer none), (1, I m), (2, .slice (some ⟨b, 0, none⟩) 1 1), (6, .slice none 0 0), (7, I 0)] a ∧ w'.heap = v.heap ∧ w'.os = v.os ∧ w'.output = v.output) (fun τ => k8c0n_wp (v := onTape v τ 0) hA0) ?_
  rintro a0 v0 w0 ⟨hB0, e0, o0, u0⟩ hr0 hn0 -
  refine goesI_seq (dt_idle _ _) ?_
  refine goesI_outZ (c := k8c1) (f := 52) (fn := Try.f52) (L := LV) hE fineV hr0 hn0 Try.func52 fine_k8c1 hB0.2.1 hoc (R := fun r w' => r = .tuple #[.slice none 0 0, I 1] ∧ w'.heap = v0.heap ∧ w'.os = v0.os ∧ w'.output = v0.output) (fun τ => k8c1_nil (v := onTape v0 τ 0) (p := p) (by
    rw [World.cell?_of_block (w := v) (w' := onTape v0 τ 0) (by show v0.heap[_]? = _; rw [e0])]; exact c0) hB0) (fun r v' w' hR hr' hn' => ?_)
  obtain ⟨rfl, h1, h2, h3⟩ := hR
  exact hk v' w' hr' hn' (h1.trans e0) (h2.trans o0) (h3.trans u0)

/-- A chain of two keys, of no world, and a free thread. -/
structure C2 (tb c sb c0 c1 : Nat) (x0 x1 : Int) (v : World) : Prop where
  row : v.cell? ⟨c, 0, none⟩ = some (.slice (some ⟨sb, 0, none⟩) 2 2)
  s0 : v.cell? ⟨sb, 0, none⟩ = some (Pt c0 0)
  s1 : v.cell? ⟨sb, 1, none⟩ = some (Pt c1 0)
  f0 : Fm tb c0 x0 v
  f1 : Fm tb c1 x1 v
  ne : c0 ≠ c1
  a0 : c ≠ c0 ∧ c ≠ c1 ∧ sb ≠ c0 ∧ sb ≠ c1
theorem C2.put0 {tb c sb c0 c1 : Nat} {x0 x1 y : Int} {v v' : World} (h : C2 tb c sb c0 c1 x0 x1 v) (f : Fto tb c0 y v v') : C2 tb c sb c0 c1 y x1 v' :=
  ⟨f.cell h.a0.1 h.row, f.cell h.a0.2.2.1 h.s0, f.cell h.a0.2.2.1 h.s1, f.fm, f.other h.f1 (fun e => h.ne e.symm), h.ne, h.a0⟩
theorem C2.put1 {tb c sb c0 c1 : Nat} {x0 x1 y : Int} {v v' : World} (h : C2 tb c sb c0 c1 x0 x1 v) (f : Fto tb c1 y v v') : C2 tb c sb c0 c1 x0 y v' :=
  ⟨f.cell h.a0.2.1 h.row, f.cell h.a0.2.2.2 h.s0, f.cell h.a0.2.2.2 h.s1, f.other h.f0 h.ne, f.fm, h.ne, h.a0⟩
/-- What else lies there stays. -/
structure Kp2 (c0 c1 : Nat) (v v' : World) : Prop where
  old : ∀ b, b ≠ c0 → b ≠ c1 → v'.heap[b]? = v.heap[b]?
  size : v'.heap.size = v.heap.size
  os : v'.os = v.os
  out : v'.output = v.output
theorem Kp2.trans {c0 c1 : Nat} {v v' v'' : World} (h : Kp2 c0 c1 v v') (k : Kp2 c0 c1 v' v'') : Kp2 c0 c1 v v'' := ⟨fun b h1 h2 => by rw [k.old b h1 h2, h.old b h1 h2], k.size.trans h.size, k.os.trans h.os, k.out.trans h.out⟩
theorem Kp2.of0 {tb c0 c1 : Nat} {y : Int} {v v' : World} (f : Fto tb c0 y v v') : Kp2 c0 c1 v v' := ⟨fun b h1 _ => f.old b h1, f.size, f.os, f.out⟩
theorem Kp2.of1 {tb c0 c1 : Nat} {y : Int} {v v' : World} (f : Fto tb c1 y v v') : Kp2 c0 c1 v v' := ⟨fun b _ h2 => f.old b h2, f.size, f.os, f.out⟩

/-- Ask(0, 1): nothing is written down of 1. -/
theorem fask01 {Ch : Nat → Prop} {Stop : Goroutine → World → Prop} {main : Bool} {v w : World} {tb c sb c0 c1 : Nat} (h : C2 tb c sb c0 c1 0 0 v) (cs : List Frame) {bc : Frame} {ac : Act} {ops : Array Oper} {q : Nat} {rest : List Nat} {oc : Oper} {k0 : List Item} (hoc : ops[q]? = some oc) (hvw : Rel zn v w) (hn : NoRow Ch v)
    (hk : ∀ v' w', Rel zn v' w' → NoRow Ch v' → C2 tb c sb c0 c1 2 0 v' → Kp2 c0 c1 v v' → GoesI Try.prog main (DT (ScZ zn) Ch) Stop (G (bc.at (ac.put oc.dst (.bool false)) (.inRegion ops rest :: k0)) cs) w') (code : Code) (hc : Try.f80.body = some code) :
    GoesI Try.prog main (DT (ScZ zn) Ch) Stop (G ((base 80).at { tmps := #[Pt c 0, Pt tb 0, I ((0 : Nat) : Int), I ((1 : Nat) : Int)] ++ Array.replicate 31 undef, defers := [] } [.code code]) (bc.at ac (.inRegion ops (q :: rest) :: k0) :: cs)) w := by
  refine ask_inF (n := 2) (fr := 0) (to := 1) 0 (by omega) (by omega) (by omega) h.row h.s0 h.f0 _ hvw hn (fun a v1 w1 hA r1 n1 f1 => ?_) code hc
  have h1 : C2 tb c sb c0 c1 2 0 v1 := h.put0 f1
  refine ask_next (v := v1) _ hA cs hoc (fun bd ad od qd rd oe kd hoe hB code hcode => ?_)
  refine lead_in h1.row _ r1 (fun a2 hL => ?_) code hcode
  refine lead_lookF (cb := c1) 0 (by omega) (by omega) (by omega) h1.row h1.s1 h1.f1 hL _ r1 n1 (fun a3 v3 w3 hL3 r3 n3 f3 => ?_)
  exact lead_no hL3 _ hoe r3 n3 (fun w4 r4 => hB zn Ch Stop w4 v3 false r4 n3 (fun w5 r5 => hk v3 w5 r5 n3 (h1.put1 f3) ((Kp2.of0 f1).trans (Kp2.of1 f3))))
/-- Ask(1, 0): the way comes back. -/
theorem fask10 {Ch : Nat → Prop} {Stop : Goroutine → World → Prop} {main : Bool} {v w : World} {tb c sb c0 c1 : Nat} (h : C2 tb c sb c0 c1 2 0 v) (cs : List Frame) {bc : Frame} {ac : Act} {ops : Array Oper} {q : Nat} {rest : List Nat} {oc : Oper} {k0 : List Item} (hoc : ops[q]? = some oc) (hvw : Rel zn v w) (hn : NoRow Ch v)
    (hk : ∀ v' w', Rel zn v' w' → NoRow Ch v' → C2 tb c sb c0 c1 2 1 v' → Kp2 c0 c1 v v' → GoesI Try.prog main (DT (ScZ zn) Ch) Stop (G (bc.at (ac.put oc.dst (.bool true)) (.inRegion ops rest :: k0)) cs) w') (code : Code) (hc : Try.f80.body = some code) :
    GoesI Try.prog main (DT (ScZ zn) Ch) Stop (G ((base 80).at { tmps := #[Pt c 0, Pt tb 0, I ((1 : Nat) : Int), I ((0 : Nat) : Int)] ++ Array.replicate 31 undef, defers := [] } [.code code]) (bc.at ac (.inRegion ops (q :: rest) :: k0) :: cs)) w := by
  refine ask_inF (n := 2) (fr := 1) (to := 0) 0 (by omega) (by omega) (by omega) h.row h.s1 h.f1 _ hvw hn (fun a v1 w1 hA r1 n1 f1 => ?_) code hc
  have h1 : C2 tb c sb c0 c1 2 1 v1 := h.put1 f1
  refine ask_next (v := v1) _ hA cs hoc (fun bd ad od qd rd oe kd hoe hB code hcode => ?_)
  refine lead_in h1.row _ r1 (fun a2 hL => ?_) code hcode
  refine lead_lookF (cb := c0) 2 (by omega) (by omega) (by omega) h1.row h1.s0 h1.f0 hL _ r1 n1 (fun a3 v3 w3 hL3 r3 n3 f3 => ?_)
  have := lead_next (Stop := Stop) (Ch := Ch) (z := zn) (main := main) (w := w3) (y := 1) (by omega) (by omega) (by omega) hL3 (bd.at ad (.inRegion od (qd :: rd) :: kd) :: bc.at ac (.inRegion ops (q :: rest) :: k0) :: cs) (fun a4 hL4 => lead_yes (k := 0 + 1) (by omega) rfl hL4 _ hoe r3 n3 (fun w4 r4 => hB zn Ch Stop w4 v3 true r4 n3 (fun w5 r5 => hk v3 w5 r5 n3 (h1.put0 f3) ((Kp2.of1 f1).trans (Kp2.of0 f3)))))
  exact this
end Go.Proofs.Ytfjjoohflcchnaa.Gen

namespace Go.Proofs.Ytfjjoohflcchnaa.Gen
open Go Go.Lift Go.Conc
open Go.ChangeShapes Go.WideShapes Go.ChangeAt Go.RowKit Go.Joins Go.Deep

section
variable {H : Type} {enc : TypeId × Value → H} {w : World} {held : Bool}
end

theorem _root_.Go.Proofs.Ytfjjoohflcchnaa.Grows.frame {W w' : World} (h : Grows W w') (may : MemPlace → Prop) : W.keptBut w' may := by
  refine ⟨h.os, h.output, fun i hi => ?_⟩
  rw [h.old i hi]
  split <;> simp_all
theorem _root_.Go.Proofs.Ytfjjoohflcchnaa.Grows.sameP {W w' : World} (h : Grows W w') {p : MemPlace} (hp : p.block < W.heap.size) : W.sameAt w' p := by
  cases p with
  | cell b o => exact World.cell?_of_block (w := W) (h.old b hp)
  | map b => exact h.old b hp
theorem laidOut5 : laidOutB Try.prog = true := by kernel_rfl
theorem _root_.Go.Proofs.Ytfjjoohflcchnaa.Grows.trod {H : Type} {enc : TypeId × Value → H} {t : TypeId} (hr : Try.prog.readableRec t = true) (hrow : t < Try.prog.types.size) {W W' : World} {v : Value} {d : DataW H} {ps : List MemPlace}
    (h : DataW.Trod enc Try.prog W 0 (fun _ => true) true t v d ps) (hb : Grows W W') (hlt : ∀ x ∈ ps, x.block < W.heap.size) :
    DataW.Trod enc Try.prog W' 0 (fun b => decide (b < W.heap.size)) true t v d ps :=
  WideElems.Trod_stays laidOut5 hr hrow h (fun x hx => hb.sameP (hlt x hx)) (fun x hx => by simpa using hlt x hx)

end Go.Proofs.Ytfjjoohflcchnaa.Gen
