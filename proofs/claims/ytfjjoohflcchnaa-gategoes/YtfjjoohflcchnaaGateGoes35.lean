/- GateGoes: for every schedule and all rows of numbers, the Play of scripts in which each Enter has a Leave of its own behind it, ahead of the next Shut, leaves nobody stuck and nobody in; no conditions. Part 35 of 37. (Joined, by program, of: GatAw2.) -/
import Derived.Test.YtfjjoohflcchnaaGateGoes22
import Derived.Test.YtfjjoohflcchnaaGateGoes24
import Derived.Test.YtfjjoohflcchnaaGateGoes33
import Derived.Test.YtfjjoohflcchnaaGateGoes34
import Derived.BigQuiet
set_option linter.unusedSimpArgs false
set_option linter.unusedVariables false
namespace Go.Proofs.Ytfjjoohflcchnaa.Gen
open Go Go.Lift Go.Conc Go.RowKit

noncomputable def B45 : Code := Try.f47.body.getD .skip
noncomputable def y0 : Code := seq1 B45
noncomputable def y1 : Code := seq1 (seq2 B45)
noncomputable def y2 : Code := seq1 (seq2 (seq2 B45))
noncomputable def y3 : Code := seq1 (seq2 (seq2 (seq2 B45)))
noncomputable def y4 : Code := seq1 (seq2 (seq2 (seq2 (seq2 B45))))
noncomputable def y5 : Code := seq1 (seq2 (seq2 (seq2 (seq2 (seq2 B45)))))
noncomputable def y6 : Code := seq1 (seq1 (seq2 (seq2 (seq2 (seq2 (seq2 (seq2 B45)))))))
noncomputable def y7 : Code := condA (seq2 (seq1 (seq2 (seq2 (seq2 (seq2 (seq2 (seq2 B45))))))))
noncomputable def y8 : Code := seq1 (seq2 (seq2 (seq2 (seq2 (seq2 (seq2 (seq2 B45)))))))
noncomputable def y9 : Code := seq1 (seq2 (seq2 (seq2 (seq2 (seq2 (seq2 (seq2 (seq2 B45))))))))
noncomputable def y10 : Code := seq1 (seq2 (seq2 (seq2 (seq2 (seq2 (seq2 (seq2 (seq2 (seq2 B45)))))))))
noncomputable def y11 : Code := seq1 (seq2 (seq2 (seq2 (seq2 (seq2 (seq2 (seq2 (seq2 (seq2 (seq2 B45))))))))))
noncomputable def y12 : Code := seq1 (seq2 (seq2 (seq2 (seq2 (seq2 (seq2 (seq2 (seq2 (seq2 (seq2 (seq2 B45)))))))))))
noncomputable def y13 : Code := (seq2 (seq2 (seq2 (seq2 (seq2 (seq2 (seq2 (seq2 (seq2 (seq2 (seq2 (seq2 B45))))))))))))
noncomputable def Y12 : Code := .seq y12 y13
noncomputable def Y11 : Code := .seq y11 Y12
noncomputable def Y10 : Code := .seq y10 Y11
noncomputable def Y9 : Code := .seq y9 Y10
noncomputable def Y8 : Code := .seq y8 Y9
noncomputable def Y4 : Code := .seq y4 (.seq y5 (.seq (.seq y6 (.cond (.tmp 48) y7 .skip)) Y8))
noncomputable def Y3 : Code := .seq y3 Y4
theorem eB45 : B45 = .seq y0 (.seq y1 (.seq y2 Y3)) := by kernel_rfl
theorem fine_y0 : fineCode Try.prog true LGt y0 := fineCode_askS callGt extT (by kernel_rfl)
theorem fine_y1 : fineCode Try.prog true LGt y1 := fineCode_askS callGt extT (by kernel_rfl)
theorem fine_y4 : fineCode Try.prog true LGt y4 := fineCode_askS callGt extT (by kernel_rfl)
theorem fine_y5 : fineCode Try.prog true LGt y5 := fineCode_askS callGt extT (by kernel_rfl)
theorem fine_y6 : fineCode Try.prog true LGt y6 := fineCode_askS callGt extT (by kernel_rfl)
theorem fine_y13 : fineCode Try.prog true LGt y13 := fineCode_askS callGt extT (by kernel_rfl)
set_option maxHeartbeats 4000000 in
set_option maxRecDepth 100000 in
theorem y0_wp {v : World} {a : Act}   (hA : Fl 111 [] a) : y0.wp Try.prog (fun e a' w' => e = .normal ∧ Fl 111 [(0, .bool false)] a' ∧ w'.heap = v.heap ∧ w'.os = v.os ∧ w'.output = v.output) a v := by
  obtain ⟨hsz, hd, hp⟩ := hA
  obtain ⟨u, rfl, hg⟩ := litN hsz hd
  clear hg hp hsz hd
  unfold y0 B45 Try.f47 seq1
  simp only [Option.getD_some, lits, Nat.reduceAdd]
  go_wp2_with fail
  first | refine ⟨?_, rfl, rfl, rfl⟩ | refine ⟨?_, rfl, rfl⟩ | refine ⟨?_, rfl⟩ | skip
  exact ⟨rfl, rfl, by
   intro p hp
   simp only [List.mem_cons, List.not_mem_nil, or_false] at hp
   rcases hp with rfl <;> first | rfl | exact congrArg I (by omega) | exact congrArg Value.bool (by simp)⟩

set_option maxHeartbeats 4000000 in
set_option maxRecDepth 100000 in
theorem y1_wp {v : World} {a : Act} (hA : Fl 111 [(0, .bool false)] a) :
    y1.wp Try.prog (fun e a w' => e = .normal ∧ ∃ wb bk sc, Fl 111 [(0, .bool false), (1, Pt wb 0)] a ∧ IsNew v [] wb bk sc w') a v := by
  have H7 : Hid (Calls Try.prog 18 #[.slice none 0 0] v _) := ⟨(body70 (v := v) none 0).calls Try.func18 rfl⟩
  obtain ⟨hsz, hd, hp⟩ := hA
  obtain ⟨u, rfl, hg⟩ := litN hsz hd
  have u0 := (hg 0).symm.trans (hp (0, .bool false) (by simp))
  clear hg hp hsz hd
  unfold y1 B45 Try.f47 seq2 seq1
  simp only [Option.getD_some, lits, Nat.reduceAdd, u0]
  clear u0
  go_wp2_with (first
    | (go_at_call 18; refine H7.out.mono ?_; rintro e w1 ⟨_, rfl, wb, bk, sc, rfl, hnew⟩))
  exact ⟨wb, ⟨rfl, rfl, by
   intro p hp
   simp only [List.mem_cons, List.not_mem_nil, or_false] at hp
   rcases hp with rfl | rfl <;> first | rfl | exact congrArg I (by omega) | exact congrArg Value.bool (by simp)⟩, bk, sc, hnew⟩

set_option maxHeartbeats 4000000 in
set_option maxRecDepth 100000 in
theorem free20 {v : World} : Body Try.f22 #[I 0] v (fun r v' => r = Pt v.heap.size 0 ∧ v'.heap = v.heap.push (.cells #[.pointer none, I 0, .chan none, I 0, I 0, I 0, I 0] 97) ∧ v'.os = v.os ∧ v'.output = v.output) := by
  intro code hb
  obtain rfl := Option.some.inj hb
  clear hb
  simp only [Try.ntmps22, List.size_toArray, List.length_cons, List.length_nil, Nat.reduceAdd, Nat.reduceSub, Array.replicate_succ, Array.replicate_zero, List.push_toArray, List.append_toArray, List.nil_append, List.cons_append]
  go_wp2_with fail
  go_ret
  exact ⟨_, rfl, rfl, rfl, rfl, rfl⟩
set_option maxHeartbeats 4000000 in
set_option maxRecDepth 100000 in
theorem y4_wp {v : World} {a : Act} {M : Nat} (hA : Fl 111 [(0, .bool false), (2, .slice (some ⟨M, 0, none⟩) 1 1), (3, I 0), (4, .slice none 0 0), (5, I 1)] a) :
    y4.wp Try.prog (fun e a w' => e = .normal ∧ Fl 111 [(0, .bool false), (2, .slice (some ⟨M, 0, none⟩) 1 1), (3, I 0), (4, .slice none 0 0), (5, I 1), (6, Pt v.heap.size 0)] a ∧ w'.heap = v.heap.push (.cells #[.pointer none, I 0, .chan none, I 0, I 0, I 0, I 0] 97) ∧ w'.os = v.os ∧ w'.output = v.output) a v := by
  have H7 : Hid (Calls Try.prog 22 #[I 0] v _) := ⟨free20.calls Try.func22 rfl⟩
  obtain ⟨hsz, hd, hp⟩ := hA
  obtain ⟨u, rfl, hg⟩ := litN hsz hd
  have u0 := (hg 0).symm.trans (hp (0, .bool false) (by simp))
  have u2 := (hg 2).symm.trans (hp (2, .slice (some ⟨M, 0, none⟩) 1 1) (by simp))
  have u3 := (hg 3).symm.trans (hp (3, I 0) (by simp))
  have u4 := (hg 4).symm.trans (hp (4, .slice none 0 0) (by simp))
  have u5 := (hg 5).symm.trans (hp (5, I 1) (by simp))
  clear hg hp hsz hd
  unfold y4 B45 Try.f47 seq2 seq1
  simp only [Option.getD_some, lits, Nat.reduceAdd, u0, u2, u3, u4, u5]
  clear u0 u2 u3 u4 u5
  go_wp2_with (first
    | (go_at_call 22; refine H7.out.mono ?_; rintro e w1 ⟨_, rfl, rfl, k1, k2, k3⟩))
  first | exact ⟨⟨rfl, rfl, by
   intro p hp
   simp only [List.mem_cons, List.not_mem_nil, or_false] at hp
   rcases hp with rfl | rfl | rfl | rfl | rfl | rfl <;> first | rfl | exact congrArg I (by omega) | exact congrArg Value.bool (by simp)⟩, k1, k2, k3⟩ | exact ⟨rfl, rfl, by
   intro p hp
   simp only [List.mem_cons, List.not_mem_nil, or_false] at hp
   rcases hp with rfl | rfl | rfl | rfl | rfl | rfl <;> first | rfl | exact congrArg I (by omega) | exact congrArg Value.bool (by simp)⟩

set_option maxHeartbeats 4000000 in
set_option maxRecDepth 100000 in
theorem body68n (v : World) : Body Try.f73 #[.pointer none] v (fun r v' => r = Pt (v.heap.size + 1) 0 ∧ v'.heap = (v.heap.push (.cells #[I 0, I 0] 94)).push (.cells #[Pt v.heap.size 0] 142) ∧ v'.os = v.os ∧ v'.output = v.output) := by
  intro code hb
  obtain rfl := Option.some.inj hb
  clear hb
  have H1 : Hid (Calls Try.prog 21 #[.pointer none, I 0] v (fun e w1 => e = .returned (Pt v.heap.size 0) ∧ w1.heap.size = v.heap.size + 1 ∧ Hid (w1.heap = v.heap.push (.cells #[I 0, I 0] 94) ∧ w1.os = v.os ∧ w1.output = v.output))) := ⟨((body10n v 0).calls Try.func21 rfl).mono (by
    rintro e w' ⟨r, rfl, rfl, h⟩
    exact ⟨rfl, by rw [h.1]; simp, ⟨h⟩⟩)⟩
  simp only [Try.ntmps73, List.size_toArray, List.length_cons, List.length_nil, Nat.reduceAdd, Nat.reduceSub, Array.replicate_succ, Array.replicate_zero, List.push_toArray, List.append_toArray, List.nil_append, List.cons_append]
  go_wp2_with (first
    | (go_at_call 21; refine H1.out.mono ?_; rintro e w1 ⟨rfl, hs, h2⟩))
  go_ret
  refine ⟨_, rfl, ?_, ?_, h2.out.2.1, h2.out.2.2⟩
  · rw [← hs]; rfl
  · show w1.heap.push _ = _
    rw [h2.out.1]
set_option maxHeartbeats 4000000 in
set_option maxRecDepth 100000 in
theorem y5_wp {v : World} {a : Act} {M tb : Nat} (hA : Fl 111 [(0, .bool false), (2, .slice (some ⟨M, 0, none⟩) 1 1), (3, I 0), (4, .slice none 0 0), (5, I 1), (6, Pt tb 0)] a) :
    y5.wp Try.prog (fun e a w' => e = .normal ∧ Fl 111 [(0, .bool false), (2, .slice (some ⟨M, 0, none⟩) 1 1), (3, I 0), (4, .slice none 0 0), (5, I 1), (6, Pt tb 0), (7, Pt (v.heap.size + 1) 0)] a ∧ w'.heap = (v.heap.push (.cells #[I 0, I 0] 94)).push (.cells #[Pt v.heap.size 0] 142) ∧ w'.os = v.os ∧ w'.output = v.output) a v := by
  have H7 : Hid (Calls Try.prog 73 #[.pointer none] v _) := ⟨(body68n v).calls Try.func73 rfl⟩
  obtain ⟨hsz, hd, hp⟩ := hA
  obtain ⟨u, rfl, hg⟩ := litN hsz hd
  have u0 := (hg 0).symm.trans (hp (0, .bool false) (by simp))
  have u2 := (hg 2).symm.trans (hp (2, .slice (some ⟨M, 0, none⟩) 1 1) (by simp))
  have u3 := (hg 3).symm.trans (hp (3, I 0) (by simp))
  have u4 := (hg 4).symm.trans (hp (4, .slice none 0 0) (by simp))
  have u5 := (hg 5).symm.trans (hp (5, I 1) (by simp))
  have u6 := (hg 6).symm.trans (hp (6, Pt tb 0) (by simp))
  clear hg hp hsz hd
  unfold y5 B45 Try.f47 seq2 seq1
  simp only [Option.getD_some, lits, Nat.reduceAdd, u0, u2, u3, u4, u5, u6]
  clear u0 u2 u3 u4 u5 u6
  go_wp2_with (first
    | (go_at_call 73; refine H7.out.mono ?_; rintro e w1 ⟨_, rfl, rfl, k1, k2, k3⟩))
  first | exact ⟨⟨rfl, rfl, by
   intro p hp
   simp only [List.mem_cons, List.not_mem_nil, or_false] at hp
   rcases hp with rfl | rfl | rfl | rfl | rfl | rfl | rfl <;> first | rfl | exact congrArg I (by omega) | exact congrArg Value.bool (by simp)⟩, k1, k2, k3⟩ | exact ⟨rfl, rfl, by
   intro p hp
   simp only [List.mem_cons, List.not_mem_nil, or_false] at hp
   rcases hp with rfl | rfl | rfl | rfl | rfl | rfl | rfl <;> first | rfl | exact congrArg I (by omega) | exact congrArg Value.bool (by simp)⟩

set_option maxHeartbeats 4000000 in
set_option maxRecDepth 100000 in
theorem y6_wp {v : World} {a : Act} {M tb lb A0 : Nat} (c0 : v.cell? ⟨M, 0, none⟩ = some (.slice (some ⟨A0, 0, none⟩) 3 3)) (hA : Fl 111 [(0, .bool false), (2, .slice (some ⟨M, 0, none⟩) 1 1), (3, I 0), (4, .slice none 0 0), (5, I 1), (6, Pt tb 0), (7, Pt lb 0)] a) : y6.wp Try.prog (fun e a' w' => e = .normal ∧ Fl 111 [(0, .bool false), (2, .slice (some ⟨M, 0, none⟩) 1 1), (3, I 0), (4, .slice none 0 0), (5, I 1), (6, Pt tb 0), (7, Pt lb 0), (48, .bool false)] a' ∧ w'.heap = v.heap ∧ w'.os = v.os ∧ w'.output = v.output) a v := by
  obtain ⟨hsz, hd, hp⟩ := hA
  obtain ⟨u, rfl, hg⟩ := litN hsz hd
  simp only [List.forall_mem_cons, hg] at hp
  obtain ⟨u0, u2, u3, u4, u5, u6, u7, -⟩ := hp
  clear hg hsz hd
  unfold y6 B45 Try.f47 seq2 seq1
  simp only [Option.getD_some, lits, Nat.reduceAdd, u0, u2, u3, u4, u5, u6, u7]
  clear u0 u2 u3 u4 u5 u6 u7
  go_wp2_with fail
  first | refine ⟨?_, rfl, rfl, rfl⟩ | refine ⟨?_, rfl, rfl⟩ | refine ⟨?_, rfl⟩ | skip
  exact ⟨rfl, rfl, by
   intro p hp
   simp only [List.mem_cons, List.not_mem_nil, or_false] at hp
   rcases hp with rfl | rfl | rfl | rfl | rfl | rfl | rfl | rfl <;> first | rfl | exact congrArg I (by omega) | exact congrArg Value.bool (by simp)⟩

set_option maxHeartbeats 4000000 in
set_option maxRecDepth 100000 in
theorem y13_wp {v : World} {a : Act} {M tb lb A0 : Nat} (c0 : v.cell? ⟨M, 0, none⟩ = some (.slice (some ⟨A0, 0, none⟩) 3 3)) (c4 : v.cell? ⟨A0, 4, none⟩ = some (I 0)) (c5 : v.cell? ⟨A0, 5, none⟩ = some (I 1)) (hA : Fl 111 [(0, .bool false), (2, .slice (some ⟨M, 0, none⟩) 1 1), (3, I 0), (4, .slice none 0 0), (5, I 1), (6, Pt tb 0), (7, Pt lb 0), (8, I 0), (9, I 0), (10, .bool true), (11, I 0), (12, I 60), (13, I 61)] a) : y13.wp Try.prog (fun e a' w' => e = .ret ∧ Fl 111 [(0, .bool true)] a' ∧ w'.heap = v.heap ∧ w'.os = v.os ∧ w'.output = v.output) a v := by
  obtain ⟨hsz, hd, hp⟩ := hA
  obtain ⟨u, rfl, hg⟩ := litN hsz hd
  simp only [List.forall_mem_cons, hg] at hp
  obtain ⟨u0, u2, u3, u4, u5, u6, u7, u8, u9, u10, u11, u12, u13, -⟩ := hp
  clear hg hsz hd
  unfold y13 B45 Try.f47 seq2
  simp only [Option.getD_some, lits, Nat.reduceAdd, u0, u2, u3, u4, u5, u6, u7, u8, u9, u10, u11, u12, u13]
  clear u0 u2 u3 u4 u5 u6 u7 u8 u9 u10 u11 u12 u13
  go_wp2_with fail
  first | refine ⟨?_, rfl, rfl, rfl⟩ | refine ⟨?_, rfl, rfl⟩ | refine ⟨?_, rfl⟩ | skip
  exact ⟨rfl, rfl, by
   intro p hp
   simp only [List.mem_cons, List.not_mem_nil, or_false] at hp
   rcases hp with rfl <;> first | rfl | exact congrArg I (by omega) | exact congrArg Value.bool (by simp)⟩

set_option maxHeartbeats 4000000 in
set_option maxRecDepth 100000 in
theorem body48n {v : World} (b : Nat) {p : Option Addr} (c0 : v.cell? ⟨b, 0, none⟩ = some (.slice p 1 1)) : Body Try.f53 #[.pointer none, .slice (some ⟨b, 0, none⟩) 1 1] v (fun r v' => r = I 1 ∧ v'.heap = v.heap ∧ v'.os = v.os ∧ v'.output = v.output) := by
  intro code hb
  obtain rfl := Option.some.inj hb
  clear hb
  have hs : ∀ k, k < 1 → ∃ sb so, some (⟨b, 0, none⟩ : Addr) = some ⟨sb, so, none⟩ ∧ v.cell? ⟨sb, so + k, none⟩ = some (.slice p 1 1) := fun k hk => by
    have e : k = 0 := by omega
    subst e
    exact ⟨b, 0, rfl, c0⟩
  have h57 := (body57 (v := v) (some ⟨b, 0, none⟩) 1 1 (by omega) (fun _ => p) (fun _ => 1) (fun _ => 1) hs).calls Try.func82 rfl
  have H57 : Hid _ := ⟨h57⟩
  clear h57 hs
  simp only [Try.ntmps53, List.size_toArray, List.length_cons, List.length_nil, Nat.reduceAdd, Nat.reduceSub, Array.replicate_succ, Array.replicate_zero, List.push_toArray, List.append_toArray, List.nil_append, List.cons_append]
  go_wp2_with fail
  go_at_call 82
  refine H57.out.mono ?_
  rintro e w1 ⟨r1, rfl, rfl, hq⟩
  rcases hq with ⟨⟨k, hk, h1⟩, _⟩ | ⟨hq, rfl⟩
  · omega
  · have e1 : checkS 1 = 0 := by unfold checkS; rw [if_neg (by omega)]
    rw [e1]
    go_wp2_with fail
    go_ret
    exact ⟨_, rfl, rfl, rfl, rfl, rfl⟩
set_option maxHeartbeats 4000000 in
set_option maxRecDepth 100000 in
theorem k461_nil {v : World} (b : Nat) {p : Option Addr} (c0 : v.cell? ⟨b, 0, none⟩ = some (.slice p 1 1)) :
    k461.wp Try.prog (fun e a w' => e = .ret ∧ ∃ x, (results Try.f48 a.tmps).run Try.prog w' = .ok x w' ∧ x = .tuple #[.slice none 0 0, I 1] ∧ w'.heap = v.heap ∧ w'.os = v.os ∧ w'.output = v.output)
      { tmps := #[.pointer none, .slice (some ⟨b, 0, none⟩) 1 1, undef, undef, .slice none 0 0, I 0] ++ Array.replicate 14 undef, defers := [] } v := by
  have H19 : Hid (Calls Try.prog 53 #[.pointer none, .slice (some ⟨b, 0, none⟩) 1 1] v _) := ⟨(body48n b c0).calls Try.func53 rfl⟩
  show Code.wp Try.prog (seq1 (seq2 (Try.f48.body.getD .skip))) _ _ _
  unfold Try.f48 seq1 seq2
  simp only [Option.getD_some, Array.replicate_succ, Array.replicate_zero, List.push_toArray, List.append_toArray, List.nil_append, List.cons_append]
  go_wp2_with (first
    | (go_at_call 53; refine H19.out.mono ?_; rintro e w1 ⟨_, rfl, rfl, k1, k2, k3⟩))
  first
    | exact ⟨_, results_tmp2 (t := 4) (u := 5) rfl _ _ _, rfl, k1, k2, k3⟩
    | exact results_tmp2 (t := 4) (u := 5) rfl _ _ _
/-- Play of no world refuses. -/
theorem gplay_nil {Ch : Nat → Prop} {Stop : Goroutine → World → Prop} {main : Bool} {v w : World} (b : Nat) {p : Option Addr} (c0 : v.cell? ⟨b, 0, none⟩ = some (.slice p 1 1)) (cs : List Frame) {bc : Frame} {ac : Act} {ops : Array Oper} {q : Nat} {rest : List Nat} {oc : Oper} {k : List Item} (hoc : ops[q]? = some oc)
    (hvw : Rel zn v w) (hn : NoRow Ch v)
    (hk : ∀ v' w', Rel zn v' w' → NoRow Ch v' → v'.heap = v.heap → v'.os = v.os → v'.output = v.output → GoesI Try.prog main (DT (ScZ zn) Ch) Stop (G (bc.at (ac.put oc.dst (.tuple #[.slice none 0 0, I 1])) (.inRegion ops rest :: k)) cs) w') :
    GoesI Try.prog main (DT (ScZ zn) Ch) Stop (G ((base 48).at { tmps := #[.pointer none, .slice (some ⟨b, 0, none⟩) 1 1] ++ Array.replicate 18 undef, defers := [] } [.code B46]) (bc.at ac (.inRegion ops (q :: rest) :: k) :: cs)) w := by
  rw [eB46]
  refine goesI_seq (dt_idle _ _) ?_
  refine goesI_plain (z := zn) (wr := true) (L := LGt) (I := NoRow Ch) hE fineGt noRow_keeps (fun v v' w w' es hi hr ho he => dt_of_z v v' w w' es hi hr ho he) hvw fine460 rfl (by simp [base]) hn
    (Q := fun a w' => a = { tmps := #[.pointer none, .slice (some ⟨b, 0, none⟩) 1 1, undef, undef, .slice none 0 0, I 0] ++ Array.replicate 14 undef, defers := [] } ∧ w'.heap = v.heap ∧ w'.os = v.os ∧ w'.output = v.output) (fun τ => k460_wp (v := onTape v τ 0) _ _) ?_
  rintro a0 v0 w0 ⟨rfl, e0, o0, u0⟩ hr0 hn0 -
  refine goesI_seq (dt_idle _ _) ?_
  refine goesI_outZ (c := k461) (f := 48) (fn := Try.f48) (L := LGt) hE fineGt hr0 hn0 Try.func48 fine461 rfl hoc (R := fun r w' => r = .tuple #[.slice none 0 0, I 1] ∧ w'.heap = v0.heap ∧ w'.os = v0.os ∧ w'.output = v0.output) (fun τ => k461_nil (v := onTape v0 τ 0) b (p := p) (by
    rw [World.cell?_of_block (w := v) (w' := onTape v0 τ 0) (by show v0.heap[_]? = _; rw [e0])]; exact c0)) (fun r v' w' hR hr' hn' => ?_)
  obtain ⟨rfl, h1, h2, h3⟩ := hR
  exact hk v' w' hr' hn' (h1.trans e0) (h2.trans o0) (h3.trans u0)
end Go.Proofs.Ytfjjoohflcchnaa.Gen
