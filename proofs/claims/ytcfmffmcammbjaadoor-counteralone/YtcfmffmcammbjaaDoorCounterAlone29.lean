/- CounterAlone, whatever the shards, the numbers and the ids: a counter of no world, added to by free threads; behind each Add its Sum is the sum of the shards' amounts, each within 32 bits with a sign; the law answers true and its input reads as it did. Part 29 of 34. (Joined, by program, of: La15a, La15b, La15c.) -/
import Derived.Test.YtcfmffmcammbjaaDoorCounterAlone22
import Derived.Test.YtcfmffmcammbjaaDoorCounterAlone28
import Derived.Deep.RegionWith

/- The law CounterAlone (15): its pieces, main alone. (Made by wip/tools/mkla15.py.) -/
set_option linter.unusedSimpArgs false
set_option linter.unusedVariables false
namespace Go.Proofs.YtcfmffmcammbjaaDoor.Gen
open Go Go.Lift Go.Conc Go.RowKit

noncomputable def LB15 : Code := Tryd.f15.body.getD .skip
noncomputable def C15 : Code := seq1 (seq2 (seq2 (seq2 (seq2 (seq2 (seq2 LB15))))))
noncomputable def L15 : Code := loopC (blockC (seq2 C15))
noncomputable def I15 : Code := blockC (seq1 (seq2 L15))
noncomputable def T15 : Code := seq2 (seq2 (seq2 (seq2 (seq2 (seq2 (seq2 LB15))))))
noncomputable def y1 : Code := seq1 (seq2 LB15)
noncomputable def y2 : Code := seq1 (seq2 (seq2 LB15))
noncomputable def y3 : Code := seq1 (seq2 (seq2 (seq2 LB15)))
noncomputable def y5 : Code := seq1 (seq2 (seq2 (seq2 (seq2 LB15))))
noncomputable def y6 : Code := seq1 (seq2 (seq2 (seq2 (seq2 (seq2 LB15)))))
noncomputable def y7 : Code := seq1 C15
noncomputable def p8 : Code := seq1 (seq1 L15)
noncomputable def p9 : Code := seq2 (seq2 L15)
noncomputable def p10 : Code := seq1 I15
noncomputable def p11 : Code := seq1 (seq2 I15)
noncomputable def p13 : Code := seq1 (seq2 (seq2 I15))
noncomputable def p14 : Code := seq1 (seq2 (seq2 (seq2 I15)))
noncomputable def p15 : Code := seq1 (seq2 (seq2 (seq2 (seq2 I15))))
noncomputable def p16 : Code := seq1 (seq2 (seq2 (seq2 (seq2 (seq2 I15)))))
noncomputable def p17 : Code := seq1 (seq2 (seq2 (seq2 (seq2 (seq2 (seq2 I15))))))
noncomputable def p21 : Code := seq1 (seq2 (seq2 (seq2 (seq2 (seq2 (seq2 (seq2 I15)))))))
noncomputable def p22 : Code := seq2 (seq2 (seq2 (seq2 (seq2 (seq2 (seq2 (seq2 I15)))))))
noncomputable def P15 : Code := .seq y2 (.seq y3 (.seq y5 (.seq y6 (.seq (.seq y7 (.block 0 (.loop L15))) T15))))
theorem eLB15 : LB15 = .seq (seq1 LB15) (.seq y1 P15) := by kernel_rfl
theorem eL15 : L15 = .seq (.seq p8 (.cond (.tmp 34) .skip (.exit 0))) (.seq (.block 1 I15) p9) := by kernel_rfl
theorem eI15 : I15 = .seq p10 (.seq p11 (.seq p13 (.seq p14 (.seq p15 (.seq p16 (.seq p17 (.seq p21 p22))))))) := by kernel_rfl
theorem fine_y2 : fineCode Tryd.prog true LV y2 := fineCode_askS callV extT (by kernel_rfl)
theorem fine_y3 : fineCode Tryd.prog true LV y3 := fineCode_askS callV extT (by kernel_rfl)
theorem fine_y5 : fineCode Tryd.prog true LV y5 := fineCode_askS callV extT (by kernel_rfl)
theorem fine_y6 : fineCode Tryd.prog true LV y6 := fineCode_askS callV extT (by kernel_rfl)
theorem fine_y7 : fineCode Tryd.prog true LV y7 := fineCode_askS callV extT (by kernel_rfl)
theorem fine_p8 : fineCode Tryd.prog true LV p8 := fineCode_askS callV extT (by kernel_rfl)
theorem fine_p9 : fineCode Tryd.prog true LV p9 := fineCode_askS callV extT (by kernel_rfl)
theorem fine_p10 : fineCode Tryd.prog true LV p10 := fineCode_askS callV extT (by kernel_rfl)
theorem fine_p11 : fineCode Tryd.prog true LV p11 := fineCode_askS callV extT (by kernel_rfl)
theorem fine_p13 : fineCode Tryd.prog true LV p13 := fineCode_askS callV extT (by kernel_rfl)
theorem fine_p15 : fineCode Tryd.prog true LV p15 := fineCode_askS callV extT (by kernel_rfl)
theorem fine_p16 : fineCode Tryd.prog true LV p16 := fineCode_askS callV extT (by kernel_rfl)
theorem fine_p17 : fineCode Tryd.prog true LV p17 := fineCode_askS callV extT (by kernel_rfl)
theorem fine_p22 : fineCode Tryd.prog true LV p22 := fineCode_askS callV extT (by kernel_rfl)
theorem fine_T15 : fineCode Tryd.prog true LV T15 := fineCode_askS callV extT (by kernel_rfl)
set_option maxHeartbeats 4000000 in
set_option maxRecDepth 100000 in
theorem p8_wp {v : World} {a : Act} {l1 l2 : Value} {c s ab i : Nat} {p : Option Addr} {n cap : Nat} (hl : l1 = .slice p n cap) (hA : Fl 90 [(1, l1), (2, l2), (8, Pt c 0), (9, I (s : Int)), (10, .slice (some ⟨ab, 0, none⟩) s s), (11, I (i : Int))] a) : p8.wp Tryd.prog (fun e a' w' => e = .normal ∧ Fl 90 [(1, l1), (2, l2), (8, Pt c 0), (9, I (s : Int)), (10, .slice (some ⟨ab, 0, none⟩) s s), (11, I (i : Int)), (34, .bool (decide ((i : Int) < (n : Int))))] a' ∧ w'.heap = v.heap ∧ w'.os = v.os ∧ w'.output = v.output) a v := by
  obtain ⟨hsz, hd, hp⟩ := hA
  obtain ⟨u, rfl, hg⟩ := litN hsz hd
  simp only [List.forall_mem_cons, hg] at hp
  obtain ⟨u1, u2, u8, u9, u10, u11, -⟩ := hp
  clear hg hsz hd
  subst hl
  unfold p8 L15 C15 LB15 Tryd.f15 seq2 seq1 blockC loopC
  simp only [Option.getD_some, lits, Nat.reduceAdd, u1, u2, u8, u9, u10, u11]
  clear u1 u2 u8 u9 u10 u11
  go_wp2_with fail
  first
    | exact ⟨rfl, rfl, by
        intro p hp
        simp only [List.mem_cons, List.not_mem_nil, or_false] at hp
        rcases hp with rfl | rfl | rfl | rfl | rfl | rfl | rfl <;> rfl⟩
    | exact ⟨⟨rfl, rfl, by
        intro p hp
        simp only [List.mem_cons, List.not_mem_nil, or_false] at hp
        rcases hp with rfl | rfl | rfl | rfl | rfl | rfl | rfl <;> rfl⟩, rfl⟩
    | exact ⟨⟨rfl, rfl, by
        intro p hp
        simp only [List.mem_cons, List.not_mem_nil, or_false] at hp
        rcases hp with rfl | rfl | rfl | rfl | rfl | rfl | rfl <;> rfl⟩, rfl, rfl⟩
    | exact ⟨⟨rfl, rfl, by
        intro p hp
        simp only [List.mem_cons, List.not_mem_nil, or_false] at hp
        rcases hp with rfl | rfl | rfl | rfl | rfl | rfl | rfl <;> rfl⟩, rfl, rfl, rfl⟩
    | exact ⟨⟨rfl, rfl, by
        intro p hp
        simp only [List.mem_cons, List.not_mem_nil, or_false] at hp
        rcases hp with rfl | rfl | rfl | rfl | rfl | rfl | rfl <;> rfl⟩, rfl, rfl, rfl, rfl⟩
    | exact ⟨⟨rfl, rfl, by
        intro p hp
        simp only [List.mem_cons, List.not_mem_nil, or_false] at hp
        rcases hp with rfl | rfl | rfl | rfl | rfl | rfl | rfl <;> rfl⟩, rfl, rfl, rfl, rfl, rfl⟩

set_option maxHeartbeats 4000000 in
set_option maxRecDepth 100000 in
theorem p9_wp {v : World} {a : Act} {l1 l2 : Value} {c s ab i : Nat} (h9 : wrap64 ((i : Int) + 1) = ((i + 1 : Nat) : Int)) (hA : Fl 90 [(1, l1), (2, l2), (8, Pt c 0), (9, I (s : Int)), (10, .slice (some ⟨ab, 0, none⟩) s s), (11, I (i : Int))] a) : p9.wp Tryd.prog (fun e a' w' => e = .normal ∧ Fl 90 [(1, l1), (2, l2), (8, Pt c 0), (9, I (s : Int)), (10, .slice (some ⟨ab, 0, none⟩) s s), (11, I ((i + 1 : Nat) : Int))] a' ∧ w'.heap = v.heap ∧ w'.os = v.os ∧ w'.output = v.output) a v := by
  obtain ⟨hsz, hd, hp⟩ := hA
  obtain ⟨u, rfl, hg⟩ := litN hsz hd
  simp only [List.forall_mem_cons, hg] at hp
  obtain ⟨u1, u2, u8, u9, u10, u11, -⟩ := hp
  clear hg hsz hd
  unfold p9 L15 C15 LB15 Tryd.f15 seq2 seq1 blockC loopC
  simp only [Option.getD_some, lits, Nat.reduceAdd, u1, u2, u8, u9, u10, u11]
  clear u1 u2 u8 u9 u10 u11
  go_wp2_with fail
  exact ⟨rfl, rfl, by
    intro p hp
    simp only [List.mem_cons, List.not_mem_nil, or_false] at hp
    rcases hp with rfl | rfl | rfl | rfl | rfl | rfl
    · rfl
    · rfl
    · rfl
    · rfl
    · rfl
    · exact congrArg I (by omega)⟩

set_option maxHeartbeats 4000000 in
set_option maxRecDepth 100000 in
theorem p10_wp {v : World} {a : Act} {l1 l2 : Value} {c s ab i : Nat}  (hA : Fl 90 [(1, l1), (2, l2), (8, Pt c 0), (9, I (s : Int)), (10, .slice (some ⟨ab, 0, none⟩) s s), (11, I (i : Int))] a) : p10.wp Tryd.prog (fun e a' w' => e = .normal ∧ Fl 90 [(1, l1), (2, l2), (8, Pt c 0), (9, I (s : Int)), (10, .slice (some ⟨ab, 0, none⟩) s s), (11, I (i : Int)), (12, I 0)] a' ∧ w'.heap = v.heap ∧ w'.os = v.os ∧ w'.output = v.output) a v := by
  obtain ⟨hsz, hd, hp⟩ := hA
  obtain ⟨u, rfl, hg⟩ := litN hsz hd
  simp only [List.forall_mem_cons, hg] at hp
  obtain ⟨u1, u2, u8, u9, u10, u11, -⟩ := hp
  clear hg hsz hd
  unfold p10 I15 L15 C15 LB15 Tryd.f15 seq2 seq1 blockC loopC
  simp only [Option.getD_some, lits, Nat.reduceAdd, u1, u2, u8, u9, u10, u11]
  clear u1 u2 u8 u9 u10 u11
  go_wp2_with fail
  first
    | exact ⟨rfl, rfl, by
        intro p hp
        simp only [List.mem_cons, List.not_mem_nil, or_false] at hp
        rcases hp with rfl | rfl | rfl | rfl | rfl | rfl | rfl <;> rfl⟩
    | exact ⟨⟨rfl, rfl, by
        intro p hp
        simp only [List.mem_cons, List.not_mem_nil, or_false] at hp
        rcases hp with rfl | rfl | rfl | rfl | rfl | rfl | rfl <;> rfl⟩, rfl⟩
    | exact ⟨⟨rfl, rfl, by
        intro p hp
        simp only [List.mem_cons, List.not_mem_nil, or_false] at hp
        rcases hp with rfl | rfl | rfl | rfl | rfl | rfl | rfl <;> rfl⟩, rfl, rfl⟩
    | exact ⟨⟨rfl, rfl, by
        intro p hp
        simp only [List.mem_cons, List.not_mem_nil, or_false] at hp
        rcases hp with rfl | rfl | rfl | rfl | rfl | rfl | rfl <;> rfl⟩, rfl, rfl, rfl⟩
    | exact ⟨⟨rfl, rfl, by
        intro p hp
        simp only [List.mem_cons, List.not_mem_nil, or_false] at hp
        rcases hp with rfl | rfl | rfl | rfl | rfl | rfl | rfl <;> rfl⟩, rfl, rfl, rfl, rfl⟩
    | exact ⟨⟨rfl, rfl, by
        intro p hp
        simp only [List.mem_cons, List.not_mem_nil, or_false] at hp
        rcases hp with rfl | rfl | rfl | rfl | rfl | rfl | rfl <;> rfl⟩, rfl, rfl, rfl, rfl, rfl⟩

set_option maxHeartbeats 4000000 in
set_option maxRecDepth 100000 in
theorem p11_wpy {v : World} {a : Act} {l1 l2 : Value} {c s ab i : Nat} {b2 o2 n cap : Nat} {x : Int} (hl : l2 = .slice (some ⟨b2, o2, none⟩) n cap) (hin : i < n) (c1 : v.cell? ⟨b2, o2 + i, none⟩ = some (I x)) (hA : Fl 90 [(1, l1), (2, l2), (8, Pt c 0), (9, I (s : Int)), (10, .slice (some ⟨ab, 0, none⟩) s s), (11, I (i : Int)), (12, I 0)] a) : p11.wp Tryd.prog (fun e a' w' => e = .normal ∧ Fl 90 [(1, l1), (2, l2), (8, Pt c 0), (9, I (s : Int)), (10, .slice (some ⟨ab, 0, none⟩) s s), (11, I (i : Int)), (12, I (bits .and .i64 x 255))] a' ∧ w'.heap = v.heap ∧ w'.os = v.os ∧ w'.output = v.output) a v := by
  obtain ⟨hsz, hd, hp⟩ := hA
  obtain ⟨u, rfl, hg⟩ := litN hsz hd
  simp only [List.forall_mem_cons, hg] at hp
  obtain ⟨u1, u2, u8, u9, u10, u11, u12, -⟩ := hp
  clear hg hsz hd
  subst hl
  have hin' : (i : Int) < (n : Int) := by omega
  unfold p11 I15 L15 C15 LB15 Tryd.f15 seq2 seq1 blockC loopC
  simp only [Option.getD_some, lits, Nat.reduceAdd, u1, u2, u8, u9, u10, u11, u12]
  clear u1 u2 u8 u9 u10 u11 u12
  go_wp2_with fail
  first
    | exact ⟨rfl, rfl, by
        intro p hp
        simp only [List.mem_cons, List.not_mem_nil, or_false] at hp
        rcases hp with rfl | rfl | rfl | rfl | rfl | rfl | rfl <;> rfl⟩
    | exact ⟨⟨rfl, rfl, by
        intro p hp
        simp only [List.mem_cons, List.not_mem_nil, or_false] at hp
        rcases hp with rfl | rfl | rfl | rfl | rfl | rfl | rfl <;> rfl⟩, rfl⟩
    | exact ⟨⟨rfl, rfl, by
        intro p hp
        simp only [List.mem_cons, List.not_mem_nil, or_false] at hp
        rcases hp with rfl | rfl | rfl | rfl | rfl | rfl | rfl <;> rfl⟩, rfl, rfl⟩
    | exact ⟨⟨rfl, rfl, by
        intro p hp
        simp only [List.mem_cons, List.not_mem_nil, or_false] at hp
        rcases hp with rfl | rfl | rfl | rfl | rfl | rfl | rfl <;> rfl⟩, rfl, rfl, rfl⟩
    | exact ⟨⟨rfl, rfl, by
        intro p hp
        simp only [List.mem_cons, List.not_mem_nil, or_false] at hp
        rcases hp with rfl | rfl | rfl | rfl | rfl | rfl | rfl <;> rfl⟩, rfl, rfl, rfl, rfl⟩
    | exact ⟨⟨rfl, rfl, by
        intro p hp
        simp only [List.mem_cons, List.not_mem_nil, or_false] at hp
        rcases hp with rfl | rfl | rfl | rfl | rfl | rfl | rfl <;> rfl⟩, rfl, rfl, rfl, rfl, rfl⟩

set_option maxHeartbeats 4000000 in
set_option maxRecDepth 100000 in
theorem p11_wpn {v : World} {a : Act} {l1 l2 : Value} {c s ab i : Nat} {p : Option Addr} {n cap : Nat} (hl : l2 = .slice p n cap) (hin : ¬ i < n) (hA : Fl 90 [(1, l1), (2, l2), (8, Pt c 0), (9, I (s : Int)), (10, .slice (some ⟨ab, 0, none⟩) s s), (11, I (i : Int)), (12, I 0)] a) : p11.wp Tryd.prog (fun e a' w' => e = .normal ∧ Fl 90 [(1, l1), (2, l2), (8, Pt c 0), (9, I (s : Int)), (10, .slice (some ⟨ab, 0, none⟩) s s), (11, I (i : Int)), (12, I 0)] a' ∧ w'.heap = v.heap ∧ w'.os = v.os ∧ w'.output = v.output) a v := by
  obtain ⟨hsz, hd, hp⟩ := hA
  obtain ⟨u, rfl, hg⟩ := litN hsz hd
  simp only [List.forall_mem_cons, hg] at hp
  obtain ⟨u1, u2, u8, u9, u10, u11, u12, -⟩ := hp
  clear hg hsz hd
  subst hl
  have hin' : ¬ (i : Int) < (n : Int) := by omega
  unfold p11 I15 L15 C15 LB15 Tryd.f15 seq2 seq1 blockC loopC
  simp only [Option.getD_some, lits, Nat.reduceAdd, u1, u2, u8, u9, u10, u11, u12]
  clear u1 u2 u8 u9 u10 u11 u12
  go_wp2_with fail
  first
    | exact ⟨rfl, rfl, by
        intro p hp
        simp only [List.mem_cons, List.not_mem_nil, or_false] at hp
        rcases hp with rfl | rfl | rfl | rfl | rfl | rfl | rfl <;> rfl⟩
    | exact ⟨⟨rfl, rfl, by
        intro p hp
        simp only [List.mem_cons, List.not_mem_nil, or_false] at hp
        rcases hp with rfl | rfl | rfl | rfl | rfl | rfl | rfl <;> rfl⟩, rfl⟩
    | exact ⟨⟨rfl, rfl, by
        intro p hp
        simp only [List.mem_cons, List.not_mem_nil, or_false] at hp
        rcases hp with rfl | rfl | rfl | rfl | rfl | rfl | rfl <;> rfl⟩, rfl, rfl⟩
    | exact ⟨⟨rfl, rfl, by
        intro p hp
        simp only [List.mem_cons, List.not_mem_nil, or_false] at hp
        rcases hp with rfl | rfl | rfl | rfl | rfl | rfl | rfl <;> rfl⟩, rfl, rfl, rfl⟩
    | exact ⟨⟨rfl, rfl, by
        intro p hp
        simp only [List.mem_cons, List.not_mem_nil, or_false] at hp
        rcases hp with rfl | rfl | rfl | rfl | rfl | rfl | rfl <;> rfl⟩, rfl, rfl, rfl, rfl⟩
    | exact ⟨⟨rfl, rfl, by
        intro p hp
        simp only [List.mem_cons, List.not_mem_nil, or_false] at hp
        rcases hp with rfl | rfl | rfl | rfl | rfl | rfl | rfl <;> rfl⟩, rfl, rfl, rfl, rfl, rfl⟩

set_option maxHeartbeats 4000000 in
set_option maxRecDepth 100000 in
theorem p13_wp {v : World} {a : Act} {l1 l2 : Value} {c s ab i d : Nat}  (hA : Fl 90 [(1, l1), (2, l2), (8, Pt c 0), (9, I (s : Int)), (10, .slice (some ⟨ab, 0, none⟩) s s), (11, I (i : Int)), (12, I (d : Int))] a) : p13.wp Tryd.prog (fun e a' w' => e = .normal ∧ Fl 90 [(1, l1), (2, l2), (8, Pt c 0), (9, I (s : Int)), (10, .slice (some ⟨ab, 0, none⟩) s s), (11, I (i : Int)), (12, I (d : Int)), (13, Pt v.heap.size 0)] a' ∧ w'.heap = v.heap.push (.cells #[.pointer none, I (d : Int), .chan none, I 0, I 0, I 0, I 0] 107) ∧ w'.os = v.os ∧ w'.output = v.output) a v := by
  obtain ⟨hsz, hd, hp⟩ := hA
  obtain ⟨u, rfl, hg⟩ := litN hsz hd
  simp only [List.forall_mem_cons, hg] at hp
  obtain ⟨u1, u2, u8, u9, u10, u11, u12, -⟩ := hp
  clear hg hsz hd
  unfold p13 I15 L15 C15 LB15 Tryd.f15 seq2 seq1 blockC loopC
  simp only [Option.getD_some, lits, Nat.reduceAdd, u1, u2, u8, u9, u10, u11, u12]
  clear u1 u2 u8 u9 u10 u11 u12
  go_wp2_with (first
    | (go_at_call 26; refine ((body11 v (d : Int)).calls Tryd.func26 rfl).mono ?_; rintro e w1 ⟨_, rfl, rfl, q1, q2, q3⟩))
  first
    | exact ⟨rfl, rfl, by
        intro p hp
        simp only [List.mem_cons, List.not_mem_nil, or_false] at hp
        rcases hp with rfl | rfl | rfl | rfl | rfl | rfl | rfl | rfl <;> rfl⟩
    | exact ⟨⟨rfl, rfl, by
        intro p hp
        simp only [List.mem_cons, List.not_mem_nil, or_false] at hp
        rcases hp with rfl | rfl | rfl | rfl | rfl | rfl | rfl | rfl <;> rfl⟩, rfl⟩
    | exact ⟨⟨rfl, rfl, by
        intro p hp
        simp only [List.mem_cons, List.not_mem_nil, or_false] at hp
        rcases hp with rfl | rfl | rfl | rfl | rfl | rfl | rfl | rfl <;> rfl⟩, rfl, rfl⟩
    | exact ⟨⟨rfl, rfl, by
        intro p hp
        simp only [List.mem_cons, List.not_mem_nil, or_false] at hp
        rcases hp with rfl | rfl | rfl | rfl | rfl | rfl | rfl | rfl <;> rfl⟩, rfl, rfl, rfl⟩
    | exact ⟨⟨rfl, rfl, by
        intro p hp
        simp only [List.mem_cons, List.not_mem_nil, or_false] at hp
        rcases hp with rfl | rfl | rfl | rfl | rfl | rfl | rfl | rfl <;> rfl⟩, rfl, rfl, rfl, rfl⟩
    | exact ⟨⟨rfl, rfl, by
        intro p hp
        simp only [List.mem_cons, List.not_mem_nil, or_false] at hp
        rcases hp with rfl | rfl | rfl | rfl | rfl | rfl | rfl | rfl <;> rfl⟩, rfl, rfl, rfl, rfl, rfl⟩
    | exact ⟨rfl, ⟨rfl, rfl, by
    intro p hp
    simp only [List.mem_cons, List.not_mem_nil, or_false] at hp
    rcases hp with rfl | rfl | rfl | rfl | rfl | rfl | rfl | rfl <;> rfl⟩, q1, q2, q3⟩
    | exact ⟨⟨rfl, rfl, by
    intro p hp
    simp only [List.mem_cons, List.not_mem_nil, or_false] at hp
    rcases hp with rfl | rfl | rfl | rfl | rfl | rfl | rfl | rfl <;> rfl⟩, q1, q2, q3⟩

set_option maxHeartbeats 4000000 in
set_option maxRecDepth 100000 in
theorem p16_wp {v : World} {a : Act} {l1 l2 : Value} {c s ab i d tb : Nat}  (hA : Fl 90 [(1, l1), (2, l2), (8, Pt c 0), (9, I (s : Int)), (10, .slice (some ⟨ab, 0, none⟩) s s), (11, I (i : Int)), (12, I (d : Int)), (13, Pt tb 0)] a) : p16.wp Tryd.prog (fun e a' w' => e = .normal ∧ Fl 90 [(1, l1), (2, l2), (8, Pt c 0), (9, I (s : Int)), (10, .slice (some ⟨ab, 0, none⟩) s s), (11, I (i : Int)), (12, I (d : Int)), (13, Pt tb 0), (14, I 0)] a' ∧ w'.heap = v.heap ∧ w'.os = v.os ∧ w'.output = v.output) a v := by
  obtain ⟨hsz, hd, hp⟩ := hA
  obtain ⟨u, rfl, hg⟩ := litN hsz hd
  simp only [List.forall_mem_cons, hg] at hp
  obtain ⟨u1, u2, u8, u9, u10, u11, u12, u13, -⟩ := hp
  clear hg hsz hd
  unfold p16 I15 L15 C15 LB15 Tryd.f15 seq2 seq1 blockC loopC
  simp only [Option.getD_some, lits, Nat.reduceAdd, u1, u2, u8, u9, u10, u11, u12, u13]
  clear u1 u2 u8 u9 u10 u11 u12 u13
  go_wp2_with fail
  first
    | exact ⟨rfl, rfl, by
        intro p hp
        simp only [List.mem_cons, List.not_mem_nil, or_false] at hp
        rcases hp with rfl | rfl | rfl | rfl | rfl | rfl | rfl | rfl | rfl <;> rfl⟩
    | exact ⟨⟨rfl, rfl, by
        intro p hp
        simp only [List.mem_cons, List.not_mem_nil, or_false] at hp
        rcases hp with rfl | rfl | rfl | rfl | rfl | rfl | rfl | rfl | rfl <;> rfl⟩, rfl⟩
    | exact ⟨⟨rfl, rfl, by
        intro p hp
        simp only [List.mem_cons, List.not_mem_nil, or_false] at hp
        rcases hp with rfl | rfl | rfl | rfl | rfl | rfl | rfl | rfl | rfl <;> rfl⟩, rfl, rfl⟩
    | exact ⟨⟨rfl, rfl, by
        intro p hp
        simp only [List.mem_cons, List.not_mem_nil, or_false] at hp
        rcases hp with rfl | rfl | rfl | rfl | rfl | rfl | rfl | rfl | rfl <;> rfl⟩, rfl, rfl, rfl⟩
    | exact ⟨⟨rfl, rfl, by
        intro p hp
        simp only [List.mem_cons, List.not_mem_nil, or_false] at hp
        rcases hp with rfl | rfl | rfl | rfl | rfl | rfl | rfl | rfl | rfl <;> rfl⟩, rfl, rfl, rfl, rfl⟩
    | exact ⟨⟨rfl, rfl, by
        intro p hp
        simp only [List.mem_cons, List.not_mem_nil, or_false] at hp
        rcases hp with rfl | rfl | rfl | rfl | rfl | rfl | rfl | rfl | rfl <;> rfl⟩, rfl, rfl, rfl, rfl, rfl⟩

set_option maxHeartbeats 4000000 in
set_option maxRecDepth 100000 in
theorem p22_wp {v : World} {a : Act} {l1 l2 : Value} {c s ab i d tb : Nat} {k : Int}  (hA : Fl 90 [(1, l1), (2, l2), (8, Pt c 0), (9, I (s : Int)), (10, .slice (some ⟨ab, 0, none⟩) s s), (11, I (i : Int)), (12, I (d : Int)), (13, Pt tb 0), (14, I k), (16, I k)] a) : p22.wp Tryd.prog (fun e a' w' => e = .normal ∧ Fl 90 [(1, l1), (2, l2), (8, Pt c 0), (9, I (s : Int)), (10, .slice (some ⟨ab, 0, none⟩) s s), (11, I (i : Int))] a' ∧ w'.heap = v.heap ∧ w'.os = v.os ∧ w'.output = v.output) a v := by
  obtain ⟨hsz, hd, hp⟩ := hA
  obtain ⟨u, rfl, hg⟩ := litN hsz hd
  simp only [List.forall_mem_cons, hg] at hp
  obtain ⟨u1, u2, u8, u9, u10, u11, u12, u13, u14, u16, -⟩ := hp
  clear hg hsz hd
  unfold p22 I15 L15 C15 LB15 Tryd.f15 seq2 seq1 blockC loopC
  simp only [Option.getD_some, lits, Nat.reduceAdd, u1, u2, u8, u9, u10, u11, u12, u13, u14, u16]
  clear u1 u2 u8 u9 u10 u11 u12 u13 u14 u16
  go_wp2_with fail
  first
    | exact ⟨rfl, rfl, by
        intro p hp
        simp only [List.mem_cons, List.not_mem_nil, or_false] at hp
        rcases hp with rfl | rfl | rfl | rfl | rfl | rfl <;> rfl⟩
    | exact ⟨⟨rfl, rfl, by
        intro p hp
        simp only [List.mem_cons, List.not_mem_nil, or_false] at hp
        rcases hp with rfl | rfl | rfl | rfl | rfl | rfl <;> rfl⟩, rfl⟩
    | exact ⟨⟨rfl, rfl, by
        intro p hp
        simp only [List.mem_cons, List.not_mem_nil, or_false] at hp
        rcases hp with rfl | rfl | rfl | rfl | rfl | rfl <;> rfl⟩, rfl, rfl⟩
    | exact ⟨⟨rfl, rfl, by
        intro p hp
        simp only [List.mem_cons, List.not_mem_nil, or_false] at hp
        rcases hp with rfl | rfl | rfl | rfl | rfl | rfl <;> rfl⟩, rfl, rfl, rfl⟩
    | exact ⟨⟨rfl, rfl, by
        intro p hp
        simp only [List.mem_cons, List.not_mem_nil, or_false] at hp
        rcases hp with rfl | rfl | rfl | rfl | rfl | rfl <;> rfl⟩, rfl, rfl, rfl, rfl⟩
    | exact ⟨⟨rfl, rfl, by
        intro p hp
        simp only [List.mem_cons, List.not_mem_nil, or_false] at hp
        rcases hp with rfl | rfl | rfl | rfl | rfl | rfl <;> rfl⟩, rfl, rfl, rfl, rfl, rfl⟩

end Go.Proofs.YtcfmffmcammbjaaDoor.Gen

/- The law CounterAlone (15): what it counts itself, main alone. (Made by wip/tools/mkla15.py.) -/
set_option linter.unusedSimpArgs false
set_option linter.unusedVariables false
namespace Go.Proofs.YtcfmffmcammbjaaDoor.Gen
open Go Go.Lift Go.Conc Go.RowKit

/-- What holds at a piece's own end. -/
def Nrm (F : Act → World → Prop) : Exit → Act → World → Prop
  | .normal, a, w => F a w
  | _, _, _ => False
theorem wp_nrm {P : Program} {c : Code} {F : Act → World → Prop} {a : Act} {w : World} (h : c.wp P (Nrm F) a w) : c.wp P (fun e a' w' => e = .normal ∧ F a' w') a w := wp_mono h fun e a w hq => by
  cases e
  case normal => exact ⟨rfl, hq⟩
  all_goals exact hq.elim

set_option maxHeartbeats 4000000 in
set_option maxRecDepth 100000 in
theorem p15_wp0 {v : World} {a : Act} {l1 l2 : Value} {c s ab i d tb : Nat} {b1 o1 n cap j : Nat} {x y : Int} (hl : l1 = .slice (some ⟨b1, o1, none⟩) n cap) (hin : i < n) (hs : 0 < s) (hj : d % s = j) (c1 : v.cell? ⟨b1, o1 + i, none⟩ = some (I x)) (c2 : v.cell? ⟨ab, j, none⟩ = some (I y)) (f2 : v.frozen? ⟨ab, j, none⟩ = false) (hA : Fl 90 [(1, l1), (2, l2), (8, Pt c 0), (9, I (s : Int)), (10, .slice (some ⟨ab, 0, none⟩) s s), (11, I (i : Int)), (12, I (d : Int)), (13, Pt tb 0)] a) :
    p15.wp Tryd.prog (Nrm fun a' w' => Fl 90 [(1, l1), (2, l2), (8, Pt c 0), (9, I (s : Int)), (10, .slice (some ⟨ab, 0, none⟩) s s), (11, I (i : Int)), (12, I (d : Int)), (13, Pt tb 0)] a' ∧ w'.heap = (v.setCell ⟨ab, j, none⟩ (I (R1.wr56 (wrap64 (y + x.tmod 4294967296))))).heap ∧ w'.os = v.os ∧ w'.output = v.output) a v := by
  obtain ⟨hsz, hd, hp⟩ := hA
  obtain ⟨u, rfl, hg⟩ := litN hsz hd
  simp only [List.forall_mem_cons, hg] at hp
  obtain ⟨u1, u2, u8, u9, u10, u11, u12, u13, -⟩ := hp
  clear hg hsz hd
  subst hl
  have hin' : (i : Int) < (n : Int) := by omega
  have hlt : d % s < s := Nat.mod_lt _ hs
  have hlt2 : ((d % s : Nat) : Int) < (s : Int) := by omega
  have hs1 : ¬ ((s : Int) = 0) := by omega
  have hs2 : ¬ (s = 0) := by omega
  have hge : ¬ ((d % s : Nat) : Int) < 0 := by omega
  have hmod : (d : Int).tmod (s : Int) = ((d % s : Nat) : Int) := by rw [Int.tmod_eq_emod_of_nonneg (by omega)]; omega
  have hmod2 : (d : Int) % (s : Int) = ((d % s : Nat) : Int) := by omega
  rw [hj] at hmod2 hlt hlt2 hge hmod
  clear hj
  unfold p15 I15 L15 C15 LB15 Tryd.f15 seq2 seq1 blockC loopC
  simp only [Option.getD_some, lits, Nat.reduceAdd, u1, u2, u8, u9, u10, u11, u12, u13]
  clear u1 u2 u8 u9 u10 u11 u12 u13
  go_wp2_with fail
  go_region_with (first | (go_at_call 56; refine (R1.body56 _ _).mono ?_; rintro e w1 ⟨rfl, rfl⟩))
  all_goals
    refine ⟨⟨rfl, rfl, by
      intro p hp
      simp only [List.mem_cons, List.not_mem_nil, or_false] at hp
      rcases hp with rfl | rfl | rfl | rfl | rfl | rfl | rfl | rfl <;> rfl⟩, ?_, rfl, rfl⟩
    rw [← Pl.i64_wrap]
    rfl

/-- The sum of amounts. -/
def totA (l : List Int) : Int := l.foldl (fun s y => wrap64 (s + y)) 0
theorem totA_next {l : List Int} {k : Nat} {x : Int} (h : l[k]? = some x) : totA (l.take (k + 1)) = wrap64 (totA (l.take k) + x) := by
  have e : l.take (k + 1) = l.take k ++ [x] := by rw [List.take_add_one, h]; rfl
  unfold totA
  rw [e, List.foldl_append]
  rfl
theorem totA_map (l : List Int) : totA (l.map R1.amtS) = R1.totI l := by unfold totA R1.totI; rw [List.foldl_map]

set_option maxHeartbeats 4000000 in
set_option maxRecDepth 100000 in
theorem p17_wp0 {v : World} {a : Act} {l1 l2 : Value} {c s ab i d tb : Nat} {am : List Int} (h1 : v.heap[ab]? = some (rowI am)) (hl : am.length = s) (hs : s ≤ 16) (hA : Fl 90 [(1, l1), (2, l2), (8, Pt c 0), (9, I (s : Int)), (10, .slice (some ⟨ab, 0, none⟩) s s), (11, I (i : Int)), (12, I (d : Int)), (13, Pt tb 0), (14, I 0)] a) :
    p17.wp Tryd.prog (Nrm fun a' w' => Fl 90 [(1, l1), (2, l2), (8, Pt c 0), (9, I (s : Int)), (10, .slice (some ⟨ab, 0, none⟩) s s), (11, I (i : Int)), (12, I (d : Int)), (13, Pt tb 0), (14, I (totA am))] a' ∧ w'.heap = v.heap ∧ w'.os = v.os ∧ w'.output = v.output) a v := by
  obtain ⟨hsz, hd, hp⟩ := hA
  obtain ⟨u, rfl, hg⟩ := litN hsz hd
  simp only [List.forall_mem_cons, hg] at hp
  obtain ⟨u1, u2, u8, u9, u10, u11, u12, u13, u14, -⟩ := hp
  clear hg hsz hd
  unfold p17 I15 L15 C15 LB15 Tryd.f15 seq2 seq1 blockC loopC
  simp only [Option.getD_some, lits, Nat.reduceAdd, u1, u2, u8, u9, u10, u11, u12, u13, u14]
  clear u1 u2 u8 u9 u10 u11 u12 u13 u14
  have HR : Hid (v.heap[ab]? = some (rowI am)) := ⟨h1⟩
  clear h1
  go_wp2_with fail
  go_loopw [14, 15] (fun t i w' => ∃ k : Nat, k ≤ s ∧ i = .int .i64 k ∧ t = I (totA (am.take k)) ∧ w'.heap = v.heap ∧ w'.os = v.os ∧ w'.output = v.output) (fun _ i _ => s - (intOf i).toNat)
  case atStart => exact ⟨0, Nat.zero_le _, rfl, rfl, rfl, rfl, rfl⟩
  case round =>
    obtain ⟨k, hk, rfl, rfl, q1, q2, q3⟩ := hrel
    have HQ : Hid (wr.heap = v.heap ∧ wr.os = v.os ∧ wr.output = v.output) := ⟨q1, q2, q3⟩
    clear q1 q2 q3
    by_cases hlt : k < s
    · obtain ⟨x, hx⟩ : ∃ x, am[k]? = some x := ⟨_, List.getElem?_eq_getElem (by omega)⟩
      have c1 : wr.cell? ⟨ab, k, none⟩ = some (I x) := rowI_cell (by rw [HQ.out.1]; exact HR.out) hx
      have HN : Hid (totA (am.take (k + 1)) = wrap64 (totA (am.take k) + x)) := ⟨totA_next hx⟩
      generalize totA (am.take k) = sk at HN
      have hks : (k : Int) < (s : Int) := by omega
      go_wp2_with fail
      go_roundw
      case rel => exact ⟨k + 1, by omega, by go_num, by rw [HN.out, ← Pl.i64_wrap], HQ.out.1, HQ.out.2.1, HQ.out.2.2⟩
      case measure => simp [intOf]; omega
    · have hks : ¬ (k : Int) < (s : Int) := by omega
      have e : am.take k = am := List.take_of_length_le (by omega)
      have HE : Hid (totA (am.take k) = totA am) := ⟨by rw [e]⟩
      generalize totA (am.take k) = sk at HE
      clear e
      go_wp2_with fail
      rw [← HE.out]
      exact ⟨⟨rfl, rfl, by
        intro p hp
        simp only [List.mem_cons, List.not_mem_nil, or_false] at hp
        rcases hp with rfl | rfl | rfl | rfl | rfl | rfl | rfl | rfl | rfl <;> rfl⟩, HQ.out.1, HQ.out.2.1, HQ.out.2.2⟩

end Go.Proofs.YtcfmffmcammbjaaDoor.Gen

/- The law CounterAlone (15): ahead of its loop, behind it, main alone. (Made by wip/tools/mkla15.py.) -/
set_option linter.unusedSimpArgs false
set_option linter.unusedVariables false
namespace Go.Proofs.YtcfmffmcammbjaaDoor.Gen
open Go Go.Lift Go.Conc Go.RowKit

set_option maxHeartbeats 4000000 in
set_option maxRecDepth 100000 in
theorem y2_wp {v : World} {a : Act} {l1 l2 : Value} {n0 : Int}  (hA : Fl 90 [(0, I n0), (1, l1), (2, l2), (7, .bool true)] a) : y2.wp Tryd.prog (fun e a' w' => e = .normal ∧ Fl 90 [(0, I n0), (1, l1), (2, l2), (7, .bool true), (8, Pt (v.heap.size + 1) 0)] a' ∧ NwC v (shN n0) v.heap.size (shN n0) w') a v := by
  obtain ⟨hsz, hd, hp⟩ := hA
  obtain ⟨u, rfl, hg⟩ := litN hsz hd
  simp only [List.forall_mem_cons, hg] at hp
  obtain ⟨u0, u1, u2, u7, -⟩ := hp
  clear hg hsz hd
  unfold y2 LB15 Tryd.f15 seq2 seq1
  simp only [Option.getD_some, lits, Nat.reduceAdd, u0, u1, u2, u7]
  clear u0 u1 u2 u7
  go_wp2_with (first
    | (go_at_call 54; refine ((body54n v n0).calls Tryd.func54 rfl).mono ?_; rintro e w1 ⟨_, rfl, rfl, q1⟩))
  first
    | exact ⟨rfl, rfl, by
        intro p hp
        simp only [List.mem_cons, List.not_mem_nil, or_false] at hp
        rcases hp with rfl | rfl | rfl | rfl | rfl <;> rfl⟩
    | exact ⟨⟨rfl, rfl, by
        intro p hp
        simp only [List.mem_cons, List.not_mem_nil, or_false] at hp
        rcases hp with rfl | rfl | rfl | rfl | rfl <;> rfl⟩, rfl⟩
    | exact ⟨⟨rfl, rfl, by
        intro p hp
        simp only [List.mem_cons, List.not_mem_nil, or_false] at hp
        rcases hp with rfl | rfl | rfl | rfl | rfl <;> rfl⟩, rfl, rfl⟩
    | exact ⟨⟨rfl, rfl, by
        intro p hp
        simp only [List.mem_cons, List.not_mem_nil, or_false] at hp
        rcases hp with rfl | rfl | rfl | rfl | rfl <;> rfl⟩, rfl, rfl, rfl⟩
    | exact ⟨⟨rfl, rfl, by
        intro p hp
        simp only [List.mem_cons, List.not_mem_nil, or_false] at hp
        rcases hp with rfl | rfl | rfl | rfl | rfl <;> rfl⟩, rfl, rfl, rfl, rfl⟩
    | exact ⟨⟨rfl, rfl, by
        intro p hp
        simp only [List.mem_cons, List.not_mem_nil, or_false] at hp
        rcases hp with rfl | rfl | rfl | rfl | rfl <;> rfl⟩, rfl, rfl, rfl, rfl, rfl⟩
    | exact ⟨rfl, ⟨rfl, rfl, by
    intro p hp
    simp only [List.mem_cons, List.not_mem_nil, or_false] at hp
    rcases hp with rfl | rfl | rfl | rfl | rfl <;> rfl⟩, q1⟩
    | exact ⟨⟨rfl, rfl, by
    intro p hp
    simp only [List.mem_cons, List.not_mem_nil, or_false] at hp
    rcases hp with rfl | rfl | rfl | rfl | rfl <;> rfl⟩, q1⟩

set_option maxHeartbeats 4000000 in
set_option maxRecDepth 100000 in
theorem y3_wp {v : World} {a : Act} {l1 l2 : Value} {n0 : Int} {c : Nat}  (hA : Fl 90 [(0, I n0), (1, l1), (2, l2), (7, .bool true), (8, Pt c 0)] a) : y3.wp Tryd.prog (fun e a' w' => e = .normal ∧ Fl 90 [(0, I n0), (1, l1), (2, l2), (7, .bool true), (8, Pt c 0)] a' ∧ w'.heap = v.heap ∧ w'.os = v.os ∧ w'.output = v.output) a v := by
  obtain ⟨hsz, hd, hp⟩ := hA
  obtain ⟨u, rfl, hg⟩ := litN hsz hd
  simp only [List.forall_mem_cons, hg] at hp
  obtain ⟨u0, u1, u2, u7, u8, -⟩ := hp
  clear hg hsz hd
  unfold y3 LB15 Tryd.f15 seq2 seq1
  simp only [Option.getD_some, lits, Nat.reduceAdd, u0, u1, u2, u7, u8]
  clear u0 u1 u2 u7 u8
  go_wp2_with fail
  first
    | exact ⟨rfl, rfl, by
        intro p hp
        simp only [List.mem_cons, List.not_mem_nil, or_false] at hp
        rcases hp with rfl | rfl | rfl | rfl | rfl <;> rfl⟩
    | exact ⟨⟨rfl, rfl, by
        intro p hp
        simp only [List.mem_cons, List.not_mem_nil, or_false] at hp
        rcases hp with rfl | rfl | rfl | rfl | rfl <;> rfl⟩, rfl⟩
    | exact ⟨⟨rfl, rfl, by
        intro p hp
        simp only [List.mem_cons, List.not_mem_nil, or_false] at hp
        rcases hp with rfl | rfl | rfl | rfl | rfl <;> rfl⟩, rfl, rfl⟩
    | exact ⟨⟨rfl, rfl, by
        intro p hp
        simp only [List.mem_cons, List.not_mem_nil, or_false] at hp
        rcases hp with rfl | rfl | rfl | rfl | rfl <;> rfl⟩, rfl, rfl, rfl⟩
    | exact ⟨⟨rfl, rfl, by
        intro p hp
        simp only [List.mem_cons, List.not_mem_nil, or_false] at hp
        rcases hp with rfl | rfl | rfl | rfl | rfl <;> rfl⟩, rfl, rfl, rfl, rfl⟩
    | exact ⟨⟨rfl, rfl, by
        intro p hp
        simp only [List.mem_cons, List.not_mem_nil, or_false] at hp
        rcases hp with rfl | rfl | rfl | rfl | rfl <;> rfl⟩, rfl, rfl, rfl, rfl, rfl⟩

set_option maxHeartbeats 4000000 in
set_option maxRecDepth 100000 in
theorem y5_wp {v : World} {a : Act} {l1 l2 : Value} {n0 : Int} {c s : Nat} (hs : shN n0 = s) (hA : Fl 90 [(0, I n0), (1, l1), (2, l2), (7, .bool true), (8, Pt c 0)] a) : y5.wp Tryd.prog (fun e a' w' => e = .normal ∧ Fl 90 [(0, I n0), (1, l1), (2, l2), (7, .bool true), (8, Pt c 0), (9, I (s : Int))] a' ∧ w'.heap = v.heap ∧ w'.os = v.os ∧ w'.output = v.output) a v := by
  obtain ⟨hsz, hd, hp⟩ := hA
  obtain ⟨u, rfl, hg⟩ := litN hsz hd
  simp only [List.forall_mem_cons, hg] at hp
  obtain ⟨u0, u1, u2, u7, u8, -⟩ := hp
  clear hg hsz hd
  have hmx := shN_max n0
  have hmn := shN_min n0
  rw [hs] at hmn
  generalize (if (1 : Int) > n0 then 1 else n0) = M at hmx hmn
  unfold y5 LB15 Tryd.f15 seq2 seq1
  simp only [Option.getD_some, lits, Nat.reduceAdd, u0, u1, u2, u7, u8]
  clear u0 u1 u2 u7 u8
  go_wp2_with fail
  first
    | exact ⟨rfl, rfl, by
        intro p hp
        simp only [List.mem_cons, List.not_mem_nil, or_false] at hp
        rcases hp with rfl | rfl | rfl | rfl | rfl | rfl <;> rfl⟩
    | exact ⟨⟨rfl, rfl, by
        intro p hp
        simp only [List.mem_cons, List.not_mem_nil, or_false] at hp
        rcases hp with rfl | rfl | rfl | rfl | rfl | rfl <;> rfl⟩, rfl⟩
    | exact ⟨⟨rfl, rfl, by
        intro p hp
        simp only [List.mem_cons, List.not_mem_nil, or_false] at hp
        rcases hp with rfl | rfl | rfl | rfl | rfl | rfl <;> rfl⟩, rfl, rfl⟩
    | exact ⟨⟨rfl, rfl, by
        intro p hp
        simp only [List.mem_cons, List.not_mem_nil, or_false] at hp
        rcases hp with rfl | rfl | rfl | rfl | rfl | rfl <;> rfl⟩, rfl, rfl, rfl⟩
    | exact ⟨⟨rfl, rfl, by
        intro p hp
        simp only [List.mem_cons, List.not_mem_nil, or_false] at hp
        rcases hp with rfl | rfl | rfl | rfl | rfl | rfl <;> rfl⟩, rfl, rfl, rfl, rfl⟩
    | exact ⟨⟨rfl, rfl, by
        intro p hp
        simp only [List.mem_cons, List.not_mem_nil, or_false] at hp
        rcases hp with rfl | rfl | rfl | rfl | rfl | rfl <;> rfl⟩, rfl, rfl, rfl, rfl, rfl⟩

set_option maxHeartbeats 4000000 in
set_option maxRecDepth 100000 in
theorem y6_wp {v : World} {a : Act} {l1 l2 : Value} {n0 : Int} {c s : Nat} (hs : s ≤ 16) (hA : Fl 90 [(0, I n0), (1, l1), (2, l2), (7, .bool true), (8, Pt c 0), (9, I (s : Int))] a) : y6.wp Tryd.prog (fun e a' w' => e = .normal ∧ Fl 90 [(1, l1), (2, l2), (8, Pt c 0), (9, I (s : Int)), (10, .slice (some ⟨v.heap.size, 0, none⟩) s s)] a' ∧ w'.heap = v.heap.push (rowI (List.replicate s 0)) ∧ w'.os = v.os ∧ w'.output = v.output) a v := by
  obtain ⟨hsz, hd, hp⟩ := hA
  obtain ⟨u, rfl, hg⟩ := litN hsz hd
  simp only [List.forall_mem_cons, hg] at hp
  obtain ⟨u0, u1, u2, u7, u8, u9, -⟩ := hp
  clear hg hsz hd
  have hmk := make_nums s (by omega)
  rw [made_rowI] at hmk
  unfold y6 LB15 Tryd.f15 seq2 seq1
  simp only [Option.getD_some, lits, Nat.reduceAdd, u0, u1, u2, u7, u8, u9]
  clear u0 u1 u2 u7 u8 u9
  go_wp2_with fail
  first
    | exact ⟨rfl, rfl, by
        intro p hp
        simp only [List.mem_cons, List.not_mem_nil, or_false] at hp
        rcases hp with rfl | rfl | rfl | rfl | rfl <;> rfl⟩
    | exact ⟨⟨rfl, rfl, by
        intro p hp
        simp only [List.mem_cons, List.not_mem_nil, or_false] at hp
        rcases hp with rfl | rfl | rfl | rfl | rfl <;> rfl⟩, rfl⟩
    | exact ⟨⟨rfl, rfl, by
        intro p hp
        simp only [List.mem_cons, List.not_mem_nil, or_false] at hp
        rcases hp with rfl | rfl | rfl | rfl | rfl <;> rfl⟩, rfl, rfl⟩
    | exact ⟨⟨rfl, rfl, by
        intro p hp
        simp only [List.mem_cons, List.not_mem_nil, or_false] at hp
        rcases hp with rfl | rfl | rfl | rfl | rfl <;> rfl⟩, rfl, rfl, rfl⟩
    | exact ⟨⟨rfl, rfl, by
        intro p hp
        simp only [List.mem_cons, List.not_mem_nil, or_false] at hp
        rcases hp with rfl | rfl | rfl | rfl | rfl <;> rfl⟩, rfl, rfl, rfl, rfl⟩
    | exact ⟨⟨rfl, rfl, by
        intro p hp
        simp only [List.mem_cons, List.not_mem_nil, or_false] at hp
        rcases hp with rfl | rfl | rfl | rfl | rfl <;> rfl⟩, rfl, rfl, rfl, rfl, rfl⟩

set_option maxHeartbeats 4000000 in
set_option maxRecDepth 100000 in
theorem y7_wp {v : World} {a : Act} {l1 l2 : Value} {c s ab : Nat}  (hA : Fl 90 [(1, l1), (2, l2), (8, Pt c 0), (9, I (s : Int)), (10, .slice (some ⟨ab, 0, none⟩) s s)] a) : y7.wp Tryd.prog (fun e a' w' => e = .normal ∧ Fl 90 [(1, l1), (2, l2), (8, Pt c 0), (9, I (s : Int)), (10, .slice (some ⟨ab, 0, none⟩) s s), (11, I 0)] a' ∧ w'.heap = v.heap ∧ w'.os = v.os ∧ w'.output = v.output) a v := by
  obtain ⟨hsz, hd, hp⟩ := hA
  obtain ⟨u, rfl, hg⟩ := litN hsz hd
  simp only [List.forall_mem_cons, hg] at hp
  obtain ⟨u1, u2, u8, u9, u10, -⟩ := hp
  clear hg hsz hd
  unfold y7 C15 LB15 Tryd.f15 seq2 seq1
  simp only [Option.getD_some, lits, Nat.reduceAdd, u1, u2, u8, u9, u10]
  clear u1 u2 u8 u9 u10
  go_wp2_with fail
  first
    | exact ⟨rfl, rfl, by
        intro p hp
        simp only [List.mem_cons, List.not_mem_nil, or_false] at hp
        rcases hp with rfl | rfl | rfl | rfl | rfl | rfl <;> rfl⟩
    | exact ⟨⟨rfl, rfl, by
        intro p hp
        simp only [List.mem_cons, List.not_mem_nil, or_false] at hp
        rcases hp with rfl | rfl | rfl | rfl | rfl | rfl <;> rfl⟩, rfl⟩
    | exact ⟨⟨rfl, rfl, by
        intro p hp
        simp only [List.mem_cons, List.not_mem_nil, or_false] at hp
        rcases hp with rfl | rfl | rfl | rfl | rfl | rfl <;> rfl⟩, rfl, rfl⟩
    | exact ⟨⟨rfl, rfl, by
        intro p hp
        simp only [List.mem_cons, List.not_mem_nil, or_false] at hp
        rcases hp with rfl | rfl | rfl | rfl | rfl | rfl <;> rfl⟩, rfl, rfl, rfl⟩
    | exact ⟨⟨rfl, rfl, by
        intro p hp
        simp only [List.mem_cons, List.not_mem_nil, or_false] at hp
        rcases hp with rfl | rfl | rfl | rfl | rfl | rfl <;> rfl⟩, rfl, rfl, rfl, rfl⟩
    | exact ⟨⟨rfl, rfl, by
        intro p hp
        simp only [List.mem_cons, List.not_mem_nil, or_false] at hp
        rcases hp with rfl | rfl | rfl | rfl | rfl | rfl <;> rfl⟩, rfl, rfl, rfl, rfl, rfl⟩

set_option maxHeartbeats 4000000 in
set_option maxRecDepth 100000 in
theorem T15_wp {v : World} {a : Act} (hs : a.tmps.size = 90) (hd : a.defers = []) : T15.wp Tryd.prog (fun e a' w' => e = .ret ∧ a'.tmps.getD 6 undef = .bool true ∧ w'.heap = v.heap ∧ w'.os = v.os ∧ w'.output = v.output) a v := by
  obtain ⟨u, rfl, hg⟩ := litN hs hd
  clear hg hs hd
  unfold T15 LB15 Tryd.f15 seq2
  simp only [Option.getD_some, lits, Nat.reduceAdd]
  go_wp2_with fail

end Go.Proofs.YtcfmffmcammbjaaDoor.Gen
