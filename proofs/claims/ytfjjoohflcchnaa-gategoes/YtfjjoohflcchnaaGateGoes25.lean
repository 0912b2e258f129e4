/- GateGoes: for every schedule and all rows of numbers, the Play of scripts in which each Enter has a Leave of its own behind it, ahead of the next Shut, leaves nobody stuck and nobody in; no conditions. Part 25 of 37. (Joined, by program, of: La14a.) -/
import Derived.Test.YtfjjoohflcchnaaGateGoes10
import Derived.Test.YtfjjoohflcchnaaGateGoes22
import Derived.Test.YtfjjoohflcchnaaGateGoes24
import Derived.BigQuiet
import Derived.BigRegion
import Derived.Deep.RegionHeld3
import Derived.Deep.RegionLaw
set_option linter.unusedSimpArgs false
set_option linter.unusedVariables false
namespace Go.Proofs.Ytfjjoohflcchnaa.Gen
open Go Go.Lift Go.Conc Go.RowKit

noncomputable def LB14 : Code := Try.f14.body.getD .skip
noncomputable def h2 : Code := seq1 (seq2 (seq2 LB14))
noncomputable def HL : Code := seq1 (seq2 (seq2 (seq2 LB14)))
noncomputable def h3 : Code := seq1 HL
noncomputable def HA : Code := loopC (blockC (seq2 HL))
noncomputable def h4 : Code := seq1 (seq1 HA)
noncomputable def h5 : Code := seq2 (seq2 HA)
noncomputable def HB : Code := blockC (seq1 (seq2 HA))
noncomputable def h6 : Code := seq1 HB
noncomputable def HK : Code := seq1 (seq2 HB)
noncomputable def h21 : Code := seq2 (seq2 HB)
noncomputable def h7 : Code := seq1 HK
noncomputable def HC : Code := loopC (blockC (seq2 HK))
noncomputable def h8 : Code := seq1 (seq1 HC)
noncomputable def h9 : Code := seq2 (seq2 HC)
noncomputable def HD : Code := blockC (seq1 (seq2 HC))
noncomputable def h10 : Code := seq1 HD
noncomputable def h11 : Code := seq1 (seq1 (seq2 HD))
noncomputable def h12 : Code := seq1 (condA (seq2 (seq1 (seq2 HD))))
noncomputable def HE : Code := seq1 (seq2 (seq2 HD))
noncomputable def h13 : Code := seq1 HE
noncomputable def HF : Code := loopC (blockC (seq2 HE))
noncomputable def h14 : Code := seq1 (seq1 HF)
noncomputable def h16 : Code := blockC (seq1 (seq2 HF))
noncomputable def h15 : Code := seq2 (seq2 HF)
noncomputable def HG : Code := seq2 (seq2 (seq2 HD))
noncomputable def h17 : Code := seq1 HG
noncomputable def HH : Code := loopC (blockC (seq2 HG))
noncomputable def h18 : Code := seq1 (seq1 HH)
noncomputable def h20 : Code := blockC (seq1 (seq2 HH))
noncomputable def h19 : Code := seq2 (seq2 HH)
noncomputable def h22 : Code := seq1 (seq1 (seq2 (seq2 (seq2 (seq2 LB14)))))
noncomputable def h23 : Code := condA (seq2 (seq1 (seq2 (seq2 (seq2 (seq2 LB14))))))
noncomputable def h24 : Code := seq1 (seq2 (seq2 (seq2 (seq2 (seq2 LB14)))))
noncomputable def h25 : Code := seq1 (seq2 (seq2 (seq2 (seq2 (seq2 (seq2 LB14))))))
noncomputable def h26 : Code := seq1 (seq2 (seq2 (seq2 (seq2 (seq2 (seq2 (seq2 LB14)))))))
noncomputable def h27 : Code := seq1 (seq2 (seq2 (seq2 (seq2 (seq2 (seq2 (seq2 (seq2 LB14))))))))
noncomputable def HM : Code := seq1 (seq2 (seq2 (seq2 (seq2 (seq2 (seq2 (seq2 (seq2 (seq2 LB14)))))))))
noncomputable def h33 : Code := (seq2 (seq2 (seq2 (seq2 (seq2 (seq2 (seq2 (seq2 (seq2 (seq2 LB14))))))))))
noncomputable def h28 : Code := seq1 HM
noncomputable def HN : Code := loopC (blockC (seq2 HM))
noncomputable def h29 : Code := seq1 (seq1 HN)
noncomputable def HO : Code := blockC (seq1 (seq2 HN))
noncomputable def h30 : Code := seq2 (seq2 HN)
noncomputable def h31 : Code := seq1 HO
noncomputable def h32 : Code := condA (seq2 HO)
noncomputable def T14 : Code := .seq h26 (.seq h27 (.seq (.seq h28 (.block 8 (.loop HN))) h33))
noncomputable def R14 : Code := .seq h24 (.seq h25 T14)
noncomputable def P14 : Code := .seq h2 (.seq (.seq h3 (.block 0 (.loop HA))) (.seq (.seq h22 (.cond (.tmp 82) h23 .skip)) R14))
theorem eLB14 : LB14 = .seq (seq1 LB14) (.seq (seq1 (seq2 LB14)) P14) := by kernel_rfl
theorem eHA : HA = .seq (.seq h4 (.cond (.tmp 27) .skip (.exit 0))) (.seq (.block 1 HB) h5) := by kernel_rfl
theorem eHB : HB = .seq h6 (.seq (.seq h7 (.block 2 (.loop HC))) h21) := by kernel_rfl
theorem eHC : HC = .seq (.seq h8 (.cond (.tmp 41) .skip (.exit 2))) (.seq (.block 3 HD) h9) := by kernel_rfl
theorem eHD : HD = .seq h10 (.seq (.seq h11 (.cond (.tmp 53) (.seq h12 (.exit 3)) .skip)) (.seq (.seq h13 (.block 4 (.loop HF))) (.seq h17 (.block 6 (.loop HH))))) := by kernel_rfl
theorem eHF : HF = .seq (.seq h14 (.cond (.tmp 60) .skip (.exit 4))) (.seq (.block 5 h16) h15) := by kernel_rfl
theorem eHH : HH = .seq (.seq h18 (.cond (.tmp 69) .skip (.exit 6))) (.seq (.block 7 h20) h19) := by kernel_rfl
theorem eHN : HN = .seq (.seq h29 (.cond (.tmp 97) .skip (.exit 8))) (.seq (.block 9 (.seq h31 (.cond (.tmp 105) h32 .skip))) h30) := by kernel_rfl
theorem info39 : (Try.prog.info? 39).map (fun i => (i.zero, i.size, i.bytes)) = some (some (.agg #[I 0, I 0, I 0, I 0]), 4, 32) := by kernel_rfl
theorem info37 : (Try.prog.info? 37).map (fun i => (i.zero, i.size, i.bytes)) = some (some (.slice none 0 0), 1, 24) := by kernel_rfl
theorem newsC (w : World) (x : Int) (t : TypeId) : ∀ j u, [I x, I 0, I 0, I 0][j]? = some u → (w.alloc (.cells #[I x, I 0, I 0, I 0] t)).cell? ((⟨w.heap.size, 0, none⟩ : Addr).add j) = some u := by
  intro j u hj
  have hb : (w.alloc (.cells #[I x, I 0, I 0, I 0] t)).heap[w.heap.size]? = some (.cells #[I x, I 0, I 0, I 0] t) := Array.getElem?_push_size
  exact World.news_of_block hb j u hj
theorem oneC (x : Int) : ∀ u ∈ [I x, I 0, I 0, I 0], u.oneCell' = true := by
  intro u hu
  simp at hu
  rcases hu with rfl | rfl <;> rfl
/-- A list that the call has made itself has grown by some cells. -/
structure Apd (lo ty sz : Nat) (l : Value) (n : Nat) (xs news : List Value) (v : World) (l' : Value) (v' : World) : Prop where
  own : v'.ownsRow lo ty sz l' (n + 1) (xs ++ news)
  size : v.heap.size ≤ v'.heap.size
  old : ∀ b, b < v.heap.size → some b ≠ l.ownBlock → v'.heap[b]? = v.heap[b]?
  os : v'.os = v.os
  output : v'.output = v.output
  at_ : ∃ g c, l' = .slice (some ⟨g, 0, none⟩) (n + 1) c ∧ (l.ownBlock = some g ∨ v.heap.size ≤ g)
set_option maxHeartbeats 4000000
set_option maxRecDepth 100000
section
variable {v : World} {a : Act} {s0 s6 s8 : Value} {p lp rp op : Option Addr} {R cap i b o n lc k rl rc rb ro m j lo on oc M wb T ct g : Nat} {x y oo ne : Int} {xs : List Value}
theorem h2_wp  (hA : Fl 133 [(0, s0), (1, .slice p R cap), (5, .bool true)] a) : h2.wp Try.prog (fun e a' w' => e = .normal ∧ Fl 133 [(0, s0), (1, .slice p R cap), (5, .bool true), (6, .slice none 0 0)] a' ∧ w'.heap = v.heap ∧ w'.os = v.os ∧ w'.output = v.output) a v := by
  obtain ⟨hsz, hd, hp⟩ := hA
  obtain ⟨u, rfl, hg⟩ := litN hsz hd
  simp only [List.forall_mem_cons, hg] at hp
  obtain ⟨u0, u1, u5, -⟩ := hp
  clear hg hsz hd
  unfold h2 LB14 Try.f14 seq2 seq1
  simp only [Option.getD_some, lits, Nat.reduceAdd, u0, u1, u5]
  clear u0 u1 u5
  go_wp2_with fail
  first | refine ⟨?_, rfl, rfl, rfl⟩ | refine ⟨?_, rfl, rfl⟩ | refine ⟨?_, rfl⟩ | skip
  exact ⟨rfl, rfl, by
   intro p hp
   simp only [List.mem_cons, List.not_mem_nil, or_false] at hp
   rcases hp with rfl | rfl | rfl | rfl <;> first | rfl | exact congrArg I (by omega) | exact congrArg Value.bool (by simp)⟩

theorem h3_wp  (hA : Fl 133 [(0, s0), (1, .slice p R cap), (5, .bool true), (6, s6)] a) : h3.wp Try.prog (fun e a' w' => e = .normal ∧ Fl 133 [(0, s0), (1, .slice p R cap), (5, .bool true), (6, s6), (7, I 0)] a' ∧ w'.heap = v.heap ∧ w'.os = v.os ∧ w'.output = v.output) a v := by
  obtain ⟨hsz, hd, hp⟩ := hA
  obtain ⟨u, rfl, hg⟩ := litN hsz hd
  simp only [List.forall_mem_cons, hg] at hp
  obtain ⟨u0, u1, u5, u6, -⟩ := hp
  clear hg hsz hd
  unfold h3 HL LB14 Try.f14 seq2 seq1
  simp only [Option.getD_some, lits, Nat.reduceAdd, u0, u1, u5, u6]
  clear u0 u1 u5 u6
  go_wp2_with fail
  first | refine ⟨?_, rfl, rfl, rfl⟩ | refine ⟨?_, rfl, rfl⟩ | refine ⟨?_, rfl⟩ | skip
  exact ⟨rfl, rfl, by
   intro p hp
   simp only [List.mem_cons, List.not_mem_nil, or_false] at hp
   rcases hp with rfl | rfl | rfl | rfl | rfl <;> first | rfl | exact congrArg I (by omega) | exact congrArg Value.bool (by simp)⟩

theorem h4_wpy (hi : i < R) (h8 : i < 8) (hA : Fl 133 [(0, s0), (1, .slice p R cap), (5, .bool true), (6, s6), (7, I (i : Int))] a) : h4.wp Try.prog (fun e a' w' => e = .normal ∧ Fl 133 [(0, s0), (1, .slice p R cap), (5, .bool true), (6, s6), (7, I (i : Int)), (27, .bool true)] a' ∧ w'.heap = v.heap ∧ w'.os = v.os ∧ w'.output = v.output) a v := by
  obtain ⟨hsz, hd, hp⟩ := hA
  obtain ⟨u, rfl, hg⟩ := litN hsz hd
  simp only [List.forall_mem_cons, hg] at hp
  obtain ⟨u0, u1, u5, u6, u7, -⟩ := hp
  clear hg hsz hd
  have q1 : (i : Int) < (R : Int) := by omega
  have q2 : (i : Int) < 8 := by omega
  unfold h4 HA HL LB14 Try.f14 seq2 seq1 blockC loopC
  simp only [Option.getD_some, lits, Nat.reduceAdd, u0, u1, u5, u6, u7]
  clear u0 u1 u5 u6 u7
  go_wp2_with fail
  first | refine ⟨?_, rfl, rfl, rfl⟩ | refine ⟨?_, rfl, rfl⟩ | refine ⟨?_, rfl⟩ | skip
  exact ⟨rfl, rfl, by
   intro p hp
   simp only [List.mem_cons, List.not_mem_nil, or_false] at hp
   rcases hp with rfl | rfl | rfl | rfl | rfl | rfl <;> first | rfl | exact congrArg I (by omega) | exact congrArg Value.bool (by simp)⟩

theorem h4_wpn (hi : ¬ i < R) (hA : Fl 133 [(0, s0), (1, .slice p R cap), (5, .bool true), (6, s6), (7, I (i : Int))] a) : h4.wp Try.prog (fun e a' w' => e = .normal ∧ Fl 133 [(0, s0), (1, .slice p R cap), (5, .bool true), (6, s6), (7, I (i : Int)), (27, .bool false)] a' ∧ w'.heap = v.heap ∧ w'.os = v.os ∧ w'.output = v.output) a v := by
  obtain ⟨hsz, hd, hp⟩ := hA
  obtain ⟨u, rfl, hg⟩ := litN hsz hd
  simp only [List.forall_mem_cons, hg] at hp
  obtain ⟨u0, u1, u5, u6, u7, -⟩ := hp
  clear hg hsz hd
  have q1 : ¬ (i : Int) < (R : Int) := by omega
  unfold h4 HA HL LB14 Try.f14 seq2 seq1 blockC loopC
  simp only [Option.getD_some, lits, Nat.reduceAdd, u0, u1, u5, u6, u7]
  clear u0 u1 u5 u6 u7
  go_wp2_with fail
  first | refine ⟨?_, rfl, rfl, rfl⟩ | refine ⟨?_, rfl, rfl⟩ | refine ⟨?_, rfl⟩ | skip
  exact ⟨rfl, rfl, by
   intro p hp
   simp only [List.mem_cons, List.not_mem_nil, or_false] at hp
   rcases hp with rfl | rfl | rfl | rfl | rfl | rfl <;> first | rfl | exact congrArg I (by omega) | exact congrArg Value.bool (by simp)⟩

theorem h4_wpm (hi : i < R) (h8 : ¬ i < 8) (hA : Fl 133 [(0, s0), (1, .slice p R cap), (5, .bool true), (6, s6), (7, I (i : Int))] a) : h4.wp Try.prog (fun e a' w' => e = .normal ∧ Fl 133 [(0, s0), (1, .slice p R cap), (5, .bool true), (6, s6), (7, I (i : Int)), (27, .bool false)] a' ∧ w'.heap = v.heap ∧ w'.os = v.os ∧ w'.output = v.output) a v := by
  obtain ⟨hsz, hd, hp⟩ := hA
  obtain ⟨u, rfl, hg⟩ := litN hsz hd
  simp only [List.forall_mem_cons, hg] at hp
  obtain ⟨u0, u1, u5, u6, u7, -⟩ := hp
  clear hg hsz hd
  have q1 : (i : Int) < (R : Int) := by omega
  have q2 : ¬ (i : Int) < 8 := by omega
  unfold h4 HA HL LB14 Try.f14 seq2 seq1 blockC loopC
  simp only [Option.getD_some, lits, Nat.reduceAdd, u0, u1, u5, u6, u7]
  clear u0 u1 u5 u6 u7
  go_wp2_with fail
  first | refine ⟨?_, rfl, rfl, rfl⟩ | refine ⟨?_, rfl, rfl⟩ | refine ⟨?_, rfl⟩ | skip
  exact ⟨rfl, rfl, by
   intro p hp
   simp only [List.mem_cons, List.not_mem_nil, or_false] at hp
   rcases hp with rfl | rfl | rfl | rfl | rfl | rfl <;> first | rfl | exact congrArg I (by omega) | exact congrArg Value.bool (by simp)⟩

theorem h5_wp (hw9 : wrap64 ((i : Int) + 1) = ((i + 1 : Nat) : Int)) (hA : Fl 133 [(0, s0), (1, .slice p R cap), (5, .bool true), (6, s6), (7, I (i : Int))] a) : h5.wp Try.prog (fun e a' w' => e = .normal ∧ Fl 133 [(0, s0), (1, .slice p R cap), (5, .bool true), (6, s6), (7, I ((i + 1 : Nat) : Int))] a' ∧ w'.heap = v.heap ∧ w'.os = v.os ∧ w'.output = v.output) a v := by
  obtain ⟨hsz, hd, hp⟩ := hA
  obtain ⟨u, rfl, hg⟩ := litN hsz hd
  simp only [List.forall_mem_cons, hg] at hp
  obtain ⟨u0, u1, u5, u6, u7, -⟩ := hp
  clear hg hsz hd
  unfold h5 HA HL LB14 Try.f14 seq2 seq1 blockC loopC
  simp only [Option.getD_some, lits, Nat.reduceAdd, u0, u1, u5, u6, u7]
  clear u0 u1 u5 u6 u7
  go_wp2_with fail
  first | refine ⟨?_, rfl, rfl, rfl⟩ | refine ⟨?_, rfl, rfl⟩ | refine ⟨?_, rfl⟩ | skip
  exact ⟨rfl, rfl, by
   intro p hp
   simp only [List.mem_cons, List.not_mem_nil, or_false] at hp
   rcases hp with rfl | rfl | rfl | rfl | rfl <;> first | rfl | exact congrArg I (by omega) | exact congrArg Value.bool (by simp)⟩

theorem h6_wp  (hA : Fl 133 [(0, s0), (1, .slice p R cap), (5, .bool true), (6, s6), (7, I (i : Int))] a) : h6.wp Try.prog (fun e a' w' => e = .normal ∧ Fl 133 [(0, s0), (1, .slice p R cap), (5, .bool true), (6, s6), (7, I (i : Int)), (8, .slice none 0 0)] a' ∧ w'.heap = v.heap ∧ w'.os = v.os ∧ w'.output = v.output) a v := by
  obtain ⟨hsz, hd, hp⟩ := hA
  obtain ⟨u, rfl, hg⟩ := litN hsz hd
  simp only [List.forall_mem_cons, hg] at hp
  obtain ⟨u0, u1, u5, u6, u7, -⟩ := hp
  clear hg hsz hd
  unfold h6 HB HA HL LB14 Try.f14 seq2 seq1 blockC loopC
  simp only [Option.getD_some, lits, Nat.reduceAdd, u0, u1, u5, u6, u7]
  clear u0 u1 u5 u6 u7
  go_wp2_with fail
  first | refine ⟨?_, rfl, rfl, rfl⟩ | refine ⟨?_, rfl, rfl⟩ | refine ⟨?_, rfl⟩ | skip
  exact ⟨rfl, rfl, by
   intro p hp
   simp only [List.mem_cons, List.not_mem_nil, or_false] at hp
   rcases hp with rfl | rfl | rfl | rfl | rfl | rfl <;> first | rfl | exact congrArg I (by omega) | exact congrArg Value.bool (by simp)⟩

theorem h7_wp  (hA : Fl 133 [(0, s0), (1, .slice p R cap), (5, .bool true), (6, s6), (7, I (i : Int)), (8, s8)] a) : h7.wp Try.prog (fun e a' w' => e = .normal ∧ Fl 133 [(0, s0), (1, .slice p R cap), (5, .bool true), (6, s6), (7, I (i : Int)), (8, s8), (9, I 0)] a' ∧ w'.heap = v.heap ∧ w'.os = v.os ∧ w'.output = v.output) a v := by
  obtain ⟨hsz, hd, hp⟩ := hA
  obtain ⟨u, rfl, hg⟩ := litN hsz hd
  simp only [List.forall_mem_cons, hg] at hp
  obtain ⟨u0, u1, u5, u6, u7, u8, -⟩ := hp
  clear hg hsz hd
  unfold h7 HK HB HA HL LB14 Try.f14 seq2 seq1 blockC loopC
  simp only [Option.getD_some, lits, Nat.reduceAdd, u0, u1, u5, u6, u7, u8]
  clear u0 u1 u5 u6 u7 u8
  go_wp2_with fail
  first | refine ⟨?_, rfl, rfl, rfl⟩ | refine ⟨?_, rfl, rfl⟩ | refine ⟨?_, rfl⟩ | skip
  exact ⟨rfl, rfl, by
   intro p hp
   simp only [List.mem_cons, List.not_mem_nil, or_false] at hp
   rcases hp with rfl | rfl | rfl | rfl | rfl | rfl | rfl <;> first | rfl | exact congrArg I (by omega) | exact congrArg Value.bool (by simp)⟩

theorem h8_wpy (hi : i < R) (d1 : v.cell? ⟨b, o + i, none⟩ = some (.slice rp rl rc)) (hk : k < rl) (h50 : n < 50) (hA : Fl 133 [(0, s0), (1, .slice (some ⟨b, o, none⟩) R cap), (5, .bool true), (6, s6), (7, I (i : Int)), (8, .slice lp n lc), (9, I (k : Int))] a) : h8.wp Try.prog (fun e a' w' => e = .normal ∧ Fl 133 [(0, s0), (1, .slice (some ⟨b, o, none⟩) R cap), (5, .bool true), (6, s6), (7, I (i : Int)), (8, .slice lp n lc), (9, I (k : Int)), (41, .bool true)] a' ∧ w'.heap = v.heap ∧ w'.os = v.os ∧ w'.output = v.output) a v := by
  obtain ⟨hsz, hd, hp⟩ := hA
  obtain ⟨u, rfl, hg⟩ := litN hsz hd
  simp only [List.forall_mem_cons, hg] at hp
  obtain ⟨u0, u1, u5, u6, u7, u8, u9, -⟩ := hp
  clear hg hsz hd
  have q1 : (i : Int) < (R : Int) := by omega
  have q5 : ¬ ((i : Int) < 0) := by omega
  have q6 : ¬ R ≤ i := by omega
  have q2 : (k : Int) < (rl : Int) := by omega
  have q3 : (n : Int) < 50 := by omega
  unfold h8 HC HK HB HA HL LB14 Try.f14 seq2 seq1 blockC loopC
  simp only [Option.getD_some, lits, Nat.reduceAdd, u0, u1, u5, u6, u7, u8, u9]
  clear u0 u1 u5 u6 u7 u8 u9
  go_wp2_with fail
  first | refine ⟨?_, rfl, rfl, rfl⟩ | refine ⟨?_, rfl, rfl⟩ | refine ⟨?_, rfl⟩ | skip
  exact ⟨rfl, rfl, by
   intro p hp
   simp only [List.mem_cons, List.not_mem_nil, or_false] at hp
   rcases hp with rfl | rfl | rfl | rfl | rfl | rfl | rfl | rfl <;> first | rfl | exact congrArg I (by omega) | exact congrArg Value.bool (by simp)⟩

theorem h8_wpn (hi : i < R) (d1 : v.cell? ⟨b, o + i, none⟩ = some (.slice rp rl rc)) (hk : ¬ k < rl) (hA : Fl 133 [(0, s0), (1, .slice (some ⟨b, o, none⟩) R cap), (5, .bool true), (6, s6), (7, I (i : Int)), (8, .slice lp n lc), (9, I (k : Int))] a) : h8.wp Try.prog (fun e a' w' => e = .normal ∧ Fl 133 [(0, s0), (1, .slice (some ⟨b, o, none⟩) R cap), (5, .bool true), (6, s6), (7, I (i : Int)), (8, .slice lp n lc), (9, I (k : Int)), (41, .bool false)] a' ∧ w'.heap = v.heap ∧ w'.os = v.os ∧ w'.output = v.output) a v := by
  obtain ⟨hsz, hd, hp⟩ := hA
  obtain ⟨u, rfl, hg⟩ := litN hsz hd
  simp only [List.forall_mem_cons, hg] at hp
  obtain ⟨u0, u1, u5, u6, u7, u8, u9, -⟩ := hp
  clear hg hsz hd
  have q1 : (i : Int) < (R : Int) := by omega
  have q5 : ¬ ((i : Int) < 0) := by omega
  have q6 : ¬ R ≤ i := by omega
  have q2 : ¬ (k : Int) < (rl : Int) := by omega
  unfold h8 HC HK HB HA HL LB14 Try.f14 seq2 seq1 blockC loopC
  simp only [Option.getD_some, lits, Nat.reduceAdd, u0, u1, u5, u6, u7, u8, u9]
  clear u0 u1 u5 u6 u7 u8 u9
  go_wp2_with fail
  first | refine ⟨?_, rfl, rfl, rfl⟩ | refine ⟨?_, rfl, rfl⟩ | refine ⟨?_, rfl⟩ | skip
  exact ⟨rfl, rfl, by
   intro p hp
   simp only [List.mem_cons, List.not_mem_nil, or_false] at hp
   rcases hp with rfl | rfl | rfl | rfl | rfl | rfl | rfl | rfl <;> first | rfl | exact congrArg I (by omega) | exact congrArg Value.bool (by simp)⟩

theorem h8_wpm (hi : i < R) (d1 : v.cell? ⟨b, o + i, none⟩ = some (.slice rp rl rc)) (hk : k < rl) (h50 : ¬ n < 50) (hA : Fl 133 [(0, s0), (1, .slice (some ⟨b, o, none⟩) R cap), (5, .bool true), (6, s6), (7, I (i : Int)), (8, .slice lp n lc), (9, I (k : Int))] a) : h8.wp Try.prog (fun e a' w' => e = .normal ∧ Fl 133 [(0, s0), (1, .slice (some ⟨b, o, none⟩) R cap), (5, .bool true), (6, s6), (7, I (i : Int)), (8, .slice lp n lc), (9, I (k : Int)), (41, .bool false)] a' ∧ w'.heap = v.heap ∧ w'.os = v.os ∧ w'.output = v.output) a v := by
  obtain ⟨hsz, hd, hp⟩ := hA
  obtain ⟨u, rfl, hg⟩ := litN hsz hd
  simp only [List.forall_mem_cons, hg] at hp
  obtain ⟨u0, u1, u5, u6, u7, u8, u9, -⟩ := hp
  clear hg hsz hd
  have q1 : (i : Int) < (R : Int) := by omega
  have q5 : ¬ ((i : Int) < 0) := by omega
  have q6 : ¬ R ≤ i := by omega
  have q2 : (k : Int) < (rl : Int) := by omega
  have q3 : ¬ (n : Int) < 50 := by omega
  unfold h8 HC HK HB HA HL LB14 Try.f14 seq2 seq1 blockC loopC
  simp only [Option.getD_some, lits, Nat.reduceAdd, u0, u1, u5, u6, u7, u8, u9]
  clear u0 u1 u5 u6 u7 u8 u9
  go_wp2_with fail
  first | refine ⟨?_, rfl, rfl, rfl⟩ | refine ⟨?_, rfl, rfl⟩ | refine ⟨?_, rfl⟩ | skip
  exact ⟨rfl, rfl, by
   intro p hp
   simp only [List.mem_cons, List.not_mem_nil, or_false] at hp
   rcases hp with rfl | rfl | rfl | rfl | rfl | rfl | rfl | rfl <;> first | rfl | exact congrArg I (by omega) | exact congrArg Value.bool (by simp)⟩

theorem h9_wp (hw9 : wrap64 ((k : Int) + 1) = ((k + 1 : Nat) : Int)) (hA : Fl 133 [(0, s0), (1, .slice (some ⟨b, o, none⟩) R cap), (5, .bool true), (6, s6), (7, I (i : Int)), (8, .slice lp n lc), (9, I (k : Int))] a) : h9.wp Try.prog (fun e a' w' => e = .normal ∧ Fl 133 [(0, s0), (1, .slice (some ⟨b, o, none⟩) R cap), (5, .bool true), (6, s6), (7, I (i : Int)), (8, .slice lp n lc), (9, I ((k + 1 : Nat) : Int))] a' ∧ w'.heap = v.heap ∧ w'.os = v.os ∧ w'.output = v.output) a v := by
  obtain ⟨hsz, hd, hp⟩ := hA
  obtain ⟨u, rfl, hg⟩ := litN hsz hd
  simp only [List.forall_mem_cons, hg] at hp
  obtain ⟨u0, u1, u5, u6, u7, u8, u9, -⟩ := hp
  clear hg hsz hd
  unfold h9 HC HK HB HA HL LB14 Try.f14 seq2 seq1 blockC loopC
  simp only [Option.getD_some, lits, Nat.reduceAdd, u0, u1, u5, u6, u7, u8, u9]
  clear u0 u1 u5 u6 u7 u8 u9
  go_wp2_with fail
  first | refine ⟨?_, rfl, rfl, rfl⟩ | refine ⟨?_, rfl, rfl⟩ | refine ⟨?_, rfl⟩ | skip
  exact ⟨rfl, rfl, by
   intro p hp
   simp only [List.mem_cons, List.not_mem_nil, or_false] at hp
   rcases hp with rfl | rfl | rfl | rfl | rfl | rfl | rfl <;> first | rfl | exact congrArg I (by omega) | exact congrArg Value.bool (by simp)⟩

theorem h10_wp (hi : i < R) (d1 : v.cell? ⟨b, o + i, none⟩ = some (.slice (some ⟨rb, ro, none⟩) rl rc)) (hk : k < rl) (c1 : v.cell? ⟨rb, ro + k, none⟩ = some (I x)) (hA : Fl 133 [(0, s0), (1, .slice (some ⟨b, o, none⟩) R cap), (5, .bool true), (6, s6), (7, I (i : Int)), (8, .slice lp n lc), (9, I (k : Int))] a) : h10.wp Try.prog (fun e a' w' => e = .normal ∧ Fl 133 [(0, s0), (1, .slice (some ⟨b, o, none⟩) R cap), (5, .bool true), (6, s6), (7, I (i : Int)), (8, .slice lp n lc), (9, I (k : Int)), (10, I (bits .and .i64 x 7))] a' ∧ w'.heap = v.heap ∧ w'.os = v.os ∧ w'.output = v.output) a v := by
  obtain ⟨hsz, hd, hp⟩ := hA
  obtain ⟨u, rfl, hg⟩ := litN hsz hd
  simp only [List.forall_mem_cons, hg] at hp
  obtain ⟨u0, u1, u5, u6, u7, u8, u9, -⟩ := hp
  clear hg hsz hd
  have q1 : (i : Int) < (R : Int) := by omega
  have q5 : ¬ ((i : Int) < 0) := by omega
  have q6 : ¬ R ≤ i := by omega
  have q2 : (k : Int) < (rl : Int) := by omega
  have q3 : ¬ ((k : Int) < 0) := by omega
  have q4 : ¬ rl ≤ k := by omega
  unfold h10 HD HC HK HB HA HL LB14 Try.f14 seq2 seq1 blockC loopC
  simp only [Option.getD_some, lits, Nat.reduceAdd, u0, u1, u5, u6, u7, u8, u9]
  clear u0 u1 u5 u6 u7 u8 u9
  go_wp2_with fail
  first | refine ⟨?_, rfl, rfl, rfl⟩ | refine ⟨?_, rfl, rfl⟩ | refine ⟨?_, rfl⟩ | skip
  exact ⟨rfl, rfl, by
   intro p hp
   simp only [List.mem_cons, List.not_mem_nil, or_false] at hp
   rcases hp with rfl | rfl | rfl | rfl | rfl | rfl | rfl | rfl <;> first | rfl | exact congrArg I (by omega) | exact congrArg Value.bool (by simp)⟩

theorem h11_wp  (hA : Fl 133 [(0, s0), (1, .slice (some ⟨b, o, none⟩) R cap), (5, .bool true), (6, s6), (7, I (i : Int)), (8, .slice lp n lc), (9, I (k : Int)), (10, I (m : Int))] a) : h11.wp Try.prog (fun e a' w' => e = .normal ∧ Fl 133 [(0, s0), (1, .slice (some ⟨b, o, none⟩) R cap), (5, .bool true), (6, s6), (7, I (i : Int)), (8, .slice lp n lc), (9, I (k : Int)), (10, I (m : Int)), (53, .bool (decide ((m : Int) > 3)))] a' ∧ w'.heap = v.heap ∧ w'.os = v.os ∧ w'.output = v.output) a v := by
  obtain ⟨hsz, hd, hp⟩ := hA
  obtain ⟨u, rfl, hg⟩ := litN hsz hd
  simp only [List.forall_mem_cons, hg] at hp
  obtain ⟨u0, u1, u5, u6, u7, u8, u9, u10, -⟩ := hp
  clear hg hsz hd
  unfold h11 HD HC HK HB HA HL LB14 Try.f14 seq2 seq1 blockC loopC
  simp only [Option.getD_some, lits, Nat.reduceAdd, u0, u1, u5, u6, u7, u8, u9, u10]
  clear u0 u1 u5 u6 u7 u8 u9 u10
  go_wp2_with fail
  first | refine ⟨?_, rfl, rfl, rfl⟩ | refine ⟨?_, rfl, rfl⟩ | refine ⟨?_, rfl⟩ | skip
  exact ⟨rfl, rfl, by
   intro p hp
   simp only [List.mem_cons, List.not_mem_nil, or_false] at hp
   rcases hp with rfl | rfl | rfl | rfl | rfl | rfl | rfl | rfl | rfl <;> first | rfl | exact congrArg I (by omega) | exact congrArg Value.bool (by simp)⟩

theorem h13_wp  (hA : Fl 133 [(0, s0), (1, .slice (some ⟨b, o, none⟩) R cap), (5, .bool true), (6, s6), (7, I (i : Int)), (8, .slice lp n lc), (9, I (k : Int)), (10, I (m : Int))] a) : h13.wp Try.prog (fun e a' w' => e = .normal ∧ Fl 133 [(0, s0), (1, .slice (some ⟨b, o, none⟩) R cap), (5, .bool true), (6, s6), (7, I (i : Int)), (8, .slice lp n lc), (9, I (k : Int)), (10, I (m : Int)), (11, I 0)] a' ∧ w'.heap = v.heap ∧ w'.os = v.os ∧ w'.output = v.output) a v := by
  obtain ⟨hsz, hd, hp⟩ := hA
  obtain ⟨u, rfl, hg⟩ := litN hsz hd
  simp only [List.forall_mem_cons, hg] at hp
  obtain ⟨u0, u1, u5, u6, u7, u8, u9, u10, -⟩ := hp
  clear hg hsz hd
  unfold h13 HE HD HC HK HB HA HL LB14 Try.f14 seq2 seq1 blockC loopC
  simp only [Option.getD_some, lits, Nat.reduceAdd, u0, u1, u5, u6, u7, u8, u9, u10]
  clear u0 u1 u5 u6 u7 u8 u9 u10
  go_wp2_with fail
  first | refine ⟨?_, rfl, rfl, rfl⟩ | refine ⟨?_, rfl, rfl⟩ | refine ⟨?_, rfl⟩ | skip
  exact ⟨rfl, rfl, by
   intro p hp
   simp only [List.mem_cons, List.not_mem_nil, or_false] at hp
   rcases hp with rfl | rfl | rfl | rfl | rfl | rfl | rfl | rfl | rfl <;> first | rfl | exact congrArg I (by omega) | exact congrArg Value.bool (by simp)⟩

theorem h14_wp  (hA : Fl 133 [(0, s0), (1, .slice (some ⟨b, o, none⟩) R cap), (5, .bool true), (6, s6), (7, I (i : Int)), (8, .slice lp n lc), (9, I (k : Int)), (10, I (m : Int)), (11, I (j : Int))] a) : h14.wp Try.prog (fun e a' w' => e = .normal ∧ Fl 133 [(0, s0), (1, .slice (some ⟨b, o, none⟩) R cap), (5, .bool true), (6, s6), (7, I (i : Int)), (8, .slice lp n lc), (9, I (k : Int)), (10, I (m : Int)), (11, I (j : Int)), (60, .bool (decide ((j : Int) < (m : Int))))] a' ∧ w'.heap = v.heap ∧ w'.os = v.os ∧ w'.output = v.output) a v := by
  obtain ⟨hsz, hd, hp⟩ := hA
  obtain ⟨u, rfl, hg⟩ := litN hsz hd
  simp only [List.forall_mem_cons, hg] at hp
  obtain ⟨u0, u1, u5, u6, u7, u8, u9, u10, u11, -⟩ := hp
  clear hg hsz hd
  unfold h14 HF HE HD HC HK HB HA HL LB14 Try.f14 seq2 seq1 blockC loopC
  simp only [Option.getD_some, lits, Nat.reduceAdd, u0, u1, u5, u6, u7, u8, u9, u10, u11]
  clear u0 u1 u5 u6 u7 u8 u9 u10 u11
  go_wp2_with fail
  first | refine ⟨?_, rfl, rfl, rfl⟩ | refine ⟨?_, rfl, rfl⟩ | refine ⟨?_, rfl⟩ | skip
  exact ⟨rfl, rfl, by
   intro p hp
   simp only [List.mem_cons, List.not_mem_nil, or_false] at hp
   rcases hp with rfl | rfl | rfl | rfl | rfl | rfl | rfl | rfl | rfl | rfl <;> first | rfl | exact congrArg I (by omega) | exact congrArg Value.bool (by simp)⟩

theorem h15_wp (hw9 : wrap64 ((j : Int) + 1) = ((j + 1 : Nat) : Int)) (hA : Fl 133 [(0, s0), (1, .slice (some ⟨b, o, none⟩) R cap), (5, .bool true), (6, s6), (7, I (i : Int)), (8, .slice lp n lc), (9, I (k : Int)), (10, I (m : Int)), (11, I (j : Int))] a) : h15.wp Try.prog (fun e a' w' => e = .normal ∧ Fl 133 [(0, s0), (1, .slice (some ⟨b, o, none⟩) R cap), (5, .bool true), (6, s6), (7, I (i : Int)), (8, .slice lp n lc), (9, I (k : Int)), (10, I (m : Int)), (11, I ((j + 1 : Nat) : Int))] a' ∧ w'.heap = v.heap ∧ w'.os = v.os ∧ w'.output = v.output) a v := by
  obtain ⟨hsz, hd, hp⟩ := hA
  obtain ⟨u, rfl, hg⟩ := litN hsz hd
  simp only [List.forall_mem_cons, hg] at hp
  obtain ⟨u0, u1, u5, u6, u7, u8, u9, u10, u11, -⟩ := hp
  clear hg hsz hd
  unfold h15 HF HE HD HC HK HB HA HL LB14 Try.f14 seq2 seq1 blockC loopC
  simp only [Option.getD_some, lits, Nat.reduceAdd, u0, u1, u5, u6, u7, u8, u9, u10, u11]
  clear u0 u1 u5 u6 u7 u8 u9 u10 u11
  go_wp2_with fail
  first | refine ⟨?_, rfl, rfl, rfl⟩ | refine ⟨?_, rfl, rfl⟩ | refine ⟨?_, rfl⟩ | skip
  exact ⟨rfl, rfl, by
   intro p hp
   simp only [List.mem_cons, List.not_mem_nil, or_false] at hp
   rcases hp with rfl | rfl | rfl | rfl | rfl | rfl | rfl | rfl | rfl <;> first | rfl | exact congrArg I (by omega) | exact congrArg Value.bool (by simp)⟩

theorem h17_wp  (hA : Fl 133 [(0, s0), (1, .slice (some ⟨b, o, none⟩) R cap), (5, .bool true), (6, s6), (7, I (i : Int)), (8, .slice lp n lc), (9, I (k : Int)), (10, I (m : Int))] a) : h17.wp Try.prog (fun e a' w' => e = .normal ∧ Fl 133 [(0, s0), (1, .slice (some ⟨b, o, none⟩) R cap), (5, .bool true), (6, s6), (7, I (i : Int)), (8, .slice lp n lc), (9, I (k : Int)), (10, I (m : Int)), (12, I 0)] a' ∧ w'.heap = v.heap ∧ w'.os = v.os ∧ w'.output = v.output) a v := by
  obtain ⟨hsz, hd, hp⟩ := hA
  obtain ⟨u, rfl, hg⟩ := litN hsz hd
  simp only [List.forall_mem_cons, hg] at hp
  obtain ⟨u0, u1, u5, u6, u7, u8, u9, u10, -⟩ := hp
  clear hg hsz hd
  unfold h17 HG HD HC HK HB HA HL LB14 Try.f14 seq2 seq1 blockC loopC
  simp only [Option.getD_some, lits, Nat.reduceAdd, u0, u1, u5, u6, u7, u8, u9, u10]
  clear u0 u1 u5 u6 u7 u8 u9 u10
  go_wp2_with fail
  first | refine ⟨?_, rfl, rfl, rfl⟩ | refine ⟨?_, rfl, rfl⟩ | refine ⟨?_, rfl⟩ | skip
  exact ⟨rfl, rfl, by
   intro p hp
   simp only [List.mem_cons, List.not_mem_nil, or_false] at hp
   rcases hp with rfl | rfl | rfl | rfl | rfl | rfl | rfl | rfl | rfl <;> first | rfl | exact congrArg I (by omega) | exact congrArg Value.bool (by simp)⟩

theorem h18_wp  (hA : Fl 133 [(0, s0), (1, .slice (some ⟨b, o, none⟩) R cap), (5, .bool true), (6, s6), (7, I (i : Int)), (8, .slice lp n lc), (9, I (k : Int)), (10, I (m : Int)), (12, I (j : Int))] a) : h18.wp Try.prog (fun e a' w' => e = .normal ∧ Fl 133 [(0, s0), (1, .slice (some ⟨b, o, none⟩) R cap), (5, .bool true), (6, s6), (7, I (i : Int)), (8, .slice lp n lc), (9, I (k : Int)), (10, I (m : Int)), (12, I (j : Int)), (69, .bool (decide ((j : Int) < (m : Int))))] a' ∧ w'.heap = v.heap ∧ w'.os = v.os ∧ w'.output = v.output) a v := by
  obtain ⟨hsz, hd, hp⟩ := hA
  obtain ⟨u, rfl, hg⟩ := litN hsz hd
  simp only [List.forall_mem_cons, hg] at hp
  obtain ⟨u0, u1, u5, u6, u7, u8, u9, u10, u12, -⟩ := hp
  clear hg hsz hd
  unfold h18 HH HG HD HC HK HB HA HL LB14 Try.f14 seq2 seq1 blockC loopC
  simp only [Option.getD_some, lits, Nat.reduceAdd, u0, u1, u5, u6, u7, u8, u9, u10, u12]
  clear u0 u1 u5 u6 u7 u8 u9 u10 u12
  go_wp2_with fail
  first | refine ⟨?_, rfl, rfl, rfl⟩ | refine ⟨?_, rfl, rfl⟩ | refine ⟨?_, rfl⟩ | skip
  exact ⟨rfl, rfl, by
   intro p hp
   simp only [List.mem_cons, List.not_mem_nil, or_false] at hp
   rcases hp with rfl | rfl | rfl | rfl | rfl | rfl | rfl | rfl | rfl | rfl <;> first | rfl | exact congrArg I (by omega) | exact congrArg Value.bool (by simp)⟩

theorem h19_wp (hw9 : wrap64 ((j : Int) + 1) = ((j + 1 : Nat) : Int)) (hA : Fl 133 [(0, s0), (1, .slice (some ⟨b, o, none⟩) R cap), (5, .bool true), (6, s6), (7, I (i : Int)), (8, .slice lp n lc), (9, I (k : Int)), (10, I (m : Int)), (12, I (j : Int))] a) : h19.wp Try.prog (fun e a' w' => e = .normal ∧ Fl 133 [(0, s0), (1, .slice (some ⟨b, o, none⟩) R cap), (5, .bool true), (6, s6), (7, I (i : Int)), (8, .slice lp n lc), (9, I (k : Int)), (10, I (m : Int)), (12, I ((j + 1 : Nat) : Int))] a' ∧ w'.heap = v.heap ∧ w'.os = v.os ∧ w'.output = v.output) a v := by
  obtain ⟨hsz, hd, hp⟩ := hA
  obtain ⟨u, rfl, hg⟩ := litN hsz hd
  simp only [List.forall_mem_cons, hg] at hp
  obtain ⟨u0, u1, u5, u6, u7, u8, u9, u10, u12, -⟩ := hp
  clear hg hsz hd
  unfold h19 HH HG HD HC HK HB HA HL LB14 Try.f14 seq2 seq1 blockC loopC
  simp only [Option.getD_some, lits, Nat.reduceAdd, u0, u1, u5, u6, u7, u8, u9, u10, u12]
  clear u0 u1 u5 u6 u7 u8 u9 u10 u12
  go_wp2_with fail
  first | refine ⟨?_, rfl, rfl, rfl⟩ | refine ⟨?_, rfl, rfl⟩ | refine ⟨?_, rfl⟩ | skip
  exact ⟨rfl, rfl, by
   intro p hp
   simp only [List.mem_cons, List.not_mem_nil, or_false] at hp
   rcases hp with rfl | rfl | rfl | rfl | rfl | rfl | rfl | rfl | rfl <;> first | rfl | exact congrArg I (by omega) | exact congrArg Value.bool (by simp)⟩

theorem h12_wp (hown : v.ownsRow lo 39 4 (.slice lp n lc) n xs) (hn : n ≤ 1000) (hlo : lo ≤ v.heap.size) (hA : Fl 133 [(0, s0), (1, .slice (some ⟨b, o, none⟩) R cap), (5, .bool true), (6, s6), (7, I (i : Int)), (8, .slice lp n lc), (9, I (k : Int)), (10, I (m : Int))] a) : h12.wp Try.prog (fun e a' w' => e = .normal ∧ ∃ l', Apd lo 39 4 (.slice lp n lc) n xs [I 3, I 0, I 0, I 0] v l' w' ∧ Fl 133 [(0, s0), (1, .slice (some ⟨b, o, none⟩) R cap), (5, .bool true), (6, s6), (7, I (i : Int)), (8, l'), (9, I (k : Int)), (10, I (m : Int))] a') a v := by
  have HO : Hid (v.ownsRow lo 39 4 (.slice lp n lc) n xs) := ⟨hown⟩
  clear hown
  obtain ⟨j0, hj, hj0, hj1, hj2⟩ := info_parts info39
  obtain ⟨hsz, hd, hp⟩ := hA
  obtain ⟨u, rfl, hg⟩ := litN hsz hd
  simp only [List.forall_mem_cons, hg] at hp
  obtain ⟨u0, u1, u5, u6, u7, u8, u9, u10, -⟩ := hp
  clear hg hsz hd
  unfold h12 HD HC HK HB HA HL LB14 Try.f14 seq2 seq1 blockC loopC condA
  simp only [Option.getD_some, lits, Nat.reduceAdd, u0, u1, u5, u6, u7, u8, u9, u10]
  clear u0 u1 u5 u6 u7 u8 u9 u10
  go_wp2_with (first
    | (refine wpList_append_lies _ rfl (.tmp 54) (.tmp 56) 37 rfl lo 39 j0 _ 4 32 Try.underlying37 hj hj0 hj1 hj2 rfl (by decide) (.slice lp n lc) n xs rfl (own_later (below_alloc (Below.refl _ _) _) (own_stay (fun _ _ => rfl) HO.out)) ⟨_, 0, none⟩ 1 1 [I 3, I 0, I 0, I 0] rfl rfl (newsC _ _ _) (oneC _) (by decide) (by unfold maxLen; omega) (by omega) (by simp; omega) _ rfl ?_
       intro g2 cp2 w6 hown6 hgrow6 hat6 hlt6))
  have hal : Below v.heap.size v (v.alloc (.cells #[.int .i64 3, .int .i64 0, .int .i64 0, .int .i64 0] 39)) := below_alloc (Below.refl _ _) _
  refine ⟨_, ⟨hown6, ?_, ?_, ?_, ?_, g2, cp2, rfl, ?_⟩, ⟨rfl, rfl, by
   intro p hp
   simp only [List.mem_cons, List.not_mem_nil, or_false] at hp
   rcases hp with rfl | rfl | rfl | rfl | rfl | rfl | rfl | rfl <;> first | rfl | exact congrArg I (by omega) | exact congrArg Value.bool (by simp)⟩⟩
  · have := hal.size; have := hgrow6.size; omega
  · intro b1 hb hne; rw [hgrow6.block b1 (by have := hal.size; omega) hne, hal.block b1 hb]
  · rw [hgrow6.os, hal.os]
  · rw [hgrow6.output, hal.output]
  · rcases hat6 with h | h
    · exact .inl h
    · right; rw [h]; exact hal.size

theorem h16_wp (hown : v.ownsRow lo 39 4 (.slice lp n lc) n xs) (hn : n ≤ 1000) (hlo : lo ≤ v.heap.size) (hA : Fl 133 [(0, s0), (1, .slice (some ⟨b, o, none⟩) R cap), (5, .bool true), (6, s6), (7, I (i : Int)), (8, .slice lp n lc), (9, I (k : Int)), (10, I (m : Int)), (11, I (j : Int))] a) : h16.wp Try.prog (fun e a' w' => e = .normal ∧ ∃ l', Apd lo 39 4 (.slice lp n lc) n xs [I 1, I 0, I 0, I 0] v l' w' ∧ Fl 133 [(0, s0), (1, .slice (some ⟨b, o, none⟩) R cap), (5, .bool true), (6, s6), (7, I (i : Int)), (8, l'), (9, I (k : Int)), (10, I (m : Int)), (11, I (j : Int))] a') a v := by
  have HO : Hid (v.ownsRow lo 39 4 (.slice lp n lc) n xs) := ⟨hown⟩
  clear hown
  obtain ⟨j0, hj, hj0, hj1, hj2⟩ := info_parts info39
  obtain ⟨hsz, hd, hp⟩ := hA
  obtain ⟨u, rfl, hg⟩ := litN hsz hd
  simp only [List.forall_mem_cons, hg] at hp
  obtain ⟨u0, u1, u5, u6, u7, u8, u9, u10, u11, -⟩ := hp
  clear hg hsz hd
  unfold h16 HF HE HD HC HK HB HA HL LB14 Try.f14 seq2 seq1 blockC loopC
  simp only [Option.getD_some, lits, Nat.reduceAdd, u0, u1, u5, u6, u7, u8, u9, u10, u11]
  clear u0 u1 u5 u6 u7 u8 u9 u10 u11
  go_wp2_with (first
    | (refine wpList_append_lies _ rfl (.tmp 63) (.tmp 65) 37 rfl lo 39 j0 _ 4 32 Try.underlying37 hj hj0 hj1 hj2 rfl (by decide) (.slice lp n lc) n xs rfl (own_later (below_alloc (Below.refl _ _) _) (own_stay (fun _ _ => rfl) HO.out)) ⟨_, 0, none⟩ 1 1 [I 1, I 0, I 0, I 0] rfl rfl (newsC _ _ _) (oneC _) (by decide) (by unfold maxLen; omega) (by omega) (by simp; omega) _ rfl ?_
       intro g2 cp2 w6 hown6 hgrow6 hat6 hlt6))
  have hal : Below v.heap.size v (v.alloc (.cells #[.int .i64 1, .int .i64 0, .int .i64 0, .int .i64 0] 39)) := below_alloc (Below.refl _ _) _
  refine ⟨_, ⟨hown6, ?_, ?_, ?_, ?_, g2, cp2, rfl, ?_⟩, ⟨rfl, rfl, by
   intro p hp
   simp only [List.mem_cons, List.not_mem_nil, or_false] at hp
   rcases hp with rfl | rfl | rfl | rfl | rfl | rfl | rfl | rfl | rfl <;> first | rfl | exact congrArg I (by omega) | exact congrArg Value.bool (by simp)⟩⟩
  · have := hal.size; have := hgrow6.size; omega
  · intro b1 hb hne; rw [hgrow6.block b1 (by have := hal.size; omega) hne, hal.block b1 hb]
  · rw [hgrow6.os, hal.os]
  · rw [hgrow6.output, hal.output]
  · rcases hat6 with h | h
    · exact .inl h
    · right; rw [h]; exact hal.size

theorem h20_wp (hown : v.ownsRow lo 39 4 (.slice lp n lc) n xs) (hn : n ≤ 1000) (hlo : lo ≤ v.heap.size) (hA : Fl 133 [(0, s0), (1, .slice (some ⟨b, o, none⟩) R cap), (5, .bool true), (6, s6), (7, I (i : Int)), (8, .slice lp n lc), (9, I (k : Int)), (10, I (m : Int)), (12, I (j : Int))] a) : h20.wp Try.prog (fun e a' w' => e = .normal ∧ ∃ l', Apd lo 39 4 (.slice lp n lc) n xs [I 2, I 0, I 0, I 0] v l' w' ∧ Fl 133 [(0, s0), (1, .slice (some ⟨b, o, none⟩) R cap), (5, .bool true), (6, s6), (7, I (i : Int)), (8, l'), (9, I (k : Int)), (10, I (m : Int)), (12, I (j : Int))] a') a v := by
  have HO : Hid (v.ownsRow lo 39 4 (.slice lp n lc) n xs) := ⟨hown⟩
  clear hown
  obtain ⟨j0, hj, hj0, hj1, hj2⟩ := info_parts info39
  obtain ⟨hsz, hd, hp⟩ := hA
  obtain ⟨u, rfl, hg⟩ := litN hsz hd
  simp only [List.forall_mem_cons, hg] at hp
  obtain ⟨u0, u1, u5, u6, u7, u8, u9, u10, u12, -⟩ := hp
  clear hg hsz hd
  unfold h20 HH HG HD HC HK HB HA HL LB14 Try.f14 seq2 seq1 blockC loopC
  simp only [Option.getD_some, lits, Nat.reduceAdd, u0, u1, u5, u6, u7, u8, u9, u10, u12]
  clear u0 u1 u5 u6 u7 u8 u9 u10 u12
  go_wp2_with (first
    | (refine wpList_append_lies _ rfl (.tmp 72) (.tmp 74) 37 rfl lo 39 j0 _ 4 32 Try.underlying37 hj hj0 hj1 hj2 rfl (by decide) (.slice lp n lc) n xs rfl (own_later (below_alloc (Below.refl _ _) _) (own_stay (fun _ _ => rfl) HO.out)) ⟨_, 0, none⟩ 1 1 [I 2, I 0, I 0, I 0] rfl rfl (newsC _ _ _) (oneC _) (by decide) (by unfold maxLen; omega) (by omega) (by simp; omega) _ rfl ?_
       intro g2 cp2 w6 hown6 hgrow6 hat6 hlt6))
  have hal : Below v.heap.size v (v.alloc (.cells #[.int .i64 2, .int .i64 0, .int .i64 0, .int .i64 0] 39)) := below_alloc (Below.refl _ _) _
  refine ⟨_, ⟨hown6, ?_, ?_, ?_, ?_, g2, cp2, rfl, ?_⟩, ⟨rfl, rfl, by
   intro p hp
   simp only [List.mem_cons, List.not_mem_nil, or_false] at hp
   rcases hp with rfl | rfl | rfl | rfl | rfl | rfl | rfl | rfl | rfl <;> first | rfl | exact congrArg I (by omega) | exact congrArg Value.bool (by simp)⟩⟩
  · have := hal.size; have := hgrow6.size; omega
  · intro b1 hb hne; rw [hgrow6.block b1 (by have := hal.size; omega) hne, hal.block b1 hb]
  · rw [hgrow6.os, hal.os]
  · rw [hgrow6.output, hal.output]
  · rcases hat6 with h | h
    · exact .inl h
    · right; rw [h]; exact hal.size

theorem newsL (w : World) (x : Value) (t : TypeId) : ∀ j u, [x][j]? = some u → (w.alloc (.cells #[x] t)).cell? ((⟨w.heap.size, 0, none⟩ : Addr).add j) = some u := by
  intro j u hj
  have hb : (w.alloc (.cells #[x] t)).heap[w.heap.size]? = some (.cells #[x] t) := Array.getElem?_push_size
  exact World.news_of_block hb j u hj
theorem h21_wp (hown : v.ownsRow lo 37 1 (.slice op on oc) on xs) (hn : on ≤ 1000) (hlo : lo ≤ v.heap.size) (hA : Fl 133 [(0, s0), (1, .slice p R cap), (5, .bool true), (6, .slice op on oc), (7, I (i : Int)), (8, .slice lp n lc)] a) : h21.wp Try.prog (fun e a' w' => e = .normal ∧ ∃ l', Apd lo 37 1 (.slice op on oc) on xs [.slice lp n lc] v l' w' ∧ Fl 133 [(0, s0), (1, .slice p R cap), (5, .bool true), (6, l'), (7, I (i : Int))] a') a v := by
  have HO : Hid (v.ownsRow lo 37 1 (.slice op on oc) on xs) := ⟨hown⟩
  clear hown
  obtain ⟨j0, hj, hj0, hj1, hj2⟩ := info_parts info37
  obtain ⟨hsz, hd, hp⟩ := hA
  obtain ⟨u, rfl, hg⟩ := litN hsz hd
  simp only [List.forall_mem_cons, hg] at hp
  obtain ⟨u0, u1, u5, u6, u7, u8, -⟩ := hp
  clear hg hsz hd
  unfold h21 HB HA HL LB14 Try.f14 seq2 seq1 blockC loopC
  simp only [Option.getD_some, lits, Nat.reduceAdd, u0, u1, u5, u6, u7, u8]
  clear u0 u1 u5 u6 u7 u8
  go_wp2_with (first
    | (refine wpList_append_lies _ rfl (.tmp 76) (.tmp 78) 23 rfl lo 37 j0 _ 1 24 Try.underlying23 hj hj0 hj1 hj2 rfl (by decide) (.slice op on oc) on xs rfl (own_later (below_alloc (Below.refl _ _) _) (own_stay (fun _ _ => rfl) HO.out)) ⟨_, 0, none⟩ 1 1 [.slice lp n lc] rfl rfl (newsL _ _ _) (fun u hu => by rw [List.mem_singleton] at hu; subst hu; rfl) (by decide) (by unfold maxLen; omega) (by omega) (by simp; omega) _ rfl ?_
       intro g2 cp2 w6 hown6 hgrow6 hat6 hlt6))
  have hal : Below v.heap.size v (v.alloc (.cells #[.slice lp n lc] 37)) := below_alloc (Below.refl _ _) _
  refine ⟨_, ⟨hown6, ?_, ?_, ?_, ?_, g2, cp2, rfl, ?_⟩, ⟨rfl, rfl, by
   intro p hp
   simp only [List.mem_cons, List.not_mem_nil, or_false] at hp
   rcases hp with rfl | rfl | rfl | rfl | rfl <;> first | rfl | exact congrArg I (by omega) | exact congrArg Value.bool (by simp)⟩⟩
  · have := hal.size; have := hgrow6.size; omega
  · intro b1 hb hne; rw [hgrow6.block b1 (by have := hal.size; omega) hne, hal.block b1 hb]
  · rw [hgrow6.os, hal.os]
  · rw [hgrow6.output, hal.output]
  · rcases hat6 with h | h
    · exact .inl h
    · right; rw [h]; exact hal.size

theorem h22_wp  (hA : Fl 133 [(0, s0), (5, .bool true), (6, .slice op on oc)] a) : h22.wp Try.prog (fun e a' w' => e = .normal ∧ Fl 133 [(0, s0), (5, .bool true), (6, .slice op on oc), (82, .bool ((on : Int) == 0))] a' ∧ w'.heap = v.heap ∧ w'.os = v.os ∧ w'.output = v.output) a v := by
  obtain ⟨hsz, hd, hp⟩ := hA
  obtain ⟨u, rfl, hg⟩ := litN hsz hd
  simp only [List.forall_mem_cons, hg] at hp
  obtain ⟨u0, u5, u6, -⟩ := hp
  clear hg hsz hd
  unfold h22 LB14 Try.f14 seq2 seq1
  simp only [Option.getD_some, lits, Nat.reduceAdd, u0, u5, u6]
  clear u0 u5 u6
  go_wp2_with fail
  first | refine ⟨?_, rfl, rfl, rfl⟩ | refine ⟨?_, rfl, rfl⟩ | refine ⟨?_, rfl⟩ | skip
  exact ⟨rfl, rfl, by
   intro p hp
   simp only [List.mem_cons, List.not_mem_nil, or_false] at hp
   rcases hp with rfl | rfl | rfl | rfl <;> first | rfl | exact congrArg I (by omega) | exact congrArg Value.bool (by simp)⟩

theorem h23_wp  (hA : Fl 133 [(0, s0), (5, .bool true), (6, .slice op on oc)] a) : h23.wp Try.prog (fun e a' w' => e = .ret ∧ Fl 133 [(4, .bool true)] a' ∧ w'.heap = v.heap ∧ w'.os = v.os ∧ w'.output = v.output) a v := by
  obtain ⟨hsz, hd, hp⟩ := hA
  obtain ⟨u, rfl, hg⟩ := litN hsz hd
  simp only [List.forall_mem_cons, hg] at hp
  obtain ⟨u0, u5, u6, -⟩ := hp
  clear hg hsz hd
  unfold h23 LB14 Try.f14 seq2 seq1 condA
  simp only [Option.getD_some, lits, Nat.reduceAdd, u0, u5, u6]
  clear u0 u5 u6
  go_wp2_with fail
  first | refine ⟨?_, rfl, rfl, rfl⟩ | refine ⟨?_, rfl, rfl⟩ | refine ⟨?_, rfl⟩ | skip
  exact ⟨rfl, rfl, by
   intro p hp
   simp only [List.mem_cons, List.not_mem_nil, or_false] at hp
   rcases hp with rfl <;> first | rfl | exact congrArg I (by omega) | exact congrArg Value.bool (by simp)⟩

set_option maxHeartbeats 4000000 in
set_option maxRecDepth 100000 in
theorem h24_wp {v : World} {a : Act} {s6 : Value} (sp : Option Addr) (scap vb vo : Nat) (xs : List Int) (hp : 0 < xs.length → sp = some ⟨vb, vo, none⟩) (hx1 : xs.length ≤ 17592186043904) (hv : ∀ k x, xs[k]? = some x → v.cell? ⟨vb, vo + k, none⟩ = some (I x)) (hA : Fl 133 [(0, .slice sp xs.length scap), (5, .bool true), (6, s6)] a) :
    h24.wp Try.prog (fun e a w' => e = .normal ∧ ∃ wb bk sc, Fl 133 [(5, .bool true), (6, s6), (13, Pt wb 0)] a ∧ IsNew v xs wb bk sc w') a v := by
  have H7 : Hid (Calls Try.prog 18 #[.slice sp xs.length scap] v _) := ⟨(body7A sp vb vo scap xs hp hx1 hv).calls Try.func18 rfl⟩
  clear hp hx1 hv
  obtain ⟨hsz, hd, hp⟩ := hA
  obtain ⟨u, rfl, hg⟩ := litN hsz hd
  have u0 := (hg 0).symm.trans (hp (0, .slice sp xs.length scap) (by simp))
  have u5 := (hg 5).symm.trans (hp (5, .bool true) (by simp))
  have u6 := (hg 6).symm.trans (hp (6, s6) (by simp))
  clear hg hp hsz hd
  unfold h24 LB14 Try.f14 seq2 seq1
  simp only [Option.getD_some, lits, Nat.reduceAdd, u0, u5, u6]
  clear u0 u5 u6
  go_wp2_with (first
    | (go_at_call 18; refine H7.out.mono ?_; rintro e w1 ⟨_, rfl, wb, bk, sc, rfl, hnew⟩))
  exact ⟨wb, ⟨rfl, rfl, by
   intro p hp
   simp only [List.mem_cons, List.not_mem_nil, or_false] at hp
   rcases hp with rfl | rfl | rfl <;> first | rfl | exact congrArg I (by omega) | exact congrArg Value.bool (by simp)⟩, bk, sc, hnew⟩

set_option maxHeartbeats 4000000 in
set_option maxRecDepth 100000 in
theorem h26_wp {v : World} {a : Act} {b o n cap M : Nat} {S : TS} {z : Nat → Option Nat} (hR : Rep z S v) (hn : S.n * 40 ≤ 140737488355328) (h1 : ∀ u ∈ S.tr, u.oneCell' = true) (hA : Fl 133 [(5, .bool true), (6, .slice (some ⟨b, o, none⟩) n cap), (13, Pt S.wb 0), (14, .slice (some ⟨M, 0, none⟩) n n), (15, I 0)] a) :
    h26.wp Try.prog (fun e a w' => e = .normal ∧ ∃ p g ct, Fl 133 [(5, .bool true), (6, .slice (some ⟨b, o, none⟩) n cap), (13, Pt S.wb 0), (14, .slice (some ⟨M, 0, none⟩) n n), (15, I 0), (16, .slice p S.n ct)] a ∧ (0 < S.n → p = some ⟨g, 0, none⟩ ∧ v.heap.size ≤ g) ∧ (∀ j u, S.tr[j]? = some u → w'.cell? ⟨g, j, none⟩ = some u) ∧ Grows v w') a v := by
  have H7 : Hid (Calls Try.prog 20 #[Pt S.wb 0] v _) := ⟨(body9A hR hn h1).calls Try.func20 rfl⟩
  clear hR hn h1
  obtain ⟨hsz, hd, hp⟩ := hA
  obtain ⟨u, rfl, hg⟩ := litN hsz hd
  have u5 := (hg 5).symm.trans (hp (5, .bool true) (by simp))
  have u6 := (hg 6).symm.trans (hp (6, .slice (some ⟨b, o, none⟩) n cap) (by simp))
  have u13 := (hg 13).symm.trans (hp (13, Pt S.wb 0) (by simp))
  have u14 := (hg 14).symm.trans (hp (14, .slice (some ⟨M, 0, none⟩) n n) (by simp))
  have u15 := (hg 15).symm.trans (hp (15, I 0) (by simp))
  clear hg hp hsz hd
  unfold h26 LB14 Try.f14 seq2 seq1
  simp only [Option.getD_some, lits, Nat.reduceAdd, u5, u6, u13, u14, u15]
  clear u5 u6 u13 u14 u15
  go_wp2_with (first
    | (go_at_call 20; refine H7.out.mono ?_; rintro e w1 ⟨_, rfl, p, g, cap, rfl, k1, k2, k3⟩))
  exact ⟨p, ⟨cap, ⟨rfl, rfl, by
   intro p hp
   simp only [List.mem_cons, List.not_mem_nil, or_false] at hp
   rcases hp with rfl | rfl | rfl | rfl | rfl | rfl <;> first | rfl | exact congrArg I (by omega) | exact congrArg Value.bool (by simp)⟩⟩, g, k1, k2⟩

theorem h27_wp  (hA : Fl 133 [(5, .bool true), (6, .slice (some ⟨b, o, none⟩) n cap), (13, Pt wb 0), (14, .slice (some ⟨M, 0, none⟩) n n), (15, I 0), (16, .slice p T ct)] a) : h27.wp Try.prog (fun e a' w' => e = .normal ∧ Fl 133 [(5, .bool true), (6, .slice (some ⟨b, o, none⟩) n cap), (13, Pt wb 0), (14, .slice (some ⟨M, 0, none⟩) n n), (15, I 0), (16, .slice p T ct), (17, I 0)] a' ∧ w'.heap = v.heap ∧ w'.os = v.os ∧ w'.output = v.output) a v := by
  obtain ⟨hsz, hd, hp⟩ := hA
  obtain ⟨u, rfl, hg⟩ := litN hsz hd
  simp only [List.forall_mem_cons, hg] at hp
  obtain ⟨u5, u6, u13, u14, u15, u16, -⟩ := hp
  clear hg hsz hd
  unfold h27 LB14 Try.f14 seq2 seq1
  simp only [Option.getD_some, lits, Nat.reduceAdd, u5, u6, u13, u14, u15, u16]
  clear u5 u6 u13 u14 u15 u16
  go_wp2_with fail
  first | refine ⟨?_, rfl, rfl, rfl⟩ | refine ⟨?_, rfl, rfl⟩ | refine ⟨?_, rfl⟩ | skip
  exact ⟨rfl, rfl, by
   intro p hp
   simp only [List.mem_cons, List.not_mem_nil, or_false] at hp
   rcases hp with rfl | rfl | rfl | rfl | rfl | rfl | rfl <;> first | rfl | exact congrArg I (by omega) | exact congrArg Value.bool (by simp)⟩

theorem h28_wp  (hA : Fl 133 [(5, .bool true), (6, .slice (some ⟨b, o, none⟩) n cap), (13, Pt wb 0), (14, .slice (some ⟨M, 0, none⟩) n n), (15, I 0), (16, .slice p T ct), (17, I y)] a) : h28.wp Try.prog (fun e a' w' => e = .normal ∧ Fl 133 [(5, .bool true), (6, .slice (some ⟨b, o, none⟩) n cap), (13, Pt wb 0), (14, .slice (some ⟨M, 0, none⟩) n n), (15, I 0), (16, .slice p T ct), (17, I y), (18, I 0)] a' ∧ w'.heap = v.heap ∧ w'.os = v.os ∧ w'.output = v.output) a v := by
  obtain ⟨hsz, hd, hp⟩ := hA
  obtain ⟨u, rfl, hg⟩ := litN hsz hd
  simp only [List.forall_mem_cons, hg] at hp
  obtain ⟨u5, u6, u13, u14, u15, u16, u17, -⟩ := hp
  clear hg hsz hd
  unfold h28 HM LB14 Try.f14 seq2 seq1
  simp only [Option.getD_some, lits, Nat.reduceAdd, u5, u6, u13, u14, u15, u16, u17]
  clear u5 u6 u13 u14 u15 u16 u17
  go_wp2_with fail
  first | refine ⟨?_, rfl, rfl, rfl⟩ | refine ⟨?_, rfl, rfl⟩ | refine ⟨?_, rfl⟩ | skip
  exact ⟨rfl, rfl, by
   intro p hp
   simp only [List.mem_cons, List.not_mem_nil, or_false] at hp
   rcases hp with rfl | rfl | rfl | rfl | rfl | rfl | rfl | rfl <;> first | rfl | exact congrArg I (by omega) | exact congrArg Value.bool (by simp)⟩

theorem h29_wp  (hA : Fl 133 [(5, .bool true), (6, .slice (some ⟨b, o, none⟩) n cap), (13, Pt wb 0), (14, .slice (some ⟨M, 0, none⟩) n n), (15, I 0), (16, .slice p T ct), (17, I y), (18, I (i : Int))] a) : h29.wp Try.prog (fun e a' w' => e = .normal ∧ Fl 133 [(5, .bool true), (6, .slice (some ⟨b, o, none⟩) n cap), (13, Pt wb 0), (14, .slice (some ⟨M, 0, none⟩) n n), (15, I 0), (16, .slice p T ct), (17, I y), (18, I (i : Int)), (97, .bool (decide ((i : Int) < (T : Int))))] a' ∧ w'.heap = v.heap ∧ w'.os = v.os ∧ w'.output = v.output) a v := by
  obtain ⟨hsz, hd, hp⟩ := hA
  obtain ⟨u, rfl, hg⟩ := litN hsz hd
  simp only [List.forall_mem_cons, hg] at hp
  obtain ⟨u5, u6, u13, u14, u15, u16, u17, u18, -⟩ := hp
  clear hg hsz hd
  unfold h29 HN HM LB14 Try.f14 seq2 seq1 blockC loopC
  simp only [Option.getD_some, lits, Nat.reduceAdd, u5, u6, u13, u14, u15, u16, u17, u18]
  clear u5 u6 u13 u14 u15 u16 u17 u18
  go_wp2_with fail
  first | refine ⟨?_, rfl, rfl, rfl⟩ | refine ⟨?_, rfl, rfl⟩ | refine ⟨?_, rfl⟩ | skip
  exact ⟨rfl, rfl, by
   intro p hp
   simp only [List.mem_cons, List.not_mem_nil, or_false] at hp
   rcases hp with rfl | rfl | rfl | rfl | rfl | rfl | rfl | rfl | rfl <;> first | rfl | exact congrArg I (by omega) | exact congrArg Value.bool (by simp)⟩

theorem h30_wp (hw9 : wrap64 ((i : Int) + 1) = ((i + 1 : Nat) : Int)) (hA : Fl 133 [(5, .bool true), (6, .slice (some ⟨b, o, none⟩) n cap), (13, Pt wb 0), (14, .slice (some ⟨M, 0, none⟩) n n), (15, I 0), (16, .slice p T ct), (17, I y), (18, I (i : Int))] a) : h30.wp Try.prog (fun e a' w' => e = .normal ∧ Fl 133 [(5, .bool true), (6, .slice (some ⟨b, o, none⟩) n cap), (13, Pt wb 0), (14, .slice (some ⟨M, 0, none⟩) n n), (15, I 0), (16, .slice p T ct), (17, I y), (18, I ((i + 1 : Nat) : Int))] a' ∧ w'.heap = v.heap ∧ w'.os = v.os ∧ w'.output = v.output) a v := by
  obtain ⟨hsz, hd, hp⟩ := hA
  obtain ⟨u, rfl, hg⟩ := litN hsz hd
  simp only [List.forall_mem_cons, hg] at hp
  obtain ⟨u5, u6, u13, u14, u15, u16, u17, u18, -⟩ := hp
  clear hg hsz hd
  unfold h30 HN HM LB14 Try.f14 seq2 seq1 blockC loopC
  simp only [Option.getD_some, lits, Nat.reduceAdd, u5, u6, u13, u14, u15, u16, u17, u18]
  clear u5 u6 u13 u14 u15 u16 u17 u18
  go_wp2_with fail
  first | refine ⟨?_, rfl, rfl, rfl⟩ | refine ⟨?_, rfl, rfl⟩ | refine ⟨?_, rfl⟩ | skip
  exact ⟨rfl, rfl, by
   intro p hp
   simp only [List.mem_cons, List.not_mem_nil, or_false] at hp
   rcases hp with rfl | rfl | rfl | rfl | rfl | rfl | rfl | rfl <;> first | rfl | exact congrArg I (by omega) | exact congrArg Value.bool (by simp)⟩

theorem h31_wp (hk : i < T) (c2 : v.cell? ⟨g, i * 5 + 2, none⟩ = some (I oo)) (hA : Fl 133 [(5, .bool true), (6, .slice (some ⟨b, o, none⟩) n cap), (13, Pt wb 0), (14, .slice (some ⟨M, 0, none⟩) n n), (15, I 0), (16, .slice (some ⟨g, 0, none⟩) T ct), (17, I y), (18, I (i : Int))] a) : h31.wp Try.prog (fun e a' w' => e = .normal ∧ Fl 133 [(5, .bool true), (6, .slice (some ⟨b, o, none⟩) n cap), (13, Pt wb 0), (14, .slice (some ⟨M, 0, none⟩) n n), (15, I 0), (16, .slice (some ⟨g, 0, none⟩) T ct), (17, I y), (18, I (i : Int)), (105, .bool (oo == 4))] a' ∧ w'.heap = v.heap ∧ w'.os = v.os ∧ w'.output = v.output) a v := by
  obtain ⟨hsz, hd, hp⟩ := hA
  obtain ⟨u, rfl, hg⟩ := litN hsz hd
  simp only [List.forall_mem_cons, hg] at hp
  obtain ⟨u5, u6, u13, u14, u15, u16, u17, u18, -⟩ := hp
  clear hg hsz hd
  have q1 : (i : Int) < (T : Int) := by omega
  unfold h31 HO HN HM LB14 Try.f14 seq2 seq1 blockC loopC
  simp only [Option.getD_some, lits, Nat.reduceAdd, u5, u6, u13, u14, u15, u16, u17, u18]
  clear u5 u6 u13 u14 u15 u16 u17 u18
  go_wp2_with fail
  first | refine ⟨?_, rfl, rfl, rfl⟩ | refine ⟨?_, rfl, rfl⟩ | refine ⟨?_, rfl⟩ | skip
  exact ⟨rfl, rfl, by
   intro p hp
   simp only [List.mem_cons, List.not_mem_nil, or_false] at hp
   rcases hp with rfl | rfl | rfl | rfl | rfl | rfl | rfl | rfl | rfl <;> first | rfl | exact congrArg I (by omega) | exact congrArg Value.bool (by simp)⟩

theorem h32_wp (hk : i < T) (c4 : v.cell? ⟨g, i * 5 + 4, none⟩ = some (I ne)) (hA : Fl 133 [(5, .bool true), (6, .slice (some ⟨b, o, none⟩) n cap), (13, Pt wb 0), (14, .slice (some ⟨M, 0, none⟩) n n), (15, I 0), (16, .slice (some ⟨g, 0, none⟩) T ct), (17, I y), (18, I (i : Int))] a) : h32.wp Try.prog (fun e a' w' => e = .normal ∧ Fl 133 [(5, .bool true), (6, .slice (some ⟨b, o, none⟩) n cap), (13, Pt wb 0), (14, .slice (some ⟨M, 0, none⟩) n n), (15, I 0), (16, .slice (some ⟨g, 0, none⟩) T ct), (17, I ne), (18, I (i : Int))] a' ∧ w'.heap = v.heap ∧ w'.os = v.os ∧ w'.output = v.output) a v := by
  obtain ⟨hsz, hd, hp⟩ := hA
  obtain ⟨u, rfl, hg⟩ := litN hsz hd
  simp only [List.forall_mem_cons, hg] at hp
  obtain ⟨u5, u6, u13, u14, u15, u16, u17, u18, -⟩ := hp
  clear hg hsz hd
  have q1 : (i : Int) < (T : Int) := by omega
  unfold h32 HO HN HM LB14 Try.f14 seq2 seq1 blockC loopC condA
  simp only [Option.getD_some, lits, Nat.reduceAdd, u5, u6, u13, u14, u15, u16, u17, u18]
  clear u5 u6 u13 u14 u15 u16 u17 u18
  go_wp2_with fail
  first | refine ⟨?_, rfl, rfl, rfl⟩ | refine ⟨?_, rfl, rfl⟩ | refine ⟨?_, rfl⟩ | skip
  exact ⟨rfl, rfl, by
   intro p hp
   simp only [List.mem_cons, List.not_mem_nil, or_false] at hp
   rcases hp with rfl | rfl | rfl | rfl | rfl | rfl | rfl | rfl <;> first | rfl | exact congrArg I (by omega) | exact congrArg Value.bool (by simp)⟩

theorem stuck34 {z : Nat → Option Nat} {S : TS} {v : World} (h : Rep z S v) : Body Try.f36 #[Pt S.wb 0] v (fun r v' => r = .bool S.stk ∧ v'.heap = v.heap ∧ v'.os = v.os ∧ v'.output = v.output) := by
  intro code hb
  obtain rfl := Option.some.inj hb
  clear hb
  have c6 := h.wcell.2.2.2.2.2.2.1
  clear h
  simp only [Try.ntmps36, List.size_toArray, List.length_cons, List.length_nil, Nat.reduceAdd, Nat.reduceSub, Array.replicate_succ, Array.replicate_zero, List.push_toArray, List.append_toArray, List.nil_append, List.cons_append]
  go_wp2_with fail
  go_ret
  exact ⟨_, rfl, rfl, rfl, rfl, rfl⟩
def SamG (v u : World) : Prop := u.heap = v.heap ∧ u.os = v.os ∧ u.output = v.output
theorem h33_wp0 {S : TS} {z : Nat → Option Nat} (hR : Rep z S v) (hst : S.stk = false) (hA : Fl 133 [(5, .bool true), (6, .slice (some ⟨b, o, none⟩) n cap), (13, Pt S.wb 0), (14, .slice (some ⟨M, 0, none⟩) n n), (15, I 0), (16, .slice p T ct), (17, I 0)] a) :
    h33.wp Try.prog (fun e' a' w' => e' = .ret ∧ Fl 133 [(4, .bool true)] a' ∧ w'.heap = v.heap ∧ w'.os = v.os ∧ w'.output = v.output) a v := by
  have H9 : Hid (∀ u : World, SamG v u → Calls Try.prog 36 #[Pt S.wb 0] u (fun e w' => e = .returned (.bool false) ∧ SamG v w')) := ⟨fun u hu => by
    refine ((stuck34 (hR.same hu.1)).calls Try.func36 rfl).mono ?_
    rintro e w' ⟨_, rfl, rfl, k1, k2, k3⟩
    exact ⟨by rw [hst], k1.trans hu.1, k2.trans hu.2.1, k3.trans hu.2.2⟩⟩
  clear hR hst
  obtain ⟨hsz, hd, hp⟩ := hA
  obtain ⟨u, rfl, hg⟩ := litN hsz hd
  simp only [List.forall_mem_cons, hg] at hp
  obtain ⟨u5, u6, u13, u14, u15, u16, u17, -⟩ := hp
  clear hg hsz hd
  unfold h33 LB14 Try.f14 seq2
  simp only [Option.getD_some, lits, Nat.reduceAdd, u5, u6, u13, u14, u15, u16, u17]
  clear u5 u6 u13 u14 u15 u16 u17
  go_wp2_with (first
    | (go_at_call 36; refine (H9.out _ ⟨rfl, rfl, rfl⟩).mono ?_; rintro e w5 ⟨rfl, hsam⟩))
  first | refine ⟨?_, hsam.1, hsam.2.1, hsam.2.2⟩ | refine ⟨rfl, ?_, hsam.1, hsam.2.1, hsam.2.2⟩
  exact ⟨rfl, rfl, by
   intro p hp
   simp only [List.mem_cons, List.not_mem_nil, or_false] at hp
   rcases hp with rfl <;> first | rfl | exact congrArg I (by omega) | exact congrArg Value.bool (by simp)⟩

theorem h33_wp1 {S : TS} {z : Nat → Option Nat} (hR : Rep z S v) (hst : S.stk = false) (hA : Fl 133 [(5, .bool true), (6, .slice (some ⟨b, o, none⟩) n cap), (13, Pt S.wb 0), (14, .slice (some ⟨M, 0, none⟩) n n), (15, I 0), (16, .slice p T ct), (17, I 1)] a) :
    h33.wp Try.prog (fun e' a' w' => e' = .ret ∧ Fl 133 [(4, .bool true)] a' ∧ w'.heap = v.heap ∧ w'.os = v.os ∧ w'.output = v.output) a v := by
  have H9 : Hid (∀ u : World, SamG v u → Calls Try.prog 36 #[Pt S.wb 0] u (fun e w' => e = .returned (.bool false) ∧ SamG v w')) := ⟨fun u hu => by
    refine ((stuck34 (hR.same hu.1)).calls Try.func36 rfl).mono ?_
    rintro e w' ⟨_, rfl, rfl, k1, k2, k3⟩
    exact ⟨by rw [hst], k1.trans hu.1, k2.trans hu.2.1, k3.trans hu.2.2⟩⟩
  clear hR hst
  obtain ⟨hsz, hd, hp⟩ := hA
  obtain ⟨u, rfl, hg⟩ := litN hsz hd
  simp only [List.forall_mem_cons, hg] at hp
  obtain ⟨u5, u6, u13, u14, u15, u16, u17, -⟩ := hp
  clear hg hsz hd
  unfold h33 LB14 Try.f14 seq2
  simp only [Option.getD_some, lits, Nat.reduceAdd, u5, u6, u13, u14, u15, u16, u17]
  clear u5 u6 u13 u14 u15 u16 u17
  go_wp2_with (first
    | (go_at_call 36; refine (H9.out _ ⟨rfl, rfl, rfl⟩).mono ?_; rintro e w5 ⟨rfl, hsam⟩))
  first | refine ⟨?_, hsam.1, hsam.2.1, hsam.2.2⟩ | refine ⟨rfl, ?_, hsam.1, hsam.2.1, hsam.2.2⟩
  exact ⟨rfl, rfl, by
   intro p hp
   simp only [List.mem_cons, List.not_mem_nil, or_false] at hp
   rcases hp with rfl <;> first | rfl | exact congrArg I (by omega) | exact congrArg Value.bool (by simp)⟩

noncomputable def S14 : Code := .seq h3 (.block 0 (.loop HA))
theorem fine_h2 : fineCode Try.prog true LGt h2 := fineCode_askS callGt extT (by kernel_rfl)
theorem fine_S14 : fineCode Try.prog true LGt S14 := fineCode_askS callGt extT (by kernel_rfl)
theorem fine_h24 : fineCode Try.prog true LGt h24 := fineCode_askS callGt extT (by kernel_rfl)
theorem fine_T14 : fineCode Try.prog true LGt T14 := fineCode_askS callGt extT (by kernel_rfl)
end
end Go.Proofs.Ytfjjoohflcchnaa.Gen
