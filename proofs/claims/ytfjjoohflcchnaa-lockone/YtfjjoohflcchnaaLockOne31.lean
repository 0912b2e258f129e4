/- LockOne: for every schedule and all scripts, the steps on what the lock guards come in pairs, each pair one thread's, in the order of the tickets; nobody is stuck; each call is told the sum of what was added ahead of it; no conditions. Part 31 of 35. (Joined, by program, of: La7a.) -/
import Derived.Test.YtfjjoohflcchnaaLockOne22
import Derived.Test.YtfjjoohflcchnaaLockOne29
import Derived.Test.YtfjjoohflcchnaaLockOne30
import Derived.BigQuiet
import Derived.BigRegion
import Derived.Deep.RegionHeld3
import Derived.Deep.RegionLaw
set_option linter.unusedSimpArgs false
set_option linter.unusedVariables false
namespace Go.Proofs.Ytfjjoohflcchnaa.Gen
open Go Go.Lift Go.Conc Go.RowKit

noncomputable def LB7 : Code := Try.f7.body.getD .skip
noncomputable def n2 : Code := seq1 (seq2 (seq2 LB7))
noncomputable def n3 : Code := seq1 (seq2 (seq2 (seq2 LB7)))
noncomputable def n4 : Code := seq1 (seq2 (seq2 (seq2 (seq2 LB7))))
noncomputable def n5 : Code := seq1 (seq1 (seq2 (seq2 (seq2 (seq2 (seq2 LB7))))))
noncomputable def n6 : Code := condA (seq2 (seq1 (seq2 (seq2 (seq2 (seq2 (seq2 LB7)))))))
noncomputable def n7 : Code := seq1 (seq2 (seq2 (seq2 (seq2 (seq2 (seq2 LB7))))))
noncomputable def n8 : Code := seq1 (seq2 (seq2 (seq2 (seq2 (seq2 (seq2 (seq2 LB7)))))))
noncomputable def n9 : Code := seq1 (seq2 (seq2 (seq2 (seq2 (seq2 (seq2 (seq2 (seq2 LB7))))))))
noncomputable def n10 : Code := seq1 (seq2 (seq2 (seq2 (seq2 (seq2 (seq2 (seq2 (seq2 (seq2 LB7)))))))))
noncomputable def n11 : Code := seq1 (seq2 (seq2 (seq2 (seq2 (seq2 (seq2 (seq2 (seq2 (seq2 (seq2 LB7))))))))))
noncomputable def n12 : Code := seq1 (seq2 (seq2 (seq2 (seq2 (seq2 (seq2 (seq2 (seq2 (seq2 (seq2 (seq2 LB7)))))))))))
noncomputable def OL : Code := seq1 (seq2 (seq2 (seq2 (seq2 (seq2 (seq2 (seq2 (seq2 (seq2 (seq2 (seq2 (seq2 LB7))))))))))))
noncomputable def n33 : Code := (seq2 (seq2 (seq2 (seq2 (seq2 (seq2 (seq2 (seq2 (seq2 (seq2 (seq2 (seq2 (seq2 LB7)))))))))))))
noncomputable def n13 : Code := seq1 OL
noncomputable def OA : Code := loopC (blockC (seq2 OL))
noncomputable def n14 : Code := seq1 (seq1 OA)
noncomputable def n15 : Code := seq2 (seq2 OA)
noncomputable def OI : Code := blockC (seq1 (seq2 OA))
noncomputable def n16 : Code := seq1 OI
noncomputable def n17 : Code := seq1 (seq1 (seq2 OI))
noncomputable def O18 : Code := seq1 (seq2 (seq2 OI))
noncomputable def n18 : Code := seq1 O18
noncomputable def O19 : Code := condA (seq2 O18)
noncomputable def n19 : Code := seq1 (seq1 O19)
noncomputable def n20 : Code := condA (seq2 (seq1 O19))
noncomputable def n21 : Code := seq1 (seq2 O19)
noncomputable def O22 : Code := seq2 (seq2 (seq2 OI))
noncomputable def n22 : Code := seq1 (seq1 O22)
noncomputable def n23 : Code := condA (seq2 (seq1 O22))
noncomputable def n24 : Code := seq1 (seq2 O22)
noncomputable def OB : Code := loopC (blockC (seq1 (seq2 (seq2 O22))))
noncomputable def n25 : Code := seq1 (seq1 OB)
noncomputable def n26 : Code := blockC (seq2 OB)
noncomputable def O27 : Code := seq2 (seq2 (seq2 O22))
noncomputable def n27 : Code := seq1 (seq1 O27)
noncomputable def n28 : Code := condA (seq2 (seq1 O27))
noncomputable def n29 : Code := seq1 (seq2 O27)
noncomputable def n30 : Code := seq1 (seq2 (seq2 O27))
noncomputable def n31 : Code := seq1 (seq2 (seq2 (seq2 O27)))
noncomputable def n32 : Code := seq2 (seq2 (seq2 (seq2 O27)))
noncomputable def T7 : Code := .seq (.seq n5 (.cond (.tmp 35) n6 .skip)) (.seq n7 (.seq n8 (.seq n9 (.seq n10 (.seq n11 (.seq n12 (.seq (.seq n13 (.block 0 (.loop OA))) n33)))))))
noncomputable def P7 : Code := .seq n2 (.seq n3 (.seq n4 T7))
theorem eLB7 : LB7 = .seq (seq1 LB7) (.seq (seq1 (seq2 LB7)) P7) := by kernel_rfl
theorem eOA : OA = .seq (.seq n14 (.cond (.tmp 52) .skip (.exit 0))) (.seq (.block 1 OI) n15) := by kernel_rfl
theorem eOI : OI = .seq n16 (.seq (.seq n17 (.cond (.tmp 61) (.exit 1) .skip)) (.seq (.seq n18 (.cond (.tmp 63) (.seq (.seq n19 (.cond (.tmp 87) n20 .skip)) (.seq n21 (.exit 1))) .skip)) (.seq (.seq n22 (.cond (.tmp 105) n23 .skip)) (.seq n24 (.seq (.block 2 (.loop (.seq (.seq n25 (.cond (.tmp 156) .skip (.exit 2))) (.block 3 n26)))) (.seq (.seq n27 (.cond (.tmp 201) n28 .skip)) (.seq n29 (.seq n30 (.seq n31 n32))))))))) := by kernel_rfl
theorem body34 {z : Nat → Option Nat} {S : TS} {v : World} (h : Rep z S v) : Body Try.f36 #[Pt S.wb 0] v (fun r v' => r = .bool S.stk ∧ v'.heap = v.heap ∧ v'.os = v.os ∧ v'.output = v.output) := by
  intro code hb
  obtain rfl := Option.some.inj hb
  clear hb
  have c6 := h.wcell.2.2.2.2.2.2.1
  clear h
  simp only [Try.ntmps36, List.size_toArray, List.length_cons, List.length_nil, Nat.reduceAdd, Nat.reduceSub, Array.replicate_succ, Array.replicate_zero, List.push_toArray, List.append_toArray, List.nil_append, List.cons_append]
  go_wp2_with fail
  go_ret
  exact ⟨_, rfl, rfl, rfl, rfl, rfl⟩
set_option maxHeartbeats 4000000 in
set_option maxRecDepth 100000 in
theorem n2_wp {v : World} {a : Act} {s0 : Value} (p : Option Addr) (n cap : Nat) (pc : Nat → Option Addr) (ln cp : Nat → Nat) (hs : ∀ k, k < n → ∃ sb so, p = some ⟨sb, so, none⟩ ∧ v.cell? ⟨sb, so + k, none⟩ = some (.slice (pc k) (ln k) (cp k))) (hn : n ≤ 17592186043904) (hA : Fl 228 [(0, s0), (1, .slice p n cap), (5, .bool true)] a) :
    n2.wp Try.prog (fun e a w' => e = .normal ∧ ∃ E, Fl 228 [(0, s0), (1, .slice p n cap), (5, .bool true), (6, I E)] a ∧ (Refused n ln E ∨ (E = 0 ∧ (∀ k, k < n → ln k ≤ 64) ∧ 0 < n ∧ n ≤ 8)) ∧ w'.heap = v.heap ∧ w'.os = v.os ∧ w'.output = v.output) a v := by
  have H7 : Hid (Calls Try.prog 32 #[.slice p n cap] v _) := ⟨(body30 p n cap pc ln cp hs hn).calls Try.func32 rfl⟩
  clear hs hn
  obtain ⟨hsz, hd, hp⟩ := hA
  obtain ⟨u, rfl, hg⟩ := litN hsz hd
  have u0 := (hg 0).symm.trans (hp (0, s0) (by simp))
  have u1 := (hg 1).symm.trans (hp (1, .slice p n cap) (by simp))
  have u5 := (hg 5).symm.trans (hp (5, .bool true) (by simp))
  clear hg hp hsz hd
  unfold n2 LB7 Try.f7 seq2 seq1
  simp only [Option.getD_some, lits, Nat.reduceAdd, u0, u1, u5]
  clear u0 u1 u5
  go_wp2_with (first
    | (go_at_call 32; refine H7.out.mono ?_; rintro e w1 ⟨_, rfl, E, rfl, hE, k1, k2, k3⟩))
  exact ⟨E, ⟨rfl, rfl, by
   intro p hp
   simp only [List.mem_cons, List.not_mem_nil, or_false] at hp
   rcases hp with rfl | rfl | rfl | rfl <;> first | rfl | exact congrArg I (by omega) | exact congrArg Value.bool (by simp)⟩, hE⟩

set_option maxHeartbeats 4000000 in
set_option maxRecDepth 100000 in
theorem n3_wp {v : World} {a : Act} {s1 s6 : Value} (sp : Option Addr) (scap vb vo : Nat) (xs : List Int) (hp : 0 < xs.length → sp = some ⟨vb, vo, none⟩) (hx1 : xs.length ≤ 17592186043904) (hv : ∀ k x, xs[k]? = some x → v.cell? ⟨vb, vo + k, none⟩ = some (I x)) (hA : Fl 228 [(0, .slice sp xs.length scap), (1, s1), (5, .bool true), (6, s6)] a) :
    n3.wp Try.prog (fun e a w' => e = .normal ∧ ∃ wb bk sc, Fl 228 [(1, s1), (5, .bool true), (6, s6), (7, Pt wb 0)] a ∧ IsNew v xs wb bk sc w') a v := by
  have H7 : Hid (Calls Try.prog 18 #[.slice sp xs.length scap] v _) := ⟨(body7A sp vb vo scap xs hp hx1 hv).calls Try.func18 rfl⟩
  clear hp hx1 hv
  obtain ⟨hsz, hd, hp⟩ := hA
  obtain ⟨u, rfl, hg⟩ := litN hsz hd
  have u0 := (hg 0).symm.trans (hp (0, .slice sp xs.length scap) (by simp))
  have u1 := (hg 1).symm.trans (hp (1, s1) (by simp))
  have u5 := (hg 5).symm.trans (hp (5, .bool true) (by simp))
  have u6 := (hg 6).symm.trans (hp (6, s6) (by simp))
  clear hg hp hsz hd
  unfold n3 LB7 Try.f7 seq2 seq1
  simp only [Option.getD_some, lits, Nat.reduceAdd, u0, u1, u5, u6]
  clear u0 u1 u5 u6
  go_wp2_with (first
    | (go_at_call 18; refine H7.out.mono ?_; rintro e w1 ⟨_, rfl, wb, bk, sc, rfl, hnew⟩))
  exact ⟨wb, ⟨rfl, rfl, by
   intro p hp
   simp only [List.mem_cons, List.not_mem_nil, or_false] at hp
   rcases hp with rfl | rfl | rfl | rfl <;> first | rfl | exact congrArg I (by omega) | exact congrArg Value.bool (by simp)⟩, bk, sc, hnew⟩

set_option maxHeartbeats 4000000 in
set_option maxRecDepth 100000 in
theorem n5_wp {v : World} {a : Act} {s1 s7 s8 : Value} {E : Int}  (hA : Fl 228 [(1, s1), (5, .bool true), (6, I E), (7, s7), (8, s8), (9, I E)] a) : n5.wp Try.prog (fun e a' w' => e = .normal ∧ Fl 228 [(1, s1), (5, .bool true), (6, I E), (7, s7), (8, s8), (9, I E), (35, .bool (E != 0))] a' ∧ w'.heap = v.heap ∧ w'.os = v.os ∧ w'.output = v.output) a v := by
  obtain ⟨hsz, hd, hp⟩ := hA
  obtain ⟨u, rfl, hg⟩ := litN hsz hd
  have u1 := (hg 1).symm.trans (hp (1, s1) (by simp))
  have u5 := (hg 5).symm.trans (hp (5, .bool true) (by simp))
  have u6 := (hg 6).symm.trans (hp (6, I E) (by simp))
  have u7 := (hg 7).symm.trans (hp (7, s7) (by simp))
  have u8 := (hg 8).symm.trans (hp (8, s8) (by simp))
  have u9 := (hg 9).symm.trans (hp (9, I E) (by simp))
  clear hg hp hsz hd
  unfold n5 LB7 Try.f7 seq2 seq1
  simp only [Option.getD_some, lits, Nat.reduceAdd, u1, u5, u6, u7, u8, u9]
  clear u1 u5 u6 u7 u8 u9
  go_wp2_with fail
  first | refine ⟨?_, rfl, rfl, rfl⟩ | refine ⟨?_, rfl, rfl⟩ | refine ⟨?_, rfl⟩ | skip
  exact ⟨rfl, rfl, by
   intro p hp
   simp only [List.mem_cons, List.not_mem_nil, or_false] at hp
   rcases hp with rfl | rfl | rfl | rfl | rfl | rfl | rfl <;> first | rfl | exact congrArg I (by omega) | exact congrArg Value.bool (by simp)⟩

set_option maxHeartbeats 4000000 in
set_option maxRecDepth 100000 in
theorem n6_wp {v : World} {a : Act} {s1 s7 s8 : Value} {E : Int}  (hA : Fl 228 [(1, s1), (5, .bool true), (6, I E), (7, s7), (8, s8), (9, I E)] a) : n6.wp Try.prog (fun e a' w' => e = .ret ∧ Fl 228 [(4, .bool true)] a' ∧ w'.heap = v.heap ∧ w'.os = v.os ∧ w'.output = v.output) a v := by
  obtain ⟨hsz, hd, hp⟩ := hA
  obtain ⟨u, rfl, hg⟩ := litN hsz hd
  have u1 := (hg 1).symm.trans (hp (1, s1) (by simp))
  have u5 := (hg 5).symm.trans (hp (5, .bool true) (by simp))
  have u6 := (hg 6).symm.trans (hp (6, I E) (by simp))
  have u7 := (hg 7).symm.trans (hp (7, s7) (by simp))
  have u8 := (hg 8).symm.trans (hp (8, s8) (by simp))
  have u9 := (hg 9).symm.trans (hp (9, I E) (by simp))
  clear hg hp hsz hd
  unfold n6 LB7 Try.f7 seq2 seq1 condA
  simp only [Option.getD_some, lits, Nat.reduceAdd, u1, u5, u6, u7, u8, u9]
  clear u1 u5 u6 u7 u8 u9
  go_wp2_with fail
  first | refine ⟨?_, rfl, rfl, rfl⟩ | refine ⟨?_, rfl, rfl⟩ | refine ⟨?_, rfl⟩ | skip
  exact ⟨rfl, rfl, by
   intro p hp
   simp only [List.mem_cons, List.not_mem_nil, or_false] at hp
   rcases hp with rfl <;> first | rfl | exact congrArg I (by omega) | exact congrArg Value.bool (by simp)⟩

set_option maxHeartbeats 4000000 in
set_option maxRecDepth 100000 in
theorem n7_wp {v : World} {a : Act} {b o n cap M : Nat} {S : TS} {z : Nat → Option Nat} (hR : Rep z S v) (hn : S.n * 40 ≤ 140737488355328) (h1 : ∀ u ∈ S.tr, u.oneCell' = true) (hA : Fl 228 [(1, .slice (some ⟨b, o, none⟩) n cap), (7, Pt S.wb 0), (8, .slice (some ⟨M, 0, none⟩) n n), (9, I 0)] a) :
    n7.wp Try.prog (fun e a w' => e = .normal ∧ ∃ p g ct, Fl 228 [(1, .slice (some ⟨b, o, none⟩) n cap), (7, Pt S.wb 0), (8, .slice (some ⟨M, 0, none⟩) n n), (9, I 0), (10, .slice p S.n ct)] a ∧ (0 < S.n → p = some ⟨g, 0, none⟩ ∧ v.heap.size ≤ g) ∧ (∀ j u, S.tr[j]? = some u → w'.cell? ⟨g, j, none⟩ = some u) ∧ Grows v w') a v := by
  have H7 : Hid (Calls Try.prog 20 #[Pt S.wb 0] v _) := ⟨(body9A hR hn h1).calls Try.func20 rfl⟩
  clear hR hn h1
  obtain ⟨hsz, hd, hp⟩ := hA
  obtain ⟨u, rfl, hg⟩ := litN hsz hd
  have u1 := (hg 1).symm.trans (hp (1, .slice (some ⟨b, o, none⟩) n cap) (by simp))
  have u7 := (hg 7).symm.trans (hp (7, Pt S.wb 0) (by simp))
  have u8 := (hg 8).symm.trans (hp (8, .slice (some ⟨M, 0, none⟩) n n) (by simp))
  have u9 := (hg 9).symm.trans (hp (9, I 0) (by simp))
  clear hg hp hsz hd
  unfold n7 LB7 Try.f7 seq2 seq1
  simp only [Option.getD_some, lits, Nat.reduceAdd, u1, u7, u8, u9]
  clear u1 u7 u8 u9
  go_wp2_with (first
    | (go_at_call 20; refine H7.out.mono ?_; rintro e w1 ⟨_, rfl, p, g, cap, rfl, k1, k2, k3⟩))
  exact ⟨p, ⟨cap, ⟨rfl, rfl, by
   intro p hp
   simp only [List.mem_cons, List.not_mem_nil, or_false] at hp
   rcases hp with rfl | rfl | rfl | rfl | rfl <;> first | rfl | exact congrArg I (by omega) | exact congrArg Value.bool (by simp)⟩⟩, g, k1, k2⟩

set_option maxHeartbeats 4000000 in
set_option maxRecDepth 100000 in
theorem n8_wp {v : World} {a : Act} {b o n cap M wb : Nat} {p : Option Addr} {g T ct : Nat} {L : List Stp} (hT : L.length = T) (hTs : T ≤ 400000) (hp : 0 < T → p = some ⟨g, 0, none⟩) (hL : TrL g L v) (hA : Fl 228 [(1, .slice (some ⟨b, o, none⟩) n cap), (7, Pt wb 0), (8, .slice (some ⟨M, 0, none⟩) n n), (9, I 0), (10, .slice p T ct)] a) :
    n8.wp Try.prog (fun e a w' => e = .normal ∧ ∃ r, Fl 228 [(1, .slice (some ⟨b, o, none⟩) n cap), (7, Pt wb 0), (8, .slice (some ⟨M, 0, none⟩) n n), (9, I 0), (10, .slice p T ct), (11, r)] a ∧ (∃ q c, r = .slice q (drw L).length c) ∧ w'.ownsRow v.heap.size 3 1 r (drw L).length ((drw L).map I) ∧ Grows v w') a v := by
  have H7 : Hid (Calls Try.prog 34 #[.slice p T ct] v _) := ⟨(body32 hT hTs hp hL).calls Try.func34 rfl⟩
  clear hT hTs hp hL
  obtain ⟨hsz, hd, hp⟩ := hA
  obtain ⟨u, rfl, hg⟩ := litN hsz hd
  have u1 := (hg 1).symm.trans (hp (1, .slice (some ⟨b, o, none⟩) n cap) (by simp))
  have u7 := (hg 7).symm.trans (hp (7, Pt wb 0) (by simp))
  have u8 := (hg 8).symm.trans (hp (8, .slice (some ⟨M, 0, none⟩) n n) (by simp))
  have u9 := (hg 9).symm.trans (hp (9, I 0) (by simp))
  have u10 := (hg 10).symm.trans (hp (10, .slice p T ct) (by simp))
  clear hg hp hsz hd
  unfold n8 LB7 Try.f7 seq2 seq1
  simp only [Option.getD_some, lits, Nat.reduceAdd, u1, u7, u8, u9, u10]
  clear u1 u7 u8 u9 u10
  go_wp2_with (first
    | (go_at_call 34; refine H7.out.mono ?_; rintro e w1 ⟨_, rfl, ⟨q, c, rfl⟩, k1, k2, k3, k4, k5⟩))
  exact ⟨_, ⟨rfl, rfl, by
   intro p hp
   simp only [List.mem_cons, List.not_mem_nil, or_false] at hp
   rcases hp with rfl | rfl | rfl | rfl | rfl | rfl <;> first | rfl | exact congrArg I (by omega) | exact congrArg Value.bool (by simp)⟩, ⟨q, c, rfl⟩, k1, ⟨k2, k3, k4, k5⟩⟩

theorem mkN7 (n : Nat) (h : n ≤ 8) (w : World) : (Instr.makeSlice 22 (.int .i64 (n : Int)) (.int .i64 (n : Int))).run Try.prog w = .ok (.slice (some ⟨w.heap.size, 0, none⟩) n n) (w.alloc (.cells (Array.replicate n (I 0)) 3)) := by
  obtain ⟨i, hq, hz, hs, hb⟩ := info_parts info3d
  have := run_make (P := Try.prog) w 22 3 i _ Try.underlying22 hq hz .i64 .i64 n n (by omega) (by omega) (by rw [hb]; omega) (by omega)
  rw [hs] at this
  rw [this]
  have hi : n = 0 ∨ n = 1 ∨ n = 2 ∨ n = 3 ∨ n = 4 ∨ n = 5 ∨ n = 6 ∨ n = 7 ∨ n = 8 := by omega
  have e : madeCells (I 0).cells ((n : Int).toNat * 1) = Array.replicate n (I 0) := by
    rcases hi with rfl | rfl | rfl | rfl | rfl | rfl | rfl | rfl | rfl <;> kernel_rfl
  rw [e]
  rfl
set_option maxHeartbeats 4000000 in
set_option maxRecDepth 100000 in
theorem n9_wp {v : World} {a : Act} {b o n cap M wb T ct wn wc : Nat} {p wq : Option Addr} (h8 : n ≤ 8) (hA : Fl 228 [(1, .slice (some ⟨b, o, none⟩) n cap), (7, Pt wb 0), (8, .slice (some ⟨M, 0, none⟩) n n), (9, I 0), (10, .slice p T ct), (11, .slice wq wn wc)] a) : n9.wp Try.prog (fun e a' w' => e = .normal ∧ Fl 228 [(1, .slice (some ⟨b, o, none⟩) n cap), (7, Pt wb 0), (8, .slice (some ⟨M, 0, none⟩) n n), (9, I 0), (10, .slice p T ct), (11, .slice wq wn wc), (12, .slice (some ⟨v.heap.size, 0, none⟩) n n)] a' ∧ w'.heap = v.heap.push (.cells (Array.replicate n (I 0)) 3) ∧ w'.os = v.os ∧ w'.output = v.output) a v := by
  obtain ⟨hsz, hd, hp⟩ := hA
  obtain ⟨u, rfl, hg⟩ := litN hsz hd
  have u1 := (hg 1).symm.trans (hp (1, .slice (some ⟨b, o, none⟩) n cap) (by simp))
  have u7 := (hg 7).symm.trans (hp (7, Pt wb 0) (by simp))
  have u8 := (hg 8).symm.trans (hp (8, .slice (some ⟨M, 0, none⟩) n n) (by simp))
  have u9 := (hg 9).symm.trans (hp (9, I 0) (by simp))
  have u10 := (hg 10).symm.trans (hp (10, .slice p T ct) (by simp))
  have u11 := (hg 11).symm.trans (hp (11, .slice wq wn wc) (by simp))
  clear hg hp hsz hd
  have hmk := mkN7 n h8
  clear h8
  unfold n9 LB7 Try.f7 seq2 seq1
  simp only [Option.getD_some, lits, Nat.reduceAdd, u1, u7, u8, u9, u10, u11]
  clear u1 u7 u8 u9 u10 u11
  go_wp2_with fail
  first | refine ⟨?_, rfl, rfl, rfl⟩ | refine ⟨?_, rfl, rfl⟩ | refine ⟨?_, rfl⟩ | skip
  exact ⟨rfl, rfl, by
   intro p hp
   simp only [List.mem_cons, List.not_mem_nil, or_false] at hp
   rcases hp with rfl | rfl | rfl | rfl | rfl | rfl | rfl <;> first | rfl | exact congrArg I (by omega) | exact congrArg Value.bool (by simp)⟩

set_option maxHeartbeats 4000000 in
set_option maxRecDepth 100000 in
theorem n10_wp {v : World} {a : Act} {nb b o n cap M wb T ct wn wc : Nat} {p wq : Option Addr}  (hA : Fl 228 [(1, .slice (some ⟨b, o, none⟩) n cap), (7, Pt wb 0), (8, .slice (some ⟨M, 0, none⟩) n n), (9, I 0), (10, .slice p T ct), (11, .slice wq wn wc), (12, .slice (some ⟨nb, 0, none⟩) n n)] a) : n10.wp Try.prog (fun e a' w' => e = .normal ∧ Fl 228 [(1, .slice (some ⟨b, o, none⟩) n cap), (7, Pt wb 0), (8, .slice (some ⟨M, 0, none⟩) n n), (9, I 0), (10, .slice p T ct), (11, .slice wq wn wc), (12, .slice (some ⟨nb, 0, none⟩) n n), (13, I 0)] a' ∧ w'.heap = v.heap ∧ w'.os = v.os ∧ w'.output = v.output) a v := by
  obtain ⟨hsz, hd, hp⟩ := hA
  obtain ⟨u, rfl, hg⟩ := litN hsz hd
  have u1 := (hg 1).symm.trans (hp (1, .slice (some ⟨b, o, none⟩) n cap) (by simp))
  have u7 := (hg 7).symm.trans (hp (7, Pt wb 0) (by simp))
  have u8 := (hg 8).symm.trans (hp (8, .slice (some ⟨M, 0, none⟩) n n) (by simp))
  have u9 := (hg 9).symm.trans (hp (9, I 0) (by simp))
  have u10 := (hg 10).symm.trans (hp (10, .slice p T ct) (by simp))
  have u11 := (hg 11).symm.trans (hp (11, .slice wq wn wc) (by simp))
  have u12 := (hg 12).symm.trans (hp (12, .slice (some ⟨nb, 0, none⟩) n n) (by simp))
  clear hg hp hsz hd
  unfold n10 LB7 Try.f7 seq2 seq1
  simp only [Option.getD_some, lits, Nat.reduceAdd, u1, u7, u8, u9, u10, u11, u12]
  clear u1 u7 u8 u9 u10 u11 u12
  go_wp2_with fail
  first | refine ⟨?_, rfl, rfl, rfl⟩ | refine ⟨?_, rfl, rfl⟩ | refine ⟨?_, rfl⟩ | skip
  exact ⟨rfl, rfl, by
   intro p hp
   simp only [List.mem_cons, List.not_mem_nil, or_false] at hp
   rcases hp with rfl | rfl | rfl | rfl | rfl | rfl | rfl | rfl <;> first | rfl | exact congrArg I (by omega) | exact congrArg Value.bool (by simp)⟩

set_option maxHeartbeats 4000000 in
set_option maxRecDepth 100000 in
theorem n11_wp {v : World} {a : Act} {nb b o n cap M wb T ct wn wc : Nat} {p wq : Option Addr}  (hA : Fl 228 [(1, .slice (some ⟨b, o, none⟩) n cap), (7, Pt wb 0), (8, .slice (some ⟨M, 0, none⟩) n n), (9, I 0), (10, .slice p T ct), (11, .slice wq wn wc), (12, .slice (some ⟨nb, 0, none⟩) n n), (13, I 0)] a) : n11.wp Try.prog (fun e a' w' => e = .normal ∧ Fl 228 [(1, .slice (some ⟨b, o, none⟩) n cap), (7, Pt wb 0), (8, .slice (some ⟨M, 0, none⟩) n n), (9, I 0), (10, .slice p T ct), (11, .slice wq wn wc), (12, .slice (some ⟨nb, 0, none⟩) n n), (13, I 0), (14, I 0)] a' ∧ w'.heap = v.heap ∧ w'.os = v.os ∧ w'.output = v.output) a v := by
  obtain ⟨hsz, hd, hp⟩ := hA
  obtain ⟨u, rfl, hg⟩ := litN hsz hd
  have u1 := (hg 1).symm.trans (hp (1, .slice (some ⟨b, o, none⟩) n cap) (by simp))
  have u7 := (hg 7).symm.trans (hp (7, Pt wb 0) (by simp))
  have u8 := (hg 8).symm.trans (hp (8, .slice (some ⟨M, 0, none⟩) n n) (by simp))
  have u9 := (hg 9).symm.trans (hp (9, I 0) (by simp))
  have u10 := (hg 10).symm.trans (hp (10, .slice p T ct) (by simp))
  have u11 := (hg 11).symm.trans (hp (11, .slice wq wn wc) (by simp))
  have u12 := (hg 12).symm.trans (hp (12, .slice (some ⟨nb, 0, none⟩) n n) (by simp))
  have u13 := (hg 13).symm.trans (hp (13, I 0) (by simp))
  clear hg hp hsz hd
  unfold n11 LB7 Try.f7 seq2 seq1
  simp only [Option.getD_some, lits, Nat.reduceAdd, u1, u7, u8, u9, u10, u11, u12, u13]
  clear u1 u7 u8 u9 u10 u11 u12 u13
  go_wp2_with fail
  first | refine ⟨?_, rfl, rfl, rfl⟩ | refine ⟨?_, rfl, rfl⟩ | refine ⟨?_, rfl⟩ | skip
  exact ⟨rfl, rfl, by
   intro p hp
   simp only [List.mem_cons, List.not_mem_nil, or_false] at hp
   rcases hp with rfl | rfl | rfl | rfl | rfl | rfl | rfl | rfl | rfl <;> first | rfl | exact congrArg I (by omega) | exact congrArg Value.bool (by simp)⟩

set_option maxHeartbeats 4000000 in
set_option maxRecDepth 100000 in
theorem n12_wp {v : World} {a : Act} {nb b o n cap M wb T ct wn wc : Nat} {p wq : Option Addr}  (hA : Fl 228 [(1, .slice (some ⟨b, o, none⟩) n cap), (7, Pt wb 0), (8, .slice (some ⟨M, 0, none⟩) n n), (9, I 0), (10, .slice p T ct), (11, .slice wq wn wc), (12, .slice (some ⟨nb, 0, none⟩) n n), (13, I 0), (14, I 0)] a) : n12.wp Try.prog (fun e a' w' => e = .normal ∧ Fl 228 [(1, .slice (some ⟨b, o, none⟩) n cap), (7, Pt wb 0), (8, .slice (some ⟨M, 0, none⟩) n n), (9, I 0), (10, .slice p T ct), (11, .slice wq wn wc), (12, .slice (some ⟨nb, 0, none⟩) n n), (13, I 0), (14, I 0), (15, I (-1))] a' ∧ w'.heap = v.heap ∧ w'.os = v.os ∧ w'.output = v.output) a v := by
  obtain ⟨hsz, hd, hp⟩ := hA
  obtain ⟨u, rfl, hg⟩ := litN hsz hd
  have u1 := (hg 1).symm.trans (hp (1, .slice (some ⟨b, o, none⟩) n cap) (by simp))
  have u7 := (hg 7).symm.trans (hp (7, Pt wb 0) (by simp))
  have u8 := (hg 8).symm.trans (hp (8, .slice (some ⟨M, 0, none⟩) n n) (by simp))
  have u9 := (hg 9).symm.trans (hp (9, I 0) (by simp))
  have u10 := (hg 10).symm.trans (hp (10, .slice p T ct) (by simp))
  have u11 := (hg 11).symm.trans (hp (11, .slice wq wn wc) (by simp))
  have u12 := (hg 12).symm.trans (hp (12, .slice (some ⟨nb, 0, none⟩) n n) (by simp))
  have u13 := (hg 13).symm.trans (hp (13, I 0) (by simp))
  have u14 := (hg 14).symm.trans (hp (14, I 0) (by simp))
  clear hg hp hsz hd
  unfold n12 LB7 Try.f7 seq2 seq1
  simp only [Option.getD_some, lits, Nat.reduceAdd, u1, u7, u8, u9, u10, u11, u12, u13, u14]
  clear u1 u7 u8 u9 u10 u11 u12 u13 u14
  go_wp2_with fail
  first | refine ⟨?_, rfl, rfl, rfl⟩ | refine ⟨?_, rfl, rfl⟩ | refine ⟨?_, rfl⟩ | skip
  exact ⟨rfl, rfl, by
   intro p hp
   simp only [List.mem_cons, List.not_mem_nil, or_false] at hp
   rcases hp with rfl | rfl | rfl | rfl | rfl | rfl | rfl | rfl | rfl | rfl <;> first | rfl | exact congrArg I (by omega) | exact congrArg Value.bool (by simp)⟩

set_option maxHeartbeats 4000000 in
set_option maxRecDepth 100000 in
theorem n13_wp {v : World} {a : Act} {nb b o n cap M wb T ct wn wc : Nat} {p wq : Option Addr} {s op : Int} {j : Nat}  (hA : Fl 228 [(1, .slice (some ⟨b, o, none⟩) n cap), (7, Pt wb 0), (8, .slice (some ⟨M, 0, none⟩) n n), (9, I 0), (10, .slice p T ct), (11, .slice wq wn wc), (12, .slice (some ⟨nb, 0, none⟩) n n), (13, I s), (14, I (j : Int)), (15, I op)] a) : n13.wp Try.prog (fun e a' w' => e = .normal ∧ Fl 228 [(1, .slice (some ⟨b, o, none⟩) n cap), (7, Pt wb 0), (8, .slice (some ⟨M, 0, none⟩) n n), (9, I 0), (10, .slice p T ct), (11, .slice wq wn wc), (12, .slice (some ⟨nb, 0, none⟩) n n), (13, I s), (14, I (j : Int)), (15, I op), (16, I 0)] a' ∧ w'.heap = v.heap ∧ w'.os = v.os ∧ w'.output = v.output) a v := by
  obtain ⟨hsz, hd, hp⟩ := hA
  obtain ⟨u, rfl, hg⟩ := litN hsz hd
  have u1 := (hg 1).symm.trans (hp (1, .slice (some ⟨b, o, none⟩) n cap) (by simp))
  have u7 := (hg 7).symm.trans (hp (7, Pt wb 0) (by simp))
  have u8 := (hg 8).symm.trans (hp (8, .slice (some ⟨M, 0, none⟩) n n) (by simp))
  have u9 := (hg 9).symm.trans (hp (9, I 0) (by simp))
  have u10 := (hg 10).symm.trans (hp (10, .slice p T ct) (by simp))
  have u11 := (hg 11).symm.trans (hp (11, .slice wq wn wc) (by simp))
  have u12 := (hg 12).symm.trans (hp (12, .slice (some ⟨nb, 0, none⟩) n n) (by simp))
  have u13 := (hg 13).symm.trans (hp (13, I s) (by simp))
  have u14 := (hg 14).symm.trans (hp (14, I (j : Int)) (by simp))
  have u15 := (hg 15).symm.trans (hp (15, I op) (by simp))
  clear hg hp hsz hd
  unfold n13 OL LB7 Try.f7 seq2 seq1
  simp only [Option.getD_some, lits, Nat.reduceAdd, u1, u7, u8, u9, u10, u11, u12, u13, u14, u15]
  clear u1 u7 u8 u9 u10 u11 u12 u13 u14 u15
  go_wp2_with fail
  first | refine ⟨?_, rfl, rfl, rfl⟩ | refine ⟨?_, rfl, rfl⟩ | refine ⟨?_, rfl⟩ | skip
  exact ⟨rfl, rfl, by
   intro p hp
   simp only [List.mem_cons, List.not_mem_nil, or_false] at hp
   rcases hp with rfl | rfl | rfl | rfl | rfl | rfl | rfl | rfl | rfl | rfl | rfl <;> first | rfl | exact congrArg I (by omega) | exact congrArg Value.bool (by simp)⟩

set_option maxHeartbeats 4000000 in
set_option maxRecDepth 100000 in
theorem n14_wp {v : World} {a : Act} {nb b o n cap M wb T ct wn wc : Nat} {p wq : Option Addr} {s op : Int} {i j : Nat}  (hA : Fl 228 [(1, .slice (some ⟨b, o, none⟩) n cap), (7, Pt wb 0), (8, .slice (some ⟨M, 0, none⟩) n n), (9, I 0), (10, .slice p T ct), (11, .slice wq wn wc), (12, .slice (some ⟨nb, 0, none⟩) n n), (13, I s), (14, I (j : Int)), (15, I op), (16, I (i : Int))] a) : n14.wp Try.prog (fun e a' w' => e = .normal ∧ Fl 228 [(1, .slice (some ⟨b, o, none⟩) n cap), (7, Pt wb 0), (8, .slice (some ⟨M, 0, none⟩) n n), (9, I 0), (10, .slice p T ct), (11, .slice wq wn wc), (12, .slice (some ⟨nb, 0, none⟩) n n), (13, I s), (14, I (j : Int)), (15, I op), (16, I (i : Int)), (52, .bool (decide ((i : Int) < (T : Int))))] a' ∧ w'.heap = v.heap ∧ w'.os = v.os ∧ w'.output = v.output) a v := by
  obtain ⟨hsz, hd, hp⟩ := hA
  obtain ⟨u, rfl, hg⟩ := litN hsz hd
  have u1 := (hg 1).symm.trans (hp (1, .slice (some ⟨b, o, none⟩) n cap) (by simp))
  have u7 := (hg 7).symm.trans (hp (7, Pt wb 0) (by simp))
  have u8 := (hg 8).symm.trans (hp (8, .slice (some ⟨M, 0, none⟩) n n) (by simp))
  have u9 := (hg 9).symm.trans (hp (9, I 0) (by simp))
  have u10 := (hg 10).symm.trans (hp (10, .slice p T ct) (by simp))
  have u11 := (hg 11).symm.trans (hp (11, .slice wq wn wc) (by simp))
  have u12 := (hg 12).symm.trans (hp (12, .slice (some ⟨nb, 0, none⟩) n n) (by simp))
  have u13 := (hg 13).symm.trans (hp (13, I s) (by simp))
  have u14 := (hg 14).symm.trans (hp (14, I (j : Int)) (by simp))
  have u15 := (hg 15).symm.trans (hp (15, I op) (by simp))
  have u16 := (hg 16).symm.trans (hp (16, I (i : Int)) (by simp))
  clear hg hp hsz hd
  unfold n14 OA OL LB7 Try.f7 seq2 seq1 blockC loopC
  simp only [Option.getD_some, lits, Nat.reduceAdd, u1, u7, u8, u9, u10, u11, u12, u13, u14, u15, u16]
  clear u1 u7 u8 u9 u10 u11 u12 u13 u14 u15 u16
  go_wp2_with fail
  first | refine ⟨?_, rfl, rfl, rfl⟩ | refine ⟨?_, rfl, rfl⟩ | refine ⟨?_, rfl⟩ | skip
  exact ⟨rfl, rfl, by
   intro p hp
   simp only [List.mem_cons, List.not_mem_nil, or_false] at hp
   rcases hp with rfl | rfl | rfl | rfl | rfl | rfl | rfl | rfl | rfl | rfl | rfl | rfl <;> first | rfl | exact congrArg I (by omega) | exact congrArg Value.bool (by simp)⟩

set_option maxHeartbeats 4000000 in
set_option maxRecDepth 100000 in
theorem n15_wp {v : World} {a : Act} {nb b o n cap M wb T ct wn wc : Nat} {p wq : Option Addr} {s op : Int} {i j : Nat} (h9 : wrap64 ((i : Int) + 1) = ((i + 1 : Nat) : Int)) (hA : Fl 228 [(1, .slice (some ⟨b, o, none⟩) n cap), (7, Pt wb 0), (8, .slice (some ⟨M, 0, none⟩) n n), (9, I 0), (10, .slice p T ct), (11, .slice wq wn wc), (12, .slice (some ⟨nb, 0, none⟩) n n), (13, I s), (14, I (j : Int)), (15, I op), (16, I (i : Int))] a) : n15.wp Try.prog (fun e a' w' => e = .normal ∧ Fl 228 [(1, .slice (some ⟨b, o, none⟩) n cap), (7, Pt wb 0), (8, .slice (some ⟨M, 0, none⟩) n n), (9, I 0), (10, .slice p T ct), (11, .slice wq wn wc), (12, .slice (some ⟨nb, 0, none⟩) n n), (13, I s), (14, I (j : Int)), (15, I op), (16, I ((i + 1 : Nat) : Int))] a' ∧ w'.heap = v.heap ∧ w'.os = v.os ∧ w'.output = v.output) a v := by
  obtain ⟨hsz, hd, hp⟩ := hA
  obtain ⟨u, rfl, hg⟩ := litN hsz hd
  have u1 := (hg 1).symm.trans (hp (1, .slice (some ⟨b, o, none⟩) n cap) (by simp))
  have u7 := (hg 7).symm.trans (hp (7, Pt wb 0) (by simp))
  have u8 := (hg 8).symm.trans (hp (8, .slice (some ⟨M, 0, none⟩) n n) (by simp))
  have u9 := (hg 9).symm.trans (hp (9, I 0) (by simp))
  have u10 := (hg 10).symm.trans (hp (10, .slice p T ct) (by simp))
  have u11 := (hg 11).symm.trans (hp (11, .slice wq wn wc) (by simp))
  have u12 := (hg 12).symm.trans (hp (12, .slice (some ⟨nb, 0, none⟩) n n) (by simp))
  have u13 := (hg 13).symm.trans (hp (13, I s) (by simp))
  have u14 := (hg 14).symm.trans (hp (14, I (j : Int)) (by simp))
  have u15 := (hg 15).symm.trans (hp (15, I op) (by simp))
  have u16 := (hg 16).symm.trans (hp (16, I (i : Int)) (by simp))
  clear hg hp hsz hd
  unfold n15 OA OL LB7 Try.f7 seq2 seq1 blockC loopC
  simp only [Option.getD_some, lits, Nat.reduceAdd, u1, u7, u8, u9, u10, u11, u12, u13, u14, u15, u16]
  clear u1 u7 u8 u9 u10 u11 u12 u13 u14 u15 u16
  go_wp2_with fail
  first | refine ⟨?_, rfl, rfl, rfl⟩ | refine ⟨?_, rfl, rfl⟩ | refine ⟨?_, rfl⟩ | skip
  exact ⟨rfl, rfl, by
   intro p hp
   simp only [List.mem_cons, List.not_mem_nil, or_false] at hp
   rcases hp with rfl | rfl | rfl | rfl | rfl | rfl | rfl | rfl | rfl | rfl | rfl <;> first | rfl | exact congrArg I (by omega) | exact congrArg Value.bool (by simp)⟩

set_option maxHeartbeats 4000000 in
set_option maxRecDepth 100000 in
theorem n16_wp {v : World} {a : Act} {nb b o n cap M wb T ct wn wc : Nat} {g : Nat} {wq : Option Addr} {s op : Int} {i j : Nat} {th ce oo ol ne : Int} (hk : i < T) (c0 : v.cell? ⟨g, i * 5, none⟩ = some (I th)) (c1 : v.cell? ⟨g, i * 5 + 1, none⟩ = some (I ce)) (c2 : v.cell? ⟨g, i * 5 + 2, none⟩ = some (I oo)) (c3 : v.cell? ⟨g, i * 5 + 3, none⟩ = some (I ol)) (c4 : v.cell? ⟨g, i * 5 + 4, none⟩ = some (I ne)) (hA : Fl 228 [(1, .slice (some ⟨b, o, none⟩) n cap), (7, Pt wb 0), (8, .slice (some ⟨M, 0, none⟩) n n), (9, I 0), (10, .slice (some ⟨g, 0, none⟩) T ct), (11, .slice wq wn wc), (12, .slice (some ⟨nb, 0, none⟩) n n), (13, I s), (14, I (j : Int)), (15, I op), (16, I (i : Int))] a) : n16.wp Try.prog (fun e a' w' => e = .normal ∧ Fl 228 [(1, .slice (some ⟨b, o, none⟩) n cap), (7, Pt wb 0), (8, .slice (some ⟨M, 0, none⟩) n n), (9, I 0), (10, .slice (some ⟨g, 0, none⟩) T ct), (11, .slice wq wn wc), (12, .slice (some ⟨nb, 0, none⟩) n n), (13, I s), (14, I (j : Int)), (15, I op), (16, I (i : Int)), (17, Pt v.heap.size 0)] a' ∧ w'.heap = v.heap.push (.cells #[I th, I ce, I oo, I ol, I ne] 34) ∧ w'.os = v.os ∧ w'.output = v.output) a v := by
  obtain ⟨hsz, hd, hp⟩ := hA
  obtain ⟨u, rfl, hg⟩ := litN hsz hd
  have u1 := (hg 1).symm.trans (hp (1, .slice (some ⟨b, o, none⟩) n cap) (by simp))
  have u7 := (hg 7).symm.trans (hp (7, Pt wb 0) (by simp))
  have u8 := (hg 8).symm.trans (hp (8, .slice (some ⟨M, 0, none⟩) n n) (by simp))
  have u9 := (hg 9).symm.trans (hp (9, I 0) (by simp))
  have u10 := (hg 10).symm.trans (hp (10, .slice (some ⟨g, 0, none⟩) T ct) (by simp))
  have u11 := (hg 11).symm.trans (hp (11, .slice wq wn wc) (by simp))
  have u12 := (hg 12).symm.trans (hp (12, .slice (some ⟨nb, 0, none⟩) n n) (by simp))
  have u13 := (hg 13).symm.trans (hp (13, I s) (by simp))
  have u14 := (hg 14).symm.trans (hp (14, I (j : Int)) (by simp))
  have u15 := (hg 15).symm.trans (hp (15, I op) (by simp))
  have u16 := (hg 16).symm.trans (hp (16, I (i : Int)) (by simp))
  clear hg hp hsz hd
  have hk' : (i : Int) < (T : Int) := by omega
  unfold n16 OI OA OL LB7 Try.f7 seq2 seq1 blockC loopC
  simp only [Option.getD_some, lits, Nat.reduceAdd, u1, u7, u8, u9, u10, u11, u12, u13, u14, u15, u16]
  clear u1 u7 u8 u9 u10 u11 u12 u13 u14 u15 u16
  go_wp2_with fail
  first | refine ⟨?_, rfl, rfl, rfl⟩ | refine ⟨?_, rfl, rfl⟩ | refine ⟨?_, rfl⟩ | skip
  exact ⟨rfl, rfl, by
   intro p hp
   simp only [List.mem_cons, List.not_mem_nil, or_false] at hp
   rcases hp with rfl | rfl | rfl | rfl | rfl | rfl | rfl | rfl | rfl | rfl | rfl | rfl <;> first | rfl | exact congrArg I (by omega) | exact congrArg Value.bool (by simp)⟩

set_option maxHeartbeats 4000000 in
set_option maxRecDepth 100000 in
theorem n17_wp {v : World} {a : Act} {sb nb b o n cap M wb T ct wn wc : Nat} {p wq : Option Addr} {s op : Int} {i j : Nat} {ce : Int} (c1 : v.cell? ⟨sb, 1, none⟩ = some (I ce)) (hA : Fl 228 [(1, .slice (some ⟨b, o, none⟩) n cap), (7, Pt wb 0), (8, .slice (some ⟨M, 0, none⟩) n n), (9, I 0), (10, .slice p T ct), (11, .slice wq wn wc), (12, .slice (some ⟨nb, 0, none⟩) n n), (13, I s), (14, I (j : Int)), (15, I op), (16, I (i : Int)), (17, Pt sb 0)] a) : n17.wp Try.prog (fun e a' w' => e = .normal ∧ Fl 228 [(1, .slice (some ⟨b, o, none⟩) n cap), (7, Pt wb 0), (8, .slice (some ⟨M, 0, none⟩) n n), (9, I 0), (10, .slice p T ct), (11, .slice wq wn wc), (12, .slice (some ⟨nb, 0, none⟩) n n), (13, I s), (14, I (j : Int)), (15, I op), (16, I (i : Int)), (17, Pt sb 0), (61, .bool (ce != 2))] a' ∧ w'.heap = v.heap ∧ w'.os = v.os ∧ w'.output = v.output) a v := by
  obtain ⟨hsz, hd, hp⟩ := hA
  obtain ⟨u, rfl, hg⟩ := litN hsz hd
  have u1 := (hg 1).symm.trans (hp (1, .slice (some ⟨b, o, none⟩) n cap) (by simp))
  have u7 := (hg 7).symm.trans (hp (7, Pt wb 0) (by simp))
  have u8 := (hg 8).symm.trans (hp (8, .slice (some ⟨M, 0, none⟩) n n) (by simp))
  have u9 := (hg 9).symm.trans (hp (9, I 0) (by simp))
  have u10 := (hg 10).symm.trans (hp (10, .slice p T ct) (by simp))
  have u11 := (hg 11).symm.trans (hp (11, .slice wq wn wc) (by simp))
  have u12 := (hg 12).symm.trans (hp (12, .slice (some ⟨nb, 0, none⟩) n n) (by simp))
  have u13 := (hg 13).symm.trans (hp (13, I s) (by simp))
  have u14 := (hg 14).symm.trans (hp (14, I (j : Int)) (by simp))
  have u15 := (hg 15).symm.trans (hp (15, I op) (by simp))
  have u16 := (hg 16).symm.trans (hp (16, I (i : Int)) (by simp))
  have u17 := (hg 17).symm.trans (hp (17, Pt sb 0) (by simp))
  clear hg hp hsz hd
  unfold n17 OI OA OL LB7 Try.f7 seq2 seq1 blockC loopC
  simp only [Option.getD_some, lits, Nat.reduceAdd, u1, u7, u8, u9, u10, u11, u12, u13, u14, u15, u16, u17]
  clear u1 u7 u8 u9 u10 u11 u12 u13 u14 u15 u16 u17
  go_wp2_with fail
  first | refine ⟨?_, rfl, rfl, rfl⟩ | refine ⟨?_, rfl, rfl⟩ | refine ⟨?_, rfl⟩ | skip
  exact ⟨rfl, rfl, by
   intro p hp
   simp only [List.mem_cons, List.not_mem_nil, or_false] at hp
   rcases hp with rfl | rfl | rfl | rfl | rfl | rfl | rfl | rfl | rfl | rfl | rfl | rfl | rfl <;> first | rfl | exact congrArg I (by omega) | exact congrArg Value.bool (by simp)⟩

set_option maxHeartbeats 4000000 in
set_option maxRecDepth 100000 in
theorem n18_wp {v : World} {a : Act} {sb nb b o n cap M wb T ct wn wc : Nat} {p wq : Option Addr} {s op : Int} {i j : Nat}  (hA : Fl 228 [(1, .slice (some ⟨b, o, none⟩) n cap), (7, Pt wb 0), (8, .slice (some ⟨M, 0, none⟩) n n), (9, I 0), (10, .slice p T ct), (11, .slice wq wn wc), (12, .slice (some ⟨nb, 0, none⟩) n n), (13, I s), (14, I (j : Int)), (15, I op), (16, I (i : Int)), (17, Pt sb 0)] a) : n18.wp Try.prog (fun e a' w' => e = .normal ∧ Fl 228 [(1, .slice (some ⟨b, o, none⟩) n cap), (7, Pt wb 0), (8, .slice (some ⟨M, 0, none⟩) n n), (9, I 0), (10, .slice p T ct), (11, .slice wq wn wc), (12, .slice (some ⟨nb, 0, none⟩) n n), (13, I s), (14, I (j : Int)), (15, I op), (16, I (i : Int)), (17, Pt sb 0), (63, .bool (decide (op < 0)))] a' ∧ w'.heap = v.heap ∧ w'.os = v.os ∧ w'.output = v.output) a v := by
  obtain ⟨hsz, hd, hp⟩ := hA
  obtain ⟨u, rfl, hg⟩ := litN hsz hd
  have u1 := (hg 1).symm.trans (hp (1, .slice (some ⟨b, o, none⟩) n cap) (by simp))
  have u7 := (hg 7).symm.trans (hp (7, Pt wb 0) (by simp))
  have u8 := (hg 8).symm.trans (hp (8, .slice (some ⟨M, 0, none⟩) n n) (by simp))
  have u9 := (hg 9).symm.trans (hp (9, I 0) (by simp))
  have u10 := (hg 10).symm.trans (hp (10, .slice p T ct) (by simp))
  have u11 := (hg 11).symm.trans (hp (11, .slice wq wn wc) (by simp))
  have u12 := (hg 12).symm.trans (hp (12, .slice (some ⟨nb, 0, none⟩) n n) (by simp))
  have u13 := (hg 13).symm.trans (hp (13, I s) (by simp))
  have u14 := (hg 14).symm.trans (hp (14, I (j : Int)) (by simp))
  have u15 := (hg 15).symm.trans (hp (15, I op) (by simp))
  have u16 := (hg 16).symm.trans (hp (16, I (i : Int)) (by simp))
  have u17 := (hg 17).symm.trans (hp (17, Pt sb 0) (by simp))
  clear hg hp hsz hd
  unfold n18 O18 OI OA OL LB7 Try.f7 seq2 seq1 blockC loopC
  simp only [Option.getD_some, lits, Nat.reduceAdd, u1, u7, u8, u9, u10, u11, u12, u13, u14, u15, u16, u17]
  clear u1 u7 u8 u9 u10 u11 u12 u13 u14 u15 u16 u17
  go_wp2_with fail
  first | refine ⟨?_, rfl, rfl, rfl⟩ | refine ⟨?_, rfl, rfl⟩ | refine ⟨?_, rfl⟩ | skip
  exact ⟨rfl, rfl, by
   intro p hp
   simp only [List.mem_cons, List.not_mem_nil, or_false] at hp
   rcases hp with rfl | rfl | rfl | rfl | rfl | rfl | rfl | rfl | rfl | rfl | rfl | rfl | rfl <;> first | rfl | exact congrArg I (by omega) | exact congrArg Value.bool (by simp)⟩

set_option maxHeartbeats 4000000 in
set_option maxRecDepth 100000 in
theorem n19_wp {v : World} {a : Act} {sb nb b o n cap M wb T ct wn wc : Nat} {wg : Nat} {p : Option Addr} {s op : Int} {i j : Nat} {th : Int} (hj : j < wn) (c0 : v.cell? ⟨sb, 0, none⟩ = some (I th)) (c2 : v.cell? ⟨sb, 2, none⟩ = some (I 1)) (c3 : v.cell? ⟨sb, 3, none⟩ = some (I s)) (d0 : v.cell? ⟨wg, j, none⟩ = some (I th)) (hA : Fl 228 [(1, .slice (some ⟨b, o, none⟩) n cap), (7, Pt wb 0), (8, .slice (some ⟨M, 0, none⟩) n n), (9, I 0), (10, .slice p T ct), (11, .slice (some ⟨wg, 0, none⟩) wn wc), (12, .slice (some ⟨nb, 0, none⟩) n n), (13, I s), (14, I (j : Int)), (15, I op), (16, I (i : Int)), (17, Pt sb 0)] a) : n19.wp Try.prog (fun e a' w' => e = .normal ∧ Fl 228 [(1, .slice (some ⟨b, o, none⟩) n cap), (7, Pt wb 0), (8, .slice (some ⟨M, 0, none⟩) n n), (9, I 0), (10, .slice p T ct), (11, .slice (some ⟨wg, 0, none⟩) wn wc), (12, .slice (some ⟨nb, 0, none⟩) n n), (13, I s), (14, I (j : Int)), (15, I op), (16, I (i : Int)), (17, Pt sb 0), (87, .bool false)] a' ∧ w'.heap = v.heap ∧ w'.os = v.os ∧ w'.output = v.output) a v := by
  obtain ⟨hsz, hd, hp⟩ := hA
  obtain ⟨u, rfl, hg⟩ := litN hsz hd
  have u1 := (hg 1).symm.trans (hp (1, .slice (some ⟨b, o, none⟩) n cap) (by simp))
  have u7 := (hg 7).symm.trans (hp (7, Pt wb 0) (by simp))
  have u8 := (hg 8).symm.trans (hp (8, .slice (some ⟨M, 0, none⟩) n n) (by simp))
  have u9 := (hg 9).symm.trans (hp (9, I 0) (by simp))
  have u10 := (hg 10).symm.trans (hp (10, .slice p T ct) (by simp))
  have u11 := (hg 11).symm.trans (hp (11, .slice (some ⟨wg, 0, none⟩) wn wc) (by simp))
  have u12 := (hg 12).symm.trans (hp (12, .slice (some ⟨nb, 0, none⟩) n n) (by simp))
  have u13 := (hg 13).symm.trans (hp (13, I s) (by simp))
  have u14 := (hg 14).symm.trans (hp (14, I (j : Int)) (by simp))
  have u15 := (hg 15).symm.trans (hp (15, I op) (by simp))
  have u16 := (hg 16).symm.trans (hp (16, I (i : Int)) (by simp))
  have u17 := (hg 17).symm.trans (hp (17, Pt sb 0) (by simp))
  clear hg hp hsz hd
  have q1 : ¬ ((j : Int) ≥ (wn : Int)) := by omega
  have q2 : (j : Int) < (wn : Int) := by omega
  have q3 : ¬ wn ≤ j := by omega
  unfold n19 O19 O18 OI OA OL LB7 Try.f7 seq2 seq1 blockC loopC condA
  simp only [Option.getD_some, lits, Nat.reduceAdd, u1, u7, u8, u9, u10, u11, u12, u13, u14, u15, u16, u17]
  clear u1 u7 u8 u9 u10 u11 u12 u13 u14 u15 u16 u17
  go_wp2_with fail
  go_quiet (fail)
  go_wp2_with fail
  first | refine ⟨?_, rfl, rfl, rfl⟩ | refine ⟨?_, rfl, rfl⟩ | refine ⟨?_, rfl⟩ | skip
  exact ⟨rfl, rfl, by
   intro p hp
   simp only [List.mem_cons, List.not_mem_nil, or_false] at hp
   rcases hp with rfl | rfl | rfl | rfl | rfl | rfl | rfl | rfl | rfl | rfl | rfl | rfl | rfl <;> first | rfl | exact congrArg I (by omega) | exact congrArg Value.bool (by simp)⟩

set_option maxHeartbeats 4000000 in
set_option maxRecDepth 100000 in
theorem n21_wp {v : World} {a : Act} {sb nb b o n cap M wb T ct wn wc : Nat} {p wq : Option Addr} {s op : Int} {i j : Nat} {th : Int} (c0 : v.cell? ⟨sb, 0, none⟩ = some (I th)) (hA : Fl 228 [(1, .slice (some ⟨b, o, none⟩) n cap), (7, Pt wb 0), (8, .slice (some ⟨M, 0, none⟩) n n), (9, I 0), (10, .slice p T ct), (11, .slice wq wn wc), (12, .slice (some ⟨nb, 0, none⟩) n n), (13, I s), (14, I (j : Int)), (15, I op), (16, I (i : Int)), (17, Pt sb 0)] a) : n21.wp Try.prog (fun e a' w' => e = .normal ∧ Fl 228 [(1, .slice (some ⟨b, o, none⟩) n cap), (7, Pt wb 0), (8, .slice (some ⟨M, 0, none⟩) n n), (9, I 0), (10, .slice p T ct), (11, .slice wq wn wc), (12, .slice (some ⟨nb, 0, none⟩) n n), (13, I s), (14, I (j : Int)), (15, I th), (16, I (i : Int)), (17, Pt sb 0)] a' ∧ w'.heap = v.heap ∧ w'.os = v.os ∧ w'.output = v.output) a v := by
  obtain ⟨hsz, hd, hp⟩ := hA
  obtain ⟨u, rfl, hg⟩ := litN hsz hd
  have u1 := (hg 1).symm.trans (hp (1, .slice (some ⟨b, o, none⟩) n cap) (by simp))
  have u7 := (hg 7).symm.trans (hp (7, Pt wb 0) (by simp))
  have u8 := (hg 8).symm.trans (hp (8, .slice (some ⟨M, 0, none⟩) n n) (by simp))
  have u9 := (hg 9).symm.trans (hp (9, I 0) (by simp))
  have u10 := (hg 10).symm.trans (hp (10, .slice p T ct) (by simp))
  have u11 := (hg 11).symm.trans (hp (11, .slice wq wn wc) (by simp))
  have u12 := (hg 12).symm.trans (hp (12, .slice (some ⟨nb, 0, none⟩) n n) (by simp))
  have u13 := (hg 13).symm.trans (hp (13, I s) (by simp))
  have u14 := (hg 14).symm.trans (hp (14, I (j : Int)) (by simp))
  have u15 := (hg 15).symm.trans (hp (15, I op) (by simp))
  have u16 := (hg 16).symm.trans (hp (16, I (i : Int)) (by simp))
  have u17 := (hg 17).symm.trans (hp (17, Pt sb 0) (by simp))
  clear hg hp hsz hd
  unfold n21 O19 O18 OI OA OL LB7 Try.f7 seq2 seq1 blockC loopC condA
  simp only [Option.getD_some, lits, Nat.reduceAdd, u1, u7, u8, u9, u10, u11, u12, u13, u14, u15, u16, u17]
  clear u1 u7 u8 u9 u10 u11 u12 u13 u14 u15 u16 u17
  go_wp2_with fail
  first | refine ⟨?_, rfl, rfl, rfl⟩ | refine ⟨?_, rfl, rfl⟩ | refine ⟨?_, rfl⟩ | skip
  exact ⟨rfl, rfl, by
   intro p hp
   simp only [List.mem_cons, List.not_mem_nil, or_false] at hp
   rcases hp with rfl | rfl | rfl | rfl | rfl | rfl | rfl | rfl | rfl | rfl | rfl | rfl <;> first | rfl | exact congrArg I (by omega) | exact congrArg Value.bool (by simp)⟩

set_option maxHeartbeats 4000000 in
set_option maxRecDepth 100000 in
theorem n22_wp {v : World} {a : Act} {sb nb b o n cap M wb T ct wn wc : Nat} {p wq : Option Addr} {s : Int} {i j t : Nat} (ht : t < n) (c0 : v.cell? ⟨sb, 0, none⟩ = some (I (t : Int))) (c2 : v.cell? ⟨sb, 2, none⟩ = some (I 2)) (hA : Fl 228 [(1, .slice (some ⟨b, o, none⟩) n cap), (7, Pt wb 0), (8, .slice (some ⟨M, 0, none⟩) n n), (9, I 0), (10, .slice p T ct), (11, .slice wq wn wc), (12, .slice (some ⟨nb, 0, none⟩) n n), (13, I s), (14, I (j : Int)), (15, I (t : Int)), (16, I (i : Int)), (17, Pt sb 0)] a) : n22.wp Try.prog (fun e a' w' => e = .normal ∧ Fl 228 [(1, .slice (some ⟨b, o, none⟩) n cap), (7, Pt wb 0), (8, .slice (some ⟨M, 0, none⟩) n n), (9, I 0), (10, .slice p T ct), (11, .slice wq wn wc), (12, .slice (some ⟨nb, 0, none⟩) n n), (13, I s), (14, I (j : Int)), (15, I (t : Int)), (16, I (i : Int)), (17, Pt sb 0), (105, .bool false)] a' ∧ w'.heap = v.heap ∧ w'.os = v.os ∧ w'.output = v.output) a v := by
  obtain ⟨hsz, hd, hp⟩ := hA
  obtain ⟨u, rfl, hg⟩ := litN hsz hd
  have u1 := (hg 1).symm.trans (hp (1, .slice (some ⟨b, o, none⟩) n cap) (by simp))
  have u7 := (hg 7).symm.trans (hp (7, Pt wb 0) (by simp))
  have u8 := (hg 8).symm.trans (hp (8, .slice (some ⟨M, 0, none⟩) n n) (by simp))
  have u9 := (hg 9).symm.trans (hp (9, I 0) (by simp))
  have u10 := (hg 10).symm.trans (hp (10, .slice p T ct) (by simp))
  have u11 := (hg 11).symm.trans (hp (11, .slice wq wn wc) (by simp))
  have u12 := (hg 12).symm.trans (hp (12, .slice (some ⟨nb, 0, none⟩) n n) (by simp))
  have u13 := (hg 13).symm.trans (hp (13, I s) (by simp))
  have u14 := (hg 14).symm.trans (hp (14, I (j : Int)) (by simp))
  have u15 := (hg 15).symm.trans (hp (15, I (t : Int)) (by simp))
  have u16 := (hg 16).symm.trans (hp (16, I (i : Int)) (by simp))
  have u17 := (hg 17).symm.trans (hp (17, Pt sb 0) (by simp))
  clear hg hp hsz hd
  have q1 : ¬ ((n : Int) ≤ (t : Int)) := by omega
  have q2 : ¬ n ≤ t := by omega
  have q3 : t < n := ht
  unfold n22 O22 OI OA OL LB7 Try.f7 seq2 seq1 blockC loopC
  simp only [Option.getD_some, lits, Nat.reduceAdd, u1, u7, u8, u9, u10, u11, u12, u13, u14, u15, u16, u17]
  clear u1 u7 u8 u9 u10 u11 u12 u13 u14 u15 u16 u17
  go_wp2_with fail
  first | refine ⟨?_, rfl, rfl, rfl⟩ | refine ⟨?_, rfl, rfl⟩ | refine ⟨?_, rfl⟩ | skip
  exact ⟨rfl, rfl, by
   intro p hp
   simp only [List.mem_cons, List.not_mem_nil, or_false] at hp
   rcases hp with rfl | rfl | rfl | rfl | rfl | rfl | rfl | rfl | rfl | rfl | rfl | rfl | rfl <;> first | rfl | exact congrArg I (by omega) | exact congrArg Value.bool (by simp)⟩

set_option maxHeartbeats 4000000 in
set_option maxRecDepth 100000 in
theorem n24_wp {v : World} {a : Act} {sb nb b o n cap M wb T ct wn wc : Nat} {p wq : Option Addr} {s : Int} {i j t k : Nat} (ht : t < n) (c0 : v.cell? ⟨nb, t, none⟩ = some (I (k : Int))) (hA : Fl 228 [(1, .slice (some ⟨b, o, none⟩) n cap), (7, Pt wb 0), (8, .slice (some ⟨M, 0, none⟩) n n), (9, I 0), (10, .slice p T ct), (11, .slice wq wn wc), (12, .slice (some ⟨nb, 0, none⟩) n n), (13, I s), (14, I (j : Int)), (15, I (t : Int)), (16, I (i : Int)), (17, Pt sb 0)] a) : n24.wp Try.prog (fun e a' w' => e = .normal ∧ Fl 228 [(1, .slice (some ⟨b, o, none⟩) n cap), (7, Pt wb 0), (8, .slice (some ⟨M, 0, none⟩) n n), (9, I 0), (10, .slice p T ct), (11, .slice wq wn wc), (12, .slice (some ⟨nb, 0, none⟩) n n), (13, I s), (14, I (j : Int)), (15, I (t : Int)), (16, I (i : Int)), (17, Pt sb 0), (18, I (k : Int))] a' ∧ w'.heap = v.heap ∧ w'.os = v.os ∧ w'.output = v.output) a v := by
  obtain ⟨hsz, hd, hp⟩ := hA
  obtain ⟨u, rfl, hg⟩ := litN hsz hd
  have u1 := (hg 1).symm.trans (hp (1, .slice (some ⟨b, o, none⟩) n cap) (by simp))
  have u7 := (hg 7).symm.trans (hp (7, Pt wb 0) (by simp))
  have u8 := (hg 8).symm.trans (hp (8, .slice (some ⟨M, 0, none⟩) n n) (by simp))
  have u9 := (hg 9).symm.trans (hp (9, I 0) (by simp))
  have u10 := (hg 10).symm.trans (hp (10, .slice p T ct) (by simp))
  have u11 := (hg 11).symm.trans (hp (11, .slice wq wn wc) (by simp))
  have u12 := (hg 12).symm.trans (hp (12, .slice (some ⟨nb, 0, none⟩) n n) (by simp))
  have u13 := (hg 13).symm.trans (hp (13, I s) (by simp))
  have u14 := (hg 14).symm.trans (hp (14, I (j : Int)) (by simp))
  have u15 := (hg 15).symm.trans (hp (15, I (t : Int)) (by simp))
  have u16 := (hg 16).symm.trans (hp (16, I (i : Int)) (by simp))
  have u17 := (hg 17).symm.trans (hp (17, Pt sb 0) (by simp))
  clear hg hp hsz hd
  have ht' : (t : Int) < (n : Int) := by omega
  have ht2 : ¬ n ≤ t := by omega
  unfold n24 O22 OI OA OL LB7 Try.f7 seq2 seq1 blockC loopC
  simp only [Option.getD_some, lits, Nat.reduceAdd, u1, u7, u8, u9, u10, u11, u12, u13, u14, u15, u16, u17]
  clear u1 u7 u8 u9 u10 u11 u12 u13 u14 u15 u16 u17
  go_wp2_with fail
  first | refine ⟨?_, rfl, rfl, rfl⟩ | refine ⟨?_, rfl, rfl⟩ | refine ⟨?_, rfl⟩ | skip
  exact ⟨rfl, rfl, by
   intro p hp
   simp only [List.mem_cons, List.not_mem_nil, or_false] at hp
   rcases hp with rfl | rfl | rfl | rfl | rfl | rfl | rfl | rfl | rfl | rfl | rfl | rfl | rfl <;> first | rfl | exact congrArg I (by omega) | exact congrArg Value.bool (by simp)⟩

set_option maxHeartbeats 4000000 in
set_option maxRecDepth 100000 in
theorem n25_wpa {v : World} {a : Act} {sb nb b o n cap M wb T ct wn wc : Nat} {p wq : Option Addr} {s : Int} {i j t k : Nat} {lt ct2 rb ro A : Nat} {x ec po : Int} (ht : t < n) (hk : k < lt) (c1 : v.cell? ⟨b, o + t, none⟩ = some (.slice (some ⟨rb, ro, none⟩) lt ct2)) (d1 : v.cell? ⟨M, t, none⟩ = some (.slice (some ⟨A, 0, none⟩) lt lt)) (d2 : v.cell? ⟨A, k * 2 + 1, none⟩ = some (I x)) (d3 : v.cell? ⟨A, k * 2, none⟩ = some (I ec)) (c2 : v.cell? ⟨rb, ro + k * 4, none⟩ = some (I po)) (h1 : x ≠ -1) (hA : Fl 228 [(1, .slice (some ⟨b, o, none⟩) n cap), (7, Pt wb 0), (8, .slice (some ⟨M, 0, none⟩) n n), (9, I 0), (10, .slice p T ct), (11, .slice wq wn wc), (12, .slice (some ⟨nb, 0, none⟩) n n), (13, I s), (14, I (j : Int)), (15, I (t : Int)), (16, I (i : Int)), (17, Pt sb 0), (18, I (k : Int))] a) : n25.wp Try.prog (fun e a' w' => e = .normal ∧ Fl 228 [(1, .slice (some ⟨b, o, none⟩) n cap), (7, Pt wb 0), (8, .slice (some ⟨M, 0, none⟩) n n), (9, I 0), (10, .slice p T ct), (11, .slice wq wn wc), (12, .slice (some ⟨nb, 0, none⟩) n n), (13, I s), (14, I (j : Int)), (15, I (t : Int)), (16, I (i : Int)), (17, Pt sb 0), (18, I (k : Int)), (156, .bool (ec != 0))] a' ∧ w'.heap = v.heap ∧ w'.os = v.os ∧ w'.output = v.output) a v := by
  obtain ⟨hsz, hd, hp⟩ := hA
  obtain ⟨u, rfl, hg⟩ := litN hsz hd
  have u1 := (hg 1).symm.trans (hp (1, .slice (some ⟨b, o, none⟩) n cap) (by simp))
  have u7 := (hg 7).symm.trans (hp (7, Pt wb 0) (by simp))
  have u8 := (hg 8).symm.trans (hp (8, .slice (some ⟨M, 0, none⟩) n n) (by simp))
  have u9 := (hg 9).symm.trans (hp (9, I 0) (by simp))
  have u10 := (hg 10).symm.trans (hp (10, .slice p T ct) (by simp))
  have u11 := (hg 11).symm.trans (hp (11, .slice wq wn wc) (by simp))
  have u12 := (hg 12).symm.trans (hp (12, .slice (some ⟨nb, 0, none⟩) n n) (by simp))
  have u13 := (hg 13).symm.trans (hp (13, I s) (by simp))
  have u14 := (hg 14).symm.trans (hp (14, I (j : Int)) (by simp))
  have u15 := (hg 15).symm.trans (hp (15, I (t : Int)) (by simp))
  have u16 := (hg 16).symm.trans (hp (16, I (i : Int)) (by simp))
  have u17 := (hg 17).symm.trans (hp (17, Pt sb 0) (by simp))
  have u18 := (hg 18).symm.trans (hp (18, I (k : Int)) (by simp))
  clear hg hp hsz hd
  have ht' : (t : Int) < (n : Int) := by omega
  have ht2 : ¬ n ≤ t := by omega
  have hk' : (k : Int) < (lt : Int) := by omega
  have hk2 : ¬ lt ≤ k := by omega
  have f1 : (x == -1) = false := by simp [h1]
  unfold n25 OB O22 OI OA OL LB7 Try.f7 seq2 seq1 blockC loopC
  simp only [Option.getD_some, lits, Nat.reduceAdd, u1, u7, u8, u9, u10, u11, u12, u13, u14, u15, u16, u17, u18]
  clear u1 u7 u8 u9 u10 u11 u12 u13 u14 u15 u16 u17 u18
  go_wp2_with fail
  first | refine ⟨?_, rfl, rfl, rfl⟩ | refine ⟨?_, rfl, rfl⟩ | refine ⟨?_, rfl⟩ | skip
  exact ⟨rfl, rfl, by
   intro p hp
   simp only [List.mem_cons, List.not_mem_nil, or_false] at hp
   rcases hp with rfl | rfl | rfl | rfl | rfl | rfl | rfl | rfl | rfl | rfl | rfl | rfl | rfl | rfl <;> first | rfl | exact congrArg I (by omega) | exact congrArg Value.bool (by simp)⟩

set_option maxHeartbeats 4000000 in
set_option maxRecDepth 100000 in
theorem n25_wpb {v : World} {a : Act} {sb nb b o n cap M wb T ct wn wc : Nat} {p wq : Option Addr} {s : Int} {i j t k : Nat} {lt ct2 rb ro A : Nat} {x ec po : Int} (ht : t < n) (hk : k < lt) (c1 : v.cell? ⟨b, o + t, none⟩ = some (.slice (some ⟨rb, ro, none⟩) lt ct2)) (d1 : v.cell? ⟨M, t, none⟩ = some (.slice (some ⟨A, 0, none⟩) lt lt)) (d2 : v.cell? ⟨A, k * 2 + 1, none⟩ = some (I x)) (d3 : v.cell? ⟨A, k * 2, none⟩ = some (I ec)) (c2 : v.cell? ⟨rb, ro + k * 4, none⟩ = some (I po)) (h1 : x = -1) (h2 : po ≠ 2) (hA : Fl 228 [(1, .slice (some ⟨b, o, none⟩) n cap), (7, Pt wb 0), (8, .slice (some ⟨M, 0, none⟩) n n), (9, I 0), (10, .slice p T ct), (11, .slice wq wn wc), (12, .slice (some ⟨nb, 0, none⟩) n n), (13, I s), (14, I (j : Int)), (15, I (t : Int)), (16, I (i : Int)), (17, Pt sb 0), (18, I (k : Int))] a) : n25.wp Try.prog (fun e a' w' => e = .normal ∧ Fl 228 [(1, .slice (some ⟨b, o, none⟩) n cap), (7, Pt wb 0), (8, .slice (some ⟨M, 0, none⟩) n n), (9, I 0), (10, .slice p T ct), (11, .slice wq wn wc), (12, .slice (some ⟨nb, 0, none⟩) n n), (13, I s), (14, I (j : Int)), (15, I (t : Int)), (16, I (i : Int)), (17, Pt sb 0), (18, I (k : Int)), (156, .bool (ec != 0))] a' ∧ w'.heap = v.heap ∧ w'.os = v.os ∧ w'.output = v.output) a v := by
  obtain ⟨hsz, hd, hp⟩ := hA
  obtain ⟨u, rfl, hg⟩ := litN hsz hd
  have u1 := (hg 1).symm.trans (hp (1, .slice (some ⟨b, o, none⟩) n cap) (by simp))
  have u7 := (hg 7).symm.trans (hp (7, Pt wb 0) (by simp))
  have u8 := (hg 8).symm.trans (hp (8, .slice (some ⟨M, 0, none⟩) n n) (by simp))
  have u9 := (hg 9).symm.trans (hp (9, I 0) (by simp))
  have u10 := (hg 10).symm.trans (hp (10, .slice p T ct) (by simp))
  have u11 := (hg 11).symm.trans (hp (11, .slice wq wn wc) (by simp))
  have u12 := (hg 12).symm.trans (hp (12, .slice (some ⟨nb, 0, none⟩) n n) (by simp))
  have u13 := (hg 13).symm.trans (hp (13, I s) (by simp))
  have u14 := (hg 14).symm.trans (hp (14, I (j : Int)) (by simp))
  have u15 := (hg 15).symm.trans (hp (15, I (t : Int)) (by simp))
  have u16 := (hg 16).symm.trans (hp (16, I (i : Int)) (by simp))
  have u17 := (hg 17).symm.trans (hp (17, Pt sb 0) (by simp))
  have u18 := (hg 18).symm.trans (hp (18, I (k : Int)) (by simp))
  clear hg hp hsz hd
  have ht' : (t : Int) < (n : Int) := by omega
  have ht2 : ¬ n ≤ t := by omega
  have hk' : (k : Int) < (lt : Int) := by omega
  have hk2 : ¬ lt ≤ k := by omega
  subst h1
  have f1 : (po == 2) = false := by simp [h2]
  unfold n25 OB O22 OI OA OL LB7 Try.f7 seq2 seq1 blockC loopC
  simp only [Option.getD_some, lits, Nat.reduceAdd, u1, u7, u8, u9, u10, u11, u12, u13, u14, u15, u16, u17, u18]
  clear u1 u7 u8 u9 u10 u11 u12 u13 u14 u15 u16 u17 u18
  go_wp2_with fail
  first | refine ⟨?_, rfl, rfl, rfl⟩ | refine ⟨?_, rfl, rfl⟩ | refine ⟨?_, rfl⟩ | skip
  exact ⟨rfl, rfl, by
   intro p hp
   simp only [List.mem_cons, List.not_mem_nil, or_false] at hp
   rcases hp with rfl | rfl | rfl | rfl | rfl | rfl | rfl | rfl | rfl | rfl | rfl | rfl | rfl | rfl <;> first | rfl | exact congrArg I (by omega) | exact congrArg Value.bool (by simp)⟩

set_option maxHeartbeats 4000000 in
set_option maxRecDepth 100000 in
theorem n25_wpc {v : World} {a : Act} {sb nb b o n cap M wb T ct wn wc : Nat} {p wq : Option Addr} {s : Int} {i j t k : Nat} {lt ct2 rb ro A : Nat} {x ec po : Int} {g : Nat} {L : List Stp} (ht : t < n) (hk : k < lt) (c1 : v.cell? ⟨b, o + t, none⟩ = some (.slice (some ⟨rb, ro, none⟩) lt ct2)) (d1 : v.cell? ⟨M, t, none⟩ = some (.slice (some ⟨A, 0, none⟩) lt lt)) (d2 : v.cell? ⟨A, k * 2 + 1, none⟩ = some (I x)) (d3 : v.cell? ⟨A, k * 2, none⟩ = some (I ec)) (c2 : v.cell? ⟨rb, ro + k * 4, none⟩ = some (I po)) (h1 : x = -1) (h2 : po = 2) (hT : L.length = T) (hTs : T ≤ 400000) (hp : 0 < T → p = some ⟨g, 0, none⟩) (hL : TrL g L v) (hA : Fl 228 [(1, .slice (some ⟨b, o, none⟩) n cap), (7, Pt wb 0), (8, .slice (some ⟨M, 0, none⟩) n n), (9, I 0), (10, .slice p T ct), (11, .slice wq wn wc), (12, .slice (some ⟨nb, 0, none⟩) n n), (13, I s), (14, I (j : Int)), (15, I (t : Int)), (16, I (i : Int)), (17, Pt sb 0), (18, I (k : Int))] a) :
    n25.wp Try.prog (fun e' a' w' => e' = .normal ∧ Fl 228 [(1, .slice (some ⟨b, o, none⟩) n cap), (7, Pt wb 0), (8, .slice (some ⟨M, 0, none⟩) n n), (9, I 0), (10, .slice p T ct), (11, .slice wq wn wc), (12, .slice (some ⟨nb, 0, none⟩) n n), (13, I s), (14, I (j : Int)), (15, I (t : Int)), (16, I (i : Int)), (17, Pt sb 0), (18, I (k : Int)), (156, .bool (!(mst t k L == 2) || (ec != 0)))] a' ∧ w'.heap = v.heap ∧ w'.os = v.os ∧ w'.output = v.output) a v := by
  have H9 : Hid (∀ u : World, SamW v u → Calls Try.prog 35 #[.slice p T ct, I (t : Int), I (k : Int)] u (fun e w' => e = .returned (.bool (mst t k L == 2)) ∧ SamW v w')) := ⟨fun u hu => by
    have hL' : TrL g L u := fun k s hs => by
      rw [samW_cell hu, samW_cell hu, samW_cell hu, samW_cell hu, samW_cell hu]
      exact hL k s hs
    refine ((body33 hT hTs hp hL' t k).calls Try.func35 rfl).mono ?_
    rintro e w' ⟨_, rfl, rfl, k1, k2, k3⟩
    exact ⟨rfl, k1.trans hu.1, k2.trans hu.2.1, k3.trans hu.2.2⟩⟩
  clear hT hTs hp hL
  subst h1 h2
  have HC : Hid (∀ u : World, SamW v u → u.cell? ⟨M, t, none⟩ = some (.slice (some ⟨A, 0, none⟩) lt lt) ∧ u.cell? ⟨A, k * 2, none⟩ = some (I ec)) := ⟨fun u hu => by rw [samW_cell hu, samW_cell hu]; exact ⟨d1, d3⟩⟩
  obtain ⟨hsz, hd, hp⟩ := hA
  obtain ⟨u, rfl, hg⟩ := litN hsz hd
  have u1 := (hg 1).symm.trans (hp (1, .slice (some ⟨b, o, none⟩) n cap) (by simp))
  have u7 := (hg 7).symm.trans (hp (7, Pt wb 0) (by simp))
  have u8 := (hg 8).symm.trans (hp (8, .slice (some ⟨M, 0, none⟩) n n) (by simp))
  have u9 := (hg 9).symm.trans (hp (9, I 0) (by simp))
  have u10 := (hg 10).symm.trans (hp (10, .slice p T ct) (by simp))
  have u11 := (hg 11).symm.trans (hp (11, .slice wq wn wc) (by simp))
  have u12 := (hg 12).symm.trans (hp (12, .slice (some ⟨nb, 0, none⟩) n n) (by simp))
  have u13 := (hg 13).symm.trans (hp (13, I s) (by simp))
  have u14 := (hg 14).symm.trans (hp (14, I (j : Int)) (by simp))
  have u15 := (hg 15).symm.trans (hp (15, I (t : Int)) (by simp))
  have u16 := (hg 16).symm.trans (hp (16, I (i : Int)) (by simp))
  have u17 := (hg 17).symm.trans (hp (17, Pt sb 0) (by simp))
  have u18 := (hg 18).symm.trans (hp (18, I (k : Int)) (by simp))
  clear hg hp hsz hd
  have ht' : (t : Int) < (n : Int) := by omega
  have ht2 : ¬ n ≤ t := by omega
  have hk' : (k : Int) < (lt : Int) := by omega
  have hk2 : ¬ lt ≤ k := by omega
  unfold n25 OB O22 OI OA OL LB7 Try.f7 seq2 seq1 blockC loopC
  simp only [Option.getD_some, lits, Nat.reduceAdd, u1, u7, u8, u9, u10, u11, u12, u13, u14, u15, u16, u17, u18]
  clear u1 u7 u8 u9 u10 u11 u12 u13 u14 u15 u16 u17 u18
  generalize hB : (mst t k L == 2) = B at H9 ⊢
  clear hB
  cases B
  all_goals
    go_wp2_with (first
      | (go_at_call 35; refine (H9.out _ ⟨rfl, rfl, rfl⟩).mono ?_; rintro e w5 ⟨rfl, hsam⟩; obtain ⟨k1, k3⟩ := HC.out _ hsam))
    first | refine ⟨?_, hsam.1, hsam.2.1, hsam.2.2⟩ | refine ⟨rfl, ?_, hsam.1, hsam.2.1, hsam.2.2⟩
    exact ⟨rfl, rfl, by
   intro p hp
   simp only [List.mem_cons, List.not_mem_nil, or_false] at hp
   rcases hp with rfl | rfl | rfl | rfl | rfl | rfl | rfl | rfl | rfl | rfl | rfl | rfl | rfl | rfl <;> first | rfl | exact congrArg I (by omega) | exact congrArg Value.bool (by simp)⟩

set_option maxHeartbeats 4000000 in
set_option maxRecDepth 100000 in
theorem n26_wp {v : World} {a : Act} {sb nb b o n cap M wb T ct wn wc : Nat} {p wq : Option Addr} {s : Int} {i j t k : Nat} (h9 : wrap64 ((k : Int) + 1) = ((k + 1 : Nat) : Int)) (hA : Fl 228 [(1, .slice (some ⟨b, o, none⟩) n cap), (7, Pt wb 0), (8, .slice (some ⟨M, 0, none⟩) n n), (9, I 0), (10, .slice p T ct), (11, .slice wq wn wc), (12, .slice (some ⟨nb, 0, none⟩) n n), (13, I s), (14, I (j : Int)), (15, I (t : Int)), (16, I (i : Int)), (17, Pt sb 0), (18, I (k : Int))] a) : n26.wp Try.prog (fun e a' w' => e = .normal ∧ Fl 228 [(1, .slice (some ⟨b, o, none⟩) n cap), (7, Pt wb 0), (8, .slice (some ⟨M, 0, none⟩) n n), (9, I 0), (10, .slice p T ct), (11, .slice wq wn wc), (12, .slice (some ⟨nb, 0, none⟩) n n), (13, I s), (14, I (j : Int)), (15, I (t : Int)), (16, I (i : Int)), (17, Pt sb 0), (18, I ((k + 1 : Nat) : Int))] a' ∧ w'.heap = v.heap ∧ w'.os = v.os ∧ w'.output = v.output) a v := by
  obtain ⟨hsz, hd, hp⟩ := hA
  obtain ⟨u, rfl, hg⟩ := litN hsz hd
  have u1 := (hg 1).symm.trans (hp (1, .slice (some ⟨b, o, none⟩) n cap) (by simp))
  have u7 := (hg 7).symm.trans (hp (7, Pt wb 0) (by simp))
  have u8 := (hg 8).symm.trans (hp (8, .slice (some ⟨M, 0, none⟩) n n) (by simp))
  have u9 := (hg 9).symm.trans (hp (9, I 0) (by simp))
  have u10 := (hg 10).symm.trans (hp (10, .slice p T ct) (by simp))
  have u11 := (hg 11).symm.trans (hp (11, .slice wq wn wc) (by simp))
  have u12 := (hg 12).symm.trans (hp (12, .slice (some ⟨nb, 0, none⟩) n n) (by simp))
  have u13 := (hg 13).symm.trans (hp (13, I s) (by simp))
  have u14 := (hg 14).symm.trans (hp (14, I (j : Int)) (by simp))
  have u15 := (hg 15).symm.trans (hp (15, I (t : Int)) (by simp))
  have u16 := (hg 16).symm.trans (hp (16, I (i : Int)) (by simp))
  have u17 := (hg 17).symm.trans (hp (17, Pt sb 0) (by simp))
  have u18 := (hg 18).symm.trans (hp (18, I (k : Int)) (by simp))
  clear hg hp hsz hd
  unfold n26 OB O22 OI OA OL LB7 Try.f7 seq2 seq1 blockC loopC
  simp only [Option.getD_some, lits, Nat.reduceAdd, u1, u7, u8, u9, u10, u11, u12, u13, u14, u15, u16, u17, u18]
  clear u1 u7 u8 u9 u10 u11 u12 u13 u14 u15 u16 u17 u18
  go_wp2_with fail
  first | refine ⟨?_, rfl, rfl, rfl⟩ | refine ⟨?_, rfl, rfl⟩ | refine ⟨?_, rfl⟩ | skip
  exact ⟨rfl, rfl, by
   intro p hp
   simp only [List.mem_cons, List.not_mem_nil, or_false] at hp
   rcases hp with rfl | rfl | rfl | rfl | rfl | rfl | rfl | rfl | rfl | rfl | rfl | rfl | rfl <;> first | rfl | exact congrArg I (by omega) | exact congrArg Value.bool (by simp)⟩

set_option maxHeartbeats 4000000 in
set_option maxRecDepth 100000 in
theorem n27_wp {v : World} {a : Act} {sb nb b o n cap M wb T ct wn wc : Nat} {p wq : Option Addr} {s : Int} {i j t k : Nat} {lt ct2 rb ro A : Nat} {ca : Int} (ht : t < n) (hk : k < lt) (c1 : v.cell? ⟨b, o + t, none⟩ = some (.slice (some ⟨rb, ro, none⟩) lt ct2)) (d1 : v.cell? ⟨M, t, none⟩ = some (.slice (some ⟨A, 0, none⟩) lt lt)) (d2 : v.cell? ⟨A, k * 2 + 1, none⟩ = some (I s)) (c2 : v.cell? ⟨rb, ro + k * 4 + 1, none⟩ = some (I ca)) (c4 : v.cell? ⟨sb, 4, none⟩ = some (I (wrap64 (s + ca)))) (hA : Fl 228 [(1, .slice (some ⟨b, o, none⟩) n cap), (7, Pt wb 0), (8, .slice (some ⟨M, 0, none⟩) n n), (9, I 0), (10, .slice p T ct), (11, .slice wq wn wc), (12, .slice (some ⟨nb, 0, none⟩) n n), (13, I s), (14, I (j : Int)), (15, I (t : Int)), (16, I (i : Int)), (17, Pt sb 0), (18, I (k : Int))] a) : n27.wp Try.prog (fun e a' w' => e = .normal ∧ Fl 228 [(1, .slice (some ⟨b, o, none⟩) n cap), (7, Pt wb 0), (8, .slice (some ⟨M, 0, none⟩) n n), (9, I 0), (10, .slice p T ct), (11, .slice wq wn wc), (12, .slice (some ⟨nb, 0, none⟩) n n), (13, I s), (14, I (j : Int)), (15, I (t : Int)), (16, I (i : Int)), (17, Pt sb 0), (18, I (k : Int)), (201, .bool false)] a' ∧ w'.heap = v.heap ∧ w'.os = v.os ∧ w'.output = v.output) a v := by
  obtain ⟨hsz, hd, hp⟩ := hA
  obtain ⟨u, rfl, hg⟩ := litN hsz hd
  have u1 := (hg 1).symm.trans (hp (1, .slice (some ⟨b, o, none⟩) n cap) (by simp))
  have u7 := (hg 7).symm.trans (hp (7, Pt wb 0) (by simp))
  have u8 := (hg 8).symm.trans (hp (8, .slice (some ⟨M, 0, none⟩) n n) (by simp))
  have u9 := (hg 9).symm.trans (hp (9, I 0) (by simp))
  have u10 := (hg 10).symm.trans (hp (10, .slice p T ct) (by simp))
  have u11 := (hg 11).symm.trans (hp (11, .slice wq wn wc) (by simp))
  have u12 := (hg 12).symm.trans (hp (12, .slice (some ⟨nb, 0, none⟩) n n) (by simp))
  have u13 := (hg 13).symm.trans (hp (13, I s) (by simp))
  have u14 := (hg 14).symm.trans (hp (14, I (j : Int)) (by simp))
  have u15 := (hg 15).symm.trans (hp (15, I (t : Int)) (by simp))
  have u16 := (hg 16).symm.trans (hp (16, I (i : Int)) (by simp))
  have u17 := (hg 17).symm.trans (hp (17, Pt sb 0) (by simp))
  have u18 := (hg 18).symm.trans (hp (18, I (k : Int)) (by simp))
  clear hg hp hsz hd
  have ht' : (t : Int) < (n : Int) := by omega
  have ht2 : ¬ n ≤ t := by omega
  have hk' : (k : Int) < (lt : Int) := by omega
  have hk2 : ¬ lt ≤ k := by omega
  have hk3 : ¬ ((k : Int) ≥ (lt : Int)) := by omega
  unfold n27 O27 O22 OI OA OL LB7 Try.f7 seq2 seq1 blockC loopC
  simp only [Option.getD_some, lits, Nat.reduceAdd, u1, u7, u8, u9, u10, u11, u12, u13, u14, u15, u16, u17, u18]
  clear u1 u7 u8 u9 u10 u11 u12 u13 u14 u15 u16 u17 u18
  go_wp2_with fail
  go_quiet (fail)
  go_wp2_with fail
  first | refine ⟨?_, rfl, rfl, rfl⟩ | refine ⟨?_, rfl, rfl⟩ | refine ⟨?_, rfl⟩ | skip
  exact ⟨rfl, rfl, by
   intro p hp
   simp only [List.mem_cons, List.not_mem_nil, or_false] at hp
   rcases hp with rfl | rfl | rfl | rfl | rfl | rfl | rfl | rfl | rfl | rfl | rfl | rfl | rfl | rfl <;> first | rfl | exact congrArg I (by omega) | exact congrArg Value.bool (by simp)⟩

set_option maxHeartbeats 4000000 in
set_option maxRecDepth 100000 in
theorem n29_wp {v : World} {a : Act} {sb nb b o n cap M wb T ct wn wc : Nat} {p wq : Option Addr} {s : Int} {i j t k : Nat} {x : Int} (ht : t < n) (c0 : v.cell? ⟨nb, t, none⟩ = some (I x)) (f0 : v.frozen? ⟨nb, t, none⟩ = false) (h9 : wrap64 ((k : Int) + 1) = ((k + 1 : Nat) : Int)) (hA : Fl 228 [(1, .slice (some ⟨b, o, none⟩) n cap), (7, Pt wb 0), (8, .slice (some ⟨M, 0, none⟩) n n), (9, I 0), (10, .slice p T ct), (11, .slice wq wn wc), (12, .slice (some ⟨nb, 0, none⟩) n n), (13, I s), (14, I (j : Int)), (15, I (t : Int)), (16, I (i : Int)), (17, Pt sb 0), (18, I (k : Int))] a) : n29.wp Try.prog (fun e a' w' => e = .normal ∧ Fl 228 [(1, .slice (some ⟨b, o, none⟩) n cap), (7, Pt wb 0), (8, .slice (some ⟨M, 0, none⟩) n n), (9, I 0), (10, .slice p T ct), (11, .slice wq wn wc), (12, .slice (some ⟨nb, 0, none⟩) n n), (13, I s), (14, I (j : Int)), (15, I (t : Int)), (16, I (i : Int)), (17, Pt sb 0)] a' ∧ w'.heap = (v.setCell ⟨nb, t, none⟩ (I ((k + 1 : Nat) : Int))).heap ∧ w'.os = v.os ∧ w'.output = v.output) a v := by
  obtain ⟨hsz, hd, hp⟩ := hA
  obtain ⟨u, rfl, hg⟩ := litN hsz hd
  have u1 := (hg 1).symm.trans (hp (1, .slice (some ⟨b, o, none⟩) n cap) (by simp))
  have u7 := (hg 7).symm.trans (hp (7, Pt wb 0) (by simp))
  have u8 := (hg 8).symm.trans (hp (8, .slice (some ⟨M, 0, none⟩) n n) (by simp))
  have u9 := (hg 9).symm.trans (hp (9, I 0) (by simp))
  have u10 := (hg 10).symm.trans (hp (10, .slice p T ct) (by simp))
  have u11 := (hg 11).symm.trans (hp (11, .slice wq wn wc) (by simp))
  have u12 := (hg 12).symm.trans (hp (12, .slice (some ⟨nb, 0, none⟩) n n) (by simp))
  have u13 := (hg 13).symm.trans (hp (13, I s) (by simp))
  have u14 := (hg 14).symm.trans (hp (14, I (j : Int)) (by simp))
  have u15 := (hg 15).symm.trans (hp (15, I (t : Int)) (by simp))
  have u16 := (hg 16).symm.trans (hp (16, I (i : Int)) (by simp))
  have u17 := (hg 17).symm.trans (hp (17, Pt sb 0) (by simp))
  have u18 := (hg 18).symm.trans (hp (18, I (k : Int)) (by simp))
  clear hg hp hsz hd
  have ht' : (t : Int) < (n : Int) := by omega
  have ht2 : ¬ n ≤ t := by omega
  unfold n29 O27 O22 OI OA OL LB7 Try.f7 seq2 seq1 blockC loopC
  simp only [Option.getD_some, lits, Nat.reduceAdd, u1, u7, u8, u9, u10, u11, u12, u13, u14, u15, u16, u17, u18]
  clear u1 u7 u8 u9 u10 u11 u12 u13 u14 u15 u16 u17 u18
  go_wp2_with fail
  first | refine ⟨?_, rfl, rfl, rfl⟩ | refine ⟨?_, rfl, rfl⟩ | refine ⟨?_, rfl⟩ | skip
  exact ⟨rfl, rfl, by
   intro p hp
   simp only [List.mem_cons, List.not_mem_nil, or_false] at hp
   rcases hp with rfl | rfl | rfl | rfl | rfl | rfl | rfl | rfl | rfl | rfl | rfl | rfl <;> first | rfl | exact congrArg I (by omega) | exact congrArg Value.bool (by simp)⟩

set_option maxHeartbeats 4000000 in
set_option maxRecDepth 100000 in
theorem n30_wp {v : World} {a : Act} {sb nb b o n cap M wb T ct wn wc : Nat} {p wq : Option Addr} {s op : Int} {i j : Nat} {ne : Int} (c4 : v.cell? ⟨sb, 4, none⟩ = some (I ne)) (hA : Fl 228 [(1, .slice (some ⟨b, o, none⟩) n cap), (7, Pt wb 0), (8, .slice (some ⟨M, 0, none⟩) n n), (9, I 0), (10, .slice p T ct), (11, .slice wq wn wc), (12, .slice (some ⟨nb, 0, none⟩) n n), (13, I s), (14, I (j : Int)), (15, I op), (16, I (i : Int)), (17, Pt sb 0)] a) : n30.wp Try.prog (fun e a' w' => e = .normal ∧ Fl 228 [(1, .slice (some ⟨b, o, none⟩) n cap), (7, Pt wb 0), (8, .slice (some ⟨M, 0, none⟩) n n), (9, I 0), (10, .slice p T ct), (11, .slice wq wn wc), (12, .slice (some ⟨nb, 0, none⟩) n n), (13, I ne), (14, I (j : Int)), (15, I op), (16, I (i : Int)), (17, Pt sb 0)] a' ∧ w'.heap = v.heap ∧ w'.os = v.os ∧ w'.output = v.output) a v := by
  obtain ⟨hsz, hd, hp⟩ := hA
  obtain ⟨u, rfl, hg⟩ := litN hsz hd
  have u1 := (hg 1).symm.trans (hp (1, .slice (some ⟨b, o, none⟩) n cap) (by simp))
  have u7 := (hg 7).symm.trans (hp (7, Pt wb 0) (by simp))
  have u8 := (hg 8).symm.trans (hp (8, .slice (some ⟨M, 0, none⟩) n n) (by simp))
  have u9 := (hg 9).symm.trans (hp (9, I 0) (by simp))
  have u10 := (hg 10).symm.trans (hp (10, .slice p T ct) (by simp))
  have u11 := (hg 11).symm.trans (hp (11, .slice wq wn wc) (by simp))
  have u12 := (hg 12).symm.trans (hp (12, .slice (some ⟨nb, 0, none⟩) n n) (by simp))
  have u13 := (hg 13).symm.trans (hp (13, I s) (by simp))
  have u14 := (hg 14).symm.trans (hp (14, I (j : Int)) (by simp))
  have u15 := (hg 15).symm.trans (hp (15, I op) (by simp))
  have u16 := (hg 16).symm.trans (hp (16, I (i : Int)) (by simp))
  have u17 := (hg 17).symm.trans (hp (17, Pt sb 0) (by simp))
  clear hg hp hsz hd
  unfold n30 O27 O22 OI OA OL LB7 Try.f7 seq2 seq1 blockC loopC
  simp only [Option.getD_some, lits, Nat.reduceAdd, u1, u7, u8, u9, u10, u11, u12, u13, u14, u15, u16, u17]
  clear u1 u7 u8 u9 u10 u11 u12 u13 u14 u15 u16 u17
  go_wp2_with fail
  first | refine ⟨?_, rfl, rfl, rfl⟩ | refine ⟨?_, rfl, rfl⟩ | refine ⟨?_, rfl⟩ | skip
  exact ⟨rfl, rfl, by
   intro p hp
   simp only [List.mem_cons, List.not_mem_nil, or_false] at hp
   rcases hp with rfl | rfl | rfl | rfl | rfl | rfl | rfl | rfl | rfl | rfl | rfl | rfl <;> first | rfl | exact congrArg I (by omega) | exact congrArg Value.bool (by simp)⟩

set_option maxHeartbeats 4000000 in
set_option maxRecDepth 100000 in
theorem n31_wp {v : World} {a : Act} {sb nb b o n cap M wb T ct wn wc : Nat} {p wq : Option Addr} {s op : Int} {i j : Nat} (h9 : wrap64 ((j : Int) + 1) = ((j + 1 : Nat) : Int)) (hA : Fl 228 [(1, .slice (some ⟨b, o, none⟩) n cap), (7, Pt wb 0), (8, .slice (some ⟨M, 0, none⟩) n n), (9, I 0), (10, .slice p T ct), (11, .slice wq wn wc), (12, .slice (some ⟨nb, 0, none⟩) n n), (13, I s), (14, I (j : Int)), (15, I op), (16, I (i : Int)), (17, Pt sb 0)] a) : n31.wp Try.prog (fun e a' w' => e = .normal ∧ Fl 228 [(1, .slice (some ⟨b, o, none⟩) n cap), (7, Pt wb 0), (8, .slice (some ⟨M, 0, none⟩) n n), (9, I 0), (10, .slice p T ct), (11, .slice wq wn wc), (12, .slice (some ⟨nb, 0, none⟩) n n), (13, I s), (14, I ((j + 1 : Nat) : Int)), (15, I op), (16, I (i : Int)), (17, Pt sb 0)] a' ∧ w'.heap = v.heap ∧ w'.os = v.os ∧ w'.output = v.output) a v := by
  obtain ⟨hsz, hd, hp⟩ := hA
  obtain ⟨u, rfl, hg⟩ := litN hsz hd
  have u1 := (hg 1).symm.trans (hp (1, .slice (some ⟨b, o, none⟩) n cap) (by simp))
  have u7 := (hg 7).symm.trans (hp (7, Pt wb 0) (by simp))
  have u8 := (hg 8).symm.trans (hp (8, .slice (some ⟨M, 0, none⟩) n n) (by simp))
  have u9 := (hg 9).symm.trans (hp (9, I 0) (by simp))
  have u10 := (hg 10).symm.trans (hp (10, .slice p T ct) (by simp))
  have u11 := (hg 11).symm.trans (hp (11, .slice wq wn wc) (by simp))
  have u12 := (hg 12).symm.trans (hp (12, .slice (some ⟨nb, 0, none⟩) n n) (by simp))
  have u13 := (hg 13).symm.trans (hp (13, I s) (by simp))
  have u14 := (hg 14).symm.trans (hp (14, I (j : Int)) (by simp))
  have u15 := (hg 15).symm.trans (hp (15, I op) (by simp))
  have u16 := (hg 16).symm.trans (hp (16, I (i : Int)) (by simp))
  have u17 := (hg 17).symm.trans (hp (17, Pt sb 0) (by simp))
  clear hg hp hsz hd
  unfold n31 O27 O22 OI OA OL LB7 Try.f7 seq2 seq1 blockC loopC
  simp only [Option.getD_some, lits, Nat.reduceAdd, u1, u7, u8, u9, u10, u11, u12, u13, u14, u15, u16, u17]
  clear u1 u7 u8 u9 u10 u11 u12 u13 u14 u15 u16 u17
  go_wp2_with fail
  first | refine ⟨?_, rfl, rfl, rfl⟩ | refine ⟨?_, rfl, rfl⟩ | refine ⟨?_, rfl⟩ | skip
  exact ⟨rfl, rfl, by
   intro p hp
   simp only [List.mem_cons, List.not_mem_nil, or_false] at hp
   rcases hp with rfl | rfl | rfl | rfl | rfl | rfl | rfl | rfl | rfl | rfl | rfl | rfl <;> first | rfl | exact congrArg I (by omega) | exact congrArg Value.bool (by simp)⟩

set_option maxHeartbeats 4000000 in
set_option maxRecDepth 100000 in
theorem n32_wp {v : World} {a : Act} {sb nb b o n cap M wb T ct wn wc : Nat} {p wq : Option Addr} {s op : Int} {i j : Nat}  (hA : Fl 228 [(1, .slice (some ⟨b, o, none⟩) n cap), (7, Pt wb 0), (8, .slice (some ⟨M, 0, none⟩) n n), (9, I 0), (10, .slice p T ct), (11, .slice wq wn wc), (12, .slice (some ⟨nb, 0, none⟩) n n), (13, I s), (14, I (j : Int)), (15, I op), (16, I (i : Int)), (17, Pt sb 0)] a) : n32.wp Try.prog (fun e a' w' => e = .normal ∧ Fl 228 [(1, .slice (some ⟨b, o, none⟩) n cap), (7, Pt wb 0), (8, .slice (some ⟨M, 0, none⟩) n n), (9, I 0), (10, .slice p T ct), (11, .slice wq wn wc), (12, .slice (some ⟨nb, 0, none⟩) n n), (13, I s), (14, I (j : Int)), (15, I (-1)), (16, I (i : Int))] a' ∧ w'.heap = v.heap ∧ w'.os = v.os ∧ w'.output = v.output) a v := by
  obtain ⟨hsz, hd, hp⟩ := hA
  obtain ⟨u, rfl, hg⟩ := litN hsz hd
  have u1 := (hg 1).symm.trans (hp (1, .slice (some ⟨b, o, none⟩) n cap) (by simp))
  have u7 := (hg 7).symm.trans (hp (7, Pt wb 0) (by simp))
  have u8 := (hg 8).symm.trans (hp (8, .slice (some ⟨M, 0, none⟩) n n) (by simp))
  have u9 := (hg 9).symm.trans (hp (9, I 0) (by simp))
  have u10 := (hg 10).symm.trans (hp (10, .slice p T ct) (by simp))
  have u11 := (hg 11).symm.trans (hp (11, .slice wq wn wc) (by simp))
  have u12 := (hg 12).symm.trans (hp (12, .slice (some ⟨nb, 0, none⟩) n n) (by simp))
  have u13 := (hg 13).symm.trans (hp (13, I s) (by simp))
  have u14 := (hg 14).symm.trans (hp (14, I (j : Int)) (by simp))
  have u15 := (hg 15).symm.trans (hp (15, I op) (by simp))
  have u16 := (hg 16).symm.trans (hp (16, I (i : Int)) (by simp))
  have u17 := (hg 17).symm.trans (hp (17, Pt sb 0) (by simp))
  clear hg hp hsz hd
  unfold n32 O27 O22 OI OA OL LB7 Try.f7 seq2 seq1 blockC loopC
  simp only [Option.getD_some, lits, Nat.reduceAdd, u1, u7, u8, u9, u10, u11, u12, u13, u14, u15, u16, u17]
  clear u1 u7 u8 u9 u10 u11 u12 u13 u14 u15 u16 u17
  go_wp2_with fail
  first | refine ⟨?_, rfl, rfl, rfl⟩ | refine ⟨?_, rfl, rfl⟩ | refine ⟨?_, rfl⟩ | skip
  exact ⟨rfl, rfl, by
   intro p hp
   simp only [List.mem_cons, List.not_mem_nil, or_false] at hp
   rcases hp with rfl | rfl | rfl | rfl | rfl | rfl | rfl | rfl | rfl | rfl | rfl <;> first | rfl | exact congrArg I (by omega) | exact congrArg Value.bool (by simp)⟩

set_option maxHeartbeats 4000000 in
set_option maxRecDepth 100000 in
theorem n33_wp {v : World} {a : Act} {nb b o n cap M T ct wn wc : Nat} {p wq : Option Addr} {s : Int} {S : TS} {z : Nat → Option Nat} (hR : Rep z S v) (hst : S.stk = false) (hA : Fl 228 [(1, .slice (some ⟨b, o, none⟩) n cap), (7, Pt S.wb 0), (8, .slice (some ⟨M, 0, none⟩) n n), (9, I 0), (10, .slice p T ct), (11, .slice wq wn wc), (12, .slice (some ⟨nb, 0, none⟩) n n), (13, I s), (14, I (wn : Int)), (15, I (-1))] a) :
    n33.wp Try.prog (fun e' a' w' => e' = .ret ∧ Fl 228 [(4, .bool true)] a' ∧ w'.heap = v.heap ∧ w'.os = v.os ∧ w'.output = v.output) a v := by
  have H9 : Hid (∀ u : World, SamW v u → Calls Try.prog 36 #[Pt S.wb 0] u (fun e w' => e = .returned (.bool false) ∧ SamW v w')) := ⟨fun u hu => by
    refine ((body34 (hR.same hu.1)).calls Try.func36 rfl).mono ?_
    rintro e w' ⟨_, rfl, rfl, k1, k2, k3⟩
    exact ⟨by rw [hst], k1.trans hu.1, k2.trans hu.2.1, k3.trans hu.2.2⟩⟩
  clear hR hst
  obtain ⟨hsz, hd, hp⟩ := hA
  obtain ⟨u, rfl, hg⟩ := litN hsz hd
  have u1 := (hg 1).symm.trans (hp (1, .slice (some ⟨b, o, none⟩) n cap) (by simp))
  have u7 := (hg 7).symm.trans (hp (7, Pt S.wb 0) (by simp))
  have u8 := (hg 8).symm.trans (hp (8, .slice (some ⟨M, 0, none⟩) n n) (by simp))
  have u9 := (hg 9).symm.trans (hp (9, I 0) (by simp))
  have u10 := (hg 10).symm.trans (hp (10, .slice p T ct) (by simp))
  have u11 := (hg 11).symm.trans (hp (11, .slice wq wn wc) (by simp))
  have u12 := (hg 12).symm.trans (hp (12, .slice (some ⟨nb, 0, none⟩) n n) (by simp))
  have u13 := (hg 13).symm.trans (hp (13, I s) (by simp))
  have u14 := (hg 14).symm.trans (hp (14, I (wn : Int)) (by simp))
  have u15 := (hg 15).symm.trans (hp (15, I (-1)) (by simp))
  clear hg hp hsz hd
  unfold n33 LB7 Try.f7 seq2
  simp only [Option.getD_some, lits, Nat.reduceAdd, u1, u7, u8, u9, u10, u11, u12, u13, u14, u15]
  clear u1 u7 u8 u9 u10 u11 u12 u13 u14 u15
  go_wp2_with (first
    | (go_at_call 36; refine (H9.out _ ⟨rfl, rfl, rfl⟩).mono ?_; rintro e w5 ⟨rfl, hsam⟩))
  first | refine ⟨?_, hsam.1, hsam.2.1, hsam.2.2⟩ | refine ⟨rfl, ?_, hsam.1, hsam.2.1, hsam.2.2⟩
  exact ⟨rfl, rfl, by
   intro p hp
   simp only [List.mem_cons, List.not_mem_nil, or_false] at hp
   rcases hp with rfl <;> first | rfl | exact congrArg I (by omega) | exact congrArg Value.bool (by simp)⟩

theorem fine_n2 : fineCode Try.prog true LV n2 := fineCode_askS callV extT (by kernel_rfl)
theorem fine_n3 : fineCode Try.prog true LV n3 := fineCode_askS callV extT (by kernel_rfl)
theorem fine_T7 : fineCode Try.prog true LV T7 := fineCode_askS callV extT (by kernel_rfl)
end Go.Proofs.Ytfjjoohflcchnaa.Gen
