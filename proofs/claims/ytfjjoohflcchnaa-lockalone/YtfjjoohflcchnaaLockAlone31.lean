/- LockAlone: for every schedule and all scripts, what threads are told together under the lock is what one thread would be told that makes the calls in the order of the tickets; no conditions. Part 31 of 34. (Joined, by program, of: La8a.) -/
import Derived.Test.YtfjjoohflcchnaaLockAlone22
import Derived.Test.YtfjjoohflcchnaaLockAlone29
import Derived.Test.YtfjjoohflcchnaaLockAlone30
import Derived.BigQuiet
import Derived.BigRegion
import Derived.Deep.RegionHeld3
import Derived.Deep.RegionLaw
set_option linter.unusedSimpArgs false
set_option linter.unusedVariables false
namespace Go.Proofs.Ytfjjoohflcchnaa.Gen
open Go Go.Lift Go.Conc Go.RowKit

noncomputable def LB8 : Code := Try.f8.body.getD .skip
noncomputable def m2 : Code := seq1 (seq2 (seq2 LB8))
noncomputable def m3 : Code := seq1 (seq1 (seq2 (seq2 (seq2 LB8))))
noncomputable def m4 : Code := condA (seq2 (seq1 (seq2 (seq2 (seq2 LB8)))))
noncomputable def m5 : Code := seq1 (seq2 (seq2 (seq2 (seq2 LB8))))
noncomputable def m6 : Code := seq1 (seq2 (seq2 (seq2 (seq2 (seq2 LB8)))))
noncomputable def m7 : Code := seq1 (seq1 (seq2 (seq2 (seq2 (seq2 (seq2 (seq2 LB8)))))))
noncomputable def m8 : Code := condA (seq2 (seq1 (seq2 (seq2 (seq2 (seq2 (seq2 (seq2 LB8))))))))
noncomputable def m9 : Code := seq1 (seq2 (seq2 (seq2 (seq2 (seq2 (seq2 (seq2 LB8)))))))
noncomputable def m10 : Code := seq1 (seq2 (seq2 (seq2 (seq2 (seq2 (seq2 (seq2 (seq2 LB8))))))))
noncomputable def m11 : Code := seq1 (seq2 (seq2 (seq2 (seq2 (seq2 (seq2 (seq2 (seq2 (seq2 LB8)))))))))
noncomputable def m12 : Code := seq1 (seq2 (seq2 (seq2 (seq2 (seq2 (seq2 (seq2 (seq2 (seq2 (seq2 LB8))))))))))
noncomputable def ML : Code := seq1 (seq2 (seq2 (seq2 (seq2 (seq2 (seq2 (seq2 (seq2 (seq2 (seq2 (seq2 LB8)))))))))))
noncomputable def m26 : Code := (seq2 (seq2 (seq2 (seq2 (seq2 (seq2 (seq2 (seq2 (seq2 (seq2 (seq2 (seq2 LB8))))))))))))
noncomputable def m13 : Code := seq1 ML
noncomputable def MA : Code := loopC (blockC (seq2 ML))
noncomputable def m14 : Code := seq1 (seq1 MA)
noncomputable def m15 : Code := seq2 (seq2 MA)
noncomputable def MI : Code := blockC (seq1 (seq2 MA))
noncomputable def m16 : Code := seq1 MI
noncomputable def m17 : Code := seq1 (seq1 (seq2 MI))
noncomputable def m18 : Code := condA (seq2 (seq1 (seq2 MI)))
noncomputable def MB : Code := loopC (blockC (seq1 (seq2 (seq2 MI))))
noncomputable def m19 : Code := seq1 (seq1 MB)
noncomputable def m20 : Code := blockC (seq2 MB)
noncomputable def m21 : Code := seq1 (seq2 (seq2 (seq2 MI)))
noncomputable def m22 : Code := seq1 (seq1 (seq2 (seq2 (seq2 (seq2 MI)))))
noncomputable def m23 : Code := condA (seq2 (seq1 (seq2 (seq2 (seq2 (seq2 MI))))))
noncomputable def m24 : Code := seq1 (seq2 (seq2 (seq2 (seq2 (seq2 MI)))))
noncomputable def m25 : Code := seq2 (seq2 (seq2 (seq2 (seq2 (seq2 MI)))))
noncomputable def T8 : Code := .seq (.seq m7 (.cond (.tmp 43) m8 .skip)) (.seq m9 (.seq m10 (.seq m11 (.seq m12 (.seq (.seq m13 (.block 0 (.loop MA))) m26)))))
noncomputable def P8 : Code := .seq m2 (.seq (.seq m3 (.cond (.tmp 25) m4 .skip)) (.seq m5 (.seq m6 T8)))
theorem eLB8 : LB8 = .seq (seq1 LB8) (.seq (seq1 (seq2 LB8)) P8) := by kernel_rfl
theorem eMA : MA = .seq (.seq m14 (.cond (.tmp 54) .skip (.exit 0))) (.seq (.block 1 MI) m15) := by kernel_rfl
theorem eMI : MI = .seq m16 (.seq (.seq m17 (.cond (.tmp 68) m18 .skip)) (.seq (.block 2 (.loop (.seq (.seq m19 (.cond (.tmp 88) .skip (.exit 2))) (.block 3 m20)))) (.seq m21 (.seq (.seq m22 (.cond (.tmp 137) m23 .skip)) (.seq m24 m25))))) := by kernel_rfl
set_option maxHeartbeats 4000000 in
set_option maxRecDepth 100000 in
theorem m2_wp {v : World} {a : Act} {s0 : Value} (p : Option Addr) (n cap : Nat) (pc : Nat → Option Addr) (ln cp : Nat → Nat) (hs : ∀ k, k < n → ∃ sb so, p = some ⟨sb, so, none⟩ ∧ v.cell? ⟨sb, so + k, none⟩ = some (.slice (pc k) (ln k) (cp k))) (hn : n ≤ 17592186043904) (hA : Fl 154 [(0, s0), (1, .slice p n cap), (5, .bool true)] a) :
    m2.wp Try.prog (fun e a w' => e = .normal ∧ ∃ E, Fl 154 [(0, s0), (1, .slice p n cap), (5, .bool true), (6, I E)] a ∧ (Refused n ln E ∨ (E = 0 ∧ (∀ k, k < n → ln k ≤ 64) ∧ 0 < n ∧ n ≤ 8)) ∧ w'.heap = v.heap ∧ w'.os = v.os ∧ w'.output = v.output) a v := by
  have H7 : Hid (Calls Try.prog 32 #[.slice p n cap] v _) := ⟨(body30 p n cap pc ln cp hs hn).calls Try.func32 rfl⟩
  clear hs hn
  obtain ⟨hsz, hd, hp⟩ := hA
  obtain ⟨u, rfl, hg⟩ := litN hsz hd
  have u0 := (hg 0).symm.trans (hp (0, s0) (by simp))
  have u1 := (hg 1).symm.trans (hp (1, .slice p n cap) (by simp))
  have u5 := (hg 5).symm.trans (hp (5, .bool true) (by simp))
  clear hg hp hsz hd
  unfold m2 LB8 Try.f8 seq2 seq1
  simp only [Option.getD_some, lits, Nat.reduceAdd, u0, u1, u5]
  clear u0 u1 u5
  go_wp2_with (first
    | (go_at_call 32; refine H7.out.mono ?_; rintro e w1 ⟨_, rfl, E, rfl, hE, k1, k2, k3⟩))
  exact ⟨E, ⟨rfl, rfl, by
   intro p hp
   simp only [List.mem_cons, List.not_mem_nil, or_false] at hp
   rcases hp with rfl | rfl | rfl | rfl <;> first | rfl | exact congrArg I (by omega) | exact congrArg Value.bool (by simp)⟩, hE⟩

set_option maxHeartbeats 4000000 in
set_option maxRecDepth 100000 in
theorem m3_wp {v : World} {a : Act} {s0 : Value} {p : Option Addr} {n cap : Nat} {E : Int}  (hA : Fl 154 [(0, s0), (1, .slice p n cap), (5, .bool true), (6, I E)] a) : m3.wp Try.prog (fun e a' w' => e = .normal ∧ Fl 154 [(0, s0), (1, .slice p n cap), (5, .bool true), (25, .bool (E != 0))] a' ∧ w'.heap = v.heap ∧ w'.os = v.os ∧ w'.output = v.output) a v := by
  obtain ⟨hsz, hd, hp⟩ := hA
  obtain ⟨u, rfl, hg⟩ := litN hsz hd
  have u0 := (hg 0).symm.trans (hp (0, s0) (by simp))
  have u1 := (hg 1).symm.trans (hp (1, .slice p n cap) (by simp))
  have u5 := (hg 5).symm.trans (hp (5, .bool true) (by simp))
  have u6 := (hg 6).symm.trans (hp (6, I E) (by simp))
  clear hg hp hsz hd
  unfold m3 LB8 Try.f8 seq2 seq1
  simp only [Option.getD_some, lits, Nat.reduceAdd, u0, u1, u5, u6]
  clear u0 u1 u5 u6
  go_wp2_with fail
  first | refine ⟨?_, rfl, rfl, rfl⟩ | refine ⟨?_, rfl, rfl⟩ | refine ⟨?_, rfl⟩ | skip
  exact ⟨rfl, rfl, by
   intro p hp
   simp only [List.mem_cons, List.not_mem_nil, or_false] at hp
   rcases hp with rfl | rfl | rfl | rfl <;> first | rfl | exact congrArg I (by omega) | exact congrArg Value.bool (by simp)⟩

set_option maxHeartbeats 4000000 in
set_option maxRecDepth 100000 in
theorem m4_wp {v : World} {a : Act} {s0 : Value} {p : Option Addr} {n cap : Nat}  (hA : Fl 154 [(0, s0), (1, .slice p n cap), (5, .bool true)] a) : m4.wp Try.prog (fun e a' w' => e = .ret ∧ Fl 154 [(4, .bool true)] a' ∧ w'.heap = v.heap ∧ w'.os = v.os ∧ w'.output = v.output) a v := by
  obtain ⟨hsz, hd, hp⟩ := hA
  obtain ⟨u, rfl, hg⟩ := litN hsz hd
  have u0 := (hg 0).symm.trans (hp (0, s0) (by simp))
  have u1 := (hg 1).symm.trans (hp (1, .slice p n cap) (by simp))
  have u5 := (hg 5).symm.trans (hp (5, .bool true) (by simp))
  clear hg hp hsz hd
  unfold m4 LB8 Try.f8 seq2 seq1 condA
  simp only [Option.getD_some, lits, Nat.reduceAdd, u0, u1, u5]
  clear u0 u1 u5
  go_wp2_with fail
  first | refine ⟨?_, rfl, rfl, rfl⟩ | refine ⟨?_, rfl, rfl⟩ | refine ⟨?_, rfl⟩ | skip
  exact ⟨rfl, rfl, by
   intro p hp
   simp only [List.mem_cons, List.not_mem_nil, or_false] at hp
   rcases hp with rfl <;> first | rfl | exact congrArg I (by omega) | exact congrArg Value.bool (by simp)⟩

set_option maxHeartbeats 4000000 in
set_option maxRecDepth 100000 in
theorem m5_wp {v : World} {a : Act} {s1 : Value} (sp : Option Addr) (scap vb vo : Nat) (xs : List Int) (hp : 0 < xs.length → sp = some ⟨vb, vo, none⟩) (hx1 : xs.length ≤ 17592186043904) (hv : ∀ k x, xs[k]? = some x → v.cell? ⟨vb, vo + k, none⟩ = some (I x)) (hA : Fl 154 [(0, .slice sp xs.length scap), (1, s1), (5, .bool true)] a) :
    m5.wp Try.prog (fun e a w' => e = .normal ∧ ∃ wb bk sc, Fl 154 [(1, s1), (7, Pt wb 0)] a ∧ IsNew v xs wb bk sc w') a v := by
  have H7 : Hid (Calls Try.prog 18 #[.slice sp xs.length scap] v _) := ⟨(body7A sp vb vo scap xs hp hx1 hv).calls Try.func18 rfl⟩
  clear hp hx1 hv
  obtain ⟨hsz, hd, hp⟩ := hA
  obtain ⟨u, rfl, hg⟩ := litN hsz hd
  have u0 := (hg 0).symm.trans (hp (0, .slice sp xs.length scap) (by simp))
  have u1 := (hg 1).symm.trans (hp (1, s1) (by simp))
  have u5 := (hg 5).symm.trans (hp (5, .bool true) (by simp))
  clear hg hp hsz hd
  unfold m5 LB8 Try.f8 seq2 seq1
  simp only [Option.getD_some, lits, Nat.reduceAdd, u0, u1, u5]
  clear u0 u1 u5
  go_wp2_with (first
    | (go_at_call 18; refine H7.out.mono ?_; rintro e w1 ⟨_, rfl, wb, bk, sc, rfl, hnew⟩))
  exact ⟨wb, ⟨rfl, rfl, by
   intro p hp
   simp only [List.mem_cons, List.not_mem_nil, or_false] at hp
   rcases hp with rfl | rfl <;> first | rfl | exact congrArg I (by omega) | exact congrArg Value.bool (by simp)⟩, bk, sc, hnew⟩

set_option maxHeartbeats 4000000 in
set_option maxRecDepth 100000 in
theorem m7_wp {v : World} {a : Act} {b o n cap M wb : Nat}  (hA : Fl 154 [(1, .slice (some ⟨b, o, none⟩) n cap), (7, Pt wb 0), (8, .slice (some ⟨M, 0, none⟩) n n), (9, I 0)] a) : m7.wp Try.prog (fun e a' w' => e = .normal ∧ Fl 154 [(1, .slice (some ⟨b, o, none⟩) n cap), (7, Pt wb 0), (8, .slice (some ⟨M, 0, none⟩) n n), (43, .bool false)] a' ∧ w'.heap = v.heap ∧ w'.os = v.os ∧ w'.output = v.output) a v := by
  obtain ⟨hsz, hd, hp⟩ := hA
  obtain ⟨u, rfl, hg⟩ := litN hsz hd
  have u1 := (hg 1).symm.trans (hp (1, .slice (some ⟨b, o, none⟩) n cap) (by simp))
  have u7 := (hg 7).symm.trans (hp (7, Pt wb 0) (by simp))
  have u8 := (hg 8).symm.trans (hp (8, .slice (some ⟨M, 0, none⟩) n n) (by simp))
  have u9 := (hg 9).symm.trans (hp (9, I 0) (by simp))
  clear hg hp hsz hd
  unfold m7 LB8 Try.f8 seq2 seq1
  simp only [Option.getD_some, lits, Nat.reduceAdd, u1, u7, u8, u9]
  clear u1 u7 u8 u9
  go_wp2_with fail
  first | refine ⟨?_, rfl, rfl, rfl⟩ | refine ⟨?_, rfl, rfl⟩ | refine ⟨?_, rfl⟩ | skip
  exact ⟨rfl, rfl, by
   intro p hp
   simp only [List.mem_cons, List.not_mem_nil, or_false] at hp
   rcases hp with rfl | rfl | rfl | rfl <;> first | rfl | exact congrArg I (by omega) | exact congrArg Value.bool (by simp)⟩

set_option maxHeartbeats 4000000 in
set_option maxRecDepth 100000 in
theorem m9_wp {v : World} {a : Act} {b o n cap M : Nat} {S : TS} {z : Nat → Option Nat} (hR : Rep z S v) (hn : S.n * 40 ≤ 140737488355328) (h1 : ∀ u ∈ S.tr, u.oneCell' = true) (hA : Fl 154 [(1, .slice (some ⟨b, o, none⟩) n cap), (7, Pt S.wb 0), (8, .slice (some ⟨M, 0, none⟩) n n)] a) :
    m9.wp Try.prog (fun e a w' => e = .normal ∧ ∃ p g ct, Fl 154 [(1, .slice (some ⟨b, o, none⟩) n cap), (8, .slice (some ⟨M, 0, none⟩) n n), (10, .slice p S.n ct)] a ∧ (0 < S.n → p = some ⟨g, 0, none⟩ ∧ v.heap.size ≤ g) ∧ (∀ j u, S.tr[j]? = some u → w'.cell? ⟨g, j, none⟩ = some u) ∧ Grows v w') a v := by
  have H9 : Hid (Calls Try.prog 20 #[Pt S.wb 0] v _) := ⟨(body9A hR hn h1).calls Try.func20 rfl⟩
  clear hR hn h1
  obtain ⟨hsz, hd, hp⟩ := hA
  obtain ⟨u, rfl, hg⟩ := litN hsz hd
  have u1 := (hg 1).symm.trans (hp (1, .slice (some ⟨b, o, none⟩) n cap) (by simp))
  have u7 := (hg 7).symm.trans (hp (7, Pt S.wb 0) (by simp))
  have u8 := (hg 8).symm.trans (hp (8, .slice (some ⟨M, 0, none⟩) n n) (by simp))
  clear hg hp hsz hd
  unfold m9 LB8 Try.f8 seq2 seq1
  simp only [Option.getD_some, lits, Nat.reduceAdd, u1, u7, u8]
  clear u1 u7 u8
  go_wp2_with (first
    | (go_at_call 20; refine H9.out.mono ?_; rintro e w1 ⟨_, rfl, p, g, cap, rfl, k1, k2, k3⟩))
  exact ⟨p, ⟨cap, ⟨rfl, rfl, by
   intro p hp
   simp only [List.mem_cons, List.not_mem_nil, or_false] at hp
   rcases hp with rfl | rfl | rfl <;> first | rfl | exact congrArg I (by omega) | exact congrArg Value.bool (by simp)⟩⟩, g, k1, k2⟩

set_option maxHeartbeats 4000000 in
set_option maxRecDepth 100000 in
theorem m10_wp {v : World} {a : Act} {b o n cap M : Nat} {p : Option Addr} {g T ct : Nat} {L : List Stp} (hT : L.length = T) (hTs : T ≤ 400000) (hp : 0 < T → p = some ⟨g, 0, none⟩) (hL : TrL g L v) (hA : Fl 154 [(1, .slice (some ⟨b, o, none⟩) n cap), (8, .slice (some ⟨M, 0, none⟩) n n), (10, .slice p T ct)] a) :
    m10.wp Try.prog (fun e a w' => e = .normal ∧ ∃ r, Fl 154 [(1, .slice (some ⟨b, o, none⟩) n cap), (8, .slice (some ⟨M, 0, none⟩) n n), (10, .slice p T ct), (11, r)] a ∧ (∃ q c, r = .slice q (drw L).length c) ∧ w'.ownsRow v.heap.size 3 1 r (drw L).length ((drw L).map I) ∧ Grows v w') a v := by
  have H9 : Hid (Calls Try.prog 34 #[.slice p T ct] v _) := ⟨(body32 hT hTs hp hL).calls Try.func34 rfl⟩
  clear hT hTs hp hL
  obtain ⟨hsz, hd, hp⟩ := hA
  obtain ⟨u, rfl, hg⟩ := litN hsz hd
  have u1 := (hg 1).symm.trans (hp (1, .slice (some ⟨b, o, none⟩) n cap) (by simp))
  have u8 := (hg 8).symm.trans (hp (8, .slice (some ⟨M, 0, none⟩) n n) (by simp))
  have u10 := (hg 10).symm.trans (hp (10, .slice p T ct) (by simp))
  clear hg hp hsz hd
  unfold m10 LB8 Try.f8 seq2 seq1
  simp only [Option.getD_some, lits, Nat.reduceAdd, u1, u8, u10]
  clear u1 u8 u10
  go_wp2_with (first
    | (go_at_call 34; refine H9.out.mono ?_; rintro e w1 ⟨_, rfl, ⟨q, c, rfl⟩, k1, k2, k3, k4, k5⟩))
  exact ⟨_, ⟨rfl, rfl, by
   intro p hp
   simp only [List.mem_cons, List.not_mem_nil, or_false] at hp
   rcases hp with rfl | rfl | rfl | rfl <;> first | rfl | exact congrArg I (by omega) | exact congrArg Value.bool (by simp)⟩, ⟨q, c, rfl⟩, k1, ⟨k2, k3, k4, k5⟩⟩

theorem mkN (n : Nat) (h : n ≤ 8) (w : World) : (Instr.makeSlice 22 (.int .i64 (n : Int)) (.int .i64 (n : Int))).run Try.prog w = .ok (.slice (some ⟨w.heap.size, 0, none⟩) n n) (w.alloc (.cells (Array.replicate n (I 0)) 3)) := by
  obtain ⟨i, hq, hz, hs, hb⟩ := info_parts info3d
  have := run_make (P := Try.prog) w 22 3 i _ Try.underlying22 hq hz .i64 .i64 n n (by omega) (by omega) (by rw [hb]; omega) (by omega)
  rw [hs] at this
  rw [this]
  have hi : n = 0 ∨ n = 1 ∨ n = 2 ∨ n = 3 ∨ n = 4 ∨ n = 5 ∨ n = 6 ∨ n = 7 ∨ n = 8 := by omega
  have e : madeCells (I 0).cells ((n : Int).toNat * 1) = Array.replicate n (I 0) := by
    rcases hi with rfl | rfl | rfl | rfl | rfl | rfl | rfl | rfl | rfl <;> kernel_rfl
  rw [e]
  rfl
set_option maxHeartbeats 4000000 in
set_option maxRecDepth 100000 in
theorem m11_wp {v : World} {a : Act} {b o n cap M T ct wn wc : Nat} {p wp : Option Addr} (h8 : n ≤ 8) (hA : Fl 154 [(1, .slice (some ⟨b, o, none⟩) n cap), (8, .slice (some ⟨M, 0, none⟩) n n), (10, .slice p T ct), (11, .slice wp wn wc)] a) : m11.wp Try.prog (fun e a' w' => e = .normal ∧ Fl 154 [(1, .slice (some ⟨b, o, none⟩) n cap), (8, .slice (some ⟨M, 0, none⟩) n n), (10, .slice p T ct), (11, .slice wp wn wc), (12, .slice (some ⟨v.heap.size, 0, none⟩) n n)] a' ∧ w'.heap = v.heap.push (.cells (Array.replicate n (I 0)) 3) ∧ w'.os = v.os ∧ w'.output = v.output) a v := by
  obtain ⟨hsz, hd, hp⟩ := hA
  obtain ⟨u, rfl, hg⟩ := litN hsz hd
  have u1 := (hg 1).symm.trans (hp (1, .slice (some ⟨b, o, none⟩) n cap) (by simp))
  have u8 := (hg 8).symm.trans (hp (8, .slice (some ⟨M, 0, none⟩) n n) (by simp))
  have u10 := (hg 10).symm.trans (hp (10, .slice p T ct) (by simp))
  have u11 := (hg 11).symm.trans (hp (11, .slice wp wn wc) (by simp))
  clear hg hp hsz hd
  have hmk := mkN n h8
  clear h8
  unfold m11 LB8 Try.f8 seq2 seq1
  simp only [Option.getD_some, lits, Nat.reduceAdd, u1, u8, u10, u11]
  clear u1 u8 u10 u11
  go_wp2_with fail
  first | refine ⟨?_, rfl, rfl, rfl⟩ | refine ⟨?_, rfl, rfl⟩ | refine ⟨?_, rfl⟩ | skip
  exact ⟨rfl, rfl, by
   intro p hp
   simp only [List.mem_cons, List.not_mem_nil, or_false] at hp
   rcases hp with rfl | rfl | rfl | rfl | rfl <;> first | rfl | exact congrArg I (by omega) | exact congrArg Value.bool (by simp)⟩

set_option maxHeartbeats 4000000 in
set_option maxRecDepth 100000 in
theorem m12_wp {v : World} {a : Act} {b o n cap M T ct wn wc nb : Nat} {p wp : Option Addr}  (hA : Fl 154 [(1, .slice (some ⟨b, o, none⟩) n cap), (8, .slice (some ⟨M, 0, none⟩) n n), (10, .slice p T ct), (11, .slice wp wn wc), (12, .slice (some ⟨nb, 0, none⟩) n n)] a) : m12.wp Try.prog (fun e a' w' => e = .normal ∧ Fl 154 [(1, .slice (some ⟨b, o, none⟩) n cap), (8, .slice (some ⟨M, 0, none⟩) n n), (10, .slice p T ct), (11, .slice wp wn wc), (12, .slice (some ⟨nb, 0, none⟩) n n), (13, I 0)] a' ∧ w'.heap = v.heap ∧ w'.os = v.os ∧ w'.output = v.output) a v := by
  obtain ⟨hsz, hd, hp⟩ := hA
  obtain ⟨u, rfl, hg⟩ := litN hsz hd
  have u1 := (hg 1).symm.trans (hp (1, .slice (some ⟨b, o, none⟩) n cap) (by simp))
  have u8 := (hg 8).symm.trans (hp (8, .slice (some ⟨M, 0, none⟩) n n) (by simp))
  have u10 := (hg 10).symm.trans (hp (10, .slice p T ct) (by simp))
  have u11 := (hg 11).symm.trans (hp (11, .slice wp wn wc) (by simp))
  have u12 := (hg 12).symm.trans (hp (12, .slice (some ⟨nb, 0, none⟩) n n) (by simp))
  clear hg hp hsz hd
  unfold m12 LB8 Try.f8 seq2 seq1
  simp only [Option.getD_some, lits, Nat.reduceAdd, u1, u8, u10, u11, u12]
  clear u1 u8 u10 u11 u12
  go_wp2_with fail
  first | refine ⟨?_, rfl, rfl, rfl⟩ | refine ⟨?_, rfl, rfl⟩ | refine ⟨?_, rfl⟩ | skip
  exact ⟨rfl, rfl, by
   intro p hp
   simp only [List.mem_cons, List.not_mem_nil, or_false] at hp
   rcases hp with rfl | rfl | rfl | rfl | rfl | rfl <;> first | rfl | exact congrArg I (by omega) | exact congrArg Value.bool (by simp)⟩

set_option maxHeartbeats 4000000 in
set_option maxRecDepth 100000 in
theorem m13_wp {v : World} {a : Act} {b o n cap M T ct wn wc nb : Nat} {p wp : Option Addr} {s : Int}  (hA : Fl 154 [(1, .slice (some ⟨b, o, none⟩) n cap), (8, .slice (some ⟨M, 0, none⟩) n n), (10, .slice p T ct), (11, .slice wp wn wc), (12, .slice (some ⟨nb, 0, none⟩) n n), (13, I s)] a) : m13.wp Try.prog (fun e a' w' => e = .normal ∧ Fl 154 [(1, .slice (some ⟨b, o, none⟩) n cap), (8, .slice (some ⟨M, 0, none⟩) n n), (10, .slice p T ct), (11, .slice wp wn wc), (12, .slice (some ⟨nb, 0, none⟩) n n), (13, I s), (14, I 0)] a' ∧ w'.heap = v.heap ∧ w'.os = v.os ∧ w'.output = v.output) a v := by
  obtain ⟨hsz, hd, hp⟩ := hA
  obtain ⟨u, rfl, hg⟩ := litN hsz hd
  have u1 := (hg 1).symm.trans (hp (1, .slice (some ⟨b, o, none⟩) n cap) (by simp))
  have u8 := (hg 8).symm.trans (hp (8, .slice (some ⟨M, 0, none⟩) n n) (by simp))
  have u10 := (hg 10).symm.trans (hp (10, .slice p T ct) (by simp))
  have u11 := (hg 11).symm.trans (hp (11, .slice wp wn wc) (by simp))
  have u12 := (hg 12).symm.trans (hp (12, .slice (some ⟨nb, 0, none⟩) n n) (by simp))
  have u13 := (hg 13).symm.trans (hp (13, I s) (by simp))
  clear hg hp hsz hd
  unfold m13 ML LB8 Try.f8 seq2 seq1
  simp only [Option.getD_some, lits, Nat.reduceAdd, u1, u8, u10, u11, u12, u13]
  clear u1 u8 u10 u11 u12 u13
  go_wp2_with fail
  first | refine ⟨?_, rfl, rfl, rfl⟩ | refine ⟨?_, rfl, rfl⟩ | refine ⟨?_, rfl⟩ | skip
  exact ⟨rfl, rfl, by
   intro p hp
   simp only [List.mem_cons, List.not_mem_nil, or_false] at hp
   rcases hp with rfl | rfl | rfl | rfl | rfl | rfl | rfl <;> first | rfl | exact congrArg I (by omega) | exact congrArg Value.bool (by simp)⟩

set_option maxHeartbeats 4000000 in
set_option maxRecDepth 100000 in
theorem m14_wp {v : World} {a : Act} {b o n cap M T ct wn wc nb : Nat} {p wp : Option Addr} {s : Int} {i : Nat}  (hA : Fl 154 [(1, .slice (some ⟨b, o, none⟩) n cap), (8, .slice (some ⟨M, 0, none⟩) n n), (10, .slice p T ct), (11, .slice wp wn wc), (12, .slice (some ⟨nb, 0, none⟩) n n), (13, I s), (14, I (i : Int))] a) : m14.wp Try.prog (fun e a' w' => e = .normal ∧ Fl 154 [(1, .slice (some ⟨b, o, none⟩) n cap), (8, .slice (some ⟨M, 0, none⟩) n n), (10, .slice p T ct), (11, .slice wp wn wc), (12, .slice (some ⟨nb, 0, none⟩) n n), (13, I s), (14, I (i : Int)), (54, .bool (decide ((i : Int) < (wn : Int))))] a' ∧ w'.heap = v.heap ∧ w'.os = v.os ∧ w'.output = v.output) a v := by
  obtain ⟨hsz, hd, hp⟩ := hA
  obtain ⟨u, rfl, hg⟩ := litN hsz hd
  have u1 := (hg 1).symm.trans (hp (1, .slice (some ⟨b, o, none⟩) n cap) (by simp))
  have u8 := (hg 8).symm.trans (hp (8, .slice (some ⟨M, 0, none⟩) n n) (by simp))
  have u10 := (hg 10).symm.trans (hp (10, .slice p T ct) (by simp))
  have u11 := (hg 11).symm.trans (hp (11, .slice wp wn wc) (by simp))
  have u12 := (hg 12).symm.trans (hp (12, .slice (some ⟨nb, 0, none⟩) n n) (by simp))
  have u13 := (hg 13).symm.trans (hp (13, I s) (by simp))
  have u14 := (hg 14).symm.trans (hp (14, I (i : Int)) (by simp))
  clear hg hp hsz hd
  unfold m14 MA ML LB8 Try.f8 seq2 seq1 blockC loopC
  simp only [Option.getD_some, lits, Nat.reduceAdd, u1, u8, u10, u11, u12, u13, u14]
  clear u1 u8 u10 u11 u12 u13 u14
  go_wp2_with fail
  first | refine ⟨?_, rfl, rfl, rfl⟩ | refine ⟨?_, rfl, rfl⟩ | refine ⟨?_, rfl⟩ | skip
  exact ⟨rfl, rfl, by
   intro p hp
   simp only [List.mem_cons, List.not_mem_nil, or_false] at hp
   rcases hp with rfl | rfl | rfl | rfl | rfl | rfl | rfl | rfl <;> first | rfl | exact congrArg I (by omega) | exact congrArg Value.bool (by simp)⟩

set_option maxHeartbeats 4000000 in
set_option maxRecDepth 100000 in
theorem m15_wp {v : World} {a : Act} {b o n cap M T ct wn wc nb : Nat} {p wp : Option Addr} {s : Int} {i : Nat} (h9 : wrap64 ((i : Int) + 1) = ((i + 1 : Nat) : Int)) (hA : Fl 154 [(1, .slice (some ⟨b, o, none⟩) n cap), (8, .slice (some ⟨M, 0, none⟩) n n), (10, .slice p T ct), (11, .slice wp wn wc), (12, .slice (some ⟨nb, 0, none⟩) n n), (13, I s), (14, I (i : Int))] a) : m15.wp Try.prog (fun e a' w' => e = .normal ∧ Fl 154 [(1, .slice (some ⟨b, o, none⟩) n cap), (8, .slice (some ⟨M, 0, none⟩) n n), (10, .slice p T ct), (11, .slice wp wn wc), (12, .slice (some ⟨nb, 0, none⟩) n n), (13, I s), (14, I ((i + 1 : Nat) : Int))] a' ∧ w'.heap = v.heap ∧ w'.os = v.os ∧ w'.output = v.output) a v := by
  obtain ⟨hsz, hd, hp⟩ := hA
  obtain ⟨u, rfl, hg⟩ := litN hsz hd
  have u1 := (hg 1).symm.trans (hp (1, .slice (some ⟨b, o, none⟩) n cap) (by simp))
  have u8 := (hg 8).symm.trans (hp (8, .slice (some ⟨M, 0, none⟩) n n) (by simp))
  have u10 := (hg 10).symm.trans (hp (10, .slice p T ct) (by simp))
  have u11 := (hg 11).symm.trans (hp (11, .slice wp wn wc) (by simp))
  have u12 := (hg 12).symm.trans (hp (12, .slice (some ⟨nb, 0, none⟩) n n) (by simp))
  have u13 := (hg 13).symm.trans (hp (13, I s) (by simp))
  have u14 := (hg 14).symm.trans (hp (14, I (i : Int)) (by simp))
  clear hg hp hsz hd
  unfold m15 MA ML LB8 Try.f8 seq2 seq1 blockC loopC
  simp only [Option.getD_some, lits, Nat.reduceAdd, u1, u8, u10, u11, u12, u13, u14]
  clear u1 u8 u10 u11 u12 u13 u14
  go_wp2_with fail
  first | refine ⟨?_, rfl, rfl, rfl⟩ | refine ⟨?_, rfl, rfl⟩ | refine ⟨?_, rfl⟩ | skip
  exact ⟨rfl, rfl, by
   intro p hp
   simp only [List.mem_cons, List.not_mem_nil, or_false] at hp
   rcases hp with rfl | rfl | rfl | rfl | rfl | rfl | rfl <;> first | rfl | exact congrArg I (by omega) | exact congrArg Value.bool (by simp)⟩

set_option maxHeartbeats 4000000 in
set_option maxRecDepth 100000 in
theorem m16_wp {v : World} {a : Act} {b o n cap M T ct wn wc nb : Nat} {wg : Nat} {p : Option Addr} {s : Int} {i t : Nat} (hi : i < wn) (c0 : v.cell? ⟨wg, i, none⟩ = some (I (t : Int))) (hA : Fl 154 [(1, .slice (some ⟨b, o, none⟩) n cap), (8, .slice (some ⟨M, 0, none⟩) n n), (10, .slice p T ct), (11, .slice (some ⟨wg, 0, none⟩) wn wc), (12, .slice (some ⟨nb, 0, none⟩) n n), (13, I s), (14, I (i : Int))] a) : m16.wp Try.prog (fun e a' w' => e = .normal ∧ Fl 154 [(1, .slice (some ⟨b, o, none⟩) n cap), (8, .slice (some ⟨M, 0, none⟩) n n), (10, .slice p T ct), (11, .slice (some ⟨wg, 0, none⟩) wn wc), (12, .slice (some ⟨nb, 0, none⟩) n n), (13, I s), (14, I (i : Int)), (15, I (t : Int))] a' ∧ w'.heap = v.heap ∧ w'.os = v.os ∧ w'.output = v.output) a v := by
  obtain ⟨hsz, hd, hp⟩ := hA
  obtain ⟨u, rfl, hg⟩ := litN hsz hd
  have u1 := (hg 1).symm.trans (hp (1, .slice (some ⟨b, o, none⟩) n cap) (by simp))
  have u8 := (hg 8).symm.trans (hp (8, .slice (some ⟨M, 0, none⟩) n n) (by simp))
  have u10 := (hg 10).symm.trans (hp (10, .slice p T ct) (by simp))
  have u11 := (hg 11).symm.trans (hp (11, .slice (some ⟨wg, 0, none⟩) wn wc) (by simp))
  have u12 := (hg 12).symm.trans (hp (12, .slice (some ⟨nb, 0, none⟩) n n) (by simp))
  have u13 := (hg 13).symm.trans (hp (13, I s) (by simp))
  have u14 := (hg 14).symm.trans (hp (14, I (i : Int)) (by simp))
  clear hg hp hsz hd
  have hi' : (i : Int) < (wn : Int) := by omega
  have hi2 : ¬ wn ≤ i := by omega
  unfold m16 MI MA ML LB8 Try.f8 seq2 seq1 blockC loopC
  simp only [Option.getD_some, lits, Nat.reduceAdd, u1, u8, u10, u11, u12, u13, u14]
  clear u1 u8 u10 u11 u12 u13 u14
  go_wp2_with fail
  first | refine ⟨?_, rfl, rfl, rfl⟩ | refine ⟨?_, rfl, rfl⟩ | refine ⟨?_, rfl⟩ | skip
  exact ⟨rfl, rfl, by
   intro p hp
   simp only [List.mem_cons, List.not_mem_nil, or_false] at hp
   rcases hp with rfl | rfl | rfl | rfl | rfl | rfl | rfl | rfl <;> first | rfl | exact congrArg I (by omega) | exact congrArg Value.bool (by simp)⟩

set_option maxHeartbeats 4000000 in
set_option maxRecDepth 100000 in
theorem m17_wp {v : World} {a : Act} {b o n cap M T ct wn wc nb : Nat} {p wp : Option Addr} {s : Int} {i t : Nat} (ht : t < n) (hA : Fl 154 [(1, .slice (some ⟨b, o, none⟩) n cap), (8, .slice (some ⟨M, 0, none⟩) n n), (10, .slice p T ct), (11, .slice wp wn wc), (12, .slice (some ⟨nb, 0, none⟩) n n), (13, I s), (14, I (i : Int)), (15, I (t : Int))] a) : m17.wp Try.prog (fun e a' w' => e = .normal ∧ Fl 154 [(1, .slice (some ⟨b, o, none⟩) n cap), (8, .slice (some ⟨M, 0, none⟩) n n), (10, .slice p T ct), (11, .slice wp wn wc), (12, .slice (some ⟨nb, 0, none⟩) n n), (13, I s), (14, I (i : Int)), (15, I (t : Int)), (68, .bool false)] a' ∧ w'.heap = v.heap ∧ w'.os = v.os ∧ w'.output = v.output) a v := by
  obtain ⟨hsz, hd, hp⟩ := hA
  obtain ⟨u, rfl, hg⟩ := litN hsz hd
  have u1 := (hg 1).symm.trans (hp (1, .slice (some ⟨b, o, none⟩) n cap) (by simp))
  have u8 := (hg 8).symm.trans (hp (8, .slice (some ⟨M, 0, none⟩) n n) (by simp))
  have u10 := (hg 10).symm.trans (hp (10, .slice p T ct) (by simp))
  have u11 := (hg 11).symm.trans (hp (11, .slice wp wn wc) (by simp))
  have u12 := (hg 12).symm.trans (hp (12, .slice (some ⟨nb, 0, none⟩) n n) (by simp))
  have u13 := (hg 13).symm.trans (hp (13, I s) (by simp))
  have u14 := (hg 14).symm.trans (hp (14, I (i : Int)) (by simp))
  have u15 := (hg 15).symm.trans (hp (15, I (t : Int)) (by simp))
  clear hg hp hsz hd
  have q1 : ¬ ((t : Int) < 0) := by omega
  have q2 : ¬ ((t : Int) ≥ (n : Int)) := by omega
  have q3 : ¬ (n ≤ t) := by omega
  unfold m17 MI MA ML LB8 Try.f8 seq2 seq1 blockC loopC
  simp only [Option.getD_some, lits, Nat.reduceAdd, u1, u8, u10, u11, u12, u13, u14, u15]
  clear u1 u8 u10 u11 u12 u13 u14 u15
  go_wp2_with fail
  first | refine ⟨?_, rfl, rfl, rfl⟩ | refine ⟨?_, rfl, rfl⟩ | refine ⟨?_, rfl⟩ | skip
  exact ⟨rfl, rfl, by
   intro p hp
   simp only [List.mem_cons, List.not_mem_nil, or_false] at hp
   rcases hp with rfl | rfl | rfl | rfl | rfl | rfl | rfl | rfl | rfl <;> first | rfl | exact congrArg I (by omega) | exact congrArg Value.bool (by simp)⟩

set_option maxHeartbeats 4000000 in
set_option maxRecDepth 100000 in
theorem m19_wp {v : World} {a : Act} {b o n cap M T ct wn wc nb : Nat} {p wp : Option Addr} {s : Int} {i t x lt ct2 : Nat} {pq : Option Addr} {g : Nat} {L : List Stp} (ht : t < n) (c0 : v.cell? ⟨nb, t, none⟩ = some (I (x : Int))) (c1 : v.cell? ⟨b, o + t, none⟩ = some (.slice pq lt ct2)) (hx : x < lt) (hT : L.length = T) (hTs : T ≤ 400000) (hp : 0 < T → p = some ⟨g, 0, none⟩) (hL : TrL g L v) (hA : Fl 154 [(1, .slice (some ⟨b, o, none⟩) n cap), (8, .slice (some ⟨M, 0, none⟩) n n), (10, .slice p T ct), (11, .slice wp wn wc), (12, .slice (some ⟨nb, 0, none⟩) n n), (13, I s), (14, I (i : Int)), (15, I (t : Int))] a) :
    m19.wp Try.prog (fun e a' w' => e = .normal ∧ Fl 154 [(1, .slice (some ⟨b, o, none⟩) n cap), (8, .slice (some ⟨M, 0, none⟩) n n), (10, .slice p T ct), (11, .slice wp wn wc), (12, .slice (some ⟨nb, 0, none⟩) n n), (13, I s), (14, I (i : Int)), (15, I (t : Int)), (88, .bool (!(mst t x L == 2)))] a' ∧ w'.heap = v.heap ∧ w'.os = v.os ∧ w'.output = v.output) a v := by
  have H9 : Hid (∀ u : World, SamW v u → Calls Try.prog 35 #[.slice p T ct, I (t : Int), I (x : Int)] u (fun e w' => e = .returned (.bool (mst t x L == 2)) ∧ SamW v w')) := ⟨fun u hu => by
    have hL' : TrL g L u := fun k s hs => by
      rw [samW_cell hu, samW_cell hu, samW_cell hu, samW_cell hu, samW_cell hu]
      exact hL k s hs
    refine ((body33 hT hTs hp hL' t x).calls Try.func35 rfl).mono ?_
    rintro e w' ⟨_, rfl, rfl, k1, k2, k3⟩
    exact ⟨rfl, k1.trans hu.1, k2.trans hu.2.1, k3.trans hu.2.2⟩⟩
  clear hT hTs hp hL
  have hS : Hid (SamW v v) := ⟨rfl, rfl, rfl⟩
  have HC : Hid (∀ u : World, SamW v u → u.cell? ⟨nb, t, none⟩ = some (I (x : Int)) ∧ u.cell? ⟨b, o + t, none⟩ = some (.slice pq lt ct2)) := ⟨fun u hu => by rw [samW_cell hu, samW_cell hu]; exact ⟨c0, c1⟩⟩
  obtain ⟨hsz, hd, hp⟩ := hA
  obtain ⟨u, rfl, hg⟩ := litN hsz hd
  have u1 := (hg 1).symm.trans (hp (1, .slice (some ⟨b, o, none⟩) n cap) (by simp))
  have u8 := (hg 8).symm.trans (hp (8, .slice (some ⟨M, 0, none⟩) n n) (by simp))
  have u10 := (hg 10).symm.trans (hp (10, .slice p T ct) (by simp))
  have u11 := (hg 11).symm.trans (hp (11, .slice wp wn wc) (by simp))
  have u12 := (hg 12).symm.trans (hp (12, .slice (some ⟨nb, 0, none⟩) n n) (by simp))
  have u13 := (hg 13).symm.trans (hp (13, I s) (by simp))
  have u14 := (hg 14).symm.trans (hp (14, I (i : Int)) (by simp))
  have u15 := (hg 15).symm.trans (hp (15, I (t : Int)) (by simp))
  clear hg hp hsz hd
  have ht' : (t : Int) < (n : Int) := by omega
  have ht2 : ¬ n ≤ t := by omega
  have hx' : (x : Int) < (lt : Int) := by omega
  have hx2 : ¬ lt ≤ x := by omega
  unfold m19 MB MI MA ML LB8 Try.f8 seq2 seq1 blockC loopC
  simp only [Option.getD_some, lits, Nat.reduceAdd, u1, u8, u10, u11, u12, u13, u14, u15]
  clear u1 u8 u10 u11 u12 u13 u14 u15
  generalize hB : (mst t x L == 2) = B at H9 ⊢
  clear hB
  go_wp2_with fail
  go_region_held3 (fun u => u.cell? ⟨nb, t, none⟩ = some (I (x : Int)) ∧ u.cell? ⟨b, o + t, none⟩ = some (.slice pq lt ct2))
    (first | (exact HC.out _ hsam) | (simp [go_sem, *]; done))
    (first
      | (go_at_call 35; refine (H9.out v.drew ⟨rfl, rfl, rfl⟩).mono ?_; rintro e w5 ⟨rfl, hsam⟩))
  exact ⟨rfl, ⟨rfl, rfl, by
   intro p hp
   simp only [List.mem_cons, List.not_mem_nil, or_false] at hp
   rcases hp with rfl | rfl | rfl | rfl | rfl | rfl | rfl | rfl | rfl <;> first | rfl | exact congrArg I (by omega) | exact congrArg Value.bool (by simp)⟩, hsam.1, hsam.2.1, hsam.2.2⟩

set_option maxHeartbeats 4000000 in
set_option maxRecDepth 100000 in
theorem m20_wp {v : World} {a : Act} {b o n cap M T ct wn wc nb : Nat} {p wp : Option Addr} {s : Int} {i t : Nat} {x : Int} (ht : t < n) (c0 : v.cell? ⟨nb, t, none⟩ = some (I x)) (f0 : v.frozen? ⟨nb, t, none⟩ = false) (h9 : wrap64 (x + 1) = x + 1) (hA : Fl 154 [(1, .slice (some ⟨b, o, none⟩) n cap), (8, .slice (some ⟨M, 0, none⟩) n n), (10, .slice p T ct), (11, .slice wp wn wc), (12, .slice (some ⟨nb, 0, none⟩) n n), (13, I s), (14, I (i : Int)), (15, I (t : Int))] a) : m20.wp Try.prog (fun e a' w' => e = .normal ∧ Fl 154 [(1, .slice (some ⟨b, o, none⟩) n cap), (8, .slice (some ⟨M, 0, none⟩) n n), (10, .slice p T ct), (11, .slice wp wn wc), (12, .slice (some ⟨nb, 0, none⟩) n n), (13, I s), (14, I (i : Int)), (15, I (t : Int))] a' ∧ w'.heap = (v.setCell ⟨nb, t, none⟩ (I (x + 1))).heap ∧ w'.os = v.os ∧ w'.output = v.output) a v := by
  obtain ⟨hsz, hd, hp⟩ := hA
  obtain ⟨u, rfl, hg⟩ := litN hsz hd
  have u1 := (hg 1).symm.trans (hp (1, .slice (some ⟨b, o, none⟩) n cap) (by simp))
  have u8 := (hg 8).symm.trans (hp (8, .slice (some ⟨M, 0, none⟩) n n) (by simp))
  have u10 := (hg 10).symm.trans (hp (10, .slice p T ct) (by simp))
  have u11 := (hg 11).symm.trans (hp (11, .slice wp wn wc) (by simp))
  have u12 := (hg 12).symm.trans (hp (12, .slice (some ⟨nb, 0, none⟩) n n) (by simp))
  have u13 := (hg 13).symm.trans (hp (13, I s) (by simp))
  have u14 := (hg 14).symm.trans (hp (14, I (i : Int)) (by simp))
  have u15 := (hg 15).symm.trans (hp (15, I (t : Int)) (by simp))
  clear hg hp hsz hd
  have ht' : (t : Int) < (n : Int) := by omega
  have ht2 : ¬ n ≤ t := by omega
  unfold m20 MB MI MA ML LB8 Try.f8 seq2 seq1 blockC loopC
  simp only [Option.getD_some, lits, Nat.reduceAdd, u1, u8, u10, u11, u12, u13, u14, u15]
  clear u1 u8 u10 u11 u12 u13 u14 u15
  go_wp2_with fail
  first | refine ⟨?_, rfl, rfl, rfl⟩ | refine ⟨?_, rfl, rfl⟩ | refine ⟨?_, rfl⟩ | skip
  exact ⟨rfl, rfl, by
   intro p hp
   simp only [List.mem_cons, List.not_mem_nil, or_false] at hp
   rcases hp with rfl | rfl | rfl | rfl | rfl | rfl | rfl | rfl <;> first | rfl | exact congrArg I (by omega) | exact congrArg Value.bool (by simp)⟩

set_option maxHeartbeats 4000000 in
set_option maxRecDepth 100000 in
theorem m21_wp {v : World} {a : Act} {b o n cap M T ct wn wc nb : Nat} {p wp : Option Addr} {s : Int} {i t k : Nat} (ht : t < n) (c0 : v.cell? ⟨nb, t, none⟩ = some (I (k : Int))) (hA : Fl 154 [(1, .slice (some ⟨b, o, none⟩) n cap), (8, .slice (some ⟨M, 0, none⟩) n n), (10, .slice p T ct), (11, .slice wp wn wc), (12, .slice (some ⟨nb, 0, none⟩) n n), (13, I s), (14, I (i : Int)), (15, I (t : Int))] a) : m21.wp Try.prog (fun e a' w' => e = .normal ∧ Fl 154 [(1, .slice (some ⟨b, o, none⟩) n cap), (8, .slice (some ⟨M, 0, none⟩) n n), (10, .slice p T ct), (11, .slice wp wn wc), (12, .slice (some ⟨nb, 0, none⟩) n n), (13, I s), (14, I (i : Int)), (15, I (t : Int)), (16, I (k : Int))] a' ∧ w'.heap = v.heap ∧ w'.os = v.os ∧ w'.output = v.output) a v := by
  obtain ⟨hsz, hd, hp⟩ := hA
  obtain ⟨u, rfl, hg⟩ := litN hsz hd
  have u1 := (hg 1).symm.trans (hp (1, .slice (some ⟨b, o, none⟩) n cap) (by simp))
  have u8 := (hg 8).symm.trans (hp (8, .slice (some ⟨M, 0, none⟩) n n) (by simp))
  have u10 := (hg 10).symm.trans (hp (10, .slice p T ct) (by simp))
  have u11 := (hg 11).symm.trans (hp (11, .slice wp wn wc) (by simp))
  have u12 := (hg 12).symm.trans (hp (12, .slice (some ⟨nb, 0, none⟩) n n) (by simp))
  have u13 := (hg 13).symm.trans (hp (13, I s) (by simp))
  have u14 := (hg 14).symm.trans (hp (14, I (i : Int)) (by simp))
  have u15 := (hg 15).symm.trans (hp (15, I (t : Int)) (by simp))
  clear hg hp hsz hd
  have ht' : (t : Int) < (n : Int) := by omega
  have ht2 : ¬ n ≤ t := by omega
  unfold m21 MI MA ML LB8 Try.f8 seq2 seq1 blockC loopC
  simp only [Option.getD_some, lits, Nat.reduceAdd, u1, u8, u10, u11, u12, u13, u14, u15]
  clear u1 u8 u10 u11 u12 u13 u14 u15
  go_wp2_with fail
  first | refine ⟨?_, rfl, rfl, rfl⟩ | refine ⟨?_, rfl, rfl⟩ | refine ⟨?_, rfl⟩ | skip
  exact ⟨rfl, rfl, by
   intro p hp
   simp only [List.mem_cons, List.not_mem_nil, or_false] at hp
   rcases hp with rfl | rfl | rfl | rfl | rfl | rfl | rfl | rfl | rfl <;> first | rfl | exact congrArg I (by omega) | exact congrArg Value.bool (by simp)⟩

set_option maxHeartbeats 4000000 in
set_option maxRecDepth 100000 in
theorem m22_wp {v : World} {a : Act} {b o n cap M T ct wn wc nb : Nat} {p wp : Option Addr} {s : Int} {i t k A lt ct2 rb ro : Nat} (ht : t < n) (hk : k < lt) (c1 : v.cell? ⟨b, o + t, none⟩ = some (.slice (some ⟨rb, ro, none⟩) lt ct2)) (d1 : v.cell? ⟨M, t, none⟩ = some (.slice (some ⟨A, 0, none⟩) lt lt)) (d2 : v.cell? ⟨A, k * 2 + 1, none⟩ = some (I s)) (d3 : v.cell? ⟨A, k * 2, none⟩ = some (I 0)) (hA : Fl 154 [(1, .slice (some ⟨b, o, none⟩) n cap), (8, .slice (some ⟨M, 0, none⟩) n n), (10, .slice p T ct), (11, .slice wp wn wc), (12, .slice (some ⟨nb, 0, none⟩) n n), (13, I s), (14, I (i : Int)), (15, I (t : Int)), (16, I (k : Int))] a) : m22.wp Try.prog (fun e a' w' => e = .normal ∧ Fl 154 [(1, .slice (some ⟨b, o, none⟩) n cap), (8, .slice (some ⟨M, 0, none⟩) n n), (10, .slice p T ct), (11, .slice wp wn wc), (12, .slice (some ⟨nb, 0, none⟩) n n), (13, I s), (14, I (i : Int)), (15, I (t : Int)), (16, I (k : Int)), (137, .bool false)] a' ∧ w'.heap = v.heap ∧ w'.os = v.os ∧ w'.output = v.output) a v := by
  obtain ⟨hsz, hd, hp⟩ := hA
  obtain ⟨u, rfl, hg⟩ := litN hsz hd
  have u1 := (hg 1).symm.trans (hp (1, .slice (some ⟨b, o, none⟩) n cap) (by simp))
  have u8 := (hg 8).symm.trans (hp (8, .slice (some ⟨M, 0, none⟩) n n) (by simp))
  have u10 := (hg 10).symm.trans (hp (10, .slice p T ct) (by simp))
  have u11 := (hg 11).symm.trans (hp (11, .slice wp wn wc) (by simp))
  have u12 := (hg 12).symm.trans (hp (12, .slice (some ⟨nb, 0, none⟩) n n) (by simp))
  have u13 := (hg 13).symm.trans (hp (13, I s) (by simp))
  have u14 := (hg 14).symm.trans (hp (14, I (i : Int)) (by simp))
  have u15 := (hg 15).symm.trans (hp (15, I (t : Int)) (by simp))
  have u16 := (hg 16).symm.trans (hp (16, I (k : Int)) (by simp))
  clear hg hp hsz hd
  have ht' : (t : Int) < (n : Int) := by omega
  have ht2 : ¬ n ≤ t := by omega
  have hk' : (k : Int) < (lt : Int) := by omega
  have hk2 : ¬ lt ≤ k := by omega
  have hk3 : ¬ ((k : Int) ≥ (lt : Int)) := by omega
  unfold m22 MI MA ML LB8 Try.f8 seq2 seq1 blockC loopC
  simp only [Option.getD_some, lits, Nat.reduceAdd, u1, u8, u10, u11, u12, u13, u14, u15, u16]
  clear u1 u8 u10 u11 u12 u13 u14 u15 u16
  go_wp2_with fail
  first | refine ⟨?_, rfl, rfl, rfl⟩ | refine ⟨?_, rfl, rfl⟩ | refine ⟨?_, rfl⟩ | skip
  exact ⟨rfl, rfl, by
   intro p hp
   simp only [List.mem_cons, List.not_mem_nil, or_false] at hp
   rcases hp with rfl | rfl | rfl | rfl | rfl | rfl | rfl | rfl | rfl | rfl <;> first | rfl | exact congrArg I (by omega) | exact congrArg Value.bool (by simp)⟩

set_option maxHeartbeats 4000000 in
set_option maxRecDepth 100000 in
theorem m24_wp {v : World} {a : Act} {b o n cap M T ct wn wc nb : Nat} {p wp : Option Addr} {s ca : Int} {i t k lt ct2 rb ro : Nat} (ht : t < n) (hk : k < lt) (c1 : v.cell? ⟨b, o + t, none⟩ = some (.slice (some ⟨rb, ro, none⟩) lt ct2)) (c2 : v.cell? ⟨rb, ro + k * 4 + 1, none⟩ = some (I ca)) (hA : Fl 154 [(1, .slice (some ⟨b, o, none⟩) n cap), (8, .slice (some ⟨M, 0, none⟩) n n), (10, .slice p T ct), (11, .slice wp wn wc), (12, .slice (some ⟨nb, 0, none⟩) n n), (13, I s), (14, I (i : Int)), (15, I (t : Int)), (16, I (k : Int))] a) : m24.wp Try.prog (fun e a' w' => e = .normal ∧ Fl 154 [(1, .slice (some ⟨b, o, none⟩) n cap), (8, .slice (some ⟨M, 0, none⟩) n n), (10, .slice p T ct), (11, .slice wp wn wc), (12, .slice (some ⟨nb, 0, none⟩) n n), (13, I (wrap64 (s + ca))), (14, I (i : Int)), (15, I (t : Int)), (16, I (k : Int))] a' ∧ w'.heap = v.heap ∧ w'.os = v.os ∧ w'.output = v.output) a v := by
  obtain ⟨hsz, hd, hp⟩ := hA
  obtain ⟨u, rfl, hg⟩ := litN hsz hd
  have u1 := (hg 1).symm.trans (hp (1, .slice (some ⟨b, o, none⟩) n cap) (by simp))
  have u8 := (hg 8).symm.trans (hp (8, .slice (some ⟨M, 0, none⟩) n n) (by simp))
  have u10 := (hg 10).symm.trans (hp (10, .slice p T ct) (by simp))
  have u11 := (hg 11).symm.trans (hp (11, .slice wp wn wc) (by simp))
  have u12 := (hg 12).symm.trans (hp (12, .slice (some ⟨nb, 0, none⟩) n n) (by simp))
  have u13 := (hg 13).symm.trans (hp (13, I s) (by simp))
  have u14 := (hg 14).symm.trans (hp (14, I (i : Int)) (by simp))
  have u15 := (hg 15).symm.trans (hp (15, I (t : Int)) (by simp))
  have u16 := (hg 16).symm.trans (hp (16, I (k : Int)) (by simp))
  clear hg hp hsz hd
  have ht' : (t : Int) < (n : Int) := by omega
  have ht2 : ¬ n ≤ t := by omega
  have hk' : (k : Int) < (lt : Int) := by omega
  have hk2 : ¬ lt ≤ k := by omega
  have hk3 : ¬ ((k : Int) ≥ (lt : Int)) := by omega
  unfold m24 MI MA ML LB8 Try.f8 seq2 seq1 blockC loopC
  simp only [Option.getD_some, lits, Nat.reduceAdd, u1, u8, u10, u11, u12, u13, u14, u15, u16]
  clear u1 u8 u10 u11 u12 u13 u14 u15 u16
  go_wp2_with fail
  first | refine ⟨?_, rfl, rfl, rfl⟩ | refine ⟨?_, rfl, rfl⟩ | refine ⟨?_, rfl⟩ | skip
  exact ⟨rfl, rfl, by
   intro p hp
   simp only [List.mem_cons, List.not_mem_nil, or_false] at hp
   rcases hp with rfl | rfl | rfl | rfl | rfl | rfl | rfl | rfl | rfl <;> first | rfl | exact congrArg I (by omega) | exact congrArg Value.bool (by simp)⟩

set_option maxHeartbeats 4000000 in
set_option maxRecDepth 100000 in
theorem m25_wp {v : World} {a : Act} {b o n cap M T ct wn wc nb : Nat} {p wp : Option Addr} {s : Int} {i t k : Nat} {x : Int} (ht : t < n) (c0 : v.cell? ⟨nb, t, none⟩ = some (I x)) (f0 : v.frozen? ⟨nb, t, none⟩ = false) (h9 : wrap64 (x + 1) = x + 1) (hA : Fl 154 [(1, .slice (some ⟨b, o, none⟩) n cap), (8, .slice (some ⟨M, 0, none⟩) n n), (10, .slice p T ct), (11, .slice wp wn wc), (12, .slice (some ⟨nb, 0, none⟩) n n), (13, I s), (14, I (i : Int)), (15, I (t : Int)), (16, I (k : Int))] a) : m25.wp Try.prog (fun e a' w' => e = .normal ∧ Fl 154 [(1, .slice (some ⟨b, o, none⟩) n cap), (8, .slice (some ⟨M, 0, none⟩) n n), (10, .slice p T ct), (11, .slice wp wn wc), (12, .slice (some ⟨nb, 0, none⟩) n n), (13, I s), (14, I (i : Int))] a' ∧ w'.heap = (v.setCell ⟨nb, t, none⟩ (I (x + 1))).heap ∧ w'.os = v.os ∧ w'.output = v.output) a v := by
  obtain ⟨hsz, hd, hp⟩ := hA
  obtain ⟨u, rfl, hg⟩ := litN hsz hd
  have u1 := (hg 1).symm.trans (hp (1, .slice (some ⟨b, o, none⟩) n cap) (by simp))
  have u8 := (hg 8).symm.trans (hp (8, .slice (some ⟨M, 0, none⟩) n n) (by simp))
  have u10 := (hg 10).symm.trans (hp (10, .slice p T ct) (by simp))
  have u11 := (hg 11).symm.trans (hp (11, .slice wp wn wc) (by simp))
  have u12 := (hg 12).symm.trans (hp (12, .slice (some ⟨nb, 0, none⟩) n n) (by simp))
  have u13 := (hg 13).symm.trans (hp (13, I s) (by simp))
  have u14 := (hg 14).symm.trans (hp (14, I (i : Int)) (by simp))
  have u15 := (hg 15).symm.trans (hp (15, I (t : Int)) (by simp))
  have u16 := (hg 16).symm.trans (hp (16, I (k : Int)) (by simp))
  clear hg hp hsz hd
  have ht' : (t : Int) < (n : Int) := by omega
  have ht2 : ¬ n ≤ t := by omega
  unfold m25 MI MA ML LB8 Try.f8 seq2 seq1 blockC loopC
  simp only [Option.getD_some, lits, Nat.reduceAdd, u1, u8, u10, u11, u12, u13, u14, u15, u16]
  clear u1 u8 u10 u11 u12 u13 u14 u15 u16
  go_wp2_with fail
  first | refine ⟨?_, rfl, rfl, rfl⟩ | refine ⟨?_, rfl, rfl⟩ | refine ⟨?_, rfl⟩ | skip
  exact ⟨rfl, rfl, by
   intro p hp
   simp only [List.mem_cons, List.not_mem_nil, or_false] at hp
   rcases hp with rfl | rfl | rfl | rfl | rfl | rfl | rfl <;> first | rfl | exact congrArg I (by omega) | exact congrArg Value.bool (by simp)⟩

set_option maxHeartbeats 4000000 in
set_option maxRecDepth 100000 in
theorem m26_wp {v : World} {a : Act} {b o n cap M T ct wn wc nb : Nat} {p wp : Option Addr} {s : Int}  (hA : Fl 154 [(1, .slice (some ⟨b, o, none⟩) n cap), (8, .slice (some ⟨M, 0, none⟩) n n), (10, .slice p T ct), (11, .slice wp wn wc), (12, .slice (some ⟨nb, 0, none⟩) n n), (13, I s)] a) : m26.wp Try.prog (fun e a' w' => e = .ret ∧ Fl 154 [(4, .bool true)] a' ∧ w'.heap = v.heap ∧ w'.os = v.os ∧ w'.output = v.output) a v := by
  obtain ⟨hsz, hd, hp⟩ := hA
  obtain ⟨u, rfl, hg⟩ := litN hsz hd
  have u1 := (hg 1).symm.trans (hp (1, .slice (some ⟨b, o, none⟩) n cap) (by simp))
  have u8 := (hg 8).symm.trans (hp (8, .slice (some ⟨M, 0, none⟩) n n) (by simp))
  have u10 := (hg 10).symm.trans (hp (10, .slice p T ct) (by simp))
  have u11 := (hg 11).symm.trans (hp (11, .slice wp wn wc) (by simp))
  have u12 := (hg 12).symm.trans (hp (12, .slice (some ⟨nb, 0, none⟩) n n) (by simp))
  have u13 := (hg 13).symm.trans (hp (13, I s) (by simp))
  clear hg hp hsz hd
  unfold m26 LB8 Try.f8 seq2
  simp only [Option.getD_some, lits, Nat.reduceAdd, u1, u8, u10, u11, u12, u13]
  clear u1 u8 u10 u11 u12 u13
  go_wp2_with fail
  first | refine ⟨?_, rfl, rfl, rfl⟩ | refine ⟨?_, rfl, rfl⟩ | refine ⟨?_, rfl⟩ | skip
  exact ⟨rfl, rfl, by
   intro p hp
   simp only [List.mem_cons, List.not_mem_nil, or_false] at hp
   rcases hp with rfl <;> first | rfl | exact congrArg I (by omega) | exact congrArg Value.bool (by simp)⟩

theorem fine_T8 : fineCode Try.prog true LV T8 := fineCode_askS callV extT (by kernel_rfl)
theorem fine_m2 : fineCode Try.prog true LV m2 := fineCode_askS callV extT (by kernel_rfl)
theorem fine_m3 : fineCode Try.prog true LV m3 := fineCode_askS callV extT (by kernel_rfl)
theorem fine_m4 : fineCode Try.prog true LV m4 := fineCode_askS callV extT (by kernel_rfl)
theorem fine_m5 : fineCode Try.prog true LV m5 := fineCode_askS callV extT (by kernel_rfl)
end Go.Proofs.Ytfjjoohflcchnaa.Gen
