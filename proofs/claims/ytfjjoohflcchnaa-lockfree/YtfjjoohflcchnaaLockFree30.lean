/- LockFree is true of the program at this commit: by one free thread alone, of two locks of no world, Lock, Try and Unlock answer as two numbers each say, whatever the calls; no conditions. Part 30 of 30. (Joined, by program, of: Fr9c, GRow, Fr9Row.) -/
import Derived.Test.YtfjjoohflcchnaaLockFree25
import Derived.Test.YtfjjoohflcchnaaLockFree29
import Derived.Conc.LeavingOf
import Derived.ProofKit
import Derived.OpenShut
import Derived.ChangeOld
import Derived.Lib.SmallJoins
import Derived.Deep.SlicePairs
import Derived.Test.YtfjjoohflcchnaaRows
set_option linter.unusedSimpArgs false
set_option linter.unusedVariables false
namespace Go.Proofs.Ytfjjoohflcchnaa.Gen
open Go Go.Lift Go.Conc Go.RowKit

set_option maxHeartbeats 4000000 in
set_option maxRecDepth 100000 in
theorem body35n (v : World) : Body Try.f37 #[.pointer none] v (fun r v' => r = Pt (v.heap.size + 2) 0 ∧ v'.heap = ((v.heap.push (.cells #[I 0, I 0] 94)).push (.cells #[I 0, I 0] 94)).push (.cells #[Pt v.heap.size 0, Pt (v.heap.size + 1) 0] 104) ∧ v'.os = v.os ∧ v'.output = v.output) := by
  intro code hb
  obtain rfl := Option.some.inj hb
  clear hb
  have H : ∀ w : World, Hid (Calls Try.prog 21 #[.pointer none, I 0] w (fun e w' => e = .returned (Pt w.heap.size 0) ∧ w'.heap = w.heap.push (.cells #[I 0, I 0] 94) ∧ w'.os = w.os ∧ w'.output = w.output)) := fun w => ⟨((body10n w 0).calls Try.func21 rfl).mono (by
    rintro e w' ⟨r, rfl, rfl, h⟩
    exact ⟨rfl, h⟩)⟩
  have H1 : Hid (Calls Try.prog 21 #[.pointer none, I 0] v (fun e w1 => e = .returned (Pt v.heap.size 0) ∧ Hid (w1.heap = v.heap.push (.cells #[I 0, I 0] 94) ∧ w1.os = v.os ∧ w1.output = v.output) ∧ Hid (Calls Try.prog 21 #[.pointer none, I 0] w1 (fun e w2 => e = .returned (Pt (v.heap.size + 1) 0) ∧ w2.heap.size = v.heap.size + 2 ∧ Hid (w2.heap = (v.heap.push (.cells #[I 0, I 0] 94)).push (.cells #[I 0, I 0] 94) ∧ w2.os = v.os ∧ w2.output = v.output))))) := ⟨(H v).out.mono (by
    rintro e w1 ⟨rfl, h1, h2, h3⟩
    refine ⟨rfl, ⟨h1, h2, h3⟩, ⟨(H w1).out.mono ?_⟩⟩
    rintro e w2 ⟨rfl, k1, k2, k3⟩
    rw [h1] at k1
    refine ⟨by rw [h1]; simp, by rw [k1]; simp, ⟨k1, k2.trans h2, k3.trans h3⟩⟩)⟩
  clear H
  simp only [Try.ntmps37, List.size_toArray, List.length_cons, List.length_nil, Nat.reduceAdd, Nat.reduceSub, Array.replicate_succ, Array.replicate_zero, List.push_toArray, List.append_toArray, List.nil_append, List.cons_append]
  go_wp2_with (first
    | (go_at_call 21; refine H1.out.mono ?_; rintro e w1 ⟨rfl, K1, H2⟩)
    | (go_at_call 21; refine H2.out.mono ?_; rintro e w2 ⟨rfl, hs, K2⟩))
  go_ret
  exact ⟨_, rfl, rfl, by show w2.heap.push _ = _; rw [K2.out.1], K2.out.2.1, K2.out.2.2⟩

noncomputable def z1 : Code := seq1 (seq2 B9)
noncomputable def z2 : Code := seq1 (seq2 (seq2 B9))
noncomputable def z3 : Code := seq1 (seq2 (seq2 (seq2 B9)))
noncomputable def z4 : Code := seq1 (seq2 (seq2 (seq2 (seq2 B9))))
noncomputable def z5 : Code := seq1 (seq2 (seq2 (seq2 (seq2 (seq2 B9)))))
noncomputable def z7 : Code := seq1 (seq2 (seq2 (seq2 (seq2 (seq2 (seq2 B9))))))
noncomputable def z8 : Code := seq1 (seq2 (seq2 (seq2 (seq2 (seq2 (seq2 (seq2 B9)))))))
noncomputable def z9 : Code := seq1 C9
noncomputable def T9 : Code := seq2 (seq2 (seq2 (seq2 (seq2 (seq2 (seq2 (seq2 (seq2 B9))))))))
noncomputable def P9 : Code := .seq z2 (.seq z3 (.seq z4 (.seq z5 (.seq z7 (.seq z8 (.seq (.seq z9 (.block 0 (.loop L9))) T9))))))
theorem eB9 : B9 = .seq (seq1 B9) (.seq z1 P9) := by kernel_rfl
theorem fine_z2 : fineCode Try.prog true LV z2 := fineCode_askS callV extT (by kernel_rfl)
theorem fine_z3 : fineCode Try.prog true LV z3 := fineCode_askS callV extT (by kernel_rfl)
theorem fine_z4 : fineCode Try.prog true LV z4 := fineCode_askS callV extT (by kernel_rfl)
theorem fine_z5 : fineCode Try.prog true LV z5 := fineCode_askS callV extT (by kernel_rfl)
theorem fine_z7 : fineCode Try.prog true LV z7 := fineCode_askS callV extT (by kernel_rfl)
theorem fine_z8 : fineCode Try.prog true LV z8 := fineCode_askS callV extT (by kernel_rfl)
theorem fine_z9 : fineCode Try.prog true LV z9 := fineCode_askS callV extT (by kernel_rfl)
theorem fine_T9 : fineCode Try.prog true LV T9 := fineCode_askS callV extT (by kernel_rfl)
theorem info3' : (Try.prog.info? 3).map (fun i => (i.zero, i.size, i.bytes)) = some (some (I 0), 1, 8) := by kernel_rfl
theorem mk22 (w : World) : (Instr.makeSlice 22 (.int .i64 2) (.int .i64 2)).run Try.prog w = .ok (.slice (some ⟨w.heap.size, 0, none⟩) 2 2) (w.alloc (.cells #[I 0, I 0] 3)) := by
  obtain ⟨i, hq, hz, hs, hb⟩ := info_parts info3'
  have := run_make (P := Try.prog) w 22 3 i _ Try.underlying22 hq hz .i64 .i64 2 2 (by omega) (by omega) (by rw [hb]; decide) (by omega)
  rw [hs] at this
  rw [this]
  rw [show madeCells (I 0).cells (Int.toNat 2 * 1) = #[I 0, I 0] by kernel_rfl]
  rfl
/-- The first slots of the law. -/
def F9 (l : List (Nat × Value)) (a : Act) : Prop := a.tmps.size = 105 ∧ a.defers = [] ∧ ∀ p ∈ l, a.tmps.getD p.1 undef = p.2
set_option maxHeartbeats 4000000 in
set_option maxRecDepth 100000 in
theorem z2_wp {v : World} {a : Act} {lst : Value}  (hA : F9 [(0, lst), (3, .bool true)] a) : z2.wp Try.prog (fun e a' w' => e = .normal ∧ F9 [(0, lst), (3, .bool true), (4, Pt v.heap.size 0)] a' ∧ w'.heap = v.heap.push (.cells #[.pointer none, I 0, .chan none, I 0, I 0, I 0, I 0] 97) ∧ w'.os = v.os ∧ w'.output = v.output) a v := by
  obtain ⟨hsz, hd, hp⟩ := hA
  obtain ⟨u, rfl, hg⟩ := litN hsz hd
  have u0 := (hg 0).symm.trans (hp (0, lst) (by simp))
  have u3 := (hg 3).symm.trans (hp (3, .bool true) (by simp))
  clear hg hp hsz hd
  unfold z2 B9 Try.f9 seq2 seq1
  simp only [Option.getD_some, lits, Nat.reduceAdd, u0, u3]
  clear u0 u3
  have H : Hid (Calls Try.prog 22 #[I 0] v _) := ⟨(body11 v).calls Try.func22 rfl⟩
  go_wp2_with (first
    | (go_at_call 22; refine H.out.mono ?_; rintro e w1 ⟨_, rfl, rfl, h1, h2, h3⟩))
  first
    | exact ⟨rfl, rfl, by
    intro p hp
    simp only [List.mem_cons, List.not_mem_nil, or_false] at hp
    rcases hp with rfl | rfl | rfl <;> rfl⟩
    | exact ⟨⟨rfl, rfl, by
    intro p hp
    simp only [List.mem_cons, List.not_mem_nil, or_false] at hp
    rcases hp with rfl | rfl | rfl <;> rfl⟩, h1, h2, h3⟩

set_option maxHeartbeats 4000000 in
set_option maxRecDepth 100000 in
theorem z3_wp {v : World} {a : Act} {lst : Value} {t4 : Value} (hA : F9 [(0, lst), (3, .bool true), (4, t4)] a) : z3.wp Try.prog (fun e a' w' => e = .normal ∧ F9 [(0, lst), (3, .bool true), (4, t4), (5, Pt (v.heap.size + 2) 0)] a' ∧ w'.heap = ((v.heap.push (.cells #[I 0, I 0] 94)).push (.cells #[I 0, I 0] 94)).push (.cells #[Pt v.heap.size 0, Pt (v.heap.size + 1) 0] 104) ∧ w'.os = v.os ∧ w'.output = v.output) a v := by
  obtain ⟨hsz, hd, hp⟩ := hA
  obtain ⟨u, rfl, hg⟩ := litN hsz hd
  have u0 := (hg 0).symm.trans (hp (0, lst) (by simp))
  have u3 := (hg 3).symm.trans (hp (3, .bool true) (by simp))
  have u4 := (hg 4).symm.trans (hp (4, t4) (by simp))
  clear hg hp hsz hd
  unfold z3 B9 Try.f9 seq2 seq1
  simp only [Option.getD_some, lits, Nat.reduceAdd, u0, u3, u4]
  clear u0 u3 u4
  have H : Hid (Calls Try.prog 37 #[.pointer none] v _) := ⟨(body35n v).calls Try.func37 rfl⟩
  go_wp2_with (first
    | (go_at_call 37; refine H.out.mono ?_; rintro e w1 ⟨_, rfl, rfl, h1, h2, h3⟩))
  first
    | exact ⟨rfl, rfl, by
    intro p hp
    simp only [List.mem_cons, List.not_mem_nil, or_false] at hp
    rcases hp with rfl | rfl | rfl | rfl <;> rfl⟩
    | exact ⟨⟨rfl, rfl, by
    intro p hp
    simp only [List.mem_cons, List.not_mem_nil, or_false] at hp
    rcases hp with rfl | rfl | rfl | rfl <;> rfl⟩, h1, h2, h3⟩

set_option maxHeartbeats 4000000 in
set_option maxRecDepth 100000 in
theorem z4_wp {v : World} {a : Act} {lst : Value} {t4 t5 : Value} (hA : F9 [(0, lst), (3, .bool true), (4, t4), (5, t5)] a) : z4.wp Try.prog (fun e a' w' => e = .normal ∧ F9 [(0, lst), (3, .bool true), (4, t4), (5, t5), (6, Pt (v.heap.size + 2) 0)] a' ∧ w'.heap = ((v.heap.push (.cells #[I 0, I 0] 94)).push (.cells #[I 0, I 0] 94)).push (.cells #[Pt v.heap.size 0, Pt (v.heap.size + 1) 0] 104) ∧ w'.os = v.os ∧ w'.output = v.output) a v := by
  obtain ⟨hsz, hd, hp⟩ := hA
  obtain ⟨u, rfl, hg⟩ := litN hsz hd
  have u0 := (hg 0).symm.trans (hp (0, lst) (by simp))
  have u3 := (hg 3).symm.trans (hp (3, .bool true) (by simp))
  have u4 := (hg 4).symm.trans (hp (4, t4) (by simp))
  have u5 := (hg 5).symm.trans (hp (5, t5) (by simp))
  clear hg hp hsz hd
  unfold z4 B9 Try.f9 seq2 seq1
  simp only [Option.getD_some, lits, Nat.reduceAdd, u0, u3, u4, u5]
  clear u0 u3 u4 u5
  have H : Hid (Calls Try.prog 37 #[.pointer none] v _) := ⟨(body35n v).calls Try.func37 rfl⟩
  go_wp2_with (first
    | (go_at_call 37; refine H.out.mono ?_; rintro e w1 ⟨_, rfl, rfl, h1, h2, h3⟩))
  first
    | exact ⟨rfl, rfl, by
    intro p hp
    simp only [List.mem_cons, List.not_mem_nil, or_false] at hp
    rcases hp with rfl | rfl | rfl | rfl | rfl <;> rfl⟩
    | exact ⟨⟨rfl, rfl, by
    intro p hp
    simp only [List.mem_cons, List.not_mem_nil, or_false] at hp
    rcases hp with rfl | rfl | rfl | rfl | rfl <;> rfl⟩, h1, h2, h3⟩

set_option maxHeartbeats 4000000 in
set_option maxRecDepth 100000 in
theorem z5_wp {v : World} {a : Act} {lst : Value} {t4 : Value} {la lc : Nat} (hA : F9 [(0, lst), (3, .bool true), (4, t4), (5, Pt la 0), (6, Pt lc 0)] a) : z5.wp Try.prog (fun e a' w' => e = .normal ∧ F9 [(0, lst), (3, .bool true), (4, t4), (5, Pt la 0), (6, Pt lc 0)] a' ∧ w'.heap = v.heap ∧ w'.os = v.os ∧ w'.output = v.output) a v := by
  obtain ⟨hsz, hd, hp⟩ := hA
  obtain ⟨u, rfl, hg⟩ := litN hsz hd
  have u0 := (hg 0).symm.trans (hp (0, lst) (by simp))
  have u3 := (hg 3).symm.trans (hp (3, .bool true) (by simp))
  have u4 := (hg 4).symm.trans (hp (4, t4) (by simp))
  have u5 := (hg 5).symm.trans (hp (5, Pt la 0) (by simp))
  have u6 := (hg 6).symm.trans (hp (6, Pt lc 0) (by simp))
  clear hg hp hsz hd
  unfold z5 B9 Try.f9 seq2 seq1
  simp only [Option.getD_some, lits, Nat.reduceAdd, u0, u3, u4, u5, u6]
  clear u0 u3 u4 u5 u6
  go_wp2_with fail
  first
    | exact ⟨rfl, rfl, by
    intro p hp
    simp only [List.mem_cons, List.not_mem_nil, or_false] at hp
    rcases hp with rfl | rfl | rfl | rfl | rfl <;> rfl⟩
    | exact ⟨⟨rfl, rfl, by
    intro p hp
    simp only [List.mem_cons, List.not_mem_nil, or_false] at hp
    rcases hp with rfl | rfl | rfl | rfl | rfl <;> rfl⟩, rfl, rfl, rfl⟩

set_option maxHeartbeats 4000000 in
set_option maxRecDepth 100000 in
theorem z7_wp {v : World} {a : Act} {lst : Value} {t4 t5 t6 : Value} (hA : F9 [(0, lst), (4, t4), (5, t5), (6, t6)] a) : z7.wp Try.prog (fun e a' w' => e = .normal ∧ F9 [(0, lst), (4, t4), (5, t5), (6, t6), (7, .slice (some ⟨v.heap.size, 0, none⟩) 2 2)] a' ∧ w'.heap = v.heap.push (.cells #[I 0, I 0] 3) ∧ w'.os = v.os ∧ w'.output = v.output) a v := by
  obtain ⟨hsz, hd, hp⟩ := hA
  obtain ⟨u, rfl, hg⟩ := litN hsz hd
  have u0 := (hg 0).symm.trans (hp (0, lst) (by simp))
  have u4 := (hg 4).symm.trans (hp (4, t4) (by simp))
  have u5 := (hg 5).symm.trans (hp (5, t5) (by simp))
  have u6 := (hg 6).symm.trans (hp (6, t6) (by simp))
  clear hg hp hsz hd
  unfold z7 B9 Try.f9 seq2 seq1
  simp only [Option.getD_some, lits, Nat.reduceAdd, u0, u4, u5, u6]
  clear u0 u4 u5 u6
  have hmk := mk22
  go_wp2_with fail
  first
    | exact ⟨rfl, rfl, by
    intro p hp
    simp only [List.mem_cons, List.not_mem_nil, or_false] at hp
    rcases hp with rfl | rfl | rfl | rfl | rfl <;> rfl⟩
    | exact ⟨⟨rfl, rfl, by
    intro p hp
    simp only [List.mem_cons, List.not_mem_nil, or_false] at hp
    rcases hp with rfl | rfl | rfl | rfl | rfl <;> rfl⟩, rfl, rfl, rfl⟩
    | exact ⟨⟨rfl, rfl, by
    intro p hp
    simp only [List.mem_cons, List.not_mem_nil, or_false] at hp
    rcases hp with rfl | rfl | rfl | rfl | rfl <;> rfl⟩, rfl⟩

set_option maxHeartbeats 4000000 in
set_option maxRecDepth 100000 in
theorem z8_wp {v : World} {a : Act} {lst : Value} {t4 t5 t6 : Value} {t7 : Value} (hA : F9 [(0, lst), (4, t4), (5, t5), (6, t6), (7, t7)] a) : z8.wp Try.prog (fun e a' w' => e = .normal ∧ F9 [(0, lst), (4, t4), (5, t5), (6, t6), (7, t7), (8, .slice (some ⟨v.heap.size, 0, none⟩) 2 2)] a' ∧ w'.heap = v.heap.push (.cells #[I 0, I 0] 3) ∧ w'.os = v.os ∧ w'.output = v.output) a v := by
  obtain ⟨hsz, hd, hp⟩ := hA
  obtain ⟨u, rfl, hg⟩ := litN hsz hd
  have u0 := (hg 0).symm.trans (hp (0, lst) (by simp))
  have u4 := (hg 4).symm.trans (hp (4, t4) (by simp))
  have u5 := (hg 5).symm.trans (hp (5, t5) (by simp))
  have u6 := (hg 6).symm.trans (hp (6, t6) (by simp))
  have u7 := (hg 7).symm.trans (hp (7, t7) (by simp))
  clear hg hp hsz hd
  unfold z8 B9 Try.f9 seq2 seq1
  simp only [Option.getD_some, lits, Nat.reduceAdd, u0, u4, u5, u6, u7]
  clear u0 u4 u5 u6 u7
  have hmk := mk22
  go_wp2_with fail
  first
    | exact ⟨rfl, rfl, by
    intro p hp
    simp only [List.mem_cons, List.not_mem_nil, or_false] at hp
    rcases hp with rfl | rfl | rfl | rfl | rfl | rfl <;> rfl⟩
    | exact ⟨⟨rfl, rfl, by
    intro p hp
    simp only [List.mem_cons, List.not_mem_nil, or_false] at hp
    rcases hp with rfl | rfl | rfl | rfl | rfl | rfl <;> rfl⟩, rfl, rfl, rfl⟩
    | exact ⟨⟨rfl, rfl, by
    intro p hp
    simp only [List.mem_cons, List.not_mem_nil, or_false] at hp
    rcases hp with rfl | rfl | rfl | rfl | rfl | rfl <;> rfl⟩, rfl⟩

set_option maxHeartbeats 4000000 in
set_option maxRecDepth 100000 in
theorem z9_wp {v : World} {a : Act} {lst : Value} {t4 t5 t6 t7 t8 : Value} (hA : F9 [(0, lst), (4, t4), (5, t5), (6, t6), (7, t7), (8, t8)] a) : z9.wp Try.prog (fun e a' w' => e = .normal ∧ F9 [(0, lst), (4, t4), (5, t5), (6, t6), (7, t7), (8, t8), (9, I 0)] a' ∧ w'.heap = v.heap ∧ w'.os = v.os ∧ w'.output = v.output) a v := by
  obtain ⟨hsz, hd, hp⟩ := hA
  obtain ⟨u, rfl, hg⟩ := litN hsz hd
  have u0 := (hg 0).symm.trans (hp (0, lst) (by simp))
  have u4 := (hg 4).symm.trans (hp (4, t4) (by simp))
  have u5 := (hg 5).symm.trans (hp (5, t5) (by simp))
  have u6 := (hg 6).symm.trans (hp (6, t6) (by simp))
  have u7 := (hg 7).symm.trans (hp (7, t7) (by simp))
  have u8 := (hg 8).symm.trans (hp (8, t8) (by simp))
  clear hg hp hsz hd
  unfold z9 C9 B9 Try.f9 seq2 seq1
  simp only [Option.getD_some, lits, Nat.reduceAdd, u0, u4, u5, u6, u7, u8]
  clear u0 u4 u5 u6 u7 u8
  go_wp2_with fail
  first
    | exact ⟨rfl, rfl, by
    intro p hp
    simp only [List.mem_cons, List.not_mem_nil, or_false] at hp
    rcases hp with rfl | rfl | rfl | rfl | rfl | rfl | rfl <;> rfl⟩
    | exact ⟨⟨rfl, rfl, by
    intro p hp
    simp only [List.mem_cons, List.not_mem_nil, or_false] at hp
    rcases hp with rfl | rfl | rfl | rfl | rfl | rfl | rfl <;> rfl⟩, rfl, rfl, rfl⟩

set_option maxHeartbeats 4000000 in
set_option maxRecDepth 100000 in
theorem T9_wp {v : World} {a : Act} {lst : Value} {tb la lc N W i : Nat} (hA : A9 lst tb la lc N W i a) : T9.wp Try.prog (fun e a' w' => e = .ret ∧ a'.tmps.getD 2 undef = .bool true ∧ w'.heap = v.heap ∧ w'.os = v.os ∧ w'.output = v.output) a v := by
  obtain ⟨u, rfl, hg⟩ := litN hA.size hA.defers
  clear hg hA
  unfold T9 B9 Try.f9 seq2
  simp only [Option.getD_some, lits, Nat.reduceAdd]
  go_wp2_with fail

theorem F9.sub {l l' : List (Nat × Value)} {a : Act} (h : F9 l a) (hs : ∀ p ∈ l', p ∈ l) : F9 l' a := ⟨h.1, h.2.1, fun p hp => h.2.2 p (hs p hp)⟩
set_option maxHeartbeats 4000000 in
set_option maxRecDepth 100000 in
/-- Behind the law's first play. -/
theorem law9_rest {Ch : Nat → Prop} {Stop : Goroutine → World → Prop} {main : Bool} {v w : World} (p : Option Addr) (n cap lb lo : Nat) (calls : List Cl) (hp : 0 < n → p = some ⟨lb, lo, none⟩) (hl : calls.length = n) (hn9 : (n : Int) < 9223372036854775808) (hvw : Rel zn v w) (hn : NoRow Ch v) (hI : InC v lb lo calls)
    (hend : ∀ a' v' w' todo, Rel zn v' w' → Grows v v' → a'.defers = [] → a'.tmps.getD 2 undef = .bool true → GoesI Try.prog main (DT (ScZ zn) Ch) Stop (G { (base 9).at a' todo with mode := .returning } []) w') :
    ∀ a, F9 [(0, .slice p n cap), (3, .bool true)] a → GoesI Try.prog main (DT (ScZ zn) Ch) Stop (G ((base 9).at a [.code P9]) []) w := by
  intro a hA
  unfold P9
  refine goesI_seq (dt_idle _ _) ?_
  refine goesI_plain (z := zn) (wr := true) (L := LV) (I := NoRow Ch) hE fineV noRow_keeps (fun v v' w w' es hi hr ho he => dt_of_z v v' w w' es hi hr ho he) hvw fine_z2 hA.2.1 (by simp [base]) hn (Q := fun a w' => F9 [(0, .slice p n cap), (3, .bool true), (4, Pt v.heap.size 0)] a ∧ w'.heap = v.heap.push (.cells #[.pointer none, I 0, .chan none, I 0, I 0, I 0, I 0] 97) ∧ w'.os = v.os ∧ w'.output = v.output) (fun τ => z2_wp (v := onTape v τ 0) hA) ?_
  rintro a2 v2 w2 ⟨hA2, e2, o2, u2⟩ hr2 hn2 -
  refine goesI_seq (dt_idle _ _) ?_
  refine goesI_plain (z := zn) (wr := true) (L := LV) (I := NoRow Ch) hE fineV noRow_keeps (fun v v' w w' es hi hr ho he => dt_of_z v v' w w' es hi hr ho he) hr2 fine_z3 hA2.2.1 (by simp [base]) hn2 (Q := fun a w' => F9 [(0, .slice p n cap), (3, .bool true), (4, Pt v.heap.size 0), (5, Pt (v2.heap.size + 2) 0)] a ∧ w'.heap = ((v2.heap.push (.cells #[I 0, I 0] 94)).push (.cells #[I 0, I 0] 94)).push (.cells #[Pt v2.heap.size 0, Pt (v2.heap.size + 1) 0] 104) ∧ w'.os = v2.os ∧ w'.output = v2.output) (fun τ => z3_wp (v := onTape v2 τ 0) hA2) ?_
  rintro a3 v3 w3 ⟨hA3, e3, o3, u3⟩ hr3 hn3 -
  refine goesI_seq (dt_idle _ _) ?_
  refine goesI_plain (z := zn) (wr := true) (L := LV) (I := NoRow Ch) hE fineV noRow_keeps (fun v v' w w' es hi hr ho he => dt_of_z v v' w w' es hi hr ho he) hr3 fine_z4 hA3.2.1 (by simp [base]) hn3 (Q := fun a w' => F9 [(0, .slice p n cap), (3, .bool true), (4, Pt v.heap.size 0), (5, Pt (v2.heap.size + 2) 0), (6, Pt (v3.heap.size + 2) 0)] a ∧ w'.heap = ((v3.heap.push (.cells #[I 0, I 0] 94)).push (.cells #[I 0, I 0] 94)).push (.cells #[Pt v3.heap.size 0, Pt (v3.heap.size + 1) 0] 104) ∧ w'.os = v3.os ∧ w'.output = v3.output) (fun τ => z4_wp (v := onTape v3 τ 0) hA3) ?_
  rintro a4 v4 w4 ⟨hA4, e4, o4, u4⟩ hr4 hn4 -
  refine goesI_seq (dt_idle _ _) ?_
  refine goesI_plain (z := zn) (wr := true) (L := LV) (I := NoRow Ch) hE fineV noRow_keeps (fun v v' w w' es hi hr ho he => dt_of_z v v' w w' es hi hr ho he) hr4 fine_z5 hA4.2.1 (by simp [base]) hn4 (Q := fun a w' => F9 [(0, .slice p n cap), (3, .bool true), (4, Pt v.heap.size 0), (5, Pt (v2.heap.size + 2) 0), (6, Pt (v3.heap.size + 2) 0)] a ∧ w'.heap = v4.heap ∧ w'.os = v4.os ∧ w'.output = v4.output) (fun τ => z5_wp (v := onTape v4 τ 0) hA4) ?_
  rintro a5 v5 w5 ⟨hA5, e5, o5, u5⟩ hr5 hn5 -
  have hA5' : F9 [(0, .slice p n cap), (4, Pt v.heap.size 0), (5, Pt (v2.heap.size + 2) 0), (6, Pt (v3.heap.size + 2) 0)] a5 := hA5.sub (by simp)
  refine goesI_seq (dt_idle _ _) ?_
  refine goesI_plain (z := zn) (wr := true) (L := LV) (I := NoRow Ch) hE fineV noRow_keeps (fun v v' w w' es hi hr ho he => dt_of_z v v' w w' es hi hr ho he) hr5 fine_z7 hA5.2.1 (by simp [base]) hn5 (Q := fun a w' => F9 [(0, .slice p n cap), (4, Pt v.heap.size 0), (5, Pt (v2.heap.size + 2) 0), (6, Pt (v3.heap.size + 2) 0), (7, .slice (some ⟨v5.heap.size, 0, none⟩) 2 2)] a ∧ w'.heap = v5.heap.push (.cells #[I 0, I 0] 3) ∧ w'.os = v5.os ∧ w'.output = v5.output) (fun τ => z7_wp (v := onTape v5 τ 0) hA5') ?_
  rintro a7 v7 w7 ⟨hA7, e7, o7, u7⟩ hr7 hn7 -
  refine goesI_seq (dt_idle _ _) ?_
  refine goesI_plain (z := zn) (wr := true) (L := LV) (I := NoRow Ch) hE fineV noRow_keeps (fun v v' w w' es hi hr ho he => dt_of_z v v' w w' es hi hr ho he) hr7 fine_z8 hA7.2.1 (by simp [base]) hn7 (Q := fun a w' => F9 [(0, .slice p n cap), (4, Pt v.heap.size 0), (5, Pt (v2.heap.size + 2) 0), (6, Pt (v3.heap.size + 2) 0), (7, .slice (some ⟨v5.heap.size, 0, none⟩) 2 2), (8, .slice (some ⟨v7.heap.size, 0, none⟩) 2 2)] a ∧ w'.heap = v7.heap.push (.cells #[I 0, I 0] 3) ∧ w'.os = v7.os ∧ w'.output = v7.output) (fun τ => z8_wp (v := onTape v7 τ 0) hA7) ?_
  rintro a8 v8 w8 ⟨hA8, e8, o8, u8⟩ hr8 hn8 -
  refine goesI_seq (dt_idle _ _) ?_
  refine goesI_seq (dt_idle _ _) ?_
  refine goesI_plain (z := zn) (wr := true) (L := LV) (I := NoRow Ch) hE fineV noRow_keeps (fun v v' w w' es hi hr ho he => dt_of_z v v' w w' es hi hr ho he) hr8 fine_z9 hA8.2.1 (by simp [base]) hn8 (Q := fun a w' => F9 [(0, .slice p n cap), (4, Pt v.heap.size 0), (5, Pt (v2.heap.size + 2) 0), (6, Pt (v3.heap.size + 2) 0), (7, .slice (some ⟨v5.heap.size, 0, none⟩) 2 2), (8, .slice (some ⟨v7.heap.size, 0, none⟩) 2 2), (9, I 0)] a ∧ w'.heap = v8.heap ∧ w'.os = v8.os ∧ w'.output = v8.output) (fun τ => z9_wp (v := onTape v8 τ 0) hA8) ?_
  rintro a9 v9 w9 ⟨hA9, e9, o9, u9⟩ hr9 hn9' -
  have s2 : v2.heap.size = v.heap.size + 1 := by rw [e2]; simp
  have s3 : v3.heap.size = v.heap.size + 4 := by rw [e3]; simp; omega
  have s5 : v5.heap.size = v.heap.size + 7 := by rw [e5, e4]; simp; omega
  have s7 : v7.heap.size = v.heap.size + 8 := by rw [e7]; simp; omega
  rw [s2, s3, s5, s7] at hA9
  rw [s2] at e3
  rw [s3] at e4
  have hh : v9.heap = ((((((((v.heap.push (.cells #[.pointer none, I 0, .chan none, I 0, I 0, I 0, I 0] 97)).push (.cells #[I 0, I 0] 94)).push (.cells #[I 0, I 0] 94)).push (.cells #[Pt (v.heap.size + 1) 0, Pt (v.heap.size + 1 + 1) 0] 104)).push (.cells #[I 0, I 0] 94)).push (.cells #[I 0, I 0] 94)).push (.cells #[Pt (v.heap.size + 4) 0, Pt (v.heap.size + 4 + 1) 0] 104)).push (.cells #[I 0, I 0] 3)).push (.cells #[I 0, I 0] 3) := by rw [e9, e8, e7, e5, e4, e3, e2]
  have gr : Grows v v9 := ⟨by rw [hh]; simp; omega, fun b hb => by
    rw [hh]
    simp only [Array.getElem?_push, Array.size_push]
    repeat rw [if_neg (by omega)], by rw [o9, o8, o7, o5, o4, o3, o2], by rw [u9, u8, u7, u5, u4, u3, u2]⟩
  have at_ : ∀ j (o : Obj), j < 9 → (match j with | 0 => .cells #[.pointer none, I 0, .chan none, I 0, I 0, I 0, I 0] 97 | 1 => .cells #[I 0, I 0] 94 | 2 => .cells #[I 0, I 0] 94 | 3 => .cells #[Pt (v.heap.size + 1) 0, Pt (v.heap.size + 1 + 1) 0] 104 | 4 => .cells #[I 0, I 0] 94 | 5 => .cells #[I 0, I 0] 94 | 6 => .cells #[Pt (v.heap.size + 4) 0, Pt (v.heap.size + 4 + 1) 0] 104 | _ => .cells #[I 0, I 0] 3) = o → v9.heap[v.heap.size + j]? = some o := fun j o hj ho => by
    rw [hh]
    simp only [Array.getElem?_push, Array.size_push]
    subst ho
    have : j = 0 ∨ j = 1 ∨ j = 2 ∨ j = 3 ∨ j = 4 ∨ j = 5 ∨ j = 6 ∨ j = 7 ∨ j = 8 := by omega
    rcases this with rfl | rfl | rfl | rfl | rfl | rfl | rfl | rfl | rfl
    all_goals
      repeat first
        | rw [if_pos (by omega)]
        | rw [if_neg (by omega)]
      try rfl
  have fm : ∀ j, j = 1 ∨ j = 2 ∨ j = 4 ∨ j = 5 → Fm v.heap.size (v.heap.size + j) 0 v9 := fun j hj => by
    refine ⟨at_ 0 _ (by decide) rfl, ?_⟩
    rcases hj with rfl | rfl | rfl | rfl
    · exact at_ 1 _ (by decide) rfl
    · exact at_ 2 _ (by decide) rfl
    · exact at_ 4 _ (by decide) rfl
    · exact at_ 5 _ (by decide) rfl
  have hM : M9 v.heap.size (fun k => v.heap.size + 3 + 3 * k) (fun k => v.heap.size + 1 + 3 * k) (fun k => v.heap.size + 2 + 3 * k) (v.heap.size + 7) (v.heap.size + 8) (fun _ => 0) (fun _ => 0) (fun _ => 0) (fun _ => 0) v9 := by
    refine ⟨fun k hk => ?_, fun k hk => ?_, fun k hk => ?_, at_ 7 _ (by decide) rfl, at_ 8 _ (by decide) rfl⟩
    · rcases hk with rfl | rfl
      · exact at_ 3 _ (by decide) rfl
      · exact at_ 6 _ (by decide) rfl
    · rcases hk with rfl | rfl
      · exact fm 1 (by omega)
      · exact fm 4 (by omega)
    · rcases hk with rfl | rfl
      · exact fm 2 (by omega)
      · exact fm 5 (by omega)
  have hpt : Apt (fun k => v.heap.size + 1 + 3 * k) (fun k => v.heap.size + 2 + 3 * k) (v.heap.size + 7) (v.heap.size + 8) := ⟨by simp, by simp, fun j k => by show v.heap.size + 1 + 3 * j ≠ v.heap.size + 2 + 3 * k; omega, by simp⟩
  have hmi : ∀ b, Mi9 (fun k => v.heap.size + 1 + 3 * k) (fun k => v.heap.size + 2 + 3 * k) (v.heap.size + 7) (v.heap.size + 8) b → v.heap.size ≤ b := fun b hb => by
    rcases hb with ⟨k, _, h | h⟩ | h | h
    · have h : b = v.heap.size + 1 + 3 * k := h
      omega
    · have h : b = v.heap.size + 2 + 3 * k := h
      omega
    · omega
    · omega
  have hAA : A9 (.slice p n cap) v.heap.size ((fun k => v.heap.size + 3 + 3 * k) 0) ((fun k => v.heap.size + 3 + 3 * k) 1) (v.heap.size + 7) (v.heap.size + 8) 0 a9 := by
    refine ⟨hA9.1, hA9.2.1, hA9.2.2 (0, _) (by simp), hA9.2.2 (4, _) (by simp), ?_, ?_, hA9.2.2 (7, _) (by simp), hA9.2.2 (8, _) (by simp), hA9.2.2 (9, _) (by simp)⟩
    · exact hA9.2.2 (5, Pt (v.heap.size + 1 + 2) 0) (by simp)
    · exact hA9.2.2 (6, Pt (v.heap.size + 4 + 2) 0) (by simp)
  refine goesI_block (dt_idle _ _) ?_
  refine goesI_loop (dt_idle _ _) ?_
  refine loop9 hp calls hl hn9 hpt (fun h0 hb => ?_) [] _ n 0 a9 v9 w9 (fun _ => 0) (fun _ => 0) (by omega) hr9 hn9' hAA hM (fun k => ⟨by show (-9223372036854775808 : Int) ≤ 0; decide, by show (0 : Int) ≤ 9223372036854775807; decide⟩) (fun k c hc => ?_) (fun a' v' w' i' hr' hn' hf' hA' => ?_)
  · obtain ⟨c, hc⟩ : ∃ c, calls[0]? = some c := ⟨_, List.getElem?_eq_getElem (by omega)⟩
    have h1 := World.block_lt_of_cell? _ _ (hI 0 c hc).1
    have h2 := hmi _ hb
    simp only at h1
    omega
  · have h4 := hI k c hc
    have hlt : lb < v.heap.size := World.block_lt_of_cell? _ _ h4.1
    exact ⟨by rw [World.cell?_of_block (w := v) (w' := v9) (gr.old lb hlt)]; exact h4.1, by rw [World.cell?_of_block (w := v) (w' := v9) (gr.old lb hlt)]; exact h4.2⟩
  · refine goesI_retZ (Q := fun a w' => a.tmps.getD 2 undef = .bool true ∧ w'.heap = v'.heap ∧ w'.os = v'.os ∧ w'.output = v'.output) hr' hn' fine_T9 hA'.defers (fun τ => T9_wp (v := onTape v' τ 0) hA') (fun a'' v'' w'' todo hQ hd hr'' hn'' => hend a'' v'' w'' todo hr'' ⟨?_, fun b hb => ?_, ?_, ?_⟩ hd hQ.1)
    · rw [hQ.2.1]; have := gr.size; have := hf'.size; omega
    · rw [hQ.2.1, hf'.block b (by have := gr.size; omega) (fun h => by have := hmi b h; omega), gr.old b hb]
    · rw [hQ.2.2.1, hf'.os]; exact gr.os
    · rw [hQ.2.2.2, hf'.output]; exact gr.output

set_option maxHeartbeats 4000000 in
set_option maxRecDepth 100000 in
theorem law9_in {Ch : Nat → Prop} {Stop : Goroutine → World → Prop} {main : Bool} {w : World} (lst : Value)
    (hk : ∀ (w' : World) (bd : Frame) (ad : Act) (od : Array Oper) (qd : Nat) (rd : List Nat) (oe : Oper) (kd : List Item), (∃ d, w' = w.at d) → od[qd]? = some oe →
      (∀ (Ch : Nat → Prop) (Stop : Goroutine → World → Prop) (w1 : World), (∀ a, F9 [(0, lst), (3, .bool true)] a → GoesI Try.prog main (DT (ScZ zn) Ch) Stop (G ((base 9).at a [.code P9]) []) w1) → GoesI Try.prog main (DT (ScZ zn) Ch) Stop (G (bd.at (ad.put oe.dst (.bool true)) (.inRegion od rd :: kd)) []) w1) →
      GoesI Try.prog main (DT (ScZ zn) Ch) Stop (G ((base 30).at { tmps := Array.replicate 53 undef, defers := [] } [.code B28]) [bd.at ad (.inRegion od (qd :: rd) :: kd)]) w') :
    GoesI Try.prog main (DT (ScZ zn) Ch) Stop (G ((base 9).at { tmps := #[lst] ++ Array.replicate 104 undef, defers := [] } [.code B9]) []) w := by
  rw [eB9]
  simp only [Array.replicate_succ, Array.replicate_zero, List.push_toArray, List.append_toArray, List.nil_append, List.cons_append]
  refine goesI_seq (dt_idle _ _) ?_
  generalize hR : P9 = R9 at hk ⊢
  unfold z1 B9 Try.f9 seq1 seq2
  simp only [Option.getD_some]
  refine goesI_region (dt_idle _ _) ?_
  simp only [List.size_toArray, List.length_cons, List.length_nil, Nat.reduceAdd, Nat.zero_add, List.range, List.range.loop]
  (refine goesI_oper rfl rfl (by decide) (fun d K hK => ?_)
   go_simp
   refine hK _ _ ⟨dt_reads (fun e he => ?_), GoesI.at ?_ d⟩
   · have hm := mem_listed he
     simp [go_sem, *] at hm
   clear hK K)
  refine goesI_regionEnd (dt_idle _ _) ?_
  refine goesI_seq (dt_idle _ _) ?_
  refine goesI_region (dt_idle _ _) ?_
  simp only [List.size_toArray, List.length_cons, List.length_nil, Nat.reduceAdd, Nat.zero_add, List.range, List.range.loop]
  refine goesI_into (f := 30) (fn := Try.f30) (args := #[]) (dt_idle _ _) rfl rfl (by decide) rfl (by simp [Act.eval]) Try.func30 (by decide) rfl ?_
  refine hk w _ _ _ _ _ _ _ ⟨w.drawn, rfl⟩ rfl (fun Ch Stop w1 hg => ?_)
  clear hk
  (refine goesI_oper rfl rfl (by decide) (fun d K hK => ?_)
   go_simp
   refine hK _ _ ⟨dt_reads (fun e he => ?_), GoesI.at ?_ d⟩
   · have hm := mem_listed he
     simp [go_sem, *] at hm
   clear hK K)
  refine goesI_regionEnd (dt_idle _ _) ?_
  exact hg _ ⟨rfl, rfl, by
    intro p hp
    simp only [List.mem_cons, List.not_mem_nil, or_false] at hp
    rcases hp with rfl | rfl <;> rfl⟩

theorem end9 {a : Act} {todo : List Item} {w : World} (hd : a.defers = []) (h4 : a.tmps.getD 2 undef = .bool true) : stepG Try.prog true (G { (base 9).at a todo with mode := .returning } []) w = .ended (.done (.bool true)) w #[] := by
  have hr : (results Try.f9 a.tmps).run Try.prog w = .ok (.bool true) w := by rw [results_tmp (t := 2) rfl, h4]
  have he : (results Try.f9 a.tmps).events Try.prog w #[] = #[] := by simp [results, go_sem, Try.f9]
  simp [G, stepG, unwind, Frame.at, hd, Try.func9, base, hr, he, doReturn, GStep.after, seen]

theorem InC.grows {v v' : World} {lb lo : Nat} {calls : List Cl} (h : InC v lb lo calls) (g : Grows v v') : InC v' lb lo calls := fun k c hc => by
  have h4 := h k c hc
  have hl : lb < v.heap.size := World.block_lt_of_cell? _ _ h4.1
  exact ⟨by rw [World.cell?_of_block (w := v) (w' := v') (g.old lb hl)]; exact h4.1, by rw [World.cell?_of_block (w := v) (w' := v') (g.old lb hl)]; exact h4.2⟩

set_option maxHeartbeats 1000000 in
theorem run9 (W : World) (p : Option Addr) (n cap lb lo : Nat) (calls : List Cl) (hp : 0 < n → p = some ⟨lb, lo, none⟩) (hl : calls.length = n) (hn9 : (n : Int) < 9223372036854775808) (hI : InC W lb lo calls) :
    ∃ M last o w' t', runNT Try.prog (M + 1) (solo (G (Frame.enter Try.prog 9 #[.slice p n cap] .normal) []) W) #[] = (.ended o w', t') ∧
      runN Try.prog M (solo (G (Frame.enter Try.prog 9 #[.slice p n cap] .normal) []) W) = .next last ∧ step Try.prog last = .ended o w' ∧ Go.Conc.Good Try.prog (PostT W) last o w' t' := by
  have e : Frame.enter Try.prog 9 #[.slice p n cap] .normal = (base 9).at { tmps := #[.slice p n cap] ++ Array.replicate 104 undef, defers := [] } [.code B9] := enter_at (fn := Try.f9) (c := B9) _ Try.func9 (by rfl)
  rw [e, solo_eq_crowd]
  have A : Alone #[G ((base 9).at { tmps := #[.slice p n cap] ++ Array.replicate 104 undef, defers := [] } [.code B9]) []] W #[] (fun _ => 0) := ⟨leavers_one _ _, 0, Nat.zero_le _, past_nil⟩
  obtain ⟨N1, gs1, a1, w1, sl1, T1, q1, r1, z1, h1, ⟨bd, ad, od, qd, rd, oe, kd, ⟨d1, rfl⟩, hoe, hback, rfl⟩, A1⟩ := alone_goes A rfl none (Stop := fun g w' => ∃ (bd : Frame) (ad : Act) (od : Array Oper) (qd : Nat) (rd : List Nat) (oe : Oper) (kd : List Item), (∃ d, w' = W.at d) ∧ od[qd]? = some oe ∧
      (∀ (Ch : Nat → Prop) (Stop : Goroutine → World → Prop) (w1 : World), (∀ a, F9 [(0, .slice p n cap), (3, .bool true)] a → GoesI Try.prog true (DT (ScZ zn) Ch) Stop (G ((base 9).at a [.code P9]) []) w1) → GoesI Try.prog true (DT (ScZ zn) Ch) Stop (G (bd.at (ad.put oe.dst (.bool true)) (.inRegion od rd :: kd)) []) w1) ∧
      g = G ((base 30).at { tmps := Array.replicate 53 undef, defers := [] } [.code B28]) [bd.at ad (.inRegion od (qd :: rd) :: kd)])
    (law9_in _ (fun w' bd ad od qd rd oe kd hw ho hback => GoesI.stop fun d => ⟨bd, ad, od, qd, rd, oe, kd, by obtain ⟨d0, rfl⟩ := hw; exact ⟨d, rfl⟩, ho, hback, rfl⟩))
  obtain ⟨N2, gs2, w2, sl2, T2, q2, r2, h2, A2, g2⟩ := lawake_all hoe sl1 A1 h1
  have g2' : Grows W w2 := ⟨g2.size, g2.old, g2.os, g2.output⟩
  obtain ⟨N3, gs3, a3, w3, sl3, T3, q3, r3, z3, h3, ⟨a', todo, hd, h4, g3, rfl⟩, A3⟩ := alone_goes A2 h2 sl2 (Stop := fun g w' => ∃ a' todo, a'.defers = [] ∧ a'.tmps.getD 2 undef = .bool true ∧ Grows w2 w' ∧ g = G { (base 9).at a' todo with mode := .returning } []) (hback (fun _ => False) _ w2 (law9_rest p n cap lb lo calls hp hl hn9 (Rel.refl w2) (fun c hc => hc.elim) (hI.grows g2') (fun a' v' w' todo hr hgr hd h4 => GoesI.stop fun d => ⟨a', todo, hd, h4, hgr.toAt hr d, rfl⟩)))
  have hfin : Grows W w3 := g2'.andThen g3
  obtain ⟨M4, last, o, w', t', e1, e2, e3, e4⟩ := alone_ends A3 h3 sl3 (Post := PostT W) (fun B d => ⟨rfl, .bool true, #[], end9 hd h4, fun e he => by simp at he, rfl, ⟨hfin.size, hfin.old, hfin.os, hfin.output⟩⟩)
  have hrun := runNT_then (runNT_then r1 r2) r3
  refine ⟨N1 + N2 + N3 + M4, last, o, w', t', ?_, ?_, e3, e4⟩
  · rw [Nat.add_assoc, runNT_add, hrun]; exact e1
  · rw [runN_add, ← runNT_fst Try.prog _ _ #[], hrun]; exact e2
end Go.Proofs.Ytfjjoohflcchnaa.Gen

namespace Go.Proofs.Ytfjjoohflcchnaa.Gen
open Go Go.Lift Go.Conc
open Go.ChangeShapes Go.WideShapes Go.ChangeAt Go.RowKit Go.Joins Go.Deep

/-- A list of calls that came in lies there. -/
def InL (w : World) (lb lo : Nat) (calls : List Cl) : Prop := ∀ (k : Nat) (c : Cl), calls[k]? = some c → w.cell? ⟨lb, lo + k * 4, none⟩ = some (I c.po) ∧ w.cell? ⟨lb, lo + k * 4 + 1, none⟩ = some (I c.ca) ∧ w.cell? ⟨lb, lo + k * 4 + 2, none⟩ = some (I c.cb) ∧ w.cell? ⟨lb, lo + k * 4 + 3, none⟩ = some (I c.cc)
theorem wr_knob : ownKnob Try.prog.godebug = none := by kernel_rfl
theorem wr_cells3 : Try.prog.cellsOf 3 = 1 := by kernel_rfl
theorem wr_cells39 : Try.prog.cellsOf 39 = 4 := by kernel_rfl
def clL (c : Cl) : List Value := [I c.po, I c.ca, I c.cb, I c.cc]

section
variable {H : Type} {enc : TypeId × Value → H} {w : World} {held : Bool}
set_option maxRecDepth 100000 in
theorem cl_open : ∀ fuel cs (y : DataW H × List MemPlace), cs.length = 4 → DataW.trod enc Try.prog w 0 (fun _ => true) held fuel 39 cs = some y → ∃ a, cs = clL a := by
  intro fuel cs y hl h
  obtain ⟨xs, k, hk, hxy, _, hxl, hf⟩ := DataW.trod_struct Try.underlying39 h
  match xs, hxl, cs, hl with
  | [y0, y1, y2, y3], _, [c0, c1, c2, c3], _ =>
    have g0 := hf 0 _ rfl
    have g1 := hf 1 _ rfl
    have g2 := hf 2 _ rfl
    have g3 := hf 3 _ rfl
    simp [wr_cells3] at g0 g1 g2 g3
    obtain ⟨a0, e0, _, f0⟩ := DataW.trod_int Try.underlying3 g0
    obtain ⟨a1, e1, _, f1⟩ := DataW.trod_int Try.underlying3 g1
    obtain ⟨a2, e2, _, f2⟩ := DataW.trod_int Try.underlying3 g2
    obtain ⟨a3, e3, _, f3⟩ := DataW.trod_int Try.underlying3 g3
    simp at e0 e1 e2 e3
    subst e0 e1 e2 e3
    exact ⟨⟨a0, a1, a2, a3⟩, rfl⟩
set_option maxRecDepth 100000 in
/-- A list of calls that came in. -/
theorem cls_open {r : Reach} {b0 : Nat} {v : Value} {d : DataW H} {ps : List MemPlace} (hv : Value.okWide Try.prog w r b0 37 v) (h : DataW.Trod enc Try.prog w 0 (fun _ => true) held 37 v d ps) :
    ∃ (p : Option Addr) (n cap lb lo : Nat) (l : List Cl), v = .slice p n cap ∧ (0 < n → p = some ⟨lb, lo, none⟩) ∧ l.length = n ∧ n ≤ maxLen ∧ InL w lb lo l := by
  obtain ⟨a0, len0, cap0, rfl⟩ := okWide_slice Try.underlying37 hv
  obtain ⟨fuel, hf⟩ := h
  rcases open_slice Try.underlying37 hf with ⟨hcs, hx⟩ | ⟨ad, len, cap, m, k, D, Pl, hcs, _, hl, hm, hmm, hxe, hx⟩
  · simp [Value.cells] at hcs
    obtain ⟨rfl, rfl, rfl⟩ := hcs
    exact ⟨none, 0, 0, 0, 0, [], rfl, fun h => by omega, rfl, Nat.zero_le _, fun k c h => by simp at h⟩
  · simp [Value.cells] at hcs
    obtain ⟨rfl, rfl, rfl⟩ := hcs
    simp only [if_true] at hmm
    subst hmm
    have each : ∀ i, i < len0 → ∃ a : Cl, ∀ j, j < 4 → w.cell? ((ad.add (i * 4)).add j) = (clL a)[j]? := by
      intro i hi
      obtain ⟨cs', h1, h2⟩ := hx i (by omega)
      rw [wr_cells39] at h1
      obtain ⟨_, hlen, hc⟩ := World.cells?_some h1
      obtain ⟨a, rfl⟩ := cl_open _ _ _ hlen h2
      exact ⟨a, hc⟩
    have ie : Inhabited Cl := ⟨⟨0, 0, 0, 0⟩⟩
    obtain ⟨q, hq⟩ := choose_lt each
    obtain ⟨b, off, spot⟩ := ad
    by_cases h0 : len0 = 0
    · subst h0
      exact ⟨_, 0, _, 0, 0, [], rfl, fun h => by omega, rfl, Nat.zero_le _, fun k c h => by simp at h⟩
    · have c00 := (hq 0 (by omega) 0 (by omega))
      have c01 : w.cell? (((⟨b, off, spot⟩ : Addr).add (0 * 4)).add 0) = some (I (q 0).po) := c00
      have hspot : spot = none := by
        have := World.cell?_spot c01
        simpa [Addr.add] using this
      subst hspot
      have hadd : ∀ (o j : Nat), (⟨b, o, none⟩ : Addr).add j = ⟨b, o + j, none⟩ := by intro o j; unfold Addr.add; split <;> simp_all
      refine ⟨_, len0, _, b, off, (List.range len0).map q, rfl, fun _ => rfl, by simp, Nat.le_trans hl hm, fun i a hi => ?_⟩
      have hil : i < len0 := by simpa using (List.getElem?_eq_some_iff.1 hi).1
      have ha : a = q i := by simp [hil] at hi; exact hi.symm
      subst ha
      have k0 := hq i hil 0 (by omega)
      have k1 := hq i hil 1 (by omega)
      have k2 := hq i hil 2 (by omega)
      have k3 := hq i hil 3 (by omega)
      rw [hadd, hadd] at k0 k1 k2 k3
      exact ⟨k0, k1, k2, k3⟩
end

theorem _root_.Go.Proofs.Ytfjjoohflcchnaa.Grows.frame {W w' : World} (h : Grows W w') (may : MemPlace → Prop) : W.keptBut w' may := by
  refine ⟨h.os, h.output, fun i hi => ?_⟩
  rw [h.old i hi]
  split <;> simp_all
theorem _root_.Go.Proofs.Ytfjjoohflcchnaa.Grows.sameP {W w' : World} (h : Grows W w') {p : MemPlace} (hp : p.block < W.heap.size) : W.sameAt w' p := by
  cases p with
  | cell b o => exact World.cell?_of_block (w := W) (h.old b hp)
  | map b => exact h.old b hp
theorem laidOut5 : laidOutB Try.prog = true := by kernel_rfl
theorem _root_.Go.Proofs.Ytfjjoohflcchnaa.Grows.trod {H : Type} {enc : TypeId × Value → H} {t : TypeId} (hr : Try.prog.readableRec t = true) (hrow : t < Try.prog.types.size) {W W' : World} {v : Value} {d : DataW H} {ps : List MemPlace}
    (h : DataW.Trod enc Try.prog W 0 (fun _ => true) true t v d ps) (hb : Grows W W') (hlt : ∀ x ∈ ps, x.block < W.heap.size) :
    DataW.Trod enc Try.prog W' 0 (fun b => decide (b < W.heap.size)) true t v d ps :=
  WideElems.Trod_stays laidOut5 hr hrow h (fun x hx => hb.sameP (hlt x hx)) (fun x hx => by simpa using hlt x hx)

end Go.Proofs.Ytfjjoohflcchnaa.Gen

namespace Go.Proofs.Ytfjjoohflcchnaa
open Go Go.Lift Go.Conc
open Go.ChangeShapes Go.WideShapes Go.ChangeAt Go.RowKit Go.Joins Go.Deep
open Gen

set_option maxRecDepth 100000 in
theorem free_lifted (os : Os) (started : os.Started) (H : Type) (enc : TypeId × Value → H) :
    ReturnsInLeavingWide {} Try.checked os 9 .any (Rows.lockFreeSpec.pre6 enc Try.prog Try.f9 Rows.lockFreeRow.domain false) (Rows.lockFreeSpec.post enc Try.prog Try.f9 false true false false) := by
  refine returnsInLeavingWide_of_change_sized (C := Try.checked) wr_knob started Try.func9
    (ChangeSpec.witness6 (enc := enc) (C := Try.checked) false ⟨#[], #[.slice none 0 0], []⟩ 8 (by kernel_rfl) (by kernel_rfl) (by kernel_rfl) (by kernel_rfl)) ?_
  intro W base args ds gs before hval0 hW _ _ _
  have hval : ∀ (j : Nat) t v, Try.f9.params[j]? = some t → args[j]? = some v → Value.okWide Try.prog W .any base t v := hval0
  have hW' := hW
  obtain ⟨p, q, hA0, hV, rfl, _, _⟩ := hW
  have hA : DataW.TrodAll enc Try.prog W 0 (fun _ => true) true Try.f9.params.toList args.toList ds p := hA0
  rw [Try.params9] at hA hval
  obtain ⟨v0, vs0, d0, ds0, p0, q0, hargs, rfl, rfl, h0, r0⟩ := trodAll_cons hA
  obtain ⟨rfl, rfl, rfl⟩ := trodAll_nil r0
  obtain rfl : args = #[v0] := by cases args; simp_all
  obtain ⟨rfl, rfl⟩ := trodVars_none hV
  have k0 := h0
  have lt0 : ∀ x ∈ p0, x.block < W.heap.size := by obtain ⟨m, hm⟩ := k0; exact DataW.trod_lt m _ _ _ hm
  obtain ⟨pp, n, cap, lb, lo, l, hx1, hp, hl, hn, hI⟩ := cls_open (hval 0 37 v0 rfl rfl) h0
  clear hA0 hval0
  subst hx1
  simp only [List.append_nil] at hW'
  obtain ⟨M, last, o, w', t', e1, e2, e3, e4⟩ := run9 W pp n cap lb lo l hp hl (by unfold maxLen at hn; omega) (fun k c hc => ⟨(hI k c hc).1, (hI k c hc).2.1⟩)
  refine ⟨M, last, o, w', t', e1, e2, e3, e4.mono fun v hF => ?_⟩
  obtain ⟨rfl, bel⟩ : PostT W v w' := hF
  exact ⟨_, _, _, [], _, [], hW', trodAll_mk1 (shut_bool Try.underlying4 _),
    (trodAll_cons_mk (Grows.trod (by kernel_rfl) (of_decide_eq_true (by kernel_rfl)) k0 bel lt0) trodAll_mk0), rfl, bel.frame _, fun h => by cases h⟩

theorem lockFree_holds : Rows.LockFreeSaid :=
  OpenClaim.holds_of_wide_leaving 9 Try.f9 rfl rfl rfl rfl rfl rfl rfl ⟨rfl, rfl, rfl, rfl, rfl⟩ rfl rfl rfl rfl rfl (by kernel_rfl) Try.func9 (by kernel_rfl)
    (of_decide_eq_true (by kernel_rfl)) (by unfold Func.isWrapper; first | (rw [if_pos (by decide +kernel)]; kernel_rfl) | (rw [if_neg (by decide +kernel)]; exact ⟨rfl, rfl⟩))
    (fun os started H enc _ => free_lifted os started H enc)

#print axioms lockFree_holds
end Go.Proofs.Ytfjjoohflcchnaa
