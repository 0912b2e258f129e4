/- LatchAlone is true of the program at this commit: by one free thread alone, of a latch of no world, Down and Wait answer as a number says that is counted down, whatever the number and the calls; no conditions. Part 28 of 28. (Joined, by program, of: La12c, GIns, GOpens, La12Row.) -/
import Derived.Test.YtfjjoohflcchnaaLatchAlone22
import Derived.Test.YtfjjoohflcchnaaLatchAlone24
import Derived.Test.YtfjjoohflcchnaaLatchAlone26
import Derived.Test.YtfjjoohflcchnaaLatchAlone27
import Derived.Conc.LeavingOf
import Derived.ProofKit
import Derived.OpenShut
import Derived.ChangeOld
import Derived.SizedLaws
import Derived.Lib.SmallJoins
import Derived.Deep.SlicePairs
import Derived.Test.YtfjjoohflcchnaaRows
set_option linter.unusedSimpArgs false
set_option linter.unusedVariables false
namespace Go.Proofs.Ytfjjoohflcchnaa.Gen
open Go Go.Lift Go.Conc Go.RowKit

/-- max(n, 0). -/
def mx (n : Int) : Int := if 0 > n then 0 else n
set_option maxHeartbeats 4000000 in
set_option maxRecDepth 100000 in
theorem body42n (v : World) (n0 : Int) : Body Try.f44 #[.pointer none, I n0] v (fun r v' => r = Pt (v.heap.size + 1) 0 ∧ v'.heap = (v.heap.push (.cells #[I 0, I (mx n0)] 94)).push (.cells #[Pt v.heap.size 0] 113) ∧ v'.os = v.os ∧ v'.output = v.output) := by
  intro code hb
  obtain rfl := Option.some.inj hb
  clear hb
  have H1 : Hid (Calls Try.prog 21 #[.pointer none, I (mx n0)] v (fun e w' => e = .returned (Pt v.heap.size 0) ∧ w'.heap.size = v.heap.size + 1 ∧ Hid (w'.heap = v.heap.push (.cells #[I 0, I (mx n0)] 94) ∧ w'.os = v.os ∧ w'.output = v.output))) := ⟨((body10n v (mx n0)).calls Try.func21 rfl).mono (by
    rintro e w' ⟨r, rfl, rfl, h, h2, h3⟩
    exact ⟨rfl, by rw [h]; simp, ⟨h, h2, h3⟩⟩)⟩
  have hc : (mx n0 = 0 ∧ n0 < 0) ∨ (mx n0 = n0 ∧ 0 ≤ n0) := by
    unfold mx
    by_cases h : n0 < 0
    · exact .inl ⟨by rw [if_pos h], h⟩
    · exact .inr ⟨by rw [if_neg h], by omega⟩
  rcases hc with ⟨hm, h0⟩ | ⟨hm, h0⟩
  all_goals
    rw [hm] at H1 ⊢
    clear hm
    simp only [Try.ntmps44, List.size_toArray, List.length_cons, List.length_nil, Nat.reduceAdd, Nat.reduceSub, Array.replicate_succ, Array.replicate_zero, List.push_toArray, List.append_toArray, List.nil_append, List.cons_append]
    go_wp2_with (first
      | (go_at_call 21; refine H1.out.mono ?_; rintro e w1 ⟨rfl, hs, K1⟩))
    go_ret
    exact ⟨_, rfl, rfl, by show w1.heap.push _ = _; rw [K1.out.1], K1.out.2.1, K1.out.2.2⟩

noncomputable def y1 : Code := seq1 (seq2 LB12)
noncomputable def y2 : Code := seq1 (seq2 (seq2 LB12))
noncomputable def y3 : Code := seq1 (seq2 (seq2 (seq2 LB12)))
noncomputable def y5 : Code := seq1 (seq2 (seq2 (seq2 (seq2 LB12))))
noncomputable def y6 : Code := seq1 (seq2 (seq2 (seq2 (seq2 (seq2 LB12)))))
noncomputable def y7 : Code := seq1 C12
noncomputable def T12 : Code := seq2 (seq2 (seq2 (seq2 (seq2 (seq2 (seq2 LB12))))))
noncomputable def P12 : Code := .seq y2 (.seq y3 (.seq y5 (.seq y6 (.seq (.seq y7 (.block 0 (.loop L12))) T12))))
theorem eLB12 : LB12 = .seq (seq1 LB12) (.seq y1 P12) := by kernel_rfl
theorem fine_y2 : fineCode Try.prog true LV y2 := fineCode_askS callV extT (by kernel_rfl)
theorem fine_y3 : fineCode Try.prog true LV y3 := fineCode_askS callV extT (by kernel_rfl)
theorem fine_y5 : fineCode Try.prog true LV y5 := fineCode_askS callV extT (by kernel_rfl)
theorem fine_y6 : fineCode Try.prog true LV y6 := fineCode_askS callV extT (by kernel_rfl)
theorem fine_y7 : fineCode Try.prog true LV y7 := fineCode_askS callV extT (by kernel_rfl)
theorem fine_T12 : fineCode Try.prog true LV T12 := fineCode_askS callV extT (by kernel_rfl)
set_option maxHeartbeats 4000000 in
set_option maxRecDepth 100000 in
theorem y2_wp {v : World} {a : Act} {lst : Value} {n0 : Int}  (hA : Fl 63 [(0, I n0), (1, lst), (5, .bool true)] a) : y2.wp Try.prog (fun e a' w' => e = .normal ∧ Fl 63 [(0, I n0), (1, lst), (5, .bool true), (6, Pt (v.heap.size + 1) 0)] a' ∧ w'.heap = (v.heap.push (.cells #[I 0, I (mx n0)] 94)).push (.cells #[Pt v.heap.size 0] 113) ∧ w'.os = v.os ∧ w'.output = v.output) a v := by
  obtain ⟨hsz, hd, hp⟩ := hA
  obtain ⟨u, rfl, hg⟩ := litN hsz hd
  have u0 := (hg 0).symm.trans (hp (0, I n0) (by simp))
  have u1 := (hg 1).symm.trans (hp (1, lst) (by simp))
  have u5 := (hg 5).symm.trans (hp (5, .bool true) (by simp))
  clear hg hp hsz hd
  unfold y2 LB12 Try.f12 seq2 seq1
  simp only [Option.getD_some, lits, Nat.reduceAdd, u0, u1, u5]
  clear u0 u1 u5
  have H : Hid (Calls Try.prog 44 #[.pointer none, I n0] v _) := ⟨(body42n v n0).calls Try.func44 rfl⟩
  go_wp2_with (first
    | (go_at_call 44; refine H.out.mono ?_; rintro e w1 ⟨_, rfl, rfl, h1, h2, h3⟩))
  first
    | exact ⟨rfl, rfl, by
        intro p hp
        simp only [List.mem_cons, List.not_mem_nil, or_false] at hp
        rcases hp with rfl | rfl | rfl | rfl <;> rfl⟩
    | exact ⟨⟨rfl, rfl, by
        intro p hp
        simp only [List.mem_cons, List.not_mem_nil, or_false] at hp
        rcases hp with rfl | rfl | rfl | rfl <;> rfl⟩, rfl⟩
    | exact ⟨⟨rfl, rfl, by
        intro p hp
        simp only [List.mem_cons, List.not_mem_nil, or_false] at hp
        rcases hp with rfl | rfl | rfl | rfl <;> rfl⟩, rfl, rfl⟩
    | exact ⟨⟨rfl, rfl, by
        intro p hp
        simp only [List.mem_cons, List.not_mem_nil, or_false] at hp
        rcases hp with rfl | rfl | rfl | rfl <;> rfl⟩, rfl, rfl, rfl⟩
    | exact ⟨⟨rfl, rfl, by
        intro p hp
        simp only [List.mem_cons, List.not_mem_nil, or_false] at hp
        rcases hp with rfl | rfl | rfl | rfl <;> rfl⟩, rfl, rfl, rfl, rfl⟩
    | exact ⟨⟨rfl, rfl, by
        intro p hp
        simp only [List.mem_cons, List.not_mem_nil, or_false] at hp
        rcases hp with rfl | rfl | rfl | rfl <;> rfl⟩, rfl, rfl, rfl, rfl, rfl⟩
    | exact ⟨⟨rfl, rfl, by
        intro p hp
        simp only [List.mem_cons, List.not_mem_nil, or_false] at hp
        rcases hp with rfl | rfl | rfl | rfl <;> rfl⟩, h1, h2, h3⟩

set_option maxHeartbeats 4000000 in
set_option maxRecDepth 100000 in
theorem y3_wp {v : World} {a : Act} {lst : Value} {n0 : Int} {lb : Nat}  (hA : Fl 63 [(0, I n0), (1, lst), (5, .bool true), (6, Pt lb 0)] a) : y3.wp Try.prog (fun e a' w' => e = .normal ∧ Fl 63 [(0, I n0), (1, lst), (5, .bool true), (6, Pt lb 0)] a' ∧ w'.heap = v.heap ∧ w'.os = v.os ∧ w'.output = v.output) a v := by
  obtain ⟨hsz, hd, hp⟩ := hA
  obtain ⟨u, rfl, hg⟩ := litN hsz hd
  have u0 := (hg 0).symm.trans (hp (0, I n0) (by simp))
  have u1 := (hg 1).symm.trans (hp (1, lst) (by simp))
  have u5 := (hg 5).symm.trans (hp (5, .bool true) (by simp))
  have u6 := (hg 6).symm.trans (hp (6, Pt lb 0) (by simp))
  clear hg hp hsz hd
  unfold y3 LB12 Try.f12 seq2 seq1
  simp only [Option.getD_some, lits, Nat.reduceAdd, u0, u1, u5, u6]
  clear u0 u1 u5 u6
  go_wp2_with fail
  first
    | exact ⟨rfl, rfl, by
        intro p hp
        simp only [List.mem_cons, List.not_mem_nil, or_false] at hp
        rcases hp with rfl | rfl | rfl | rfl <;> rfl⟩
    | exact ⟨⟨rfl, rfl, by
        intro p hp
        simp only [List.mem_cons, List.not_mem_nil, or_false] at hp
        rcases hp with rfl | rfl | rfl | rfl <;> rfl⟩, rfl⟩
    | exact ⟨⟨rfl, rfl, by
        intro p hp
        simp only [List.mem_cons, List.not_mem_nil, or_false] at hp
        rcases hp with rfl | rfl | rfl | rfl <;> rfl⟩, rfl, rfl⟩
    | exact ⟨⟨rfl, rfl, by
        intro p hp
        simp only [List.mem_cons, List.not_mem_nil, or_false] at hp
        rcases hp with rfl | rfl | rfl | rfl <;> rfl⟩, rfl, rfl, rfl⟩
    | exact ⟨⟨rfl, rfl, by
        intro p hp
        simp only [List.mem_cons, List.not_mem_nil, or_false] at hp
        rcases hp with rfl | rfl | rfl | rfl <;> rfl⟩, rfl, rfl, rfl, rfl⟩
    | exact ⟨⟨rfl, rfl, by
        intro p hp
        simp only [List.mem_cons, List.not_mem_nil, or_false] at hp
        rcases hp with rfl | rfl | rfl | rfl <;> rfl⟩, rfl, rfl, rfl, rfl, rfl⟩

set_option maxHeartbeats 4000000 in
set_option maxRecDepth 100000 in
theorem y5_wp {v : World} {a : Act} {lst : Value} {n0 : Int} {lb : Nat}  (hA : Fl 63 [(0, I n0), (1, lst), (5, .bool true), (6, Pt lb 0)] a) : y5.wp Try.prog (fun e a' w' => e = .normal ∧ Fl 63 [(0, I n0), (1, lst), (5, .bool true), (6, Pt lb 0), (7, Pt v.heap.size 0)] a' ∧ w'.heap = v.heap.push (.cells #[.pointer none, I 0, .chan none, I 0, I 0, I 0, I 0] 97) ∧ w'.os = v.os ∧ w'.output = v.output) a v := by
  obtain ⟨hsz, hd, hp⟩ := hA
  obtain ⟨u, rfl, hg⟩ := litN hsz hd
  have u0 := (hg 0).symm.trans (hp (0, I n0) (by simp))
  have u1 := (hg 1).symm.trans (hp (1, lst) (by simp))
  have u5 := (hg 5).symm.trans (hp (5, .bool true) (by simp))
  have u6 := (hg 6).symm.trans (hp (6, Pt lb 0) (by simp))
  clear hg hp hsz hd
  unfold y5 LB12 Try.f12 seq2 seq1
  simp only [Option.getD_some, lits, Nat.reduceAdd, u0, u1, u5, u6]
  clear u0 u1 u5 u6
  have H : Hid (Calls Try.prog 22 #[I 0] v _) := ⟨(body11 v).calls Try.func22 rfl⟩
  go_wp2_with (first
    | (go_at_call 22; refine H.out.mono ?_; rintro e w1 ⟨_, rfl, rfl, h1, h2, h3⟩))
  first
    | exact ⟨rfl, rfl, by
        intro p hp
        simp only [List.mem_cons, List.not_mem_nil, or_false] at hp
        rcases hp with rfl | rfl | rfl | rfl | rfl <;> rfl⟩
    | exact ⟨⟨rfl, rfl, by
        intro p hp
        simp only [List.mem_cons, List.not_mem_nil, or_false] at hp
        rcases hp with rfl | rfl | rfl | rfl | rfl <;> rfl⟩, rfl⟩
    | exact ⟨⟨rfl, rfl, by
        intro p hp
        simp only [List.mem_cons, List.not_mem_nil, or_false] at hp
        rcases hp with rfl | rfl | rfl | rfl | rfl <;> rfl⟩, rfl, rfl⟩
    | exact ⟨⟨rfl, rfl, by
        intro p hp
        simp only [List.mem_cons, List.not_mem_nil, or_false] at hp
        rcases hp with rfl | rfl | rfl | rfl | rfl <;> rfl⟩, rfl, rfl, rfl⟩
    | exact ⟨⟨rfl, rfl, by
        intro p hp
        simp only [List.mem_cons, List.not_mem_nil, or_false] at hp
        rcases hp with rfl | rfl | rfl | rfl | rfl <;> rfl⟩, rfl, rfl, rfl, rfl⟩
    | exact ⟨⟨rfl, rfl, by
        intro p hp
        simp only [List.mem_cons, List.not_mem_nil, or_false] at hp
        rcases hp with rfl | rfl | rfl | rfl | rfl <;> rfl⟩, rfl, rfl, rfl, rfl, rfl⟩
    | exact ⟨⟨rfl, rfl, by
        intro p hp
        simp only [List.mem_cons, List.not_mem_nil, or_false] at hp
        rcases hp with rfl | rfl | rfl | rfl | rfl <;> rfl⟩, h1, h2, h3⟩

set_option maxHeartbeats 4000000 in
set_option maxRecDepth 100000 in
theorem y6_wp {v : World} {a : Act} {lst : Value} {n0 : Int} {lb tb : Nat}  (hA : Fl 63 [(0, I n0), (1, lst), (5, .bool true), (6, Pt lb 0), (7, Pt tb 0)] a) : y6.wp Try.prog (fun e a' w' => e = .normal ∧ Fl 63 [(1, lst), (6, Pt lb 0), (7, Pt tb 0), (8, I (mx n0))] a' ∧ w'.heap = v.heap ∧ w'.os = v.os ∧ w'.output = v.output) a v := by
  obtain ⟨hsz, hd, hp⟩ := hA
  obtain ⟨u, rfl, hg⟩ := litN hsz hd
  have u0 := (hg 0).symm.trans (hp (0, I n0) (by simp))
  have u1 := (hg 1).symm.trans (hp (1, lst) (by simp))
  have u5 := (hg 5).symm.trans (hp (5, .bool true) (by simp))
  have u6 := (hg 6).symm.trans (hp (6, Pt lb 0) (by simp))
  have u7 := (hg 7).symm.trans (hp (7, Pt tb 0) (by simp))
  clear hg hp hsz hd
  unfold y6 LB12 Try.f12 seq2 seq1
  simp only [Option.getD_some, lits, Nat.reduceAdd, u0, u1, u5, u6, u7]
  clear u0 u1 u5 u6 u7
  have hc : (mx n0 = 0 ∧ n0 < 0) ∨ (mx n0 = n0 ∧ 0 ≤ n0) := by
    unfold mx
    by_cases h : n0 < 0
    · exact .inl ⟨by rw [if_pos h], h⟩
    · exact .inr ⟨by rw [if_neg h], by omega⟩
  rcases hc with ⟨hm, h0⟩ | ⟨hm, h0⟩
  all_goals
    rw [hm]
    clear hm
    go_wp2_with fail
    first
      | exact ⟨rfl, rfl, by
          intro p hp
          simp only [List.mem_cons, List.not_mem_nil, or_false] at hp
          rcases hp with rfl | rfl | rfl | rfl <;> rfl⟩
      | exact ⟨⟨rfl, rfl, by
          intro p hp
          simp only [List.mem_cons, List.not_mem_nil, or_false] at hp
          rcases hp with rfl | rfl | rfl | rfl <;> rfl⟩, rfl⟩
      | exact ⟨⟨rfl, rfl, by
          intro p hp
          simp only [List.mem_cons, List.not_mem_nil, or_false] at hp
          rcases hp with rfl | rfl | rfl | rfl <;> rfl⟩, rfl, rfl⟩
      | exact ⟨⟨rfl, rfl, by
          intro p hp
          simp only [List.mem_cons, List.not_mem_nil, or_false] at hp
          rcases hp with rfl | rfl | rfl | rfl <;> rfl⟩, rfl, rfl, rfl⟩
      | exact ⟨⟨rfl, rfl, by
          intro p hp
          simp only [List.mem_cons, List.not_mem_nil, or_false] at hp
          rcases hp with rfl | rfl | rfl | rfl <;> rfl⟩, rfl, rfl, rfl, rfl⟩
      | exact ⟨⟨rfl, rfl, by
          intro p hp
          simp only [List.mem_cons, List.not_mem_nil, or_false] at hp
          rcases hp with rfl | rfl | rfl | rfl <;> rfl⟩, rfl, rfl, rfl, rfl, rfl⟩

set_option maxHeartbeats 4000000 in
set_option maxRecDepth 100000 in
theorem y7_wp {v : World} {a : Act} {lst t8 : Value} {lb tb : Nat}  (hA : Fl 63 [(1, lst), (6, Pt lb 0), (7, Pt tb 0), (8, t8)] a) : y7.wp Try.prog (fun e a' w' => e = .normal ∧ Fl 63 [(1, lst), (6, Pt lb 0), (7, Pt tb 0), (8, t8), (9, I 0)] a' ∧ w'.heap = v.heap ∧ w'.os = v.os ∧ w'.output = v.output) a v := by
  obtain ⟨hsz, hd, hp⟩ := hA
  obtain ⟨u, rfl, hg⟩ := litN hsz hd
  have u1 := (hg 1).symm.trans (hp (1, lst) (by simp))
  have u6 := (hg 6).symm.trans (hp (6, Pt lb 0) (by simp))
  have u7 := (hg 7).symm.trans (hp (7, Pt tb 0) (by simp))
  have u8 := (hg 8).symm.trans (hp (8, t8) (by simp))
  clear hg hp hsz hd
  unfold y7 C12 LB12 Try.f12 seq2 seq1
  simp only [Option.getD_some, lits, Nat.reduceAdd, u1, u6, u7, u8]
  clear u1 u6 u7 u8
  go_wp2_with fail
  first
    | exact ⟨rfl, rfl, by
        intro p hp
        simp only [List.mem_cons, List.not_mem_nil, or_false] at hp
        rcases hp with rfl | rfl | rfl | rfl | rfl <;> rfl⟩
    | exact ⟨⟨rfl, rfl, by
        intro p hp
        simp only [List.mem_cons, List.not_mem_nil, or_false] at hp
        rcases hp with rfl | rfl | rfl | rfl | rfl <;> rfl⟩, rfl⟩
    | exact ⟨⟨rfl, rfl, by
        intro p hp
        simp only [List.mem_cons, List.not_mem_nil, or_false] at hp
        rcases hp with rfl | rfl | rfl | rfl | rfl <;> rfl⟩, rfl, rfl⟩
    | exact ⟨⟨rfl, rfl, by
        intro p hp
        simp only [List.mem_cons, List.not_mem_nil, or_false] at hp
        rcases hp with rfl | rfl | rfl | rfl | rfl <;> rfl⟩, rfl, rfl, rfl⟩
    | exact ⟨⟨rfl, rfl, by
        intro p hp
        simp only [List.mem_cons, List.not_mem_nil, or_false] at hp
        rcases hp with rfl | rfl | rfl | rfl | rfl <;> rfl⟩, rfl, rfl, rfl, rfl⟩
    | exact ⟨⟨rfl, rfl, by
        intro p hp
        simp only [List.mem_cons, List.not_mem_nil, or_false] at hp
        rcases hp with rfl | rfl | rfl | rfl | rfl <;> rfl⟩, rfl, rfl, rfl, rfl, rfl⟩

set_option maxHeartbeats 4000000 in
set_option maxRecDepth 100000 in
theorem T12_wp {v : World} {a : Act} (hs : a.tmps.size = 63) (hd : a.defers = []) : T12.wp Try.prog (fun e a' w' => e = .ret ∧ a'.tmps.getD 4 undef = .bool true ∧ w'.heap = v.heap ∧ w'.os = v.os ∧ w'.output = v.output) a v := by
  obtain ⟨u, rfl, hg⟩ := litN hs hd
  clear hg hs hd
  unfold T12 LB12 Try.f12 seq2
  simp only [Option.getD_some, lits, Nat.reduceAdd]
  go_wp2_with fail

set_option maxHeartbeats 4000000 in
set_option maxRecDepth 100000 in
/-- Behind the law's first play. -/
theorem law12_rest {Ch : Nat → Prop} {Stop : Goroutine → World → Prop} {main : Bool} {v w : World} (n0 : Int) (h63 : n0 ≤ 9223372036854775807) (p : Option Addr) (n cap lb' lo : Nat) (xs : List Int) (hp : 0 < n → p = some ⟨lb', lo, none⟩) (hl : xs.length = n) (hn9 : (n : Int) < 9223372036854775808) (hvw : Rel zn v w) (hn : NoRow Ch v) (hI : InN v lb' lo xs)
    (hend : ∀ a' v' w' todo, Rel zn v' w' → Grows v v' → a'.defers = [] → a'.tmps.getD 4 undef = .bool true → GoesI Try.prog main (DT (ScZ zn) Ch) Stop (G { (base 12).at a' todo with mode := .returning } []) w') :
    ∀ a, Fl 63 [(0, I n0), (1, .slice p n cap), (5, .bool true)] a → GoesI Try.prog main (DT (ScZ zn) Ch) Stop (G ((base 12).at a [.code P12]) []) w := by
  intro a hA
  unfold P12
  refine goesI_seq (dt_idle _ _) ?_
  refine goesI_plain (z := zn) (wr := true) (L := LV) (I := NoRow Ch) hE fineV noRow_keeps (fun v v' w w' es hi hr ho he => dt_of_z v v' w w' es hi hr ho he) hvw fine_y2 hA.2.1 (by simp [base]) hn (Q := fun a w' => Fl 63 [(0, I n0), (1, .slice p n cap), (5, .bool true), (6, Pt (v.heap.size + 1) 0)] a ∧ w'.heap = (v.heap.push (.cells #[I 0, I (mx n0)] 94)).push (.cells #[Pt v.heap.size 0] 113) ∧ w'.os = v.os ∧ w'.output = v.output) (fun τ => y2_wp (v := onTape v τ 0) hA) ?_
  rintro a2 v2 w2 ⟨hA2, e2, o2, u2⟩ hr2 hn2 -
  refine goesI_seq (dt_idle _ _) ?_
  refine goesI_plain (z := zn) (wr := true) (L := LV) (I := NoRow Ch) hE fineV noRow_keeps (fun v v' w w' es hi hr ho he => dt_of_z v v' w w' es hi hr ho he) hr2 fine_y3 hA2.2.1 (by simp [base]) hn2 (Q := fun a w' => Fl 63 [(0, I n0), (1, .slice p n cap), (5, .bool true), (6, Pt (v.heap.size + 1) 0)] a ∧ w'.heap = v2.heap ∧ w'.os = v2.os ∧ w'.output = v2.output) (fun τ => y3_wp (v := onTape v2 τ 0) hA2) ?_
  rintro a3 v3 w3 ⟨hA3, e3, o3, u3⟩ hr3 hn3 -
  refine goesI_seq (dt_idle _ _) ?_
  refine goesI_plain (z := zn) (wr := true) (L := LV) (I := NoRow Ch) hE fineV noRow_keeps (fun v v' w w' es hi hr ho he => dt_of_z v v' w w' es hi hr ho he) hr3 fine_y5 hA3.2.1 (by simp [base]) hn3 (Q := fun a w' => Fl 63 [(0, I n0), (1, .slice p n cap), (5, .bool true), (6, Pt (v.heap.size + 1) 0), (7, Pt v3.heap.size 0)] a ∧ w'.heap = v3.heap.push (.cells #[.pointer none, I 0, .chan none, I 0, I 0, I 0, I 0] 97) ∧ w'.os = v3.os ∧ w'.output = v3.output) (fun τ => y5_wp (v := onTape v3 τ 0) hA3) ?_
  rintro a5 v5 w5 ⟨hA5, e5, o5, u5⟩ hr5 hn5 -
  refine goesI_seq (dt_idle _ _) ?_
  refine goesI_plain (z := zn) (wr := true) (L := LV) (I := NoRow Ch) hE fineV noRow_keeps (fun v v' w w' es hi hr ho he => dt_of_z v v' w w' es hi hr ho he) hr5 fine_y6 hA5.2.1 (by simp [base]) hn5 (Q := fun a w' => Fl 63 [(1, .slice p n cap), (6, Pt (v.heap.size + 1) 0), (7, Pt v3.heap.size 0), (8, I (mx n0))] a ∧ w'.heap = v5.heap ∧ w'.os = v5.os ∧ w'.output = v5.output) (fun τ => y6_wp (v := onTape v5 τ 0) hA5) ?_
  rintro a6 v6 w6 ⟨hA6, e6, o6, u6⟩ hr6 hn6 -
  refine goesI_seq (dt_idle _ _) ?_
  refine goesI_seq (dt_idle _ _) ?_
  refine goesI_plain (z := zn) (wr := true) (L := LV) (I := NoRow Ch) hE fineV noRow_keeps (fun v v' w w' es hi hr ho he => dt_of_z v v' w w' es hi hr ho he) hr6 fine_y7 hA6.2.1 (by simp [base]) hn6 (Q := fun a w' => Fl 63 [(1, .slice p n cap), (6, Pt (v.heap.size + 1) 0), (7, Pt v3.heap.size 0), (8, I (mx n0)), (9, I 0)] a ∧ w'.heap = v6.heap ∧ w'.os = v6.os ∧ w'.output = v6.output) (fun τ => y7_wp (v := onTape v6 τ 0) hA6) ?_
  rintro a7 v7 w7 ⟨hA7, e7, o7, u7⟩ hr7 hn7 -
  have s3 : v3.heap.size = v.heap.size + 2 := by rw [e3, e2]; simp
  rw [s3] at hA7
  have hh : v7.heap = ((v.heap.push (.cells #[I 0, I (mx n0)] 94)).push (.cells #[Pt v.heap.size 0] 113)).push (.cells #[.pointer none, I 0, .chan none, I 0, I 0, I 0, I 0] 97) := by rw [e7, e6, e5, e3, e2]
  have gr : Grows v v7 := ⟨by rw [hh]; simp; omega, fun b hb => by
    rw [hh]
    simp only [Array.getElem?_push, Array.size_push]
    repeat rw [if_neg (by omega)], by rw [o7, o6, o5, o3, o2], by rw [u7, u6, u5, u3, u2]⟩
  have hM : M12 (v.heap.size + 2) (v.heap.size + 1) v.heap.size (mx n0) v7 := by
    refine ⟨?_, ?_, ?_⟩
    all_goals
      rw [hh]
      simp only [Array.getElem?_push, Array.size_push]
      repeat first
        | rw [if_pos trivial]
        | rw [if_pos (by omega)]
        | rw [if_neg (by omega)]
  refine goesI_block (dt_idle _ _) ?_
  refine goesI_loop (dt_idle _ _) ?_
  refine loop12 hp xs hl hn9 (fun h0 hb => ?_) [] _ n 0 a7 v7 w7 (mx n0) (by omega) hr7 hn7 hA7 hM (by unfold mx; split <;> omega) (fun k c hc => ?_) (fun a' v' w' hr' hn' hf' hs' hd' => ?_)
  · obtain ⟨c, hc⟩ : ∃ c, xs[0]? = some c := ⟨_, List.getElem?_eq_getElem (by omega)⟩
    have h1 := World.block_lt_of_cell? _ _ (hI 0 c hc)
    simp only at h1
    omega
  · have h4 := hI k c hc
    rw [World.cell?_of_block (w := v) (w' := v7) (gr.old lb' (World.block_lt_of_cell? _ _ h4))]
    exact h4
  · refine goesI_retZ (Q := fun a w' => a.tmps.getD 4 undef = .bool true ∧ w'.heap = v'.heap ∧ w'.os = v'.os ∧ w'.output = v'.output) hr' hn' fine_T12 hd' (fun τ => T12_wp (v := onTape v' τ 0) hs' hd') (fun a'' v'' w'' todo hQ hd hr'' hn'' => hend a'' v'' w'' todo hr'' ⟨?_, fun b hb => ?_, ?_, ?_⟩ hd hQ.1)
    · rw [hQ.2.1]; have := gr.size; have := hf'.size; omega
    · rw [hQ.2.1, hf'.block b (by have := gr.size; omega) (fun h => by omega), gr.old b hb]
    · rw [hQ.2.2.1, hf'.os]; exact gr.os
    · rw [hQ.2.2.2, hf'.output]; exact gr.output

set_option maxHeartbeats 4000000 in
set_option maxRecDepth 100000 in
theorem law12_in {Ch : Nat → Prop} {Stop : Goroutine → World → Prop} {main : Bool} {w : World} (x0 : Value) (x1 : Value)
    (hk : ∀ (w' : World) (bd : Frame) (ad : Act) (od : Array Oper) (qd : Nat) (rd : List Nat) (oe : Oper) (kd : List Item), (∃ d, w' = w.at d) → od[qd]? = some oe →
      (∀ (Ch : Nat → Prop) (Stop : Goroutine → World → Prop) (w1 : World), (∀ a, Fl 63 [(0, x0), (1, x1), (5, .bool true)] a → GoesI Try.prog main (DT (ScZ zn) Ch) Stop (G ((base 12).at a [.code P12]) []) w1) → GoesI Try.prog main (DT (ScZ zn) Ch) Stop (G (bd.at (ad.put oe.dst (.bool true)) (.inRegion od rd :: kd)) []) w1) →
      GoesI Try.prog main (DT (ScZ zn) Ch) Stop (G ((base 41).at { tmps := Array.replicate 36 undef, defers := [] } [.code B39]) [bd.at ad (.inRegion od (qd :: rd) :: kd)]) w') :
    GoesI Try.prog main (DT (ScZ zn) Ch) Stop (G ((base 12).at { tmps := #[x0, x1] ++ Array.replicate 61 undef, defers := [] } [.code LB12]) []) w := by
  rw [eLB12]
  simp only [Array.replicate_succ, Array.replicate_zero, List.push_toArray, List.append_toArray, List.nil_append, List.cons_append]
  refine goesI_seq (dt_idle _ _) ?_
  generalize hR : P12 = R9 at hk ⊢
  unfold y1 LB12 Try.f12 seq1 seq2
  simp only [Option.getD_some]
  refine goesI_region (dt_idle _ _) ?_
  simp only [List.size_toArray, List.length_cons, List.length_nil, Nat.reduceAdd, Nat.zero_add, List.range, List.range.loop]
  iterate 1
    (refine goesI_oper rfl rfl (by decide) (fun d K hK => ?_)
     go_simp
     refine hK _ _ ⟨dt_reads (fun e he => ?_), GoesI.at ?_ d⟩
     · have hm := mem_listed he
       simp [go_sem, *] at hm
       try exact ⟨_, _, hm⟩
     clear hK K)
  refine goesI_regionEnd (dt_idle _ _) ?_
  refine goesI_seq (dt_idle _ _) ?_
  refine goesI_region (dt_idle _ _) ?_
  simp only [List.size_toArray, List.length_cons, List.length_nil, Nat.reduceAdd, Nat.zero_add, List.range, List.range.loop]
  refine goesI_into (f := 41) (fn := Try.f41) (args := #[]) (dt_idle _ _) rfl rfl (by decide) rfl (by simp [Act.eval]) Try.func41 (by decide) rfl ?_
  refine hk w _ _ _ _ _ _ _ ⟨w.drawn, rfl⟩ rfl (fun Ch Stop w1 hg => ?_)
  clear hk
  iterate 1
    (refine goesI_oper rfl rfl (by decide) (fun d K hK => ?_)
     go_simp
     refine hK _ _ ⟨dt_reads (fun e he => ?_), GoesI.at ?_ d⟩
     · have hm := mem_listed he
       simp [go_sem, *] at hm
       try exact ⟨_, _, hm⟩
     clear hK K)
  refine goesI_regionEnd (dt_idle _ _) ?_
  exact hg _ ⟨rfl, rfl, by
    intro p hp
    simp only [List.mem_cons, List.not_mem_nil, or_false] at hp
    rcases hp with rfl | rfl | rfl <;> rfl⟩

theorem end12 {a : Act} {todo : List Item} {w : World} (hd : a.defers = []) (h4 : a.tmps.getD 4 undef = .bool true) : stepG Try.prog true (G { (base 12).at a todo with mode := .returning } []) w = .ended (.done (.bool true)) w #[] := by
  have hr : (results Try.f12 a.tmps).run Try.prog w = .ok (.bool true) w := by rw [results_tmp (t := 4) rfl, h4]
  have he : (results Try.f12 a.tmps).events Try.prog w #[] = #[] := by simp [results, go_sem, Try.f12]
  simp [G, stepG, unwind, Frame.at, hd, Try.func12, base, hr, he, doReturn, GStep.after, seen]

theorem InN.grows {v v' : World} {lb lo : Nat} {xs : List Int} (h : InN v lb lo xs) (g : Grows v v') : InN v' lb lo xs := fun k c hc => by
  have h4 := h k c hc
  rw [World.cell?_of_block (w := v) (w' := v') (g.old lb (World.block_lt_of_cell? _ _ h4))]
  exact h4

set_option maxHeartbeats 1000000 in
theorem run12 (W : World) (n0 : Int) (h63 : n0 ≤ 9223372036854775807) (p : Option Addr) (n cap lb lo : Nat) (xs : List Int) (hp : 0 < n → p = some ⟨lb, lo, none⟩) (hl : xs.length = n) (hn9 : (n : Int) < 9223372036854775808) (hI : InN W lb lo xs) :
    ∃ M last o w' t', runNT Try.prog (M + 1) (solo (G (Frame.enter Try.prog 12 #[I n0, .slice p n cap] .normal) []) W) #[] = (.ended o w', t') ∧
      runN Try.prog M (solo (G (Frame.enter Try.prog 12 #[I n0, .slice p n cap] .normal) []) W) = .next last ∧ step Try.prog last = .ended o w' ∧ Go.Conc.Good Try.prog (PostT W) last o w' t' := by
  have e : Frame.enter Try.prog 12 #[I n0, .slice p n cap] .normal = (base 12).at { tmps := #[I n0, .slice p n cap] ++ Array.replicate 61 undef, defers := [] } [.code LB12] := enter_at (fn := Try.f12) (c := LB12) _ Try.func12 (by rfl)
  rw [e, solo_eq_crowd]
  have A : Alone #[G ((base 12).at { tmps := #[I n0, .slice p n cap] ++ Array.replicate 61 undef, defers := [] } [.code LB12]) []] W #[] (fun _ => 0) := ⟨leavers_one _ _, 0, Nat.zero_le _, past_nil⟩
  obtain ⟨N1, gs1, a1, w1, sl1, T1, q1, r1, z1, h1, ⟨bd, ad, od, qd, rd, oe, kd, ⟨d1, rfl⟩, hoe, hback, rfl⟩, A1⟩ := alone_goes A rfl none (Stop := fun g w' => ∃ (bd : Frame) (ad : Act) (od : Array Oper) (qd : Nat) (rd : List Nat) (oe : Oper) (kd : List Item), (∃ d, w' = W.at d) ∧ od[qd]? = some oe ∧
      (∀ (Ch : Nat → Prop) (Stop : Goroutine → World → Prop) (w1 : World), (∀ a, Fl 63 [(0, I n0), (1, .slice p n cap), (5, .bool true)] a → GoesI Try.prog true (DT (ScZ zn) Ch) Stop (G ((base 12).at a [.code P12]) []) w1) → GoesI Try.prog true (DT (ScZ zn) Ch) Stop (G (bd.at (ad.put oe.dst (.bool true)) (.inRegion od rd :: kd)) []) w1) ∧
      g = G ((base 41).at { tmps := Array.replicate 36 undef, defers := [] } [.code B39]) [bd.at ad (.inRegion od (qd :: rd) :: kd)])
    (law12_in _ _ (fun w' bd ad od qd rd oe kd hw ho hback => GoesI.stop fun d => ⟨bd, ad, od, qd, rd, oe, kd, by obtain ⟨d0, rfl⟩ := hw; exact ⟨d, rfl⟩, ho, hback, rfl⟩))
  obtain ⟨N2, gs2, w2, sl2, T2, q2, r2, h2, A2, g2⟩ := tawake_all hoe sl1 A1 h1
  have g2' : Grows W w2 := ⟨g2.size, g2.old, g2.os, g2.output⟩
  obtain ⟨N3, gs3, a3, w3, sl3, T3, q3, r3, z3, h3, ⟨a', todo, hd, h4, g3, rfl⟩, A3⟩ := alone_goes A2 h2 sl2 (Stop := fun g w' => ∃ a' todo, a'.defers = [] ∧ a'.tmps.getD 4 undef = .bool true ∧ Grows w2 w' ∧ g = G { (base 12).at a' todo with mode := .returning } []) (hback (fun _ => False) _ w2 (law12_rest n0 h63 p n cap lb lo xs hp hl hn9 (Rel.refl w2) (fun c hc => hc.elim) (hI.grows g2') (fun a' v' w' todo hr hgr hd h4 => GoesI.stop fun d => ⟨a', todo, hd, h4, hgr.toAt hr d, rfl⟩)))
  have hfin : Grows W w3 := g2'.andThen g3
  obtain ⟨M4, last, o, w', t', e1, e2, e3, e4⟩ := alone_ends A3 h3 sl3 (Post := PostT W) (fun B d => ⟨rfl, .bool true, #[], end12 hd h4, fun e he => by simp at he, rfl, ⟨hfin.size, hfin.old, hfin.os, hfin.output⟩⟩)
  have hrun := runNT_then (runNT_then r1 r2) r3
  refine ⟨N1 + N2 + N3 + M4, last, o, w', t', ?_, ?_, e3, e4⟩
  · rw [Nat.add_assoc, runNT_add, hrun]; exact e1
  · rw [runN_add, ← runNT_fst Try.prog _ _ #[], hrun]; exact e2
end Go.Proofs.Ytfjjoohflcchnaa.Gen

namespace Go.Proofs.Ytfjjoohflcchnaa.Gen
open Go Go.Lift Go.Conc Go.RowKit

def InR (x : Int) : Prop := -9223372036854775808 ≤ x ∧ x < 9223372036854775808
def Cl.ok (c : Cl) : Prop := InR c.cb ∧ InR c.cc
/-- Where a list of ints lies that came in. -/
structure InI (W : World) (p : Option Addr) (b o : Nat) (xs : List Int) : Prop where
  at_ : 0 < xs.length → p = some ⟨b, o, none⟩
  cell : ∀ k x, xs[k]? = some x → W.cell? ⟨b, o + k, none⟩ = some (I x)
  inr : ∀ x ∈ xs, InR x
  len : xs.length ≤ 17592186043904
theorem InI.grows {W W' : World} {p : Option Addr} {b o : Nat} {xs : List Int} (h : InI W p b o xs) (g : Grows W W') : InI W' p b o xs :=
  ⟨h.at_, fun k x hk => g.cell (h.cell k x hk), h.inr, h.len⟩
/-- Where scripts lie that came in. -/
structure InS (W : World) (p : Option Addr) (b o n : Nat) (pc : Nat → Option Addr) (ln cp rb : Nat → Nat) (cl : Nat → List Cl) : Prop where
  at_ : 0 < n → p = some ⟨b, o, none⟩
  row : ∀ k, k < n → W.cell? ⟨b, o + k, none⟩ = some (.slice (pc k) (ln k) (cp k))
  len : ∀ j, j < n → (cl j).length = ln j
  pq : ∀ j, j < n → 0 < ln j → pc j = some ⟨rb j, roOf (pc j), none⟩
  call : ∀ j, j < n → ∀ (k : Nat) (c : Cl), (cl j)[k]? = some c → W.cell? ⟨rb j, roOf (pc j) + k * 4, none⟩ = some (I c.po) ∧ W.cell? ⟨rb j, roOf (pc j) + k * 4 + 1, none⟩ = some (I c.ca) ∧ W.cell? ⟨rb j, roOf (pc j) + k * 4 + 2, none⟩ = some (I c.cb) ∧ W.cell? ⟨rb j, roOf (pc j) + k * 4 + 3, none⟩ = some (I c.cc)
  ok : ∀ j, j < n → ∀ c ∈ cl j, InR c.ca ∧ c.ok
  n : n ≤ 17592186043904
theorem InS.grows {W W' : World} {p : Option Addr} {b o n : Nat} {pc : Nat → Option Addr} {ln cp rb : Nat → Nat} {cl : Nat → List Cl} (h : InS W p b o n pc ln cp rb cl) (g : Grows W W') : InS W' p b o n pc ln cp rb cl :=
  ⟨h.at_, fun k hk => g.cell (h.row k hk), h.len, h.pq, fun j hj k c hc => by
    have := h.call j hj k c hc
    exact ⟨g.cell this.1, g.cell this.2.1, g.cell this.2.2.1, g.cell this.2.2.2⟩, h.ok, h.n⟩

end Go.Proofs.Ytfjjoohflcchnaa.Gen

namespace Go.Proofs.Ytfjjoohflcchnaa.Gen
open Go Go.Lift Go.Conc
open Go.ChangeShapes Go.WideShapes Go.ChangeAt Go.RowKit Go.Joins Go.Deep

theorem op_knob : ownKnob Try.prog.godebug = none := by kernel_rfl
theorem op_cells3 : Try.prog.cellsOf 3 = 1 := by kernel_rfl
theorem op_bytes3 : Try.prog.bytesOf 3 = 8 := by kernel_rfl
theorem inr_of {n : Int} (h : (Lit.int .i64 n).wf = true) : InR n := by
  have := bounds_i64 h
  unfold InR
  omega

section
variable {H : Type} {enc : TypeId × Value → H} {w : World}
set_option maxRecDepth 100000 in
/-- A list of numbers that came in. -/
theorem ints_in {r : Reach} {b0 : Nat} {v : Value} {d : DataW H} {ps : List MemPlace} (hv : Value.okWide Try.prog w r b0 22 v) (h : DataW.Trod enc Try.prog w 0 (fun _ => true) true 22 v d ps) (hsz : ∀ elems spare, d = .slice elems spare → (elems.length + spare.length) * Try.prog.bytesOf 3 ≤ reachBytes) :
    ∃ (p : Option Addr) (cap b o : Nat) (xs : List Int), v = .slice p xs.length cap ∧ InI w p b o xs := by
  obtain ⟨a0, len0, cap0, rfl⟩ := okWide_slice Try.underlying22 hv
  obtain ⟨fuel, hf⟩ := h
  rcases open_ints Try.underlying22 Try.underlying3 op_cells3 hf with ⟨hcs, _⟩ | ⟨x, l, c, zs, hcs, _, hl, hm, hz, hx, hcell, hwf⟩
  · simp [Value.cells] at hcs
    obtain ⟨rfl, rfl, rfl⟩ := hcs
    exact ⟨none, 0, 0, 0, [], rfl, ⟨fun h => by simp at h, fun k x hk => by simp at hk, fun x hx => by simp at hx, Nat.zero_le _⟩⟩
  · simp [Value.cells] at hcs
    obtain ⟨rfl, rfl, rfl⟩ := hcs
    have hz' : zs.length = cap0 := by simpa using hz
    have ht : (zs.take len0).length = len0 := by rw [List.length_take]; omega
    have hb := hsz _ _ (congrArg Prod.fst hx)
    have hlz : ∀ (k : IntKind) (l : List Int), (ChangeShapes.lits (H := H) k l).length = l.length := fun k l => by simp [ChangeShapes.lits]
    rw [op_bytes3, hlz, hlz, ht] at hb
    have hlen : len0 ≤ 17592186043904 := by unfold reachBytes at hb; omega
    obtain ⟨b, off, spot⟩ := x
    by_cases h0 : len0 = 0
    · subst h0
      exact ⟨_, _, 0, 0, [], rfl, ⟨fun h => by simp at h, fun k x hk => by simp at hk, fun x hx => by simp at hx, Nat.zero_le _⟩⟩
    · have hspot : spot = none := by simpa [Addr.add] using World.cell?_spot (hcell 0 (by omega))
      subst hspot
      refine ⟨_, _, b, off, zs.take len0, by rw [ht], ⟨fun _ => rfl, fun i a hi => ?_, fun x hx => inr_of (hwf x (List.mem_of_mem_take hx)), by rw [ht]; exact hlen⟩⟩
      have hil : i < len0 := by have := (List.getElem?_eq_some_iff.1 hi).1; omega
      have hc := hcell i (by omega)
      have hadd : (⟨b, off, none⟩ : Addr).add i = ⟨b, off + i, none⟩ := by unfold Addr.add; split <;> simp_all
      rw [hadd] at hc
      have ha : zs.getD i 0 = a := by
        rw [List.getElem?_take_of_lt hil] at hi
        rw [List.getD_eq_getElem?_getD, hi]
        rfl
      rw [ha] at hc
      exact hc

/-- A script that came in. -/
def Sc (w : World) (v : Value) (q : Option Addr × Nat × Nat × List Cl) : Prop :=
  v = .slice q.1 q.2.2.2.length q.2.1 ∧ (0 < q.2.2.2.length → q.1 = some ⟨q.2.2.1, roOf q.1, none⟩) ∧ (∀ (k : Nat) (c : Cl), q.2.2.2[k]? = some c → w.cell? ⟨q.2.2.1, roOf q.1 + k * 4, none⟩ = some (I c.po) ∧ w.cell? ⟨q.2.2.1, roOf q.1 + k * 4 + 1, none⟩ = some (I c.ca) ∧ w.cell? ⟨q.2.2.1, roOf q.1 + k * 4 + 2, none⟩ = some (I c.cb) ∧ w.cell? ⟨q.2.2.1, roOf q.1 + k * 4 + 3, none⟩ = some (I c.cc)) ∧ ∀ c ∈ q.2.2.2, InR c.ca ∧ c.ok
end

theorem grows_frame {W w' : World} (h : Grows W w') (may : MemPlace → Prop) : W.keptBut w' may := by
  refine ⟨h.os, h.output, fun i hi => ?_⟩
  rw [h.old i hi]
  split <;> simp_all
theorem grows_same {W w' : World} (h : Grows W w') {p : MemPlace} (hp : p.block < W.heap.size) : W.sameAt w' p := by
  cases p with
  | cell b o => exact World.cell?_of_block (w := W) (h.old b hp)
  | map b => exact h.old b hp
theorem op_laid : laidOutB Try.prog = true := by kernel_rfl
theorem grows_trod {H : Type} {enc : TypeId × Value → H} {t : TypeId} (hr : Try.prog.readableRec t = true) (hrow : t < Try.prog.types.size) {W W' : World} {v : Value} {d : DataW H} {ps : List MemPlace}
    (h : DataW.Trod enc Try.prog W 0 (fun _ => true) true t v d ps) (hb : Grows W W') (hlt : ∀ x ∈ ps, x.block < W.heap.size) :
    DataW.Trod enc Try.prog W' 0 (fun b => decide (b < W.heap.size)) true t v d ps :=
  WideElems.Trod_stays op_laid hr hrow h (fun x hx => grows_same hb (hlt x hx)) (fun x hx => by simpa using hlt x hx)
end Go.Proofs.Ytfjjoohflcchnaa.Gen

namespace Go.Proofs.Ytfjjoohflcchnaa
open Go Go.Lift Go.Conc
open Go.ChangeShapes Go.WideShapes Go.ChangeAt Go.RowKit Go.Joins Go.Deep
open Gen

set_option maxRecDepth 100000 in
theorem latchAlone_lifted (os : Os) (started : os.Started) (H : Type) (enc : TypeId × Value → H) :
    ReturnsInLeavingWide {} Try.checked os 12 .any (Rows.latchAloneSpec.pre6 enc Try.prog Try.f12 Rows.latchAloneRow.domain false) (Rows.latchAloneSpec.post enc Try.prog Try.f12 false true false false) := by
  refine returnsInLeavingWide_of_change_sized (C := Try.checked) op_knob started Try.func12
    (ChangeSpec.witness6 (enc := enc) (C := Try.checked) false ⟨#[], #[.int .i64 0, .slice none 0 0], []⟩ 8 (by kernel_rfl) (by kernel_rfl) (by kernel_rfl) (by kernel_rfl)) ?_
  intro W base args ds gs before hval0 hW _ hsz0 _
  have hval : ∀ (j : Nat) t v, Try.f12.params[j]? = some t → args[j]? = some v → Value.okWide Try.prog W .any base t v := hval0
  have hW' := hW
  obtain ⟨p, q, hA0, hV, rfl, _, _⟩ := hW
  have hA : DataW.TrodAll enc Try.prog W 0 (fun _ => true) true Try.f12.params.toList args.toList ds p := hA0
  have hsz : (DataW.weightsEach Try.prog (Try.f12.params.toList ++ Rows.latchAloneSpec.plain.varTypes Try.prog) (ds ++ gs)).all (· ≤ reachBytes) = true := hsz0
  rw [Try.params12] at hA hval hsz
  obtain ⟨v0, vs0, d0, ds0, p0, q0, hargs, rfl, rfl, h0, r0⟩ := trodAll_cons hA
  obtain ⟨v1, vs1, d1, ds1, p1, q1, rfl, rfl, rfl, h1, r1⟩ := trodAll_cons r0
  obtain ⟨rfl, rfl, rfl⟩ := trodAll_nil r1
  obtain rfl : args = #[v0, v1] := by cases args; simp_all
  obtain ⟨rfl, rfl⟩ := trodVars_none hV
  have k0 := h0
  have k1 := h1
  have lt0 : ∀ x ∈ p0, x.block < W.heap.size := by obtain ⟨m, hm⟩ := k0; exact DataW.trod_lt m _ _ _ hm
  have lt1 : ∀ x ∈ p1, x.block < W.heap.size := by obtain ⟨m, hm⟩ := k1; exact DataW.trod_lt m _ _ _ hm
  obtain ⟨x0, hx0, j1, j2, j3⟩ := open_int Try.underlying3 (hval 0 3 v0 rfl rfl) h0
  obtain ⟨vp, vcap, vb, vo, xs, e1, hX⟩ := ints_in (hval 1 22 v1 rfl rfl) h1 (fun el sp e => sized_slice hsz (j := 1) rfl (by rw [e]; rfl) Try.underlying22)
  clear hA0 hval0 hsz0
  subst hx0 e1
  simp only [List.append_nil] at hW'
  obtain ⟨M, last, o', w', t', g1, g2, g3, g4⟩ := run12 W x0 (by have := inr_of j3; unfold InR at this; omega) vp xs.length vcap vb vo xs hX.at_ rfl (by have := hX.len; omega) hX.cell
  refine ⟨M, last, o', w', t', g1, g2, g3, g4.mono fun v hF => ?_⟩
  obtain ⟨rfl, bel⟩ : PostT W v w' := hF
  exact ⟨_, _, _, [], _, [], hW', trodAll_mk1 (shut_bool Try.underlying4 _),
    (trodAll_cons_mk (grows_trod (by kernel_rfl) (of_decide_eq_true (by kernel_rfl)) k0 bel lt0)
    (trodAll_cons_mk (grows_trod (by kernel_rfl) (of_decide_eq_true (by kernel_rfl)) k1 bel lt1) trodAll_mk0)), rfl, grows_frame bel _, fun h => by cases h⟩

theorem latchAlone_holds : Rows.LatchAloneSaid :=
  OpenClaim.holds_of_wide_leaving 12 Try.f12 rfl rfl rfl rfl rfl rfl rfl ⟨rfl, rfl, rfl, rfl, rfl⟩ rfl rfl rfl rfl rfl (by kernel_rfl) Try.func12 (by kernel_rfl)
    (of_decide_eq_true (by kernel_rfl)) (by unfold Func.isWrapper; first | (rw [if_pos (by decide +kernel)]; kernel_rfl) | (rw [if_neg (by decide +kernel)]; exact ⟨rfl, rfl⟩))
    (fun os started H enc _ => latchAlone_lifted os started H enc)

#print axioms latchAlone_holds
end Go.Proofs.Ytfjjoohflcchnaa
