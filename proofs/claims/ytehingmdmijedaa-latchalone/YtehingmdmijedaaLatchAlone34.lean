/- LatchAlone is true of the program at this commit: by one free thread alone, of a latch of no world, Down and Wait answer as a number says that is counted down, whatever the number and the calls; no conditions. Part 34 of 35. (Joined, by program, of: La12c, GIns, GOpens.) -/
import Derived.Test.YtehingmdmijedaaLatchAlone26
import Derived.Test.YtehingmdmijedaaLatchAlone30
import Derived.Test.YtehingmdmijedaaLatchAlone33
import Derived.Conc.LeavingOf
import Derived.ProofKit
import Derived.OpenShut
import Derived.ChangeOld
import Derived.SizedLaws
import Derived.Lib.SmallJoins
import Derived.Deep.SlicePairs

/- The law LatchAlone (12), whole, by the machine. (Made by wip/tools/mkla12d.py.) -/
set_option linter.unusedSimpArgs false
set_option linter.unusedVariables false
namespace Go.Proofs.Ytehingmdmijedaa.Gen
open Go Go.Lift Go.Conc Go.RowKit

/-- max(n, 0). -/
def mx (n : Int) : Int := if 0 > n then 0 else n
set_option maxHeartbeats 4000000 in
set_option maxRecDepth 100000 in
theorem body42n (v : World) (n0 : Int) : Body Try.f42 #[.pointer none, I n0] v (fun r v' => r = Pt (v.heap.size + 1) 0 ∧ v'.heap = (v.heap.push (.cells #[I 0, I (mx n0)] 91)).push (.cells #[Pt v.heap.size 0] 110) ∧ v'.os = v.os ∧ v'.output = v.output) := by
  intro code hb
  obtain rfl := Option.some.inj hb
  clear hb
  have H1 : Hid (Calls Try.prog 19 #[.pointer none, I (mx n0)] v (fun e w' => e = .returned (Pt v.heap.size 0) ∧ w'.heap.size = v.heap.size + 1 ∧ Hid (w'.heap = v.heap.push (.cells #[I 0, I (mx n0)] 91) ∧ w'.os = v.os ∧ w'.output = v.output))) := ⟨((body10n v (mx n0)).calls Try.func19 rfl).mono (by
    rintro e w' ⟨r, rfl, rfl, h, h2, h3⟩
    exact ⟨rfl, by rw [h]; simp, ⟨h, h2, h3⟩⟩)⟩
  have hc : (mx n0 = 0 ∧ n0 < 0) ∨ (mx n0 = n0 ∧ 0 ≤ n0) := by
    unfold mx
    by_cases h : n0 < 0
    · exact .inl ⟨by rw [if_pos h], h⟩
    · exact .inr ⟨by rw [if_neg h], by omega⟩
  rcases hc with ⟨hm, h0⟩ | ⟨hm, h0⟩
  all_goals
    rw [hm] at H1 ⊢
    clear hm
    simp only [Try.ntmps42, List.size_toArray, List.length_cons, List.length_nil, Nat.reduceAdd, Nat.reduceSub, Array.replicate_succ, Array.replicate_zero, List.push_toArray, List.append_toArray, List.nil_append, List.cons_append]
    go_wp2_with (first
      | (go_at_call 19; refine H1.out.mono ?_; rintro e w1 ⟨rfl, hs, K1⟩))
    go_ret
    exact ⟨_, rfl, rfl, by show w1.heap.push _ = _; rw [K1.out.1], K1.out.2.1, K1.out.2.2⟩

noncomputable def y1 : Code := seq1 (seq2 LB12)
noncomputable def y2 : Code := seq1 (seq2 (seq2 LB12))
noncomputable def y3 : Code := seq1 (seq2 (seq2 (seq2 LB12)))
noncomputable def y5 : Code := seq1 (seq2 (seq2 (seq2 (seq2 LB12))))
noncomputable def y6 : Code := seq1 (seq2 (seq2 (seq2 (seq2 (seq2 LB12)))))
noncomputable def y7 : Code := seq1 C12
noncomputable def T12 : Code := seq2 (seq2 (seq2 (seq2 (seq2 (seq2 (seq2 LB12))))))
noncomputable def P12 : Code := .seq y2 (.seq y3 (.seq y5 (.seq y6 (.seq (.seq y7 (.block 0 (.loop L12))) T12))))
theorem eLB12 : LB12 = .seq (seq1 LB12) (.seq y1 P12) := by kernel_rfl
theorem fine_y2 : fineCode Try.prog true LV y2 := fineCode_askS callV extT (by kernel_rfl)
theorem fine_y3 : fineCode Try.prog true LV y3 := fineCode_askS callV extT (by kernel_rfl)
theorem fine_y5 : fineCode Try.prog true LV y5 := fineCode_askS callV extT (by kernel_rfl)
theorem fine_y6 : fineCode Try.prog true LV y6 := fineCode_askS callV extT (by kernel_rfl)
theorem fine_y7 : fineCode Try.prog true LV y7 := fineCode_askS callV extT (by kernel_rfl)
theorem fine_T12 : fineCode Try.prog true LV T12 := fineCode_askS callV extT (by kernel_rfl)
set_option maxHeartbeats 4000000 in
set_option maxRecDepth 100000 in
theorem y2_wp {v : World} {a : Act} {lst : Value} {n0 : Int}  (hA : Fl 63 [(0, I n0), (1, lst), (5, .bool true)] a) : y2.wp Try.prog (fun e a' w' => e = .normal ∧ Fl 63 [(0, I n0), (1, lst), (5, .bool true), (6, Pt (v.heap.size + 1) 0)] a' ∧ w'.heap = (v.heap.push (.cells #[I 0, I (mx n0)] 91)).push (.cells #[Pt v.heap.size 0] 110) ∧ w'.os = v.os ∧ w'.output = v.output) a v := by
  obtain ⟨hsz, hd, hp⟩ := hA
  obtain ⟨u, rfl, hg⟩ := litN hsz hd
  have u0 := (hg 0).symm.trans (hp (0, I n0) (by simp))
  have u1 := (hg 1).symm.trans (hp (1, lst) (by simp))
  have u5 := (hg 5).symm.trans (hp (5, .bool true) (by simp))
  clear hg hp hsz hd
  unfold y2 LB12 Try.f12 seq2 seq1
  simp only [Option.getD_some, lits, Nat.reduceAdd, u0, u1, u5]
  clear u0 u1 u5
  have H : Hid (Calls Try.prog 42 #[.pointer none, I n0] v _) := ⟨(body42n v n0).calls Try.func42 rfl⟩
  go_wp2_with (first
    | (go_at_call 42; refine H.out.mono ?_; rintro e w1 ⟨_, rfl, rfl, h1, h2, h3⟩))
  first
    | exact ⟨rfl, rfl, by
        intro p hp
        simp only [List.mem_cons, List.not_mem_nil, or_false] at hp
        rcases hp with rfl | rfl | rfl | rfl <;> rfl⟩
    | exact ⟨⟨rfl, rfl, by
        intro p hp
        simp only [List.mem_cons, List.not_mem_nil, or_false] at hp
        rcases hp with rfl | rfl | rfl | rfl <;> rfl⟩, rfl⟩
    | exact ⟨⟨rfl, rfl, by
        intro p hp
        simp only [List.mem_cons, List.not_mem_nil, or_false] at hp
        rcases hp with rfl | rfl | rfl | rfl <;> rfl⟩, rfl, rfl⟩
    | exact ⟨⟨rfl, rfl, by
        intro p hp
        simp only [List.mem_cons, List.not_mem_nil, or_false] at hp
        rcases hp with rfl | rfl | rfl | rfl <;> rfl⟩, rfl, rfl, rfl⟩
    | exact ⟨⟨rfl, rfl, by
        intro p hp
        simp only [List.mem_cons, List.not_mem_nil, or_false] at hp
        rcases hp with rfl | rfl | rfl | rfl <;> rfl⟩, rfl, rfl, rfl, rfl⟩
    | exact ⟨⟨rfl, rfl, by
        intro p hp
        simp only [List.mem_cons, List.not_mem_nil, or_false] at hp
        rcases hp with rfl | rfl | rfl | rfl <;> rfl⟩, rfl, rfl, rfl, rfl, rfl⟩
    | exact ⟨⟨rfl, rfl, by
        intro p hp
        simp only [List.mem_cons, List.not_mem_nil, or_false] at hp
        rcases hp with rfl | rfl | rfl | rfl <;> rfl⟩, h1, h2, h3⟩

set_option maxHeartbeats 4000000 in
set_option maxRecDepth 100000 in
theorem y3_wp {v : World} {a : Act} {lst : Value} {n0 : Int} {lb : Nat}  (hA : Fl 63 [(0, I n0), (1, lst), (5, .bool true), (6, Pt lb 0)] a) : y3.wp Try.prog (fun e a' w' => e = .normal ∧ Fl 63 [(0, I n0), (1, lst), (5, .bool true), (6, Pt lb 0)] a' ∧ w'.heap = v.heap ∧ w'.os = v.os ∧ w'.output = v.output) a v := by
  obtain ⟨hsz, hd, hp⟩ := hA
  obtain ⟨u, rfl, hg⟩ := litN hsz hd
  have u0 := (hg 0).symm.trans (hp (0, I n0) (by simp))
  have u1 := (hg 1).symm.trans (hp (1, lst) (by simp))
  have u5 := (hg 5).symm.trans (hp (5, .bool true) (by simp))
  have u6 := (hg 6).symm.trans (hp (6, Pt lb 0) (by simp))
  clear hg hp hsz hd
  unfold y3 LB12 Try.f12 seq2 seq1
  simp only [Option.getD_some, lits, Nat.reduceAdd, u0, u1, u5, u6]
  clear u0 u1 u5 u6
  go_wp2_with fail
  first
    | exact ⟨rfl, rfl, by
        intro p hp
        simp only [List.mem_cons, List.not_mem_nil, or_false] at hp
        rcases hp with rfl | rfl | rfl | rfl <;> rfl⟩
    | exact ⟨⟨rfl, rfl, by
        intro p hp
        simp only [List.mem_cons, List.not_mem_nil, or_false] at hp
        rcases hp with rfl | rfl | rfl | rfl <;> rfl⟩, rfl⟩
    | exact ⟨⟨rfl, rfl, by
        intro p hp
        simp only [List.mem_cons, List.not_mem_nil, or_false] at hp
        rcases hp with rfl | rfl | rfl | rfl <;> rfl⟩, rfl, rfl⟩
    | exact ⟨⟨rfl, rfl, by
        intro p hp
        simp only [List.mem_cons, List.not_mem_nil, or_false] at hp
        rcases hp with rfl | rfl | rfl | rfl <;> rfl⟩, rfl, rfl, rfl⟩
    | exact ⟨⟨rfl, rfl, by
        intro p hp
        simp only [List.mem_cons, List.not_mem_nil, or_false] at hp
        rcases hp with rfl | rfl | rfl | rfl <;> rfl⟩, rfl, rfl, rfl, rfl⟩
    | exact ⟨⟨rfl, rfl, by
        intro p hp
        simp only [List.mem_cons, List.not_mem_nil, or_false] at hp
        rcases hp with rfl | rfl | rfl | rfl <;> rfl⟩, rfl, rfl, rfl, rfl, rfl⟩

set_option maxHeartbeats 4000000 in
set_option maxRecDepth 100000 in
theorem y5_wp {v : World} {a : Act} {lst : Value} {n0 : Int} {lb : Nat}  (hA : Fl 63 [(0, I n0), (1, lst), (5, .bool true), (6, Pt lb 0)] a) : y5.wp Try.prog (fun e a' w' => e = .normal ∧ Fl 63 [(0, I n0), (1, lst), (5, .bool true), (6, Pt lb 0), (7, Pt v.heap.size 0)] a' ∧ w'.heap = v.heap.push (.cells #[.pointer none, I 0, .chan none, I 0, I 0, I 0, I 0] 94) ∧ w'.os = v.os ∧ w'.output = v.output) a v := by
  obtain ⟨hsz, hd, hp⟩ := hA
  obtain ⟨u, rfl, hg⟩ := litN hsz hd
  have u0 := (hg 0).symm.trans (hp (0, I n0) (by simp))
  have u1 := (hg 1).symm.trans (hp (1, lst) (by simp))
  have u5 := (hg 5).symm.trans (hp (5, .bool true) (by simp))
  have u6 := (hg 6).symm.trans (hp (6, Pt lb 0) (by simp))
  clear hg hp hsz hd
  unfold y5 LB12 Try.f12 seq2 seq1
  simp only [Option.getD_some, lits, Nat.reduceAdd, u0, u1, u5, u6]
  clear u0 u1 u5 u6
  have H : Hid (Calls Try.prog 20 #[I 0] v _) := ⟨(body11 v).calls Try.func20 rfl⟩
  go_wp2_with (first
    | (go_at_call 20; refine H.out.mono ?_; rintro e w1 ⟨_, rfl, rfl, h1, h2, h3⟩))
  first
    | exact ⟨rfl, rfl, by
        intro p hp
        simp only [List.mem_cons, List.not_mem_nil, or_false] at hp
        rcases hp with rfl | rfl | rfl | rfl | rfl <;> rfl⟩
    | exact ⟨⟨rfl, rfl, by
        intro p hp
        simp only [List.mem_cons, List.not_mem_nil, or_false] at hp
        rcases hp with rfl | rfl | rfl | rfl | rfl <;> rfl⟩, rfl⟩
    | exact ⟨⟨rfl, rfl, by
        intro p hp
        simp only [List.mem_cons, List.not_mem_nil, or_false] at hp
        rcases hp with rfl | rfl | rfl | rfl | rfl <;> rfl⟩, rfl, rfl⟩
    | exact ⟨⟨rfl, rfl, by
        intro p hp
        simp only [List.mem_cons, List.not_mem_nil, or_false] at hp
        rcases hp with rfl | rfl | rfl | rfl | rfl <;> rfl⟩, rfl, rfl, rfl⟩
    | exact ⟨⟨rfl, rfl, by
        intro p hp
        simp only [List.mem_cons, List.not_mem_nil, or_false] at hp
        rcases hp with rfl | rfl | rfl | rfl | rfl <;> rfl⟩, rfl, rfl, rfl, rfl⟩
    | exact ⟨⟨rfl, rfl, by
        intro p hp
        simp only [List.mem_cons, List.not_mem_nil, or_false] at hp
        rcases hp with rfl | rfl | rfl | rfl | rfl <;> rfl⟩, rfl, rfl, rfl, rfl, rfl⟩
    | exact ⟨⟨rfl, rfl, by
        intro p hp
        simp only [List.mem_cons, List.not_mem_nil, or_false] at hp
        rcases hp with rfl | rfl | rfl | rfl | rfl <;> rfl⟩, h1, h2, h3⟩

set_option maxHeartbeats 4000000 in
set_option maxRecDepth 100000 in
theorem y6_wp {v : World} {a : Act} {lst : Value} {n0 : Int} {lb tb : Nat}  (hA : Fl 63 [(0, I n0), (1, lst), (5, .bool true), (6, Pt lb 0), (7, Pt tb 0)] a) : y6.wp Try.prog (fun e a' w' => e = .normal ∧ Fl 63 [(1, lst), (6, Pt lb 0), (7, Pt tb 0), (8, I (mx n0))] a' ∧ w'.heap = v.heap ∧ w'.os = v.os ∧ w'.output = v.output) a v := by
  obtain ⟨hsz, hd, hp⟩ := hA
  obtain ⟨u, rfl, hg⟩ := litN hsz hd
  have u0 := (hg 0).symm.trans (hp (0, I n0) (by simp))
  have u1 := (hg 1).symm.trans (hp (1, lst) (by simp))
  have u5 := (hg 5).symm.trans (hp (5, .bool true) (by simp))
  have u6 := (hg 6).symm.trans (hp (6, Pt lb 0) (by simp))
  have u7 := (hg 7).symm.trans (hp (7, Pt tb 0) (by simp))
  clear hg hp hsz hd
  unfold y6 LB12 Try.f12 seq2 seq1
  simp only [Option.getD_some, lits, Nat.reduceAdd, u0, u1, u5, u6, u7]
  clear u0 u1 u5 u6 u7
  have hc : (mx n0 = 0 ∧ n0 < 0) ∨ (mx n0 = n0 ∧ 0 ≤ n0) := by
    unfold mx
    by_cases h : n0 < 0
    · exact .inl ⟨by rw [if_pos h], h⟩
    · exact .inr ⟨by rw [if_neg h], by omega⟩
  rcases hc with ⟨hm, h0⟩ | ⟨hm, h0⟩
  all_goals
    rw [hm]
    clear hm
    go_wp2_with fail
    first
      | exact ⟨rfl, rfl, by
          intro p hp
          simp only [List.mem_cons, List.not_mem_nil, or_false] at hp
          rcases hp with rfl | rfl | rfl | rfl <;> rfl⟩
      | exact ⟨⟨rfl, rfl, by
          intro p hp
          simp only [List.mem_cons, List.not_mem_nil, or_false] at hp
          rcases hp with rfl | rfl | rfl | rfl <;> rfl⟩, rfl⟩
      | exact ⟨⟨rfl, rfl, by
          intro p hp
          simp only [List.mem_cons, List.not_mem_nil, or_false] at hp
          rcases hp with rfl | rfl | rfl | rfl <;> rfl⟩, rfl, rfl⟩
      | exact ⟨⟨rfl, rfl, by
          intro p hp
          simp only [List.mem_cons, List.not_mem_nil, or_false] at hp
          rcases hp with rfl | rfl | rfl | rfl <;> rfl⟩, rfl, rfl, rfl⟩
      | exact ⟨⟨rfl, rfl, by
          intro p hp
          simp only [List.mem_cons, List.not_mem_nil, or_false] at hp
          rcases hp with rfl | rfl | rfl | rfl <;> rfl⟩, rfl, rfl, rfl, rfl⟩
      | exact ⟨⟨rfl, rfl, by
          intro p hp
          simp only [List.mem_cons, List.not_mem_nil, or_false] at hp
          rcases hp with rfl | rfl | rfl | rfl <;> rfl⟩, rfl, rfl, rfl, rfl, rfl⟩

set_option maxHeartbeats 4000000 in
set_option maxRecDepth 100000 in
theorem y7_wp {v : World} {a : Act} {lst t8 : Value} {lb tb : Nat}  (hA : Fl 63 [(1, lst), (6, Pt lb 0), (7, Pt tb 0), (8, t8)] a) : y7.wp Try.prog (fun e a' w' => e = .normal ∧ Fl 63 [(1, lst), (6, Pt lb 0), (7, Pt tb 0), (8, t8), (9, I 0)] a' ∧ w'.heap = v.heap ∧ w'.os = v.os ∧ w'.output = v.output) a v := by
  obtain ⟨hsz, hd, hp⟩ := hA
  obtain ⟨u, rfl, hg⟩ := litN hsz hd
  have u1 := (hg 1).symm.trans (hp (1, lst) (by simp))
  have u6 := (hg 6).symm.trans (hp (6, Pt lb 0) (by simp))
  have u7 := (hg 7).symm.trans (hp (7, Pt tb 0) (by simp))
  have u8 := (hg 8).symm.trans (hp (8, t8) (by simp))
  clear hg hp hsz hd
  unfold y7 C12 LB12 Try.f12 seq2 seq1
  simp only [Option.getD_some, lits, Nat.reduceAdd, u1, u6, u7, u8]
  clear u1 u6 u7 u8
  go_wp2_with fail
  first
    | exact ⟨rfl, rfl, by
        intro p hp
        simp only [List.mem_cons, List.not_mem_nil, or_false] at hp
        rcases hp with rfl | rfl | rfl | rfl | rfl <;> rfl⟩
    | exact ⟨⟨rfl, rfl, by
        intro p hp
        simp only [List.mem_cons, List.not_mem_nil, or_false] at hp
        rcases hp with rfl | rfl | rfl | rfl | rfl <;> rfl⟩, rfl⟩
    | exact ⟨⟨rfl, rfl, by
        intro p hp
        simp only [List.mem_cons, List.not_mem_nil, or_false] at hp
        rcases hp with rfl | rfl | rfl | rfl | rfl <;> rfl⟩, rfl, rfl⟩
    | exact ⟨⟨rfl, rfl, by
        intro p hp
        simp only [List.mem_cons, List.not_mem_nil, or_false] at hp
        rcases hp with rfl | rfl | rfl | rfl | rfl <;> rfl⟩, rfl, rfl, rfl⟩
    | exact ⟨⟨rfl, rfl, by
        intro p hp
        simp only [List.mem_cons, List.not_mem_nil, or_false] at hp
        rcases hp with rfl | rfl | rfl | rfl | rfl <;> rfl⟩, rfl, rfl, rfl, rfl⟩
    | exact ⟨⟨rfl, rfl, by
        intro p hp
        simp only [List.mem_cons, List.not_mem_nil, or_false] at hp
        rcases hp with rfl | rfl | rfl | rfl | rfl <;> rfl⟩, rfl, rfl, rfl, rfl, rfl⟩

set_option maxHeartbeats 4000000 in
set_option maxRecDepth 100000 in
theorem T12_wp {v : World} {a : Act} (hs : a.tmps.size = 63) (hd : a.defers = []) : T12.wp Try.prog (fun e a' w' => e = .ret ∧ a'.tmps.getD 4 undef = .bool true ∧ w'.heap = v.heap ∧ w'.os = v.os ∧ w'.output = v.output) a v := by
  obtain ⟨u, rfl, hg⟩ := litN hs hd
  clear hg hs hd
  unfold T12 LB12 Try.f12 seq2
  simp only [Option.getD_some, lits, Nat.reduceAdd]
  go_wp2_with fail

set_option maxHeartbeats 4000000 in
set_option maxRecDepth 100000 in
/-- Behind the law's first play. -/
theorem law12_rest {Ch : Nat → Prop} {Stop : Goroutine → World → Prop} {main : Bool} {v w : World} (n0 : Int) (h63 : n0 ≤ 9223372036854775807) (p : Option Addr) (n cap lb' lo : Nat) (xs : List Int) (hp : 0 < n → p = some ⟨lb', lo, none⟩) (hl : xs.length = n) (hn9 : (n : Int) < 9223372036854775808) (hvw : Rel zn v w) (hn : NoRow Ch v) (hI : InN v lb' lo xs)
    (hend : ∀ a' v' w' todo, Rel zn v' w' → Grows v v' → a'.defers = [] → a'.tmps.getD 4 undef = .bool true → GoesI Try.prog main (DT (ScZ zn) Ch) Stop (G { (base 12).at a' todo with mode := .returning } []) w') :
    ∀ a, Fl 63 [(0, I n0), (1, .slice p n cap), (5, .bool true)] a → GoesI Try.prog main (DT (ScZ zn) Ch) Stop (G ((base 12).at a [.code P12]) []) w := by
  intro a hA
  unfold P12
  refine goesI_seq (dt_idle _ _) ?_
  refine goesI_plain (z := zn) (wr := true) (L := LV) (I := NoRow Ch) hE fineV noRow_keeps (fun v v' w w' es hi hr ho he => dt_of_z v v' w w' es hi hr ho he) hvw fine_y2 hA.2.1 (by simp [base]) hn (Q := fun a w' => Fl 63 [(0, I n0), (1, .slice p n cap), (5, .bool true), (6, Pt (v.heap.size + 1) 0)] a ∧ w'.heap = (v.heap.push (.cells #[I 0, I (mx n0)] 91)).push (.cells #[Pt v.heap.size 0] 110) ∧ w'.os = v.os ∧ w'.output = v.output) (fun τ => y2_wp (v := onTape v τ 0) hA) ?_
  rintro a2 v2 w2 ⟨hA2, e2, o2, u2⟩ hr2 hn2 -
  refine goesI_seq (dt_idle _ _) ?_
  refine goesI_plain (z := zn) (wr := true) (L := LV) (I := NoRow Ch) hE fineV noRow_keeps (fun v v' w w' es hi hr ho he => dt_of_z v v' w w' es hi hr ho he) hr2 fine_y3 hA2.2.1 (by simp [base]) hn2 (Q := fun a w' => Fl 63 [(0, I n0), (1, .slice p n cap), (5, .bool true), (6, Pt (v.heap.size + 1) 0)] a ∧ w'.heap = v2.heap ∧ w'.os = v2.os ∧ w'.output = v2.output) (fun τ => y3_wp (v := onTape v2 τ 0) hA2) ?_
  rintro a3 v3 w3 ⟨hA3, e3, o3, u3⟩ hr3 hn3 -
  refine goesI_seq (dt_idle _ _) ?_
  refine goesI_plain (z := zn) (wr := true) (L := LV) (I := NoRow Ch) hE fineV noRow_keeps (fun v v' w w' es hi hr ho he => dt_of_z v v' w w' es hi hr ho he) hr3 fine_y5 hA3.2.1 (by simp [base]) hn3 (Q := fun a w' => Fl 63 [(0, I n0), (1, .slice p n cap), (5, .bool true), (6, Pt (v.heap.size + 1) 0), (7, Pt v3.heap.size 0)] a ∧ w'.heap = v3.heap.push (.cells #[.pointer none, I 0, .chan none, I 0, I 0, I 0, I 0] 94) ∧ w'.os = v3.os ∧ w'.output = v3.output) (fun τ => y5_wp (v := onTape v3 τ 0) hA3) ?_
  rintro a5 v5 w5 ⟨hA5, e5, o5, u5⟩ hr5 hn5 -
  refine goesI_seq (dt_idle _ _) ?_
  refine goesI_plain (z := zn) (wr := true) (L := LV) (I := NoRow Ch) hE fineV noRow_keeps (fun v v' w w' es hi hr ho he => dt_of_z v v' w w' es hi hr ho he) hr5 fine_y6 hA5.2.1 (by simp [base]) hn5 (Q := fun a w' => Fl 63 [(1, .slice p n cap), (6, Pt (v.heap.size + 1) 0), (7, Pt v3.heap.size 0), (8, I (mx n0))] a ∧ w'.heap = v5.heap ∧ w'.os = v5.os ∧ w'.output = v5.output) (fun τ => y6_wp (v := onTape v5 τ 0) hA5) ?_
  rintro a6 v6 w6 ⟨hA6, e6, o6, u6⟩ hr6 hn6 -
  refine goesI_seq (dt_idle _ _) ?_
  refine goesI_seq (dt_idle _ _) ?_
  refine goesI_plain (z := zn) (wr := true) (L := LV) (I := NoRow Ch) hE fineV noRow_keeps (fun v v' w w' es hi hr ho he => dt_of_z v v' w w' es hi hr ho he) hr6 fine_y7 hA6.2.1 (by simp [base]) hn6 (Q := fun a w' => Fl 63 [(1, .slice p n cap), (6, Pt (v.heap.size + 1) 0), (7, Pt v3.heap.size 0), (8, I (mx n0)), (9, I 0)] a ∧ w'.heap = v6.heap ∧ w'.os = v6.os ∧ w'.output = v6.output) (fun τ => y7_wp (v := onTape v6 τ 0) hA6) ?_
  rintro a7 v7 w7 ⟨hA7, e7, o7, u7⟩ hr7 hn7 -
  have s3 : v3.heap.size = v.heap.size + 2 := by rw [e3, e2]; simp
  rw [s3] at hA7
  have hh : v7.heap = ((v.heap.push (.cells #[I 0, I (mx n0)] 91)).push (.cells #[Pt v.heap.size 0] 110)).push (.cells #[.pointer none, I 0, .chan none, I 0, I 0, I 0, I 0] 94) := by rw [e7, e6, e5, e3, e2]
  have gr : Grows v v7 := ⟨by rw [hh]; simp; omega, fun b hb => by
    rw [hh]
    simp only [Array.getElem?_push, Array.size_push]
    repeat rw [if_neg (by omega)], by rw [o7, o6, o5, o3, o2], by rw [u7, u6, u5, u3, u2]⟩
  have hM : M12 (v.heap.size + 2) (v.heap.size + 1) v.heap.size (mx n0) v7 := by
    refine ⟨?_, ?_, ?_⟩
    all_goals
      rw [hh]
      simp only [Array.getElem?_push, Array.size_push]
      repeat first
        | rw [if_pos trivial]
        | rw [if_pos (by omega)]
        | rw [if_neg (by omega)]
  refine goesI_block (dt_idle _ _) ?_
  refine goesI_loop (dt_idle _ _) ?_
  refine loop12 hp xs hl hn9 (fun h0 hb => ?_) [] _ n 0 a7 v7 w7 (mx n0) (by omega) hr7 hn7 hA7 hM (by unfold mx; split <;> omega) (fun k c hc => ?_) (fun a' v' w' hr' hn' hf' hs' hd' => ?_)
  · obtain ⟨c, hc⟩ : ∃ c, xs[0]? = some c := ⟨_, List.getElem?_eq_getElem (by omega)⟩
    have h1 := World.block_lt_of_cell? _ _ (hI 0 c hc)
    simp only at h1
    omega
  · have h4 := hI k c hc
    rw [World.cell?_of_block (w := v) (w' := v7) (gr.old lb' (World.block_lt_of_cell? _ _ h4))]
    exact h4
  · refine goesI_retZ (Q := fun a w' => a.tmps.getD 4 undef = .bool true ∧ w'.heap = v'.heap ∧ w'.os = v'.os ∧ w'.output = v'.output) hr' hn' fine_T12 hd' (fun τ => T12_wp (v := onTape v' τ 0) hs' hd') (fun a'' v'' w'' todo hQ hd hr'' hn'' => hend a'' v'' w'' todo hr'' ⟨?_, fun b hb => ?_, ?_, ?_⟩ hd hQ.1)
    · rw [hQ.2.1]; have := gr.size; have := hf'.size; omega
    · rw [hQ.2.1, hf'.block b (by have := gr.size; omega) (fun h => by omega), gr.old b hb]
    · rw [hQ.2.2.1, hf'.os]; exact gr.os
    · rw [hQ.2.2.2, hf'.output]; exact gr.output

set_option maxHeartbeats 4000000 in
set_option maxRecDepth 100000 in
theorem law12_in {Ch : Nat → Prop} {Stop : Goroutine → World → Prop} {main : Bool} {w : World} (x0 : Value) (x1 : Value)
    (hk : ∀ (w' : World) (bd : Frame) (ad : Act) (od : Array Oper) (qd : Nat) (rd : List Nat) (oe : Oper) (kd : List Item), (∃ d, w' = w.at d) → od[qd]? = some oe →
      (∀ (Ch : Nat → Prop) (Stop : Goroutine → World → Prop) (w1 : World), (∀ a, Fl 63 [(0, x0), (1, x1), (5, .bool true)] a → GoesI Try.prog main (DT (ScZ zn) Ch) Stop (G ((base 12).at a [.code P12]) []) w1) → GoesI Try.prog main (DT (ScZ zn) Ch) Stop (G (bd.at (ad.put oe.dst (.bool true)) (.inRegion od rd :: kd)) []) w1) →
      GoesI Try.prog main (DT (ScZ zn) Ch) Stop (G ((base 39).at { tmps := Array.replicate 36 undef, defers := [] } [.code B39]) [bd.at ad (.inRegion od (qd :: rd) :: kd)]) w') :
    GoesI Try.prog main (DT (ScZ zn) Ch) Stop (G ((base 12).at { tmps := #[x0, x1] ++ Array.replicate 61 undef, defers := [] } [.code LB12]) []) w := by
  rw [eLB12]
  simp only [Array.replicate_succ, Array.replicate_zero, List.push_toArray, List.append_toArray, List.nil_append, List.cons_append]
  refine goesI_seq (dt_idle _ _) ?_
  generalize hR : P12 = R9 at hk ⊢
  unfold y1 LB12 Try.f12 seq1 seq2
  simp only [Option.getD_some]
  refine goesI_region (dt_idle _ _) ?_
  simp only [List.size_toArray, List.length_cons, List.length_nil, Nat.reduceAdd, Nat.zero_add, List.range, List.range.loop]
  iterate 1
    (refine goesI_oper rfl rfl (by decide) (fun d K hK => ?_)
     go_simp
     refine hK _ _ ⟨dt_reads (fun e he => ?_), GoesI.at ?_ d⟩
     · have hm := mem_listed he
       simp [go_sem, *] at hm
       try exact ⟨_, _, hm⟩
     clear hK K)
  refine goesI_regionEnd (dt_idle _ _) ?_
  refine goesI_seq (dt_idle _ _) ?_
  refine goesI_region (dt_idle _ _) ?_
  simp only [List.size_toArray, List.length_cons, List.length_nil, Nat.reduceAdd, Nat.zero_add, List.range, List.range.loop]
  refine goesI_into (f := 39) (fn := Try.f39) (args := #[]) (dt_idle _ _) rfl rfl (by decide) rfl (by simp [Act.eval]) Try.func39 (by decide) rfl ?_
  refine hk w _ _ _ _ _ _ _ ⟨w.drawn, rfl⟩ rfl (fun Ch Stop w1 hg => ?_)
  clear hk
  iterate 1
    (refine goesI_oper rfl rfl (by decide) (fun d K hK => ?_)
     go_simp
     refine hK _ _ ⟨dt_reads (fun e he => ?_), GoesI.at ?_ d⟩
     · have hm := mem_listed he
       simp [go_sem, *] at hm
       try exact ⟨_, _, hm⟩
     clear hK K)
  refine goesI_regionEnd (dt_idle _ _) ?_
  exact hg _ ⟨rfl, rfl, by
    intro p hp
    simp only [List.mem_cons, List.not_mem_nil, or_false] at hp
    rcases hp with rfl | rfl | rfl <;> rfl⟩

theorem end12 {a : Act} {todo : List Item} {w : World} (hd : a.defers = []) (h4 : a.tmps.getD 4 undef = .bool true) : stepG Try.prog true (G { (base 12).at a todo with mode := .returning } []) w = .ended (.done (.bool true)) w #[] := by
  have hr : (results Try.f12 a.tmps).run Try.prog w = .ok (.bool true) w := by rw [results_tmp (t := 4) rfl, h4]
  have he : (results Try.f12 a.tmps).events Try.prog w #[] = #[] := by simp [results, go_sem, Try.f12]
  simp [G, stepG, unwind, Frame.at, hd, Try.func12, base, hr, he, doReturn, GStep.after, seen]

theorem InN.grows {v v' : World} {lb lo : Nat} {xs : List Int} (h : InN v lb lo xs) (g : Grows v v') : InN v' lb lo xs := fun k c hc => by
  have h4 := h k c hc
  rw [World.cell?_of_block (w := v) (w' := v') (g.old lb (World.block_lt_of_cell? _ _ h4))]
  exact h4

set_option maxHeartbeats 1000000 in
theorem run12 (W : World) (n0 : Int) (h63 : n0 ≤ 9223372036854775807) (p : Option Addr) (n cap lb lo : Nat) (xs : List Int) (hp : 0 < n → p = some ⟨lb, lo, none⟩) (hl : xs.length = n) (hn9 : (n : Int) < 9223372036854775808) (hI : InN W lb lo xs) :
    ∃ M last o w' t', runNT Try.prog (M + 1) (solo (G (Frame.enter Try.prog 12 #[I n0, .slice p n cap] .normal) []) W) #[] = (.ended o w', t') ∧
      runN Try.prog M (solo (G (Frame.enter Try.prog 12 #[I n0, .slice p n cap] .normal) []) W) = .next last ∧ step Try.prog last = .ended o w' ∧ Go.Conc.Good Try.prog (PostT W) last o w' t' := by
  have e : Frame.enter Try.prog 12 #[I n0, .slice p n cap] .normal = (base 12).at { tmps := #[I n0, .slice p n cap] ++ Array.replicate 61 undef, defers := [] } [.code LB12] := enter_at (fn := Try.f12) (c := LB12) _ Try.func12 (by rfl)
  rw [e, solo_eq_crowd]
  have A : Alone #[G ((base 12).at { tmps := #[I n0, .slice p n cap] ++ Array.replicate 61 undef, defers := [] } [.code LB12]) []] W #[] (fun _ => 0) := ⟨leavers_one _ _, 0, Nat.zero_le _, past_nil⟩
  obtain ⟨N1, gs1, a1, w1, sl1, T1, q1, r1, z1, h1, ⟨bd, ad, od, qd, rd, oe, kd, ⟨d1, rfl⟩, hoe, hback, rfl⟩, A1⟩ := alone_goes A rfl none (Stop := fun g w' => ∃ (bd : Frame) (ad : Act) (od : Array Oper) (qd : Nat) (rd : List Nat) (oe : Oper) (kd : List Item), (∃ d, w' = W.at d) ∧ od[qd]? = some oe ∧
      (∀ (Ch : Nat → Prop) (Stop : Goroutine → World → Prop) (w1 : World), (∀ a, Fl 63 [(0, I n0), (1, .slice p n cap), (5, .bool true)] a → GoesI Try.prog true (DT (ScZ zn) Ch) Stop (G ((base 12).at a [.code P12]) []) w1) → GoesI Try.prog true (DT (ScZ zn) Ch) Stop (G (bd.at (ad.put oe.dst (.bool true)) (.inRegion od rd :: kd)) []) w1) ∧
      g = G ((base 39).at { tmps := Array.replicate 36 undef, defers := [] } [.code B39]) [bd.at ad (.inRegion od (qd :: rd) :: kd)])
    (law12_in _ _ (fun w' bd ad od qd rd oe kd hw ho hback => GoesI.stop fun d => ⟨bd, ad, od, qd, rd, oe, kd, by obtain ⟨d0, rfl⟩ := hw; exact ⟨d, rfl⟩, ho, hback, rfl⟩))
  obtain ⟨N2, gs2, w2, sl2, T2, q2, r2, h2, A2, g2⟩ := tawake_all hoe sl1 A1 h1
  have g2' : Grows W w2 := ⟨g2.size, g2.old, g2.os, g2.output⟩
  obtain ⟨N3, gs3, a3, w3, sl3, T3, q3, r3, z3, h3, ⟨a', todo, hd, h4, g3, rfl⟩, A3⟩ := alone_goes A2 h2 sl2 (Stop := fun g w' => ∃ a' todo, a'.defers = [] ∧ a'.tmps.getD 4 undef = .bool true ∧ Grows w2 w' ∧ g = G { (base 12).at a' todo with mode := .returning } []) (hback (fun _ => False) _ w2 (law12_rest n0 h63 p n cap lb lo xs hp hl hn9 (Rel.refl w2) (fun c hc => hc.elim) (hI.grows g2') (fun a' v' w' todo hr hgr hd h4 => GoesI.stop fun d => ⟨a', todo, hd, h4, hgr.toAt hr d, rfl⟩)))
  have hfin : Grows W w3 := g2'.andThen g3
  obtain ⟨M4, last, o, w', t', e1, e2, e3, e4⟩ := alone_ends A3 h3 sl3 (Post := PostT W) (fun B d => ⟨rfl, .bool true, #[], end12 hd h4, fun e he => by simp at he, rfl, ⟨hfin.size, hfin.old, hfin.os, hfin.output⟩⟩)
  have hrun := runNT_then (runNT_then r1 r2) r3
  refine ⟨N1 + N2 + N3 + M4, last, o, w', t', ?_, ?_, e3, e4⟩
  · rw [Nat.add_assoc, runNT_add, hrun]; exact e1
  · rw [runN_add, ← runNT_fst Try.prog _ _ #[], hrun]; exact e2
end Go.Proofs.Ytehingmdmijedaa.Gen

/- What came in: lists of numbers, scripts; what a Play asks of them. -/
set_option linter.unusedSimpArgs false
set_option linter.unusedVariables false
namespace Go.Proofs.Ytehingmdmijedaa.Gen
open Go Go.Lift Go.Conc Go.RowKit

def InR (x : Int) : Prop := -9223372036854775808 ≤ x ∧ x < 9223372036854775808
def Cl.ok (c : Cl) : Prop := InR c.cb ∧ InR c.cc
/-- Where a list of ints lies that came in. -/
structure InI (W : World) (p : Option Addr) (b o : Nat) (xs : List Int) : Prop where
  at_ : 0 < xs.length → p = some ⟨b, o, none⟩
  cell : ∀ k x, xs[k]? = some x → W.cell? ⟨b, o + k, none⟩ = some (I x)
  inr : ∀ x ∈ xs, InR x
  len : xs.length ≤ 17592186043904
theorem InI.grows {W W' : World} {p : Option Addr} {b o : Nat} {xs : List Int} (h : InI W p b o xs) (g : Grows W W') : InI W' p b o xs :=
  ⟨h.at_, fun k x hk => g.cell (h.cell k x hk), h.inr, h.len⟩
/-- Where scripts lie that came in. -/
structure InS (W : World) (p : Option Addr) (b o n : Nat) (pc : Nat → Option Addr) (ln cp rb : Nat → Nat) (cl : Nat → List Cl) : Prop where
  at_ : 0 < n → p = some ⟨b, o, none⟩
  row : ∀ k, k < n → W.cell? ⟨b, o + k, none⟩ = some (.slice (pc k) (ln k) (cp k))
  len : ∀ j, j < n → (cl j).length = ln j
  pq : ∀ j, j < n → 0 < ln j → pc j = some ⟨rb j, roOf (pc j), none⟩
  call : ∀ j, j < n → ∀ (k : Nat) (c : Cl), (cl j)[k]? = some c → W.cell? ⟨rb j, roOf (pc j) + k * 4, none⟩ = some (I c.po) ∧ W.cell? ⟨rb j, roOf (pc j) + k * 4 + 1, none⟩ = some (I c.ca) ∧ W.cell? ⟨rb j, roOf (pc j) + k * 4 + 2, none⟩ = some (I c.cb) ∧ W.cell? ⟨rb j, roOf (pc j) + k * 4 + 3, none⟩ = some (I c.cc)
  ok : ∀ j, j < n → ∀ c ∈ cl j, InR c.ca ∧ c.ok
  n : n ≤ 17592186043904
theorem InS.grows {W W' : World} {p : Option Addr} {b o n : Nat} {pc : Nat → Option Addr} {ln cp rb : Nat → Nat} {cl : Nat → List Cl} (h : InS W p b o n pc ln cp rb cl) (g : Grows W W') : InS W' p b o n pc ln cp rb cl :=
  ⟨h.at_, fun k hk => g.cell (h.row k hk), h.len, h.pq, fun j hj k c hc => by
    have := h.call j hj k c hc
    exact ⟨g.cell this.1, g.cell this.2.1, g.cell this.2.2.1, g.cell this.2.2.2⟩, h.ok, h.n⟩

theorem lens_scrs (mc : Mc) (fid : FuncId) (caps : Array Value) (pk : Nat → Option Obj) (N n : Nat) (K : List (Nat × Int)) (pc : Nat → Option Addr) (ln cp rb : Nat → Nat) (cl : Nat → List Cl) (hl : ∀ j, j < n → (cl j).length ≤ 64) : lens (scrs mc fid caps pk N n K pc ln cp rb cl) ≤ 64 * n := by
  unfold lens scrs
  rw [List.map_map]
  have : ∀ (m j : Nat), j + m ≤ n → ((List.range' j m).map ((fun s : Scr mc => s.calls.length) ∘ scrOf mc fid caps pk N n (K.map (·.1)) pc ln cp rb cl)).sum ≤ 64 * m := by
    intro m
    induction m with
    | zero => intro j _; simp
    | succ m ih =>
      intro j hj
      rw [List.range'_succ, List.map_cons, List.sum_cons]
      have h1 := ih (j + 1) (by omega)
      have h2 : ((fun s : Scr mc => s.calls.length) ∘ scrOf mc fid caps pk N n (K.map (·.1)) pc ln cp rb cl) j ≤ 64 := hl j (by omega)
      omega
  exact this n 0 (by omega)
theorem scrs_len (mc : Mc) (fid : FuncId) (caps : Array Value) (pk : Nat → Option Obj) (N n : Nat) (K : List (Nat × Int)) (pc : Nat → Option Addr) (ln cp rb : Nat → Nat) (cl : Nat → List Cl) : (scrs mc fid caps pk N n K pc ln cp rb cl).length = n := by simp [scrs]
theorem scrs_calls {mc : Mc} {fid : FuncId} {caps : Array Value} {pk : Nat → Option Obj} {N n : Nat} {K : List (Nat × Int)} {pc : Nat → Option Addr} {ln cp rb : Nat → Nat} {cl : Nat → List Cl} {s : Scr mc} (hs : s ∈ scrs mc fid caps pk N n K pc ln cp rb cl) : ∃ j, j < n ∧ s.calls = cl j := by
  simp only [scrs, List.mem_map, List.mem_range'] at hs
  obtain ⟨j, ⟨i, hi, rfl⟩, rfl⟩ := hs
  exact ⟨_, by omega, rfl⟩

/-- The world is new: the scripts lie there for Play. -/
theorem asked_of {W v : World} {p : Option Addr} {b o n : Nat} {pc : Nat → Option Addr} {ln cp rb : Nat → Nat} {cl : Nat → List Cl} (h : InS W p b o n pc ln cp rb cl) {xs : List Int} {wb bk : Nat} {sc : Value} (hn : IsNew W xs wb bk sc v) (h64 : ∀ j, j < n → ln j ≤ 64) (h0 : 0 < n) : Asked v (newS wb bk W.heap.size sc xs) n b o pc ln cp rb cl := by
  have g := h.grows hn.old
  have far : ∀ (a : Addr) (x : Value), W.cell? a = some x → ¬ Own (newS wb bk W.heap.size sc xs) [] a.block := fun a x ha ho => by
    have := hn.new _ (.inl ho)
    have := World.block_lt_of_cell? _ _ ha
    omega
  refine ⟨fun j hj => ⟨h.len j hj, h64 j hj⟩, g.row, far _ _ (h.row 0 h0), fun j hj hl => ⟨h.pq j hj hl, ?_⟩, g.call, fun j hj c hc => (h.ok j hj c hc).1⟩
  obtain ⟨c, hc⟩ : ∃ c, (cl j)[0]? = some c := ⟨_, List.getElem?_eq_getElem (by rw [h.len j hj]; exact hl)⟩
  exact far _ _ (h.call j hj 0 c hc).1

end Go.Proofs.Ytehingmdmijedaa.Gen

/- Arguments that came in are opened; behind the call they read as before. -/
set_option linter.unusedSimpArgs false
set_option linter.unusedVariables false
namespace Go.Proofs.Ytehingmdmijedaa.Gen
open Go Go.Lift Go.Conc
open Go.ChangeShapes Go.WideShapes Go.ChangeAt Go.RowKit Go.Joins Go.Deep

theorem op_knob : ownKnob Try.prog.godebug = none := by kernel_rfl
theorem op_cells3 : Try.prog.cellsOf 3 = 1 := by kernel_rfl
theorem op_cells39 : Try.prog.cellsOf 39 = 4 := by kernel_rfl
theorem op_cells37 : Try.prog.cellsOf 37 = 1 := by kernel_rfl
theorem op_bytes3 : Try.prog.bytesOf 3 = 8 := by kernel_rfl
theorem op_bytes37 : Try.prog.bytesOf 37 = 24 := by kernel_rfl
def clV (c : Cl) : List Value := [I c.po, I c.ca, I c.cb, I c.cc]
theorem inr_of {n : Int} (h : (Lit.int .i64 n).wf = true) : InR n := by
  have := bounds_i64 h
  unfold InR
  omega

section
variable {H : Type} {enc : TypeId × Value → H} {w : World}
set_option maxRecDepth 100000 in
/-- A list of numbers that came in. -/
theorem ints_in {r : Reach} {b0 : Nat} {v : Value} {d : DataW H} {ps : List MemPlace} (hv : Value.okWide Try.prog w r b0 22 v) (h : DataW.Trod enc Try.prog w 0 (fun _ => true) true 22 v d ps) (hsz : ∀ elems spare, d = .slice elems spare → (elems.length + spare.length) * Try.prog.bytesOf 3 ≤ reachBytes) :
    ∃ (p : Option Addr) (cap b o : Nat) (xs : List Int), v = .slice p xs.length cap ∧ InI w p b o xs := by
  obtain ⟨a0, len0, cap0, rfl⟩ := okWide_slice Try.underlying22 hv
  obtain ⟨fuel, hf⟩ := h
  rcases open_ints Try.underlying22 Try.underlying3 op_cells3 hf with ⟨hcs, _⟩ | ⟨x, l, c, zs, hcs, _, hl, hm, hz, hx, hcell, hwf⟩
  · simp [Value.cells] at hcs
    obtain ⟨rfl, rfl, rfl⟩ := hcs
    exact ⟨none, 0, 0, 0, [], rfl, ⟨fun h => by simp at h, fun k x hk => by simp at hk, fun x hx => by simp at hx, Nat.zero_le _⟩⟩
  · simp [Value.cells] at hcs
    obtain ⟨rfl, rfl, rfl⟩ := hcs
    have hz' : zs.length = cap0 := by simpa using hz
    have ht : (zs.take len0).length = len0 := by rw [List.length_take]; omega
    have hb := hsz _ _ (congrArg Prod.fst hx)
    have hlz : ∀ (k : IntKind) (l : List Int), (ChangeShapes.lits (H := H) k l).length = l.length := fun k l => by simp [ChangeShapes.lits]
    rw [op_bytes3, hlz, hlz, ht] at hb
    have hlen : len0 ≤ 17592186043904 := by unfold reachBytes at hb; omega
    obtain ⟨b, off, spot⟩ := x
    by_cases h0 : len0 = 0
    · subst h0
      exact ⟨_, _, 0, 0, [], rfl, ⟨fun h => by simp at h, fun k x hk => by simp at hk, fun x hx => by simp at hx, Nat.zero_le _⟩⟩
    · have hspot : spot = none := by simpa [Addr.add] using World.cell?_spot (hcell 0 (by omega))
      subst hspot
      refine ⟨_, _, b, off, zs.take len0, by rw [ht], ⟨fun _ => rfl, fun i a hi => ?_, fun x hx => inr_of (hwf x (List.mem_of_mem_take hx)), by rw [ht]; exact hlen⟩⟩
      have hil : i < len0 := by have := (List.getElem?_eq_some_iff.1 hi).1; omega
      have hc := hcell i (by omega)
      have hadd : (⟨b, off, none⟩ : Addr).add i = ⟨b, off + i, none⟩ := by unfold Addr.add; split <;> simp_all
      rw [hadd] at hc
      have ha : zs.getD i 0 = a := by
        rw [List.getElem?_take_of_lt hil] at hi
        rw [List.getD_eq_getElem?_getD, hi]
        rfl
      rw [ha] at hc
      exact hc

set_option maxRecDepth 100000 in
theorem clV_open : ∀ fuel cs (y : DataW H × List MemPlace), cs.length = 4 → DataW.trod enc Try.prog w 0 (fun _ => true) true fuel 39 cs = some y → ∃ a, cs = clV a ∧ InR a.ca ∧ a.ok := by
  intro fuel cs y hl h
  obtain ⟨xs, k, hk, hxy, _, hxl, hf⟩ := DataW.trod_struct Try.underlying39 h
  match xs, hxl, cs, hl with
  | [y0, y1, y2, y3], _, [c0, c1, c2, c3], _ =>
    have g0 := hf 0 _ rfl
    have g1 := hf 1 _ rfl
    have g2 := hf 2 _ rfl
    have g3 := hf 3 _ rfl
    simp [op_cells3] at g0 g1 g2 g3
    obtain ⟨a0, e0, _, f0⟩ := DataW.trod_int Try.underlying3 g0
    obtain ⟨a1, e1, _, f1⟩ := DataW.trod_int Try.underlying3 g1
    obtain ⟨a2, e2, _, f2⟩ := DataW.trod_int Try.underlying3 g2
    obtain ⟨a3, e3, _, f3⟩ := DataW.trod_int Try.underlying3 g3
    simp at e0 e1 e2 e3
    subst e0 e1 e2 e3
    exact ⟨⟨a0, a1, a2, a3⟩, rfl, inr_of f1, inr_of f2, inr_of f3⟩

/-- A script that came in. -/
def Sc (w : World) (v : Value) (q : Option Addr × Nat × Nat × List Cl) : Prop :=
  v = .slice q.1 q.2.2.2.length q.2.1 ∧ (0 < q.2.2.2.length → q.1 = some ⟨q.2.2.1, roOf q.1, none⟩) ∧ (∀ (k : Nat) (c : Cl), q.2.2.2[k]? = some c → w.cell? ⟨q.2.2.1, roOf q.1 + k * 4, none⟩ = some (I c.po) ∧ w.cell? ⟨q.2.2.1, roOf q.1 + k * 4 + 1, none⟩ = some (I c.ca) ∧ w.cell? ⟨q.2.2.1, roOf q.1 + k * 4 + 2, none⟩ = some (I c.cb) ∧ w.cell? ⟨q.2.2.1, roOf q.1 + k * 4 + 3, none⟩ = some (I c.cc)) ∧ ∀ c ∈ q.2.2.2, InR c.ca ∧ c.ok
set_option maxRecDepth 100000 in
theorem script_in {fuel : Nat} {cs : List Value} {y : DataW H × List MemPlace} (h : DataW.trod enc Try.prog w 0 (fun _ => true) true fuel 37 cs = some y) : ∃ v q, cs = [v] ∧ Sc w v q := by
  rcases open_slice Try.underlying37 h with ⟨hcs, hx⟩ | ⟨ad, len, cap, m, k, D, Pl, hcs, _, hl, hm, hmm, hxe, hx⟩
  · exact ⟨_, (none, 0, 0, []), hcs, rfl, fun h => by simp at h, fun k c h => by simp at h, fun c hc => by simp at hc⟩
  · simp only [if_true] at hmm
    subst hmm
    have each : ∀ i, i < len → ∃ a : Cl, (∀ j, j < 4 → w.cell? ((ad.add (i * 4)).add j) = (clV a)[j]?) ∧ InR a.ca ∧ a.ok := by
      intro i hi
      obtain ⟨cs', h1, h2⟩ := hx i (by omega)
      rw [op_cells39] at h1
      obtain ⟨_, hlen, hc⟩ := World.cells?_some h1
      obtain ⟨a, rfl, ha⟩ := clV_open _ _ _ hlen h2
      exact ⟨a, hc, ha⟩
    have ie : Inhabited Cl := ⟨⟨0, 0, 0, 0⟩⟩
    obtain ⟨q, hq⟩ := choose_lt each
    obtain ⟨b, off, spot⟩ := ad
    by_cases h0 : len = 0
    · subst h0
      exact ⟨_, (some ⟨b, off, spot⟩, m, 0, []), hcs, rfl, fun h => by simp at h, fun k c h => by simp at h, fun c hc => by simp at hc⟩
    · have c01 : w.cell? (((⟨b, off, spot⟩ : Addr).add (0 * 4)).add 0) = some (I (q 0).po) := (hq 0 (by omega)).1 0 (by omega)
      have hspot : spot = none := by
        have := World.cell?_spot c01
        simpa [Addr.add] using this
      subst hspot
      have hadd : ∀ (o j : Nat), (⟨b, o, none⟩ : Addr).add j = ⟨b, o + j, none⟩ := by intro o j; unfold Addr.add; split <;> simp_all
      refine ⟨_, (some ⟨b, off, none⟩, m, b, (List.range len).map q), hcs, ?_, fun _ => rfl, fun i a hi => ?_, fun c hc => ?_⟩
      · simp
      · have hil : i < len := by simpa using (List.getElem?_eq_some_iff.1 hi).1
        have ha : a = q i := by simp [hil] at hi; exact hi.symm
        subst ha
        have k0 := (hq i hil).1 0 (by omega)
        have k1 := (hq i hil).1 1 (by omega)
        have k2 := (hq i hil).1 2 (by omega)
        have k3 := (hq i hil).1 3 (by omega)
        rw [hadd, hadd] at k0 k1 k2 k3
        exact ⟨k0, k1, k2, k3⟩
      · obtain ⟨i, hi, rfl⟩ := List.mem_map.1 hc
        exact (hq i (List.mem_range.1 hi)).2
set_option maxRecDepth 100000 in
/-- Scripts that came in. -/
theorem scripts_in {r : Reach} {b0 : Nat} {v : Value} {d : DataW H} {ps : List MemPlace} (hv : Value.okWide Try.prog w r b0 23 v) (h : DataW.Trod enc Try.prog w 0 (fun _ => true) true 23 v d ps) (hsz : ∀ elems spare, d = .slice elems spare → (elems.length + spare.length) * Try.prog.bytesOf 37 ≤ reachBytes) :
    ∃ (p : Option Addr) (b o n cap : Nat) (pc : Nat → Option Addr) (ln cp rb : Nat → Nat) (cl : Nat → List Cl), v = .slice p n cap ∧ InS w p b o n pc ln cp rb cl := by
  obtain ⟨a0, len0, cap0, rfl⟩ := okWide_slice Try.underlying23 hv
  obtain ⟨fuel, hf⟩ := h
  have nothing : ∀ p cap, ∃ (p' : Option Addr) (b o n cap' : Nat) (pc : Nat → Option Addr) (ln cp rb : Nat → Nat) (cl : Nat → List Cl), (Value.slice p 0 cap) = .slice p' n cap' ∧ InS w p' b o n pc ln cp rb cl := fun p cap =>
    ⟨p, 0, 0, 0, cap, fun _ => none, fun _ => 0, fun _ => 0, fun _ => 0, fun _ => [], rfl, ⟨fun h => by omega, fun k hk => by omega, fun k hk => by omega, fun k hk => by omega, fun k hk => by omega, fun k hk => by omega, Nat.zero_le _⟩⟩
  rcases open_slice Try.underlying23 hf with ⟨hcs, _⟩ | ⟨ad, len, cap, m, k, D, Pl, hcs, _, hl, hm, hmm, hxe, hx⟩
  · simp [Value.cells] at hcs
    obtain ⟨rfl, rfl, rfl⟩ := hcs
    exact nothing _ _
  · simp [Value.cells] at hcs
    obtain ⟨rfl, rfl, rfl⟩ := hcs
    simp only [if_true] at hmm
    subst hmm
    have hb := hsz _ _ (congrArg Prod.fst hxe)
    rw [op_bytes37] at hb
    simp only [List.length_map, List.length_range] at hb
    have hlen : len0 ≤ 17592186043904 := by unfold reachBytes at hb; omega
    have each : ∀ i, i < len0 → ∃ q : Option Addr × Nat × Nat × List Cl, ∃ v, w.cell? ((ad.add (i * 1)).add 0) = some v ∧ Sc w v q := by
      intro i hi
      obtain ⟨cs', h1, h2⟩ := hx i (by omega)
      rw [op_cells37] at h1
      obtain ⟨_, hlen, hc⟩ := World.cells?_some h1
      obtain ⟨v, q, rfl, hq⟩ := script_in h2
      exact ⟨q, v, hc 0 (by omega), hq⟩
    have ie : Inhabited (Option Addr × Nat × Nat × List Cl) := ⟨(none, 0, 0, [])⟩
    obtain ⟨q, hq⟩ := choose_lt each
    obtain ⟨b, off, spot⟩ := ad
    by_cases h0 : len0 = 0
    · subst h0
      exact nothing _ _
    · obtain ⟨v0, hv0, _⟩ := hq 0 (by omega)
      have hspot : spot = none := by
        have := World.cell?_spot hv0
        simpa [Addr.add] using this
      subst hspot
      have hadd : ∀ (o j : Nat), (⟨b, o, none⟩ : Addr).add j = ⟨b, o + j, none⟩ := by intro o j; unfold Addr.add; split <;> simp_all
      refine ⟨some ⟨b, off, none⟩, b, off, len0, _, fun i => (q i).1, fun i => (q i).2.2.2.length, fun i => (q i).2.1, fun i => (q i).2.2.1, fun i => (q i).2.2.2, rfl, ⟨fun _ => rfl, fun i hi => ?_, fun _ _ => rfl, fun i hi h => ?_, fun i hi k c hc => ?_, fun i hi c hc => ?_, hlen⟩⟩
      · obtain ⟨v, h1, h2⟩ := hq i hi
        rw [hadd, hadd, Nat.mul_one, h2.1] at h1
        exact h1
      · obtain ⟨v, h1, h2⟩ := hq i hi
        exact h2.2.1 h
      · obtain ⟨v, h1, h2⟩ := hq i hi
        exact h2.2.2.1 k c hc
      · obtain ⟨v, h1, h2⟩ := hq i hi
        exact h2.2.2.2 c hc
end

theorem grows_frame {W w' : World} (h : Grows W w') (may : MemPlace → Prop) : W.keptBut w' may := by
  refine ⟨h.os, h.output, fun i hi => ?_⟩
  rw [h.old i hi]
  split <;> simp_all
theorem grows_same {W w' : World} (h : Grows W w') {p : MemPlace} (hp : p.block < W.heap.size) : W.sameAt w' p := by
  cases p with
  | cell b o => exact World.cell?_of_block (w := W) (h.old b hp)
  | map b => exact h.old b hp
theorem op_laid : laidOutB Try.prog = true := by kernel_rfl
theorem grows_trod {H : Type} {enc : TypeId × Value → H} {t : TypeId} (hr : Try.prog.readableRec t = true) (hrow : t < Try.prog.types.size) {W W' : World} {v : Value} {d : DataW H} {ps : List MemPlace}
    (h : DataW.Trod enc Try.prog W 0 (fun _ => true) true t v d ps) (hb : Grows W W') (hlt : ∀ x ∈ ps, x.block < W.heap.size) :
    DataW.Trod enc Try.prog W' 0 (fun b => decide (b < W.heap.size)) true t v d ps :=
  WideElems.Trod_stays op_laid hr hrow h (fun x hx => grows_same hb (hlt x hx)) (fun x hx => by simpa using hlt x hx)
end Go.Proofs.Ytehingmdmijedaa.Gen
