/- GateGoes: for every schedule and all rows of numbers, the Play of scripts in which each Enter has a Leave of its own behind it, ahead of the next Shut, leaves nobody stuck and nobody in; no conditions. Part 37 of 37. (Joined, by program, of: GWb, La14d, La14e, GOpens, La14f, La14Row.) -/
import Derived.Test.YtfjjoohflcchnaaGateGoes23
import Derived.Test.YtfjjoohflcchnaaGateGoes24
import Derived.Test.YtfjjoohflcchnaaGateGoes29
import Derived.Test.YtfjjoohflcchnaaGateGoes32
import Derived.Test.YtfjjoohflcchnaaGateGoes33
import Derived.Test.YtfjjoohflcchnaaGateGoes36
import Derived.Conc.LeavingOf
import Derived.ProofKit
import Derived.OpenShut
import Derived.ChangeOld
import Derived.SizedLaws
import Derived.Lib.SmallJoins
import Derived.Deep.SlicePairs
import Derived.Test.YtfjjoohflcchnaaRows
set_option linter.unusedSimpArgs false
set_option linter.unusedVariables false
namespace Go.Proofs.Ytfjjoohflcchnaa.Gen
open Go Go.Lift Go.Conc Go.RowKit
/-! ### The world stays where it is -/
theorem going_wb (S : TS) (i : Nat) (t : Thr) : (going S i t).wb = S.wb := by
  unfold going
  first
    | rfl
    | (unfold picked; split <;> rfl)
    | (split <;> rfl)
theorem pturn_wb {mc : Mc} {p p' : PSt} (h : pturn mc p = some p') : p'.S.wb = p.S.wb := by
  unfold pturn at h
  split at h
  · split at h
    · cases h; rfl
    · cases h
  · cases h
    exact (resume_sta _ _ _ _ _).wb.trans (going_wb _ _ _)
theorem turns_wb {mc : Mc} {m : Nat} {p p' : PSt} (h : Turns mc m p p') : p'.S.wb = p.S.wb := by
  induction h with
  | stop _ => rfl
  | step h1 _ ih => exact ih.trans (pturn_wb h1)
theorem hires_wb {mc : Mc} {k : Nat} {ss : List (Scr mc)} {S S' : TS} {l l' : Nat → Ph} (h : Hires mc k ss S l S' l') : S'.wb = S.wb := by
  induction h with
  | nil => rfl
  | cons tv tb gc _ ih => exact ih.trans (flow_sta _ _ _ _ _ _ _).wb

end Go.Proofs.Ytfjjoohflcchnaa.Gen

namespace Go.Proofs.Ytfjjoohflcchnaa.Gen
open Go Go.Lift Go.Conc Go.RowKit

noncomputable def C22 : Code := .seq h22 (.cond (.tmp 82) h23 .skip)
theorem fine_C22 : fineCode Try.prog true LGt C22 := fineCode_askS callGt extT (by kernel_rfl)
set_option maxHeartbeats 4000000 in
set_option maxRecDepth 100000 in
theorem law14_in {Ch : Nat → Prop} {Stop : Goroutine → World → Prop} {main : Bool} {w : World} (x0 : Value) (x1 : Value)
    (hk : ∀ (w' : World) (bd : Frame) (ad : Act) (od : Array Oper) (qd : Nat) (rd : List Nat) (oe : Oper) (kd : List Item), (∃ d, w' = w.at d) → od[qd]? = some oe →
      (∀ (Ch : Nat → Prop) (Stop : Goroutine → World → Prop) (w1 : World), (∀ a, Fl 133 [(0, x0), (1, x1), (5, .bool true)] a → GoesI Try.prog main (DT (ScZ zn) Ch) Stop (G ((base 14).at a [.code P14]) []) w1) → GoesI Try.prog main (DT (ScZ zn) Ch) Stop (G (bd.at (ad.put oe.dst (.bool true)) (.inRegion od rd :: kd)) []) w1) →
      GoesI Try.prog main (DT (ScZ zn) Ch) Stop (G ((base 47).at { tmps := Array.replicate 111 undef, defers := [] } [.code B45]) [bd.at ad (.inRegion od (qd :: rd) :: kd)]) w') :
    GoesI Try.prog main (DT (ScZ zn) Ch) Stop (G ((base 14).at { tmps := #[x0, x1] ++ Array.replicate 131 undef, defers := [] } [.code LB14]) []) w := by
  rw [eLB14]
  simp only [Array.replicate_succ, Array.replicate_zero, List.push_toArray, List.append_toArray, List.nil_append, List.cons_append]
  refine goesI_seq (dt_idle _ _) ?_
  generalize hR : P14 = R9 at hk ⊢
  unfold LB14 Try.f14 seq1 seq2
  simp only [Option.getD_some]
  refine goesI_region (dt_idle _ _) ?_
  simp only [List.size_toArray, List.length_cons, List.length_nil, Nat.reduceAdd, Nat.zero_add, List.range, List.range.loop]
  iterate 1
    (refine goesI_oper rfl rfl (by decide) (fun d K hK => ?_)
     go_simp
     refine hK _ _ ⟨dt_reads (fun e he => ?_), GoesI.at ?_ d⟩
     · have hm := mem_listed he
       simp [go_sem, *] at hm
       try exact ⟨_, _, hm⟩
     clear hK K)
  refine goesI_regionEnd (dt_idle _ _) ?_
  refine goesI_seq (dt_idle _ _) ?_
  refine goesI_region (dt_idle _ _) ?_
  simp only [List.size_toArray, List.length_cons, List.length_nil, Nat.reduceAdd, Nat.zero_add, List.range, List.range.loop]
  refine goesI_into (f := 47) (fn := Try.f47) (args := #[]) (dt_idle _ _) rfl rfl (by decide) rfl (by simp [Act.eval]) Try.func47 (by decide) rfl ?_
  refine hk w _ _ _ _ _ _ _ ⟨w.drawn, rfl⟩ rfl (fun Ch Stop w1 hg => ?_)
  clear hk
  iterate 1
    (refine goesI_oper rfl rfl (by decide) (fun d K hK => ?_)
     go_simp
     refine hK _ _ ⟨dt_reads (fun e he => ?_), GoesI.at ?_ d⟩
     · have hm := mem_listed he
       simp [go_sem, *] at hm
       try exact ⟨_, _, hm⟩
     clear hK K)
  refine goesI_regionEnd (dt_idle _ _) ?_
  exact hg _ ⟨rfl, rfl, by
    intro p hp
    simp only [List.mem_cons, List.not_mem_nil, or_false] at hp
    rcases hp with rfl | rfl | rfl <;> rfl⟩

theorem end14 {a : Act} {todo : List Item} {w : World} (hd : a.defers = []) (h4 : a.tmps.getD 4 undef = .bool true) : stepG Try.prog true (G { (base 14).at a todo with mode := .returning } []) w = .ended (.done (.bool true)) w #[] := by
  have hr : (results Try.f14 a.tmps).run Try.prog w = .ok (.bool true) w := by rw [results_tmp (t := 4) rfl, h4]
  have he : (results Try.f14 a.tmps).events Try.prog w #[] = #[] := by simp [results, go_sem, Try.f14]
  simp [G, stepG, unwind, Frame.at, hd, Try.func14, base, hr, he, doReturn, GStep.after, seen]

/-- Where rows of numbers lie that came in. -/
structure InW (W : World) (p : Option Addr) (b o n : Nat) (rp : Nat → Option Addr) (rl rc : Nat → Nat) : Prop where
  at_ : 0 < n → p = some ⟨b, o, none⟩
  row : ∀ i, i < n → W.cell? ⟨b, o + i, none⟩ = some (.slice (rp i) (rl i) (rc i))
  cell : ∀ i, i < n → ∀ k, k < rl i → ∃ rb ro x, rp i = some ⟨rb, ro, none⟩ ∧ W.cell? ⟨rb, ro + k, none⟩ = some (I x)
  len : ∀ i, i < n → rl i ≤ 9223372036854775807
  n : n ≤ 17592186043904
theorem InW.grows {W W' : World} {p : Option Addr} {b o n : Nat} {rp : Nat → Option Addr} {rl rc : Nat → Nat} (h : InW W p b o n rp rl rc) (g : Grows W W') : InW W' p b o n rp rl rc :=
  ⟨h.at_, fun i hi => g.cell (h.row i hi), fun i hi k hk => by
    obtain ⟨rb, ro, x, q1, q2⟩ := h.cell i hi k hk
    exact ⟨rb, ro, x, q1, g.cell q2⟩, h.len, h.n⟩

set_option maxHeartbeats 4000000 in
set_option maxRecDepth 100000 in
/-- The scripts are built. -/
theorem law14_a {Ch : Nat → Prop} {Stop : Goroutine → World → Prop} {main : Bool} {v w : World} {s0 : Value} {p : Option Addr} {b o R cap : Nat} {rp : Nat → Option Addr} {rl rc : Nat → Nat} (hI : InW v p b o R rp rl rc) (hvw : Rel zn v w) (hn : NoRow Ch v)
    (hk : ∀ (a' : Act) (v' w' : World) (op : Option Addr) (oc : Nat) (rows : List (Value × List Int)), rows.length = min R 8 → Made v (.slice op rows.length oc) rows v' → Rel zn v' w' → NoRow Ch v' → Fl 133 [(0, s0), (5, .bool true), (6, .slice op rows.length oc)] a' → GoesI Try.prog main (DT (ScZ zn) Ch) Stop (G ((base 14).at a' [.code C22, .code R14]) []) w') :
    ∀ a, Fl 133 [(0, s0), (1, .slice p R cap), (5, .bool true)] a → GoesI Try.prog main (DT (ScZ zn) Ch) Stop (G ((base 14).at a [.code P14]) []) w := by
  intro a0 hA0
  unfold P14
  refine goesI_seq (dt_idle _ _) ?_
  refine goesI_plain (z := zn) (wr := true) (L := LGt) (I := NoRow Ch) hE fineGt noRow_keeps (fun v v' w w' es hi hr ho he => dt_of_z v v' w w' es hi hr ho he) hvw fine_h2 hA0.2.1 (by simp [base]) hn
      (Q := fun a w' => Fl 133 [(0, s0), (1, .slice p R cap), (5, .bool true), (6, .slice none 0 0)] a ∧ Grows v w') (fun τ => wp_mono (h2_wp (v := onTape v τ 0) hA0) (fun e a w' hq => ⟨hq.1, hq.2.1, ⟨by rw [hq.2.2.1]; exact Nat.le_refl _, fun b _ => by rw [hq.2.2.1]; rfl, hq.2.2.2.1, hq.2.2.2.2⟩⟩)) ?_
  rintro a1 v1 w1 ⟨hA1, g1⟩ hr1 hn1 -
  refine goesI_seq (dt_idle _ _) ?_
  refine goesI_plain (z := zn) (wr := true) (L := LGt) (I := NoRow Ch) hE fineGt noRow_keeps (fun v v' w w' es hi hr ho he => dt_of_z v v' w w' es hi hr ho he) hr1 fine_S14 hA1.2.1 (by simp [base]) hn1
      (Q := fun a w' => ∃ op oc rows, rows.length = min R 8 ∧ Made v (.slice op rows.length oc) rows w' ∧ Fl 133 [(0, s0), (5, .bool true), (6, .slice op rows.length oc)] a) (fun τ => rowsN (v0 := v) (v := onTape v1 τ 0) hI.at_ hI.n hI.len hI.row hI.cell ⟨g1.size, g1.old, g1.os, g1.output⟩ hA1 (fun a' w' op oc rows h1 h2 h3 => ⟨rfl, op, oc, rows, h1, h2, h3⟩)) ?_
  rintro a2 v2 w2 ⟨op, oc, rows, h1, h2, h3⟩ hr2 hn2 -
  refine goesI_seq (dt_idle _ _) ?_
  exact hk a2 v2 w2 op oc rows h1 h2 hr2 hn2 h3

theorem c22_no {v : World} {a : Act} {s0 : Value} {op : Option Addr} {oc : Nat} (hA : Fl 133 [(0, s0), (5, .bool true), (6, .slice op 0 oc)] a) : C22.wp Try.prog (fun e a' w' => e = .ret ∧ Fl 133 [(4, .bool true)] a' ∧ Grows v w') a v := by
  unfold C22
  refine wp_then (h22_wp hA) ?_
  rintro a1 w1 ⟨hA1, e1, o1, u1⟩
  refine wp_cond_true (by rw [hA1.at 82 (.bool (((0 : Nat) : Int) == 0)) (by simp)]; rfl) ?_
  refine wp_mono (h23_wp (show Fl 133 [(0, s0), (5, .bool true), (6, .slice op 0 oc)] a1 from hA1.sub (by simp))) ?_
  rintro e a8 w8 ⟨rfl, hA8, e8, o8, u8⟩
  exact ⟨rfl, hA8, grow_trans (grow_same e1 o1 u1) (grow_same e8 o8 u8)⟩
theorem c22_yes {v : World} {a : Act} {s0 : Value} {op : Option Addr} {n oc : Nat} (h0 : 0 < n) (hA : Fl 133 [(0, s0), (5, .bool true), (6, .slice op n oc)] a) : C22.wp Try.prog (fun e a' w' => e = .normal ∧ Fl 133 [(0, s0), (5, .bool true), (6, .slice op n oc)] a' ∧ Grows v w') a v := by
  unfold C22
  refine wp_then (h22_wp hA) ?_
  rintro a1 w1 ⟨hA1, e1, o1, u1⟩
  have hne : ((n : Int) == 0) = false := by simp; omega
  refine wp_cond_false (by rw [hA1.at 82 (.bool ((n : Int) == 0)) (by simp), hne]) (wp_skip ?_)
  exact ⟨rfl, hA1.sub (by simp), grow_same e1 o1 u1⟩

set_option maxHeartbeats 4000000 in
set_option maxRecDepth 100000 in
/-- From the scripts to Play. -/
theorem law14_b {Ch : Nat → Prop} {Stop : Goroutine → World → Prop} {main : Bool} {v w : World} (sp : Option Addr) (scap vb vo : Nat) (xs : List Int) (hp : 0 < xs.length → sp = some ⟨vb, vo, none⟩) (hx1 : xs.length ≤ 17592186043904) (hv : ∀ k x, xs[k]? = some x → v.cell? ⟨vb, vo + k, none⟩ = some (I x))
    (p : Option Addr) (n cap : Nat) (hvw : Rel zn v w) (hn : NoRow Ch v)
    (hk : ∀ (v' w' : World) (wb bk : Nat) (sc : Value) (bd : Frame) (ad : Act) (od : Array Oper) (qd : Nat) (rd : List Nat) (oe : Oper) (kd : List Item), Rel zn v' w' → NoRow Ch v' → IsNew v xs wb bk sc v' → od[qd]? = some oe →
      (∀ (Ch : Nat → Prop) (Stop : Goroutine → World → Prop) (w2 : World) (A : Value) (E : Int), (∀ a, Fl 133 [(5, .bool true), (6, .slice p n cap), (13, Pt wb 0), (14, A), (15, I E)] a → GoesI Try.prog main (DT (ScZ zn) Ch) Stop (G ((base 14).at a [.code T14]) []) w2) →
        GoesI Try.prog main (DT (ScZ zn) Ch) Stop (G (bd.at (ad.put oe.dst (.tuple #[A, I E])) (.inRegion od rd :: kd)) []) w2) →
      GoesI Try.prog main (DT (ScZ zn) Ch) Stop (G ((base 48).at { tmps := #[Pt wb 0, .slice p n cap] ++ Array.replicate 18 undef, defers := [] } [.code B46]) [bd.at ad (.inRegion od (qd :: rd) :: kd)]) w') :
    ∀ a, Fl 133 [(0, .slice sp xs.length scap), (5, .bool true), (6, .slice p n cap)] a → GoesI Try.prog main (DT (ScZ zn) Ch) Stop (G ((base 14).at a [.code R14]) []) w := by
  intro a0 hA0
  unfold R14
  refine goesI_seq (dt_idle _ _) ?_
  refine goesI_plain (z := zn) (wr := true) (L := LGt) (I := NoRow Ch) hE fineGt noRow_keeps (fun v v' w w' es hi hr ho he => dt_of_z v v' w w' es hi hr ho he) hvw fine_h24 hA0.2.1 (by simp [base]) hn
      (Q := fun a w' => ∃ wb bk sc, Fl 133 [(5, .bool true), (6, .slice p n cap), (13, Pt wb 0)] a ∧ IsNew v xs wb bk sc w') (fun τ => wp_mono (h24_wp (v := onTape v τ 0) sp scap vb vo xs hp hx1 hv hA0) (fun e a w' hq => ⟨hq.1, by
        obtain ⟨_, wb, bk, sc, h1, h2⟩ := hq
        exact ⟨wb, bk, sc, h1, h2.mem, h2.opn, h2.new, ⟨h2.old.size, h2.old.old, h2.old.os, h2.old.output⟩⟩⟩)) ?_
  rintro a3 v3 w3 ⟨wb, bk, sc, hB, hnew⟩ hr3 hn3 -
  obtain ⟨hsz, hd, hpp⟩ := hB
  obtain ⟨u, rfl, hg⟩ := litN hsz hd
  have u5 := (hg 5).symm.trans (hpp (5, .bool true) (by simp))
  have u6 := (hg 6).symm.trans (hpp (6, .slice p n cap) (by simp))
  have u13 := (hg 13).symm.trans (hpp (13, Pt wb 0) (by simp))
  clear hg hpp hsz hd hA0
  clear hvw hn hp hx1 hv
  refine goesI_seq (dt_idle _ _) ?_
  generalize hT : T14 = TT at hk ⊢
  unfold h25 LB14 Try.f14 seq1 seq2
  simp only [Option.getD_some, lits, Nat.reduceAdd, u5, u6, u13]
  clear u5 u6 u13
  refine goesI_region (dt_idle _ _) ?_
  simp only [List.size_toArray, List.length_cons, List.length_nil, Nat.reduceAdd, Nat.zero_add, List.range, List.range.loop]
  iterate 2
    (refine goesI_oper rfl rfl (by decide) (fun d K hK => ?_)
     go_simp
     refine hK _ _ ⟨dt_reads (fun e he => ?_), GoesI.at ?_ d⟩
     · have hm := mem_listed he
       simp [go_sem, *] at hm
       try exact ⟨_, _, hm⟩
     clear hK K)
  refine goesI_into (f := 48) (fn := Try.f48) (args := #[Pt wb 0, .slice p n cap]) (dt_idle _ _) rfl rfl (by decide) rfl (by simp [Act.eval]) Try.func48 (by decide) rfl ?_
  refine hk v3 w3 wb bk sc _ _ _ _ _ _ _ hr3 hn3 hnew rfl (fun Ch Stop w2 A E hwp => ?_)
  clear hk hnew hr3 hn3
  iterate 5
    (refine goesI_oper rfl rfl (by decide) (fun d K hK => ?_)
     go_simp
     refine hK _ _ ⟨dt_reads (fun e he => ?_), GoesI.at ?_ d⟩
     · have hm := mem_listed he
       simp [go_sem, *] at hm
       try exact ⟨_, _, hm⟩
     clear hK K)
  refine goesI_regionEnd (dt_idle _ _) ?_
  subst hT
  exact hwp _ ⟨rfl, rfl, by
    intro p hp
    simp only [List.mem_cons, List.not_mem_nil, or_false] at hp
    rcases hp with rfl | rfl | rfl | rfl | rfl <;> rfl⟩

end Go.Proofs.Ytfjjoohflcchnaa.Gen

namespace Go.Proofs.Ytfjjoohflcchnaa.Gen
open Go Go.Lift Go.Conc Go.RowKit

set_option maxHeartbeats 2000000 in
theorem run14 (W : World) {sp : Option Addr} {sb so scap : Nat} {sched : List Int} (hS : InI W sp sb so sched) {p : Option Addr} {b o R cap : Nat} {rp : Nat → Option Addr} {rl rc : Nat → Nat} (hI : InW W p b o R rp rl rc) :
    ∃ M last o w' t', runNT Try.prog (M + 1) (solo (G (Frame.enter Try.prog 14 #[.slice sp sched.length scap, .slice p R cap] .normal) []) W) #[] = (.ended o w', t') ∧
      runN Try.prog M (solo (G (Frame.enter Try.prog 14 #[.slice sp sched.length scap, .slice p R cap] .normal) []) W) = .next last ∧ step Try.prog last = .ended o w' ∧ Go.Conc.Good Try.prog (PostT W) last o w' t' := by
  have e : Frame.enter Try.prog 14 #[.slice sp sched.length scap, .slice p R cap] .normal = (base 14).at { tmps := #[.slice sp sched.length scap, .slice p R cap] ++ Array.replicate 131 undef, defers := [] } [.code LB14] := enter_at (fn := Try.f14) (c := LB14) _ Try.func14 (by rfl)
  rw [e, solo_eq_crowd]
  have A : Alone #[G ((base 14).at { tmps := #[.slice sp sched.length scap, .slice p R cap] ++ Array.replicate 131 undef, defers := [] } [.code LB14]) []] W #[] (fun _ => 0) := ⟨leavers_one _ _, 0, Nat.zero_le _, past_nil⟩
  -- to awake
  obtain ⟨N1, gs1, a1, w1, sl1, T1, q1, r1, z1, h1, ⟨bd, ad, od, qd, rd, oe, kd, ⟨d1, rfl⟩, hoe, hback, rfl⟩, A1⟩ := alone_goes A rfl none (Stop := fun g w' => ∃ (bd : Frame) (ad : Act) (od : Array Oper) (qd : Nat) (rd : List Nat) (oe : Oper) (kd : List Item), (∃ d, w' = W.at d) ∧ od[qd]? = some oe ∧
      (∀ (Ch : Nat → Prop) (Stop : Goroutine → World → Prop) (w1 : World), (∀ a, Fl 133 [(0, .slice sp sched.length scap), (1, .slice p R cap), (5, .bool true)] a → GoesI Try.prog true (DT (ScZ zn) Ch) Stop (G ((base 14).at a [.code P14]) []) w1) → GoesI Try.prog true (DT (ScZ zn) Ch) Stop (G (bd.at (ad.put oe.dst (.bool true)) (.inRegion od rd :: kd)) []) w1) ∧
      g = G ((base 47).at { tmps := Array.replicate 111 undef, defers := [] } [.code B45]) [bd.at ad (.inRegion od (qd :: rd) :: kd)])
    (law14_in _ _ (fun w' bd ad od qd rd oe kd hw ho hback => GoesI.stop fun d => ⟨bd, ad, od, qd, rd, oe, kd, by obtain ⟨d0, rfl⟩ := hw; exact ⟨d, rfl⟩, ho, hback, rfl⟩))
  obtain ⟨N2, gs2, w2, sl2, T2, q2, r2, h2, A2, g2⟩ := gawake_all hoe sl1 A1 h1
  have g2' : Grows W w2 := ⟨g2.size, g2.old, g2.os, g2.output⟩
  have hS2 := hS.grows g2'
  have hI2 := hI.grows g2'
  have fin : ∀ (N4 : Nat) (gs4 : Array Goroutine) (w4 : World) (sl4 : Option (Nat × Nat)) (T4 : Trace) (q4 : Nat → Nat) (a4 : Goroutine), runNT Try.prog N4 (crowd gs2 w2 sl2) T2 = (.next (crowd gs4 w4 sl4), T4) → gs4[0]? = some a4 → Alone gs4 w4 T4 q4 → (∃ a' todo, a'.defers = [] ∧ a'.tmps.getD 4 undef = .bool true ∧ Grows W w4 ∧ a4 = G { (base 14).at a' todo with mode := .returning } []) →
      ∃ M last o w' t', runNT Try.prog (M + 1) (crowd #[G ((base 14).at { tmps := #[.slice sp sched.length scap, .slice p R cap] ++ Array.replicate 131 undef, defers := [] } [.code LB14]) []] W none) #[] = (.ended o w', t') ∧ runN Try.prog M (crowd #[G ((base 14).at { tmps := #[.slice sp sched.length scap, .slice p R cap] ++ Array.replicate 131 undef, defers := [] } [.code LB14]) []] W none) = .next last ∧ step Try.prog last = .ended o w' ∧ Go.Conc.Good Try.prog (PostT W) last o w' t' := by
    intro N4 gs4 w4 sl4 T4 q4 a4 r4 h4 A4 ⟨a', todo, hd, h6, g4, ea⟩
    subst ea
    obtain ⟨M5, last, o, w', t', e1, e2, e3, e4⟩ := alone_ends A4 h4 sl4 (Post := PostT W) (fun B d => ⟨rfl, .bool true, #[], end14 hd h6, fun e he => by simp at he, rfl, ⟨g4.size, g4.old, g4.os, g4.output⟩⟩)
    have hrun := runNT_then (runNT_then r1 r2) r4
    refine ⟨N1 + N2 + N4 + M5, last, o, w', t', ?_, ?_, e3, e4⟩
    · rw [Nat.add_assoc, runNT_add, hrun]; exact e1
    · rw [runN_add, ← runNT_fst Try.prog _ _ #[], hrun]; exact e2
  -- to Play, or to the end where there are no scripts
  obtain ⟨N3, gs3, a3, w3, sl3, T3', q3, r3, z3, h3, hstop, A3⟩ := alone_goes A2 h2 sl2 (Stop := fun g w' => (∃ a' todo, a'.defers = [] ∧ a'.tmps.getD 4 undef = .bool true ∧ Grows W w' ∧ g = G { (base 14).at a' todo with mode := .returning } []) ∨ (∃ (v2 : World) (op : Option Addr) (oc : Nat) (rows : List (Value × List Int)) (wb bk : Nat) (sc : Value) (bd : Frame) (ad : Act) (od : Array Oper) (qd : Nat) (rd : List Nat) (oe : Oper) (kd : List Item), 0 < rows.length ∧ rows.length ≤ 8 ∧ Made w2 (.slice op rows.length oc) rows v2 ∧ IsNew v2 sched wb bk sc w' ∧ od[qd]? = some oe ∧
      (∀ (Ch : Nat → Prop) (Stop : Goroutine → World → Prop) (w2 : World) (A : Value) (E : Int), (∀ a, Fl 133 [(5, .bool true), (6, .slice op rows.length oc), (13, Pt wb 0), (14, A), (15, I E)] a → GoesI Try.prog true (DT (ScZ zn) Ch) Stop (G ((base 14).at a [.code T14]) []) w2) →
        GoesI Try.prog true (DT (ScZ zn) Ch) Stop (G (bd.at (ad.put oe.dst (.tuple #[A, I E])) (.inRegion od rd :: kd)) []) w2) ∧
      g = G ((base 48).at { tmps := #[Pt wb 0, .slice op rows.length oc] ++ Array.replicate 18 undef, defers := [] } [.code B46]) [bd.at ad (.inRegion od (qd :: rd) :: kd)]))
    (hback (fun _ => False) _ w2 (law14_a hI2 (Rel.refl w2) (fun c hc => hc.elim) (fun a' v' w' op oc rows hlen hM hr hn hA' => by
      by_cases h0 : rows.length = 0
      · rw [h0] at hA'
        exact goesI_retW (more := [.code R14]) (v := v') (Q := fun a w' => Fl 133 [(4, .bool true)] a ∧ Grows v' w') hr hn fine_C22 hA'.2.1 (fun τ => wp_mono (c22_no (v := onTape v' τ 0) hA') (fun e a' w' hq => ⟨hq.1, hq.2.1, ⟨hq.2.2.size, hq.2.2.old, hq.2.2.os, hq.2.2.output⟩⟩)) (fun a' v'' w'' todo hQ hd hr' hn' => GoesI.stop fun d => .inl ⟨a', todo, hd, hQ.1.at 4 (.bool true) (by simp), (grow_trans (grow_trans g2' hM.gr) hQ.2).toAt hr' d, rfl⟩)
      · have hpos : 0 < rows.length := by omega
        refine goesI_plain (z := zn) (wr := true) (L := LGt) (I := NoRow (fun _ => False)) hE fineGt noRow_keeps (fun v v' w w' es hi hr ho he => dt_of_z v v' w w' es hi hr ho he) hr fine_C22 hA'.2.1 (by simp [base]) hn
          (Q := fun a w' => Fl 133 [(0, .slice sp sched.length scap), (5, .bool true), (6, .slice op rows.length oc)] a ∧ Grows v' w') (fun τ => wp_mono (c22_yes (v := onTape v' τ 0) hpos hA') (fun e a w' hq => ⟨hq.1, hq.2.1, ⟨hq.2.2.size, hq.2.2.old, hq.2.2.os, hq.2.2.output⟩⟩)) ?_
        rintro a5 v5 w5 ⟨hA5, g5⟩ hr5 hn5 -
        have hM5 := hM.later g5
        have hS5 := hS2.grows hM5.gr
        exact law14_b sp scap sb so sched hS5.at_ hS5.len hS5.cell op rows.length oc hr5 hn5
          (fun v' w' wb bk sc bd ad od qd rd oe kd hr hn hnew ho hend => GoesI.stop fun d => .inr ⟨v5, op, oc, rows, wb, bk, sc, bd, ad, od, qd, rd, oe, kd, hpos, by omega, hM5, by
          have e : (w'.at d).heap = v'.heap := hr.eq
          have hgr : Grows v' (w'.at d) := ⟨by rw [e]; exact Nat.le_refl _, fun b _ => by rw [e], hr.os, hr.output⟩
          refine ⟨(hnew.mem.grows hgr).mem, ?_, hnew.new, ⟨by rw [e]; exact hnew.old.size, fun b hb => by rw [e]; exact hnew.old.old b hb, hr.os.trans hnew.old.os, hr.output.trans hnew.old.output⟩⟩
          obtain ⟨c, m, h⟩ := hnew.opn
          exact ⟨c, m, by rw [e]; exact h⟩, ho, hend, rfl⟩) a5 hA5)))
  rcases hstop with hret | ⟨v2, op, oc, rows, wb, bk, sc, bd, ad, od, qd, rd, oe, kd, hpos, hle8, hM, hnew, hoe3, hend3, rfl⟩
  · exact fin _ gs3 w3 sl3 T3' q3 a3 r3 h3 A3 hret
  have g3 : Grows W w3 := (g2'.trans' hM.gr).trans' hnew.old
  obtain ⟨b', pc, ln, cp, rb, cl, rfl, hC2, h64, hN⟩ := made_in hM hpos hle8
  have hC3 := hC2.grows hnew.old
  have hl64 : ∀ j, j < rows.length → (cl j).length ≤ 64 := fun j hj => by rw [hC2.len j hj]; exact h64 j hj
  have hlens : ∀ caps pk N K, lens (scrs mcGate 77 caps pk N rows.length K pc ln cp rb cl) ≤ 512 := fun caps pk N K => Nat.le_trans (lens_scrs _ _ _ _ _ _ _ _ _ _ _ _ hl64) (by omega)
  obtain ⟨N4, gs4, w4, sl4, T4, q4, caps, pk, N, cv, K, S', S1, l1, m, p', r4, z4, h4, A4, hK, hnv, hH, hT, O⟩ := gplayG_all (S := newS wb bk v2.heap.size sc sched) (n := rows.length) (sb := b') (so := 0) (cap := oc) (pc := pc) (ln := ln) (cp := cp) (rb := rb) (cl := cl) hoe3 sl3 300000 A3 h3 hnew.mem rfl rfl rfl hnew.opn (asked_of hC2 hnew h64 hpos) ⟨hpos, hle8⟩ (fun caps pk N K => by
      have := hlens caps pk N K
      show 0 + 2 * _ ≤ 1000000
      omega) (by have := hS.len; show sched.length ≤ _; omega) (fun x hx => hS.inr x hx) (fun _ => .done []) (fun caps pk N cv K hK S1 l1 hH => play_ends metGate hH rfl (by rw [scrs_len]; exact hle8) (hlens caps pk N K) (by decide) rfl)
  have hsm := play_small metGate hH hT rfl (by rw [scrs_len]; exact hle8) (hlens caps pk N _) (by decide) rfl
  obtain ⟨L, b0, t1, t2, t3, t4, t5⟩ := gate_goes hK hN (fun j hj => ⟨hC2.len j hj, h64 j hj⟩) hle8 hH hT (fun _ => rfl) (by omega)
  have hSn : S'.n = L.length := by have := congrArg TS.n hnv; exact this.trans t2
  have hStr : S'.tr = flat L := by have := congrArg TS.tr hnv; exact this.trans t1
  have hSk : S'.stk = false := by have := congrArg TS.stk hnv; exact this.trans t3
  have hSw : S'.wb = wb := by
    have h5 := congrArg TS.wb hnv
    have h6 := (turns_wb hT).trans (hires_wb hH)
    exact h5.trans h6
  have hn1 : S'.n ≤ 400000 := by
    have : S'.n = p'.S.n := by have := congrArg TS.n hnv; exact this
    omega
  have hg34 : ∀ b, b < v2.heap.size → w4.heap[b]? = w3.heap[b]? := fun b hb => by
    have hs := hnew.old.size
    exact (O.old b (by omega) (fun h => by have := hnew.new b (.inl h); omega) (fun h => by have := hnew.new b (.inr h); omega)).1
  have hgW : Grows W w4 := ⟨by have := g3.size; have := O.size; omega, fun b hb => by rw [hg34 b (by have := g2'.size; have := hM.gr.size; omega)]; exact g3.old b hb, O.os.trans g3.os, O.out.trans g3.output⟩
  subst hSw
  obtain ⟨N5, gs5, a5, w5, sl5, T5, q5, r5, z5, h5, hs5, A5⟩ := alone_goes A4 h4 sl4 (hend3 (fun _ => False) (fun g w' => ∃ a' todo, a'.defers = [] ∧ a'.tmps.getD 4 undef = .bool true ∧ Grows W w' ∧ g = G { (base 14).at a' todo with mode := .returning } []) w4 _ 0 (fun a hA => goesI_retW (more := []) (v := w4) (Q := fun a w' => Fl 133 [(4, .bool true)] a ∧ Grows w4 w') (Rel.refl w4) (fun c hc => hc.elim) fine_T14 hA.2.1 (fun τ => wp_mono (tail14 (v := onTape w4 τ 0) (S := S') t4 t5 (O.mem.rep.same rfl) hSk hStr hSn hn1 (show Fl 133 [(5, .bool true), (6, .slice (some ⟨b', 0, none⟩) rows.length oc), (13, Pt S'.wb 0), (14, .slice (some ⟨N + 1, 0, none⟩) rows.length rows.length), (15, I 0)] a from hA.sub (by simp))) (fun e a' w' hq => ⟨hq.1, hq.2.1, ⟨hq.2.2.size, hq.2.2.old, hq.2.2.os, hq.2.2.output⟩⟩)) (fun a' v' w' todo hQ hd hr hn' => GoesI.stop fun d => ⟨a', todo, hd, hQ.1.at 4 (.bool true) (by simp), (grow_trans hgW hQ.2).toAt hr d, rfl⟩)))
  exact fin _ gs5 w5 sl5 T5 q5 a5 (runNT_then r3 (runNT_then r4 r5)) h5 A5 hs5
end Go.Proofs.Ytfjjoohflcchnaa.Gen

namespace Go.Proofs.Ytfjjoohflcchnaa.Gen
open Go Go.Lift Go.Conc
open Go.ChangeShapes Go.WideShapes Go.ChangeAt Go.RowKit Go.Joins Go.Deep

theorem op_knob : ownKnob Try.prog.godebug = none := by kernel_rfl
theorem op_cells3 : Try.prog.cellsOf 3 = 1 := by kernel_rfl
theorem op_bytes3 : Try.prog.bytesOf 3 = 8 := by kernel_rfl
theorem inr_of {n : Int} (h : (Lit.int .i64 n).wf = true) : InR n := by
  have := bounds_i64 h
  unfold InR
  omega

section
variable {H : Type} {enc : TypeId × Value → H} {w : World}
set_option maxRecDepth 100000 in
/-- A list of numbers that came in. -/
theorem ints_in {r : Reach} {b0 : Nat} {v : Value} {d : DataW H} {ps : List MemPlace} (hv : Value.okWide Try.prog w r b0 22 v) (h : DataW.Trod enc Try.prog w 0 (fun _ => true) true 22 v d ps) (hsz : ∀ elems spare, d = .slice elems spare → (elems.length + spare.length) * Try.prog.bytesOf 3 ≤ reachBytes) :
    ∃ (p : Option Addr) (cap b o : Nat) (xs : List Int), v = .slice p xs.length cap ∧ InI w p b o xs := by
  obtain ⟨a0, len0, cap0, rfl⟩ := okWide_slice Try.underlying22 hv
  obtain ⟨fuel, hf⟩ := h
  rcases open_ints Try.underlying22 Try.underlying3 op_cells3 hf with ⟨hcs, _⟩ | ⟨x, l, c, zs, hcs, _, hl, hm, hz, hx, hcell, hwf⟩
  · simp [Value.cells] at hcs
    obtain ⟨rfl, rfl, rfl⟩ := hcs
    exact ⟨none, 0, 0, 0, [], rfl, ⟨fun h => by simp at h, fun k x hk => by simp at hk, fun x hx => by simp at hx, Nat.zero_le _⟩⟩
  · simp [Value.cells] at hcs
    obtain ⟨rfl, rfl, rfl⟩ := hcs
    have hz' : zs.length = cap0 := by simpa using hz
    have ht : (zs.take len0).length = len0 := by rw [List.length_take]; omega
    have hb := hsz _ _ (congrArg Prod.fst hx)
    have hlz : ∀ (k : IntKind) (l : List Int), (ChangeShapes.lits (H := H) k l).length = l.length := fun k l => by simp [ChangeShapes.lits]
    rw [op_bytes3, hlz, hlz, ht] at hb
    have hlen : len0 ≤ 17592186043904 := by unfold reachBytes at hb; omega
    obtain ⟨b, off, spot⟩ := x
    by_cases h0 : len0 = 0
    · subst h0
      exact ⟨_, _, 0, 0, [], rfl, ⟨fun h => by simp at h, fun k x hk => by simp at hk, fun x hx => by simp at hx, Nat.zero_le _⟩⟩
    · have hspot : spot = none := by simpa [Addr.add] using World.cell?_spot (hcell 0 (by omega))
      subst hspot
      refine ⟨_, _, b, off, zs.take len0, by rw [ht], ⟨fun _ => rfl, fun i a hi => ?_, fun x hx => inr_of (hwf x (List.mem_of_mem_take hx)), by rw [ht]; exact hlen⟩⟩
      have hil : i < len0 := by have := (List.getElem?_eq_some_iff.1 hi).1; omega
      have hc := hcell i (by omega)
      have hadd : (⟨b, off, none⟩ : Addr).add i = ⟨b, off + i, none⟩ := by unfold Addr.add; split <;> simp_all
      rw [hadd] at hc
      have ha : zs.getD i 0 = a := by
        rw [List.getElem?_take_of_lt hil] at hi
        rw [List.getD_eq_getElem?_getD, hi]
        rfl
      rw [ha] at hc
      exact hc

/-- A script that came in. -/
def Sc (w : World) (v : Value) (q : Option Addr × Nat × Nat × List Cl) : Prop :=
  v = .slice q.1 q.2.2.2.length q.2.1 ∧ (0 < q.2.2.2.length → q.1 = some ⟨q.2.2.1, roOf q.1, none⟩) ∧ (∀ (k : Nat) (c : Cl), q.2.2.2[k]? = some c → w.cell? ⟨q.2.2.1, roOf q.1 + k * 4, none⟩ = some (I c.po) ∧ w.cell? ⟨q.2.2.1, roOf q.1 + k * 4 + 1, none⟩ = some (I c.ca) ∧ w.cell? ⟨q.2.2.1, roOf q.1 + k * 4 + 2, none⟩ = some (I c.cb) ∧ w.cell? ⟨q.2.2.1, roOf q.1 + k * 4 + 3, none⟩ = some (I c.cc)) ∧ ∀ c ∈ q.2.2.2, InR c.ca ∧ c.ok
end

theorem grows_frame {W w' : World} (h : Grows W w') (may : MemPlace → Prop) : W.keptBut w' may := by
  refine ⟨h.os, h.output, fun i hi => ?_⟩
  rw [h.old i hi]
  split <;> simp_all
theorem grows_same {W w' : World} (h : Grows W w') {p : MemPlace} (hp : p.block < W.heap.size) : W.sameAt w' p := by
  cases p with
  | cell b o => exact World.cell?_of_block (w := W) (h.old b hp)
  | map b => exact h.old b hp
theorem op_laid : laidOutB Try.prog = true := by kernel_rfl
theorem grows_trod {H : Type} {enc : TypeId × Value → H} {t : TypeId} (hr : Try.prog.readableRec t = true) (hrow : t < Try.prog.types.size) {W W' : World} {v : Value} {d : DataW H} {ps : List MemPlace}
    (h : DataW.Trod enc Try.prog W 0 (fun _ => true) true t v d ps) (hb : Grows W W') (hlt : ∀ x ∈ ps, x.block < W.heap.size) :
    DataW.Trod enc Try.prog W' 0 (fun b => decide (b < W.heap.size)) true t v d ps :=
  WideElems.Trod_stays op_laid hr hrow h (fun x hx => grows_same hb (hlt x hx)) (fun x hx => by simpa using hlt x hx)
end Go.Proofs.Ytfjjoohflcchnaa.Gen

namespace Go.Proofs.Ytfjjoohflcchnaa.Gen
open Go Go.Lift Go.Conc
open Go.ChangeShapes Go.WideShapes Go.ChangeAt Go.RowKit Go.Joins Go.Deep

theorem op_cells22 : Try.prog.cellsOf 22 = 1 := by kernel_rfl
theorem op_bytes22 : Try.prog.bytesOf 22 = 24 := by kernel_rfl
def Ri (w : World) (v : Value) (q : Option Addr × Nat × Nat) : Prop :=
  v = .slice q.1 q.2.1 q.2.2 ∧ (∀ k, k < q.2.1 → ∃ rb ro x, q.1 = some ⟨rb, ro, none⟩ ∧ w.cell? ⟨rb, ro + k, none⟩ = some (I x)) ∧ q.2.1 ≤ 9223372036854775807
section
variable {H : Type} {enc : TypeId × Value → H} {w : World}
set_option maxRecDepth 100000 in
theorem row_in {fuel : Nat} {cs : List Value} {y : DataW H × List MemPlace} (h : DataW.trod enc Try.prog w 0 (fun _ => true) true fuel 22 cs = some y) : ∃ v q, cs = [v] ∧ Ri w v q := by
  rcases open_ints Try.underlying22 Try.underlying3 op_cells3 h with ⟨hcs, _⟩ | ⟨x, l, c, zs, hcs, _, hl, hm, hz, hx, hcell, hwf⟩
  · exact ⟨_, (none, 0, 0), hcs, rfl, fun k hk => by simp at hk, by decide⟩
  · have hz' : zs.length = c := by simpa using hz
    refine ⟨_, (some x, l, c), hcs, rfl, fun k hk => ?_, by have : c ≤ maxLen := hm; unfold maxLen at this; show l ≤ _; omega⟩
    obtain ⟨b, off, spot⟩ := x
    have hk' : k < l := hk
    have hc := hcell k (by omega)
    have hspot : spot = none := by simpa [Addr.add] using World.cell?_spot (hcell 0 (by omega))
    subst hspot
    have hadd : (⟨b, off, none⟩ : Addr).add k = ⟨b, off + k, none⟩ := by unfold Addr.add; split <;> simp_all
    rw [hadd] at hc
    exact ⟨b, off, _, rfl, hc⟩
set_option maxRecDepth 100000 in
theorem rows_in {r : Reach} {b0 : Nat} {v : Value} {d : DataW H} {ps : List MemPlace} (hv : Value.okWide Try.prog w r b0 36 v) (h : DataW.Trod enc Try.prog w 0 (fun _ => true) true 36 v d ps) (hsz : ∀ elems spare, d = .slice elems spare → (elems.length + spare.length) * Try.prog.bytesOf 22 ≤ reachBytes) :
    ∃ (p : Option Addr) (b o n cap : Nat) (rp : Nat → Option Addr) (rl rc : Nat → Nat), v = .slice p n cap ∧ InW w p b o n rp rl rc := by
  obtain ⟨a0, len0, cap0, rfl⟩ := okWide_slice Try.underlying36 hv
  obtain ⟨fuel, hf⟩ := h
  have nothing : ∀ p cap, ∃ (p' : Option Addr) (b o n cap' : Nat) (rp : Nat → Option Addr) (rl rc : Nat → Nat), (Value.slice p 0 cap) = .slice p' n cap' ∧ InW w p' b o n rp rl rc := fun p cap =>
    ⟨p, 0, 0, 0, cap, fun _ => none, fun _ => 0, fun _ => 0, rfl, ⟨fun h => by omega, fun k hk => by omega, fun k hk => by omega, fun k hk => by omega, Nat.zero_le _⟩⟩
  rcases open_slice Try.underlying36 hf with ⟨hcs, _⟩ | ⟨ad, len, cap, m, k, D, Pl, hcs, _, hl, hm, hmm, hxe, hx⟩
  · simp [Value.cells] at hcs
    obtain ⟨rfl, rfl, rfl⟩ := hcs
    exact nothing _ _
  · simp [Value.cells] at hcs
    obtain ⟨rfl, rfl, rfl⟩ := hcs
    simp only [if_true] at hmm
    subst hmm
    have hb := hsz _ _ (congrArg Prod.fst hxe)
    rw [op_bytes22] at hb
    simp only [List.length_map, List.length_range] at hb
    have hlen : len0 ≤ 17592186043904 := by unfold reachBytes at hb; omega
    have each : ∀ i, i < len0 → ∃ q : Option Addr × Nat × Nat, ∃ v, w.cell? ((ad.add (i * 1)).add 0) = some v ∧ Ri w v q := by
      intro i hi
      obtain ⟨cs', h1, h2⟩ := hx i (by omega)
      rw [op_cells22] at h1
      obtain ⟨_, hlen, hc⟩ := World.cells?_some h1
      obtain ⟨v, q, rfl, hq⟩ := row_in h2
      exact ⟨q, v, hc 0 (by omega), hq⟩
    have ie : Inhabited (Option Addr × Nat × Nat) := ⟨(none, 0, 0)⟩
    obtain ⟨q, hq⟩ := choose_lt each
    obtain ⟨b, off, spot⟩ := ad
    by_cases h0 : len0 = 0
    · subst h0
      exact nothing _ _
    · obtain ⟨v0, hv0, _⟩ := hq 0 (by omega)
      have hspot : spot = none := by
        have := World.cell?_spot hv0
        simpa [Addr.add] using this
      subst hspot
      have hadd : ∀ (o j : Nat), (⟨b, o, none⟩ : Addr).add j = ⟨b, o + j, none⟩ := by intro o j; unfold Addr.add; split <;> simp_all
      refine ⟨some ⟨b, off, none⟩, b, off, len0, _, fun i => (q i).1, fun i => (q i).2.1, fun i => (q i).2.2, rfl, ⟨fun _ => rfl, fun i hi => ?_, fun i hi k hk => ?_, fun i hi => ?_, hlen⟩⟩
      · obtain ⟨v, h1, h2⟩ := hq i hi
        rw [hadd, hadd, Nat.mul_one, h2.1] at h1
        exact h1
      · obtain ⟨v, h1, h2⟩ := hq i hi
        exact h2.2.1 k hk
      · obtain ⟨v, h1, h2⟩ := hq i hi
        exact h2.2.2
end
end Go.Proofs.Ytfjjoohflcchnaa.Gen

namespace Go.Proofs.Ytfjjoohflcchnaa
open Go Go.Lift Go.Conc
open Go.ChangeShapes Go.WideShapes Go.ChangeAt Go.RowKit Go.Joins Go.Deep
open Gen

set_option maxRecDepth 100000 in
theorem gateGoes_lifted (os : Os) (started : os.Started) (H : Type) (enc : TypeId × Value → H) :
    ReturnsInLeavingWide {} Try.checked os 14 .any (Rows.gateGoesSpec.pre6 enc Try.prog Try.f14 Rows.gateGoesRow.domain false) (Rows.gateGoesSpec.post enc Try.prog Try.f14 false true false false) := by
  refine returnsInLeavingWide_of_change_sized (C := Try.checked) op_knob started Try.func14
    (ChangeSpec.witness6 (enc := enc) (C := Try.checked) false ⟨#[], #[.slice none 0 0, .slice none 0 0], []⟩ 8 (by kernel_rfl) (by kernel_rfl) (by kernel_rfl) (by kernel_rfl)) ?_
  intro W base args ds gs before hval0 hW _ hsz0 _
  have hval : ∀ (j : Nat) t v, Try.f14.params[j]? = some t → args[j]? = some v → Value.okWide Try.prog W .any base t v := hval0
  have hW' := hW
  obtain ⟨p, q, hA0, hV, rfl, _, _⟩ := hW
  have hA : DataW.TrodAll enc Try.prog W 0 (fun _ => true) true Try.f14.params.toList args.toList ds p := hA0
  have hsz : (DataW.weightsEach Try.prog (Try.f14.params.toList ++ Rows.gateGoesSpec.plain.varTypes Try.prog) (ds ++ gs)).all (· ≤ reachBytes) = true := hsz0
  rw [Try.params14] at hA hval hsz
  obtain ⟨v0, vs0, d0, ds0, p0, q0, hargs, rfl, rfl, h0, r0⟩ := trodAll_cons hA
  obtain ⟨v1, vs1, d1, ds1, p1, q1, rfl, rfl, rfl, h1, r1⟩ := trodAll_cons r0
  obtain ⟨rfl, rfl, rfl⟩ := trodAll_nil r1
  obtain rfl : args = #[v0, v1] := by cases args; simp_all
  obtain ⟨rfl, rfl⟩ := trodVars_none hV
  have k0 := h0
  have k1 := h1
  have lt0 : ∀ x ∈ p0, x.block < W.heap.size := by obtain ⟨m, hm⟩ := k0; exact DataW.trod_lt m _ _ _ hm
  have lt1 : ∀ x ∈ p1, x.block < W.heap.size := by obtain ⟨m, hm⟩ := k1; exact DataW.trod_lt m _ _ _ hm
  obtain ⟨sp, scap, sb, so, sched, e0, hS⟩ := ints_in (hval 0 22 v0 rfl rfl) h0 (fun el sp e => sized_slice hsz (j := 0) rfl (by rw [e]; rfl) Try.underlying22)
  obtain ⟨cp0, b, o, n, cap, rp, rl, rc, e1, hC⟩ := rows_in (hval 1 36 v1 rfl rfl) h1 (fun el sp e => sized_slice hsz (j := 1) rfl (by rw [e]; rfl) Try.underlying36)
  clear hA0 hval0 hsz0
  subst e0 e1
  simp only [List.append_nil] at hW'
  obtain ⟨M, last, o', w', t', g1, g2, g3, g4⟩ := run14 (scap := scap) (cap := cap) W hS hC
  refine ⟨M, last, o', w', t', g1, g2, g3, g4.mono fun v hF => ?_⟩
  obtain ⟨rfl, bel⟩ : PostT W v w' := hF
  exact ⟨_, _, _, [], _, [], hW', trodAll_mk1 (shut_bool Try.underlying4 _),
    (trodAll_cons_mk (grows_trod (by kernel_rfl) (of_decide_eq_true (by kernel_rfl)) k0 bel lt0)
    (trodAll_cons_mk (grows_trod (by kernel_rfl) (of_decide_eq_true (by kernel_rfl)) k1 bel lt1) trodAll_mk0)), rfl, grows_frame bel _, fun h => by cases h⟩

theorem gateGoes_holds : Rows.GateGoesSaid :=
  OpenClaim.holds_of_wide_leaving 14 Try.f14 rfl rfl rfl rfl rfl rfl rfl ⟨rfl, rfl, rfl, rfl, rfl⟩ rfl rfl rfl rfl rfl (by kernel_rfl) Try.func14 (by kernel_rfl)
    (of_decide_eq_true (by kernel_rfl)) (by unfold Func.isWrapper; first | (rw [if_pos (by decide +kernel)]; kernel_rfl) | (rw [if_neg (by decide +kernel)]; exact ⟨rfl, rfl⟩))
    (fun os started H enc _ => gateGoes_lifted os started H enc)

#print axioms gateGoes_holds
end Go.Proofs.Ytfjjoohflcchnaa
