/- LatchLinear: whatever the schedule, the number and the scripts, what a latch's calls are told could have been one call behind the other, as chapter 3's own functions say; no conditions. Part 38 of 39. (Joined, by program, of: La11a, GWb, LatFin, LatLin2, LatLin3.) -/
import Derived.Test.YtehingmdmijedaaLatchLinear02
import Derived.Test.YtehingmdmijedaaLatchLinear29
import Derived.Test.YtehingmdmijedaaLatchLinear30
import Derived.Test.YtehingmdmijedaaLatchLinear33
import Derived.Test.YtehingmdmijedaaLatchLinear34
import Derived.Test.YtehingmdmijedaaLatchLinear36
import Derived.Test.YtehingmdmijedaaLatchLinear37
import Derived.BigQuiet
import Derived.Deep.RegionHeld3
import Derived.BigRegion
import Derived.Deep.RegionLaw
set_option linter.unusedSimpArgs false
set_option linter.unusedVariables false
namespace Go.Proofs.Ytehingmdmijedaa.Gen
open Go Go.Lift Go.Conc Go.RowKit
noncomputable def LB11 : Code := Try.f11.body.getD .skip
noncomputable def l11a : Code := seq1 (seq2 (seq2 LB11))
noncomputable def l11b : Code := seq1 (seq2 (seq2 (seq2 LB11)))
noncomputable def l11c : Code := seq1 (seq2 (seq2 (seq2 (seq2 LB11))))
noncomputable def l11d : Code := seq1 (seq2 (seq2 (seq2 (seq2 (seq2 LB11)))))
noncomputable def l11e : Code := (seq2 (seq2 (seq2 (seq2 (seq2 (seq2 LB11))))))
noncomputable def P11 : Code := .seq l11a (.seq l11b (.seq l11c (.seq l11d l11e)))
theorem eLB11 : LB11 = .seq (seq1 LB11) (.seq (seq1 (seq2 LB11)) P11) := by kernel_rfl
set_option maxHeartbeats 4000000 in
set_option maxRecDepth 100000 in
theorem l11c_wp {v : World} {a : Act} {n0 : Int} {wb : Nat} {sc an : Value}  (hA : Fl 36 [(1, I n0), (2, sc), (8, Pt wb 0), (9, an), (7, .bool true), (10, I 0)] a) : l11c.wp Try.prog (fun e a' w' => e = .normal ∧ Fl 36 [(1, I n0), (2, sc), (8, Pt wb 0), (9, an)] a' ∧ w'.heap = v.heap ∧ w'.os = v.os ∧ w'.output = v.output) a v := by
  obtain ⟨hsz, hd, hp⟩ := hA
  obtain ⟨u, rfl, hg⟩ := litN hsz hd
  simp only [List.forall_mem_cons, hg] at hp
  obtain ⟨u1, u2, u8, u9, u7, u10, -⟩ := hp
  clear hg hsz hd
  unfold l11c LB11 Try.f11 seq2 seq1
  simp only [Option.getD_some, lits, Nat.reduceAdd, u1, u2, u8, u9, u7, u10]
  clear u1 u2 u8 u9 u7 u10
  go_wp2_with fail
  first
    | exact ⟨rfl, rfl, by
        intro p hp
        simp only [List.mem_cons, List.not_mem_nil, or_false] at hp
        rcases hp with rfl | rfl | rfl | rfl <;> rfl⟩
    | exact ⟨⟨rfl, rfl, by
        intro p hp
        simp only [List.mem_cons, List.not_mem_nil, or_false] at hp
        rcases hp with rfl | rfl | rfl | rfl <;> rfl⟩, rfl⟩
    | exact ⟨⟨rfl, rfl, by
        intro p hp
        simp only [List.mem_cons, List.not_mem_nil, or_false] at hp
        rcases hp with rfl | rfl | rfl | rfl <;> rfl⟩, rfl, rfl⟩
    | exact ⟨⟨rfl, rfl, by
        intro p hp
        simp only [List.mem_cons, List.not_mem_nil, or_false] at hp
        rcases hp with rfl | rfl | rfl | rfl <;> rfl⟩, rfl, rfl, rfl⟩
    | exact ⟨⟨rfl, rfl, by
        intro p hp
        simp only [List.mem_cons, List.not_mem_nil, or_false] at hp
        rcases hp with rfl | rfl | rfl | rfl <;> rfl⟩, rfl, rfl, rfl, rfl⟩
    | exact ⟨⟨rfl, rfl, by
        intro p hp
        simp only [List.mem_cons, List.not_mem_nil, or_false] at hp
        rcases hp with rfl | rfl | rfl | rfl <;> rfl⟩, rfl, rfl, rfl, rfl, rfl⟩
set_option maxHeartbeats 4000000 in
set_option maxRecDepth 100000 in
theorem l11c_wpa {v : World} {a : Act} {n0 : Int} {wb : Nat} {sc an : Value} {E : Int} (h1 : E = 1) (hA : Fl 36 [(1, I n0), (2, sc), (8, Pt wb 0), (9, an), (7, .bool true), (10, I E)] a) : l11c.wp Try.prog (fun e a' w' => e = .ret ∧ Fl 36 [(6, .bool true)] a' ∧ w'.heap = v.heap ∧ w'.os = v.os ∧ w'.output = v.output) a v := by
  obtain ⟨hsz, hd, hp⟩ := hA
  obtain ⟨u, rfl, hg⟩ := litN hsz hd
  simp only [List.forall_mem_cons, hg] at hp
  obtain ⟨u1, u2, u8, u9, u7, u10, -⟩ := hp
  clear hg hsz hd
  subst h1
  unfold l11c LB11 Try.f11 seq2 seq1
  simp only [Option.getD_some, lits, Nat.reduceAdd, u1, u2, u8, u9, u7, u10]
  clear u1 u2 u8 u9 u7 u10
  go_wp2_with fail
  first
    | exact ⟨rfl, rfl, by
        intro p hp
        simp only [List.mem_cons, List.not_mem_nil, or_false] at hp
        rcases hp with rfl <;> rfl⟩
    | exact ⟨⟨rfl, rfl, by
        intro p hp
        simp only [List.mem_cons, List.not_mem_nil, or_false] at hp
        rcases hp with rfl <;> rfl⟩, rfl⟩
    | exact ⟨⟨rfl, rfl, by
        intro p hp
        simp only [List.mem_cons, List.not_mem_nil, or_false] at hp
        rcases hp with rfl <;> rfl⟩, rfl, rfl⟩
    | exact ⟨⟨rfl, rfl, by
        intro p hp
        simp only [List.mem_cons, List.not_mem_nil, or_false] at hp
        rcases hp with rfl <;> rfl⟩, rfl, rfl, rfl⟩
    | exact ⟨⟨rfl, rfl, by
        intro p hp
        simp only [List.mem_cons, List.not_mem_nil, or_false] at hp
        rcases hp with rfl <;> rfl⟩, rfl, rfl, rfl, rfl⟩
    | exact ⟨⟨rfl, rfl, by
        intro p hp
        simp only [List.mem_cons, List.not_mem_nil, or_false] at hp
        rcases hp with rfl <;> rfl⟩, rfl, rfl, rfl, rfl, rfl⟩
set_option maxHeartbeats 4000000 in
set_option maxRecDepth 100000 in
theorem l11c_wpb {v : World} {a : Act} {n0 : Int} {wb : Nat} {sc an : Value} {E : Int} (h1 : E = 2) (hA : Fl 36 [(1, I n0), (2, sc), (8, Pt wb 0), (9, an), (7, .bool true), (10, I E)] a) : l11c.wp Try.prog (fun e a' w' => e = .ret ∧ Fl 36 [(6, .bool true)] a' ∧ w'.heap = v.heap ∧ w'.os = v.os ∧ w'.output = v.output) a v := by
  obtain ⟨hsz, hd, hp⟩ := hA
  obtain ⟨u, rfl, hg⟩ := litN hsz hd
  simp only [List.forall_mem_cons, hg] at hp
  obtain ⟨u1, u2, u8, u9, u7, u10, -⟩ := hp
  clear hg hsz hd
  subst h1
  unfold l11c LB11 Try.f11 seq2 seq1
  simp only [Option.getD_some, lits, Nat.reduceAdd, u1, u2, u8, u9, u7, u10]
  clear u1 u2 u8 u9 u7 u10
  go_wp2_with fail
  first
    | exact ⟨rfl, rfl, by
        intro p hp
        simp only [List.mem_cons, List.not_mem_nil, or_false] at hp
        rcases hp with rfl <;> rfl⟩
    | exact ⟨⟨rfl, rfl, by
        intro p hp
        simp only [List.mem_cons, List.not_mem_nil, or_false] at hp
        rcases hp with rfl <;> rfl⟩, rfl⟩
    | exact ⟨⟨rfl, rfl, by
        intro p hp
        simp only [List.mem_cons, List.not_mem_nil, or_false] at hp
        rcases hp with rfl <;> rfl⟩, rfl, rfl⟩
    | exact ⟨⟨rfl, rfl, by
        intro p hp
        simp only [List.mem_cons, List.not_mem_nil, or_false] at hp
        rcases hp with rfl <;> rfl⟩, rfl, rfl, rfl⟩
    | exact ⟨⟨rfl, rfl, by
        intro p hp
        simp only [List.mem_cons, List.not_mem_nil, or_false] at hp
        rcases hp with rfl <;> rfl⟩, rfl, rfl, rfl, rfl⟩
    | exact ⟨⟨rfl, rfl, by
        intro p hp
        simp only [List.mem_cons, List.not_mem_nil, or_false] at hp
        rcases hp with rfl <;> rfl⟩, rfl, rfl, rfl, rfl, rfl⟩
theorem l11c_no {v : World} {a : Act} {n0 : Int} {wb : Nat} {sc an : Value} {E : Int} (h1 : E = 1 ∨ E = 2) (hA : Fl 36 [(1, I n0), (2, sc), (8, Pt wb 0), (9, an), (7, .bool true), (10, I E)] a) : l11c.wp Try.prog (fun e a' w' => e = .ret ∧ Fl 36 [(6, .bool true)] a' ∧ w'.heap = v.heap ∧ w'.os = v.os ∧ w'.output = v.output) a v := h1.elim (fun h => l11c_wpa h hA) (fun h => l11c_wpb h hA)
set_option maxHeartbeats 4000000 in
set_option maxRecDepth 100000 in
theorem l11a_wp {v : World} {a : Act} {s1 s2 : Value} (p : Option Addr) (cap vb vo : Nat) (xs : List Int) (hp : 0 < xs.length → p = some ⟨vb, vo, none⟩) (hx1 : xs.length ≤ 17592186043904) (hv : ∀ k x, xs[k]? = some x → v.cell? ⟨vb, vo + k, none⟩ = some (I x)) (hA : Fl 36 [(0, .slice p xs.length cap), (1, s1), (2, s2), (7, .bool true)] a) :
    l11a.wp Try.prog (fun e a w' => e = .normal ∧ ∃ wb bk sc, Fl 36 [(1, s1), (2, s2), (7, .bool true), (8, Pt wb 0)] a ∧ IsNew v xs wb bk sc w') a v := by
  have H7 : Hid (Calls Try.prog 16 #[.slice p xs.length cap] v _) := ⟨(body7A p vb vo cap xs hp hx1 hv).calls Try.func16 rfl⟩
  clear hp hx1 hv
  obtain ⟨hsz, hd, hp⟩ := hA
  obtain ⟨u, rfl, hg⟩ := litN hsz hd
  have u0 := (hg 0).symm.trans (hp (0, .slice p xs.length cap) (by simp))
  have u1 := (hg 1).symm.trans (hp (1, s1) (by simp))
  have u2 := (hg 2).symm.trans (hp (2, s2) (by simp))
  have u7 := (hg 7).symm.trans (hp (7, .bool true) (by simp))
  clear hg hp hsz hd
  unfold l11a LB11 Try.f11 seq2 seq1
  simp only [Option.getD_some, lits, Nat.reduceAdd, u0, u1, u2, u7]
  clear u0 u1 u2 u7
  go_wp2_with (first
    | (go_at_call 16; refine H7.out.mono ?_; rintro e w1 ⟨_, rfl, wb, bk, sc, rfl, hnew⟩))
  first
    | exact ⟨wb, bk, sc, ⟨rfl, rfl, by
        intro p hp
        simp only [List.mem_cons, List.not_mem_nil, or_false] at hp
        rcases hp with rfl | rfl | rfl | rfl <;> rfl⟩, hnew⟩
    | exact ⟨wb, ⟨rfl, rfl, by
        intro p hp
        simp only [List.mem_cons, List.not_mem_nil, or_false] at hp
        rcases hp with rfl | rfl | rfl | rfl <;> rfl⟩, bk, sc, hnew⟩
set_option maxHeartbeats 4000000 in
set_option maxRecDepth 100000 in
theorem l11d_wp {v : World} {a : Act} {n0 : Int} {sc an : Value} {S : TS} {z : Nat → Option Nat} (hR : Rep z S v) (hn : S.n * 40 ≤ 140737488355328) (h1 : ∀ u ∈ S.tr, u.oneCell' = true) (hA : Fl 36 [(1, I n0), (2, sc), (8, Pt S.wb 0), (9, an)] a) :
    l11d.wp Try.prog (fun e a w' => e = .normal ∧ ∃ p g cap, Fl 36 [(1, I n0), (2, sc), (8, Pt S.wb 0), (9, an), (11, .slice p S.n cap)] a ∧ (0 < S.n → p = some ⟨g, 0, none⟩ ∧ v.heap.size ≤ g) ∧ (∀ j u, S.tr[j]? = some u → w'.cell? ⟨g, j, none⟩ = some u) ∧ Grows v w') a v := by
  have H9 : Hid (Calls Try.prog 18 #[Pt S.wb 0] v _) := ⟨(body9A hR hn h1).calls Try.func18 rfl⟩
  clear hR hn h1
  obtain ⟨hsz, hd, hp⟩ := hA
  obtain ⟨u, rfl, hg⟩ := litN hsz hd
  have u1 := (hg 1).symm.trans (hp (1, I n0) (by simp))
  have u2 := (hg 2).symm.trans (hp (2, sc) (by simp))
  have u8 := (hg 8).symm.trans (hp (8, Pt S.wb 0) (by simp))
  have u9 := (hg 9).symm.trans (hp (9, an) (by simp))
  clear hg hp hsz hd
  unfold l11d LB11 Try.f11 seq2 seq1
  simp only [Option.getD_some, lits, Nat.reduceAdd, u1, u2, u8, u9]
  clear u1 u2 u8 u9
  go_wp2_with (first
    | (go_at_call 18; refine H9.out.mono ?_; rintro e w1 ⟨_, rfl, p, g, cap, rfl, k1, k2, k3⟩))
  first
    | exact ⟨p, g, cap, ⟨rfl, rfl, by
        intro p hp
        simp only [List.mem_cons, List.not_mem_nil, or_false] at hp
        rcases hp with rfl | rfl | rfl | rfl | rfl <;> rfl⟩, k1, k2, k3⟩
    | exact ⟨p, ⟨cap, ⟨rfl, rfl, by
        intro p hp
        simp only [List.mem_cons, List.not_mem_nil, or_false] at hp
        rcases hp with rfl | rfl | rfl | rfl | rfl <;> rfl⟩⟩, g, k1, k2⟩
    | exact ⟨p, ⟨cap, ⟨rfl, rfl, by
        intro p hp
        simp only [List.mem_cons, List.not_mem_nil, or_false] at hp
        rcases hp with rfl | rfl | rfl | rfl | rfl <;> rfl⟩⟩, g, k1, k2, k3⟩
set_option maxHeartbeats 4000000 in
set_option maxRecDepth 100000 in
theorem l11e_wp {v : World} {a : Act} {n0 : Int} {sc an tv : Value} (H : Calls Try.prog 41 #[I 4, I n0, I 2, sc, an, tv] v fun e w' => e = .returned (.bool true) ∧ Below v.heap.size v w') (hA : Fl 36 [(1, I n0), (2, sc), (9, an), (11, tv)] a) :
    l11e.wp Try.prog (fun e a w' => e = .ret ∧ Fl 36 [(6, .bool true)] a ∧ Below v.heap.size v w') a v := by
  have H9 : Hid (Calls Try.prog 41 #[I 4, I n0, I 2, sc, an, tv] v _) := ⟨H⟩
  clear H
  obtain ⟨hsz, hd, hp⟩ := hA
  obtain ⟨u, rfl, hg⟩ := litN hsz hd
  have u1 := (hg 1).symm.trans (hp (1, I n0) (by simp))
  have u2 := (hg 2).symm.trans (hp (2, sc) (by simp))
  have u9 := (hg 9).symm.trans (hp (9, an) (by simp))
  have u11 := (hg 11).symm.trans (hp (11, tv) (by simp))
  clear hg hp hsz hd
  unfold l11e LB11 Try.f11 seq2
  simp only [Option.getD_some, lits, Nat.reduceAdd, u1, u2, u9, u11]
  clear u1 u2 u9 u11
  go_wp2_with (first
    | (go_at_call 41; refine H9.out.mono ?_; rintro e w1 ⟨rfl, k3⟩))
  exact ⟨rfl, rfl, by
      intro p hp
      simp only [List.mem_cons, List.not_mem_nil, or_false] at hp
      rcases hp with rfl <;> rfl⟩
theorem fine_l11c : fineCode Try.prog true LV l11c := fineCode_askS callV extT (by kernel_rfl)
theorem fine_l11a : fineCode Try.prog true LV l11a := fineCode_askS callV extT (by kernel_rfl)
theorem fine_l11d : fineCode Try.prog true LV l11d := fineCode_askS callV extT (by kernel_rfl)
theorem fine_l11e : fineCode Try.prog true LX3 l11e := fineCode_askS callX3 extT (by kernel_rfl)
theorem gx_same {v v' : World} (e : v'.heap = v.heap) (e1 : v'.os = v.os) (e2 : v'.output = v.output) : Grows v v' := ⟨by rw [e]; exact Nat.le_refl _, fun b _ => by rw [e], e1, e2⟩
theorem gx_trans {v v' v2 : World} (a : Grows v v') (b : Grows v' v2) : Grows v v2 := ⟨Nat.le_trans a.size b.size, fun q hq => by rw [b.old q (Nat.lt_of_lt_of_le hq a.size), a.old q hq], b.os.trans a.os, b.output.trans a.output⟩
noncomputable def P11s : Code := .seq l11d l11e
theorem eP11 : P11 = .seq l11a (.seq l11b (.seq l11c P11s)) := rfl
set_option maxHeartbeats 4000000 in
set_option maxRecDepth 100000 in
theorem law11_in {Ch : Nat → Prop} {Stop : Goroutine → World → Prop} {main : Bool} {w : World} (x0 : Value) (x1 : Value) (x2 : Value)
    (hk : ∀ (w' : World) (bd : Frame) (ad : Act) (od : Array Oper) (qd : Nat) (rd : List Nat) (oe : Oper) (kd : List Item), (∃ d, w' = w.at d) → od[qd]? = some oe →
      (∀ (Ch : Nat → Prop) (Stop : Goroutine → World → Prop) (w1 : World), (∀ a, Fl 36 [(0, x0), (1, x1), (2, x2), (7, .bool true)] a → GoesI Try.prog main (DT (ScZ zn) Ch) Stop (G ((base 11).at a [.code P11]) []) w1) → GoesI Try.prog main (DT (ScZ zn) Ch) Stop (G (bd.at (ad.put oe.dst (.bool true)) (.inRegion od rd :: kd)) []) w1) →
      GoesI Try.prog main (DT (ScZ zn) Ch) Stop (G ((base 39).at { tmps := Array.replicate 36 undef, defers := [] } [.code B39]) [bd.at ad (.inRegion od (qd :: rd) :: kd)]) w') :
    GoesI Try.prog main (DT (ScZ zn) Ch) Stop (G ((base 11).at { tmps := #[x0, x1, x2] ++ Array.replicate 33 undef, defers := [] } [.code LB11]) []) w := by
  rw [eLB11]
  simp only [Array.replicate_succ, Array.replicate_zero, List.push_toArray, List.append_toArray, List.nil_append, List.cons_append]
  refine goesI_seq (dt_idle _ _) ?_
  generalize hR : P11 = R9 at hk ⊢
  unfold LB11 Try.f11 seq1 seq2
  simp only [Option.getD_some]
  refine goesI_region (dt_idle _ _) ?_
  simp only [List.size_toArray, List.length_cons, List.length_nil, Nat.reduceAdd, Nat.zero_add, List.range, List.range.loop]
  iterate 1
    (refine goesI_oper rfl rfl (by decide) (fun d K hK => ?_)
     go_simp
     refine hK _ _ ⟨dt_reads (fun e he => ?_), GoesI.at ?_ d⟩
     · have hm := mem_listed he
       simp [go_sem, *] at hm
       try exact ⟨_, _, hm⟩
     clear hK K)
  refine goesI_regionEnd (dt_idle _ _) ?_
  refine goesI_seq (dt_idle _ _) ?_
  refine goesI_region (dt_idle _ _) ?_
  simp only [List.size_toArray, List.length_cons, List.length_nil, Nat.reduceAdd, Nat.zero_add, List.range, List.range.loop]
  refine goesI_into (f := 39) (fn := Try.f39) (args := #[]) (dt_idle _ _) rfl rfl (by decide) rfl (by simp [Act.eval]) Try.func39 (by decide) rfl ?_
  refine hk w _ _ _ _ _ _ _ ⟨w.drawn, rfl⟩ rfl (fun Ch Stop w1 hg => ?_)
  clear hk
  iterate 1
    (refine goesI_oper rfl rfl (by decide) (fun d K hK => ?_)
     go_simp
     refine hK _ _ ⟨dt_reads (fun e he => ?_), GoesI.at ?_ d⟩
     · have hm := mem_listed he
       simp [go_sem, *] at hm
       try exact ⟨_, _, hm⟩
     clear hK K)
  refine goesI_regionEnd (dt_idle _ _) ?_
  exact hg _ ⟨rfl, rfl, by
    intro p hp
    simp only [List.mem_cons, List.not_mem_nil, or_false] at hp
    rcases hp with rfl | rfl | rfl | rfl <;> rfl⟩
theorem end11 {a : Act} {todo : List Item} {w : World} (hd : a.defers = []) (h4 : a.tmps.getD 6 undef = .bool true) : stepG Try.prog true (G { (base 11).at a todo with mode := .returning } []) w = .ended (.done (.bool true)) w #[] := by
  have hr : (results Try.f11 a.tmps).run Try.prog w = .ok (.bool true) w := by rw [results_tmp (t := 6) rfl, h4]
  have he : (results Try.f11 a.tmps).events Try.prog w #[] = #[] := by simp [results, go_sem, Try.f11]
  simp [G, stepG, unwind, Frame.at, hd, Try.func11, base, hr, he, doReturn, GStep.after, seen]
set_option maxHeartbeats 4000000 in
set_option maxRecDepth 100000 in
theorem law11_b {Ch : Nat → Prop} {Stop : Goroutine → World → Prop} {main : Bool} {v w : World} (p : Option Addr) (cap vb vo : Nat) (xs : List Int) (hp : 0 < xs.length → p = some ⟨vb, vo, none⟩) (hx1 : xs.length ≤ 17592186043904) (hv : ∀ k x, xs[k]? = some x → v.cell? ⟨vb, vo + k, none⟩ = some (I x)) (s1 s2 : Value) (hvw : Rel zn v w) (hn : NoRow Ch v)
    (hk : ∀ (v' w' : World) (wb bk : Nat) (sc : Value) (bd : Frame) (ad : Act) (od : Array Oper) (qd : Nat) (rd : List Nat) (oe : Oper) (kd : List Item), Rel zn v' w' → NoRow Ch v' → IsNew v xs wb bk sc v' → od[qd]? = some oe →
      (∀ (Ch : Nat → Prop) (Stop : Goroutine → World → Prop) (w2 : World) (A : Value) (E : Int), (∀ a, Fl 36 [(1, s1), (2, s2), (7, .bool true), (8, Pt wb 0), (9, A), (10, I E)] a → GoesI Try.prog main (DT (ScZ zn) Ch) Stop (G ((base 11).at a [.code (.seq l11c P11s)]) []) w2) →
        GoesI Try.prog main (DT (ScZ zn) Ch) Stop (G (bd.at (ad.put oe.dst (.tuple #[A, I E])) (.inRegion od rd :: kd)) []) w2) →
      GoesI Try.prog main (DT (ScZ zn) Ch) Stop (G ((base 40).at { tmps := #[Pt wb 0, s1, s2] ++ Array.replicate 22 undef, defers := [] } [.code B40]) [bd.at ad (.inRegion od (qd :: rd) :: kd)]) w') :
    ∀ a, Fl 36 [(0, .slice p xs.length cap), (1, s1), (2, s2), (7, .bool true)] a → GoesI Try.prog main (DT (ScZ zn) Ch) Stop (G ((base 11).at a [.code P11]) []) w := by
  intro a0 hA0
  rw [eP11]
  refine goesI_seq (dt_idle _ _) ?_
  refine goesI_plain (z := zn) (wr := true) (L := LV) (I := NoRow Ch) hE fineV noRow_keeps (fun v v' w w' es hi hr ho he => dt_of_z v v' w w' es hi hr ho he) hvw fine_l11a hA0.2.1 (by simp [base]) hn
    (Q := fun a w' => ∃ wb bk sc, Fl 36 [(1, s1), (2, s2), (7, .bool true), (8, Pt wb 0)] a ∧ IsNew v xs wb bk sc w') (fun τ => wp_mono (l11a_wp (v := onTape v τ 0) p cap vb vo xs hp hx1 hv hA0) (fun e a w' hq => ⟨hq.1, by
      obtain ⟨_, wb, bk, sc, h1, h2⟩ := hq
      exact ⟨wb, bk, sc, h1, h2.mem, h2.opn, h2.new, ⟨h2.old.size, h2.old.old, h2.old.os, h2.old.output⟩⟩⟩)) ?_
  rintro a1 v1 w1 ⟨wb, bk, sc, hB, hnew⟩ hr1 hn1 -
  obtain ⟨hsz, hd, hpp⟩ := hB
  obtain ⟨u, rfl, hg⟩ := litN hsz hd
  have u1 := (hg 1).symm.trans (hpp (1, s1) (by simp))
  have u2 := (hg 2).symm.trans (hpp (2, s2) (by simp))
  have u7 := (hg 7).symm.trans (hpp (7, .bool true) (by simp))
  have u8 := (hg 8).symm.trans (hpp (8, Pt wb 0) (by simp))
  clear hg hpp hsz hd hA0
  refine goesI_seq (dt_idle _ _) ?_
  clear hvw hn hp hx1 hv
  generalize hT : Code.seq l11c P11s = T at hk ⊢
  unfold l11b LB11 Try.f11 seq1 seq2
  simp only [Option.getD_some, lits, Nat.reduceAdd, u1, u2, u7, u8]
  clear u1 u2 u7 u8
  refine goesI_region (dt_idle _ _) ?_
  simp only [List.size_toArray, List.length_cons, List.length_nil, Nat.reduceAdd, Nat.zero_add, List.range, List.range.loop]
  iterate 3
    (refine goesI_oper rfl rfl (by decide) (fun d K hK => ?_)
     go_simp
     refine hK _ _ ⟨dt_reads (fun e he => ?_), GoesI.at ?_ d⟩
     · have hm := mem_listed he
       simp [go_sem, *] at hm
       try exact ⟨_, _, hm⟩
     clear hK K)
  refine goesI_into (f := 40) (fn := Try.f40) (args := #[Pt wb 0, s1, s2]) (dt_idle _ _) rfl rfl (by decide) rfl (by simp [Act.eval]) Try.func40 (by decide) rfl ?_
  refine hk v1 w1 wb bk sc _ _ _ _ _ _ _ hr1 hn1 hnew rfl (fun Ch Stop w2 A E hwp => ?_)
  clear hk hnew hr1 hn1
  iterate 5
    (refine goesI_oper rfl rfl (by decide) (fun d K hK => ?_)
     go_simp
     refine hK _ _ ⟨dt_reads (fun e he => ?_), GoesI.at ?_ d⟩
     · have hm := mem_listed he
       simp [go_sem, *] at hm
       try exact ⟨_, _, hm⟩
     clear hK K)
  refine goesI_regionEnd (dt_idle _ _) ?_
  subst hT
  exact hwp _ ⟨rfl, rfl, by
    intro p hp
    simp only [List.mem_cons, List.not_mem_nil, or_false] at hp
    rcases hp with rfl | rfl | rfl | rfl | rfl | rfl <;> rfl⟩
theorem law11_no {Ch : Nat → Prop} {Stop : Goroutine → World → Prop} {main : Bool} {v w : World} {a : Act} {n0 : Int} {wb : Nat} {sc an : Value} {E : Int} (hE1 : E = 1 ∨ E = 2) (hvw : Rel zn v w) (hn : NoRow Ch v) (hA : Fl 36 [(1, I n0), (2, sc), (8, Pt wb 0), (9, an), (7, .bool true), (10, I E)] a)
    (hend : ∀ a' v' w' todo, Rel zn v' w' → Grows v v' → a'.defers = [] → a'.tmps.getD 6 undef = .bool true → GoesI Try.prog main (DT (ScZ zn) Ch) Stop (G { (base 11).at a' todo with mode := .returning } []) w') :
    GoesI Try.prog main (DT (ScZ zn) Ch) Stop (G ((base 11).at a [.code (.seq l11c P11s)]) []) w := by
  refine goesI_seq (dt_idle _ _) ?_
  refine goesI_retZ (Q := fun a w' => Fl 36 [(6, .bool true)] a ∧ w'.heap = v.heap ∧ w'.os = v.os ∧ w'.output = v.output) hvw hn fine_l11c hA.2.1 (fun τ => l11c_no (v := onTape v τ 0) hE1 hA) (fun a' v' w' todo hQ hd hr hn' => hend a' v' w' todo hr (gx_same hQ.2.1 hQ.2.2.1 hQ.2.2.2) hd (hQ.1.at 6 (.bool true) (by simp)))
set_option maxHeartbeats 1000000 in
theorem law11_yes {Ch : Nat → Prop} {Stop : Goroutine → World → Prop} {main : Bool} {v w : World} {a : Act} {n0 : Int} {S : TS} {L : List Stp} {sv av : Value}
    (hS : Rep zn S v) (htr : S.tr = flat L) (hSn : S.n = L.length) (hs4 : S.n ≤ 400000)
    (hX : ∀ (u : World) (tv : Value), Grows v u → R3.SLw 5 R3.stepL u tv (L.map toStep) → Calls Try.prog 41 #[I 4, I n0, I 2, sv, av, tv] u fun e w' => e = .returned (.bool true) ∧ Below u.heap.size u w')
    (hvw : Rel zn v w) (hn : NoRow Ch v) (hA : Fl 36 [(1, I n0), (2, sv), (8, Pt S.wb 0), (9, av), (7, .bool true), (10, I 0)] a)
    (hend : ∀ a' v' w' todo, Rel zn v' w' → Grows v v' → a'.defers = [] → a'.tmps.getD 6 undef = .bool true → GoesI Try.prog main (DT (ScZ zn) Ch) Stop (G { (base 11).at a' todo with mode := .returning } []) w') :
    GoesI Try.prog main (DT (ScZ zn) Ch) Stop (G ((base 11).at a [.code (.seq l11c P11s)]) []) w := by
  refine goesI_seq (dt_idle _ _) ?_
  refine goesI_plain (z := zn) (wr := true) (L := LV) (I := NoRow Ch) hE fineV noRow_keeps (fun v v' w w' es hi hr ho he => dt_of_z v v' w w' es hi hr ho he) hvw fine_l11c hA.2.1 (by simp [base]) hn (Q := fun a w' => Fl 36 [(1, I n0), (2, sv), (8, Pt S.wb 0), (9, av)] a ∧ w'.heap = v.heap ∧ w'.os = v.os ∧ w'.output = v.output) (fun τ => l11c_wp (v := onTape v τ 0) hA) ?_
  rintro a1 v1 w1 ⟨hA1, q1, o1, u1⟩ hr1 hn1 -
  unfold P11s
  refine goesI_seq (dt_idle _ _) ?_
  refine goesI_plain (z := zn) (wr := true) (L := LV) (I := NoRow Ch) hE fineV noRow_keeps (fun v v' w w' es hi hr ho he => dt_of_z v v' w w' es hi hr ho he) hr1 fine_l11d hA1.2.1 (by simp [base]) hn1 (Q := fun a w' => ∃ p g ct, Fl 36 [(1, I n0), (2, sv), (8, Pt S.wb 0), (9, av), (11, .slice p S.n ct)] a ∧ (0 < S.n → p = some ⟨g, 0, none⟩ ∧ v1.heap.size ≤ g) ∧ (∀ j u, S.tr[j]? = some u → w'.cell? ⟨g, j, none⟩ = some u) ∧ Grows v1 w') (fun τ => wp_mono (l11d_wp (v := onTape v1 τ 0) (S := S) (hS.same (v' := onTape v1 τ 0) q1) (by omega) (by rw [htr]; exact flat_one L) hA1) (fun e a w' hq => ⟨hq.1, by
      obtain ⟨_, p, g, ct, k1, k2, k3, k4⟩ := hq
      exact ⟨p, g, ct, k1, k2, k3, ⟨k4.size, k4.old, k4.os, k4.output⟩⟩⟩)) ?_
  rintro a2 v2 w2 ⟨p, g, ct, hA2, hp, htc, g2⟩ hr2 hn2 -
  have gv : Grows v v2 := gx_trans (gx_same q1 o1 u1) g2
  have hT2 : R3.SLw 5 R3.stepL v2 (.slice p S.n ct) (L.map toStep) := sl_trace hSn hs4 (fun h => (hp h).1) (fun j u hj => htc j u (by rw [htr]; exact hj))
  refine goesI_retX (Q := fun a w' => Fl 36 [(6, .bool true)] a ∧ Grows v2 w') hr2 hn2 fine_l11e hA2.2.1 (fun τ => wp_mono (l11e_wp (v := onTape v2 τ 0) (hX (onTape v2 τ 0) (.slice p S.n ct) ⟨gv.size, gv.old, gv.os, gv.output⟩ (SLw_grows ⟨Nat.le_refl _, fun _ _ => rfl, rfl, rfl⟩ hT2)) (hA2.sub (by simp))) (fun e a w' hq => ⟨hq.1, hq.2.1, ⟨hq.2.2.size, fun b hb => hq.2.2.block b hb, hq.2.2.os, hq.2.2.output⟩⟩)) (fun a' v' w' todo hQ hd hr hn' => hend a' v' w' todo hr (gx_trans gv hQ.2) hd (hQ.1.at 6 (.bool true) (by simp)))
end Go.Proofs.Ytehingmdmijedaa.Gen

namespace Go.Proofs.Ytehingmdmijedaa.Gen
open Go Go.Lift Go.Conc Go.RowKit
theorem going_wb (S : TS) (i : Nat) (t : Thr) : (going S i t).wb = S.wb := by
  unfold going
  first
    | rfl
    | (unfold picked; split <;> rfl)
    | (split <;> rfl)
theorem pturn_wb {mc : Mc} {p p' : PSt} (h : pturn mc p = some p') : p'.S.wb = p.S.wb := by
  unfold pturn at h
  split at h
  · split at h
    · cases h; rfl
    · cases h
  · cases h
    exact (resume_sta _ _ _ _ _).wb.trans (going_wb _ _ _)
theorem turns_wb {mc : Mc} {m : Nat} {p p' : PSt} (h : Turns mc m p p') : p'.S.wb = p.S.wb := by
  induction h with
  | stop _ => rfl
  | step h1 _ ih => exact ih.trans (pturn_wb h1)
theorem hires_wb {mc : Mc} {k : Nat} {ss : List (Scr mc)} {S S' : TS} {l l' : Nat → Ph} (h : Hires mc k ss S l S' l') : S'.wb = S.wb := by
  induction h with
  | nil => rfl
  | cons tv tb gc _ ih => exact ih.trans (flow_sta _ _ _ _ _ _ _).wb
end Go.Proofs.Ytehingmdmijedaa.Gen

namespace Go.Proofs.Ytehingmdmijedaa.Gen
open Go Go.Lift Go.Conc Go.RowKit
open Go.ConcN (upd upd_same upd_ne)
structure LH (N k : Nat) (n0 : Int) (cl : Nat → List Cl) (v : Vw) : Prop where
  num : v.K = [n0]
  zero : dn v.L = 0
  chg : v.chg = [0]
  stk : v.stk = false
  ends : Ends N n0 cl v.L
  thr : ∀ i, i < k → TI n0 0 false (v.se i) (cl i) (v.l i)
  sum : sumF k cl v.l = 0
theorem hi_latch {N : Nat} {n0 : Int} {cl : Nat → List Cl} {k : Nat} {cs : List (List Cl)} {v v' : Vw} (h : Hi mcLatch k cs v v') : cs = (List.range' k cs.length).map cl → k + cs.length = N → LH N k n0 cl v → LH N N n0 cl v' := by
  induction h with
  | nil => intro _ hN hv; simp at hN; rw [← hN] at hv ⊢; exact hv
  | @cons k c cs v v1 v2 X l' hF e1 e2 e3 e4 e5 h ih =>
    intro hc hN hv
    rw [List.length_cons, List.range'_succ, List.map_cons] at hc
    obtain ⟨hc1, hc2⟩ := List.cons.inj hc
    simp only [List.length_cons] at hN
    rw [hv.stk, hc1] at hF
    obtain ⟨f1, f2, f3, f4, f5⟩ := fw_latch (N := N) (n0 := n0) (cl := cl) (i := k) (by omega) (d := 0) hF (by simp) (Nat.zero_le _) (by simp) (fun x => by cases x) (fun k c a hk => by omega)
    obtain ⟨g1, g2⟩ := Ends.more X hv.ends hv.zero f3
    rw [← e4] at g1 g2
    refine ih hc2 (by omega) ⟨by rw [e1]; exact hv.num, g2, by rw [e3]; exact hv.chg, by rw [e2]; exact hv.stk, g1, fun i hi => ?_, ?_⟩
    · rw [e5.l]
      by_cases hne : i = k
      · subst hne
        rw [upd_same]
        exact f1 _
      · rw [upd_ne _ _ hne]
        exact (hv.thr i (by omega)).se (e5.oth i hne)
    · unfold sumF
      rw [List.range_succ, List.map_append, List.sum_append, e5.l]
      simp only [List.map_cons, List.map_nil, List.sum_cons, List.sum_nil, Nat.add_zero, upd_same]
      rw [f2]
      have e6 : (List.range k).map (fun i => cnt (cl i) (upd v.l k l' i).ans (upTo (cl i) (upd v.l k l' i))) = (List.range k).map (fun i => cnt (cl i) (v.l i).ans (upTo (cl i) (v.l i))) := List.map_congr_left fun i hi => by
        have : i < k := List.mem_range.1 hi
        rw [upd_ne _ _ (by omega)]
      rw [e6]
      have := hv.sum
      unfold sumF at this
      rw [this]
      rfl
structure LatEnd (n : Nat) (n0 : Int) (cl : Nat → List Cl) (l : Nat → Ph) (L : List Stp) : Prop where
  ends : Ends n n0 cl L
  le : (dn L : Int) ≤ n0
  sum : ((List.range n).map fun i => cnt (cl i) (l i).ans (cl i).length).sum = dn L
  wait : ∀ (i k : Nat) (c : Cl) (a : Int × Int), i < n → (cl i)[k]? = some c → (l i).ans[k]? = some a → c.po = 2 → a.1 = 0 → n0 ≤ dn L
  stk : ∀ (i k : Nat) (a : Int × Int), i < n → (l i).ans[k]? = some a → k < (cl i).length → a.1 = 4 → (dn L : Int) < n0
theorem latch_run {caps : Array Value} {pk : Nat → Option Obj} {N n : Nat} {cb : Nat} {n0 : Int} (h0 : 0 ≤ n0) (hn0 : n0 ≤ 9223372036854775807) {pc : Nat → Option Addr} {ln cp rb : Nat → Nat} {cl : Nat → List Cl} {wb bk base : Nat} {sc cv : Value} {sched : List Int} {l0 l1 : Nat → Ph} {S1 : TS} {m : Nat} {p' : PSt} (hl0 : ∀ i, l0 i = .done [])
    (hlen : ∀ j, j < n → (cl j).length = ln j ∧ ln j ≤ 64) (hn8 : n ≤ 8)
    (hH : Hires mcLatch 0 (scrs mcLatch 64 caps pk N n [(cb, n0)] pc ln cp rb cl) (nv { cellsS (newS wb bk base sc sched) cv 1 with ran := true }) l0 S1 l1) (hT : Turns mcLatch m ⟨S1, [(cb, n0)], l1⟩ p') :
    ∃ L, p'.S.tr = flat L ∧ p'.S.n = L.length ∧ LatEnd n n0 cl p'.l L := by
  let v0 : Vw := ⟨[n0], false, [0], fun _ => 0, l0, []⟩
  have hs0 : Seen ⟨nv { cellsS (newS wb bk base sc sched) cv 1 with ran := true }, [(cb, n0)], l0⟩ v0 := ⟨rfl, rfl, rfl, fun i => rfl, rfl, rfl, rfl, fun i t ht => by cases ht⟩
  have hcs : (scrs mcLatch 64 caps pk N n [(cb, n0)] pc ln cp rb cl).map (·.calls) = (List.range' 0 n).map cl := by
    unfold scrs
    rw [List.map_map]
    rfl
  obtain ⟨v1, hi1, hs1⟩ := hires_hi (K := [(cb, n0)]) hH v0 rfl (fun s hs => by
    simp only [scrs, List.mem_map, List.mem_range'] at hs
    obtain ⟨j, ⟨i, hi, rfl⟩, rfl⟩ := hs
    show List.replicate (ln (0 + 1 * i)) (0, 0) = List.replicate (cl (0 + 1 * i)).length (0, 0)
    rw [(hlen _ (by omega)).1]) hs0
  rw [hcs] at hi1
  have hlh : LH n n n0 cl v1 := hi_latch hi1 (by simp) (by simp) ⟨rfl, rfl, rfl, rfl, fun A s B e => by simp [v0] at e, fun i hi => by omega, rfl⟩
  have hli : LI n n0 cl v1 := ⟨⟨n0, hlh.num, h0, by rw [hlh.zero]; simp⟩, by rw [hlh.zero]; exact hlh.chg, hlh.ends, fun i hi => by rw [hlh.zero, hlh.stk]; exact hlh.thr i hi, by rw [hlh.zero]; exact hlh.sum, fun x => by rw [hlh.stk] at x; cases x⟩
  obtain ⟨a1, a2, a3, a4⟩ := hires_gd metLatch hH rfl (by rw [scrs_len]; omega) (fun i t ht => by cases ht)
  rw [scrs_len, Nat.zero_add] at a1
  have g : Gd metLatch ⟨S1, [(cb, n0)], l1⟩ := ⟨by show S1.thr.length ≤ 8; omega, a2⟩
  obtain ⟨v', hI, hs', _, hd⟩ := turns_mv metLatch (N := n) (Inv := LI n n0 cl) (fun v v1 hv hm => latch_mv hn0 hv hm) hT v1 a1 g hs1 hli
  obtain ⟨c, hK, hc0, hcn⟩ := hI.num
  have hup : ∀ i, i < n → upTo (cl i) (v'.l i) = (cl i).length := fun i hi => by
    obtain ⟨a, ha⟩ := hd i hi
    rw [ha]
    rfl
  refine ⟨v'.L, hs'.tr, hs'.n, ?_⟩
  rw [← hs'.l]
  refine ⟨hI.ends, by omega, ?_, fun i k c a hi hc ha hp he => ?_, fun i k a hi ha hk he => ?_⟩
  · rw [← hI.sum]
    unfold sumF
    congr 1
    exact List.map_congr_left fun i hi => by rw [hup i (List.mem_range.1 hi)]
  · have hT := hI.thr i hi
    exact (hT.ok k c a (by rw [hup i hi]; exact (List.getElem?_eq_some_iff.1 hc).1) hc ha).1 hp he
  · have hT := hI.thr i hi
    have hc : (cl i)[k]? = some (cl i)[k] := List.getElem?_eq_getElem hk
    exact (hI.stk ((hT.ok k _ a (by rw [hup i hi]; exact hk) hc ha).2 he)).1
end Go.Proofs.Ytehingmdmijedaa.Gen

namespace Go.Proofs.Ytehingmdmijedaa.Gen
open Go Go.Lift Go.Conc Go.RowKit
open Go.ConcN (upd upd_same upd_ne)
theorem opOk_latch : OpOk mcLatch := by
  refine ⟨fun c op j q h => ?_, fun q x op j q' h => ?_, fun q op j q' h => ?_⟩
  · unfold mcLatch at h
    simp only at h
    split at h
    · cases h; exact ⟨by decide, by decide⟩
    · split at h
      · cases h; exact ⟨by decide, by decide⟩
      · cases h
  · unfold mcLatch at h
    simp only at h
    split at h
    · simp only at h
      split at h
      · cases h
      · cases h; exact ⟨by decide, by decide⟩
    · split at h
      · simp only at h
        split at h
        · cases h
        · cases h; exact ⟨by decide, by decide⟩
      · simp only at h
        split at h <;> cases h
  · unfold mcLatch at h
    simp only at h
    cases h
    exact ⟨by decide, by decide⟩
theorem hi_ac {N : Nat} {n0 : Int} {cl : Nat → List Cl} {k : Nat} {cs : List (List Cl)} {v v' : Vw} (h : Hi mcLatch k cs v v') : cs = (List.range' k cs.length).map cl → k + cs.length = N → (∀ i, i < N → ∀ c ∈ cl i, c.po = 1 ∨ c.po = 2) → (∀ i, k ≤ i → nt v.L i = 0) → AI cl n0 v → AI cl n0 v' := by
  induction h with
  | nil => intro _ _ _ _ hA; exact hA
  | @cons k c cs v v1 v2 X l' hF e1 e2 e3 e4 e5 h ih =>
    intro hc hN ho h0 hA
    rw [List.length_cons, List.range'_succ, List.map_cons] at hc
    obtain ⟨hc1, hc2⟩ := List.cons.inj hc
    subst hc1
    simp only [List.length_cons] at hN
    have hF0 : Fit9 (k + 1) cl (upd (fun _ => []) k (List.replicate (cl k).length (0, 0))) [] := .nil
    obtain ⟨f1, f2⟩ := fw_lat hF (ho k (by omega))
    obtain ⟨_, _, k3⟩ := fw_note (N := k + 1) (cl := cl) opOk_latch (by omega) hF (fun _ => []) [] (by simp) (Nat.zero_le _) (by simp) hF0 (fun _ => ⟨rfl, fun q a hq _ => absurd hq (by omega)⟩) (fun h => by cases h)
    obtain ⟨c, hK, hac⟩ := hA
    refine ih hc2 (by omega) ho (fun i hi => ?_) ⟨c, by rw [e1]; exact hK, ?_⟩
    · have q : nt X i = 0 := by have := k3 i (by omega); simpa [nt] using this
      rw [e4]
      have : nt (v.L ++ X) i = nt v.L i + nt X i := by unfold nt; rw [List.countP_append]
      rw [this, h0 i (by omega), q]
    · rw [e4, e5.l, ans_upd]
      refine (hac.mono fun j q hq => ?_).more X f1
      by_cases e : j = k
      · subst e; rw [h0 j (Nat.le_refl _)] at hq; omega
      · rw [upd_ne _ _ e]
theorem latch_calls {caps : Array Value} {pk : Nat → Option Obj} {N n : Nat} {cb : Nat} {n0 : Int} (h0 : 0 ≤ n0) (hn0 : n0 ≤ 9223372036854775807) {pc : Nat → Option Addr} {ln cp rb : Nat → Nat} {cl : Nat → List Cl} {wb bk base : Nat} {sc cv : Value} {sched : List Int} {l0 l1 : Nat → Ph} {S1 : TS} {m : Nat} {p' : PSt} (hl0 : ∀ i, l0 i = .done []) (hops : ∀ i, i < n → ∀ c ∈ cl i, c.po = 1 ∨ c.po = 2)
    (hlen : ∀ j, j < n → (cl j).length = ln j ∧ ln j ≤ 64) (hn8 : n ≤ 8)
    (hH : Hires mcLatch 0 (scrs mcLatch 64 caps pk N n [(cb, n0)] pc ln cp rb cl) (nv { cellsS (newS wb bk base sc sched) cv 1 with ran := true }) l0 S1 l1) (hT : Turns mcLatch m ⟨S1, [(cb, n0)], l1⟩ p') :
    ∃ L c, p'.S.tr = flat L ∧ p'.S.n = L.length ∧ Fit9 n cl (fun i => (p'.l i).ans) L ∧ Ac9 cl (fun i => (p'.l i).ans) lst n0 L c ∧ ∀ i, i < n → (p'.l i).ans.length = (cl i).length := by
  let v0 : Vw := ⟨[n0], false, [0], fun _ => 0, l0, []⟩
  have hs0 : Seen ⟨nv { cellsS (newS wb bk base sc sched) cv 1 with ran := true }, [(cb, n0)], l0⟩ v0 := ⟨rfl, rfl, rfl, fun i => rfl, rfl, rfl, rfl, fun i t ht => by cases ht⟩
  have hcs : (scrs mcLatch 64 caps pk N n [(cb, n0)] pc ln cp rb cl).map (·.calls) = (List.range' 0 n).map cl := by
    unfold scrs
    rw [List.map_map]
    rfl
  obtain ⟨v1, hi1, hs1⟩ := hires_hi (K := [(cb, n0)]) hH v0 rfl (fun s hs => by
    simp only [scrs, List.mem_map, List.mem_range'] at hs
    obtain ⟨j, ⟨i, hi, rfl⟩, rfl⟩ := hs
    show List.replicate (ln (0 + 1 * i)) (0, 0) = List.replicate (cl (0 + 1 * i)).length (0, 0)
    rw [(hlen _ (by omega)).1]) hs0
  rw [hcs] at hi1
  have hlh : LH n n n0 cl v1 := hi_latch hi1 (by simp) (by simp) ⟨rfl, rfl, rfl, rfl, fun A s B e => by simp [v0] at e, fun i hi => by omega, rfl⟩
  have hli : LI n n0 cl v1 := ⟨⟨n0, hlh.num, h0, by rw [hlh.zero]; simp⟩, by rw [hlh.zero]; exact hlh.chg, hlh.ends, fun i hi => by rw [hlh.zero, hlh.stk]; exact hlh.thr i hi, by rw [hlh.zero]; exact hlh.sum, fun x => by rw [hlh.stk] at x; cases x⟩
  have hni : NI n cl v1 := hi_note opOk_latch hi1 (by simp) (by simp) .nil (fun i hi => by omega) (fun _ _ => rfl)
  have hai : AI cl n0 v1 := hi_ac (N := n) hi1 (by simp) (by simp) hops (fun _ _ => rfl) ⟨n0, rfl, .nil⟩
  obtain ⟨a1, a2, a3, a4⟩ := hires_gd metLatch hH rfl (by rw [scrs_len]; omega) (fun i t ht => by cases ht)
  rw [scrs_len, Nat.zero_add] at a1
  have g : Gd metLatch ⟨S1, [(cb, n0)], l1⟩ := ⟨by show S1.thr.length ≤ 8; omega, a2⟩
  obtain ⟨v', ⟨_, hN, c, _, hA⟩, hs', _, _⟩ := turns_mv metLatch (N := n) (Inv := fun v => LI n n0 cl v ∧ NI n cl v ∧ AI cl n0 v) (fun v v1 hv hm => ⟨latch_mv hn0 hv.1 hm, note_mv opOk_latch hv.2.1 hm, lat_ac hn0 hops hv.1 hv.2.1 hv.2.2 hm⟩) hT v1 a1 g hs1 ⟨hli, hni, hai⟩
  refine ⟨v'.L, c, hs'.tr, hs'.n, ?_, ?_, fun i hi => ?_⟩
  · rw [← hs'.l]; exact hN.fit
  · rw [← hs'.l]; exact hA
  · rw [← hs'.l]; exact (hN.thr i hi).1
end Go.Proofs.Ytehingmdmijedaa.Gen

namespace Go.Proofs.Ytehingmdmijedaa.Gen
open Go Go.Lift Go.Conc Go.RowKit
open Go.Proofs.Ytehingmdmijedaa.His
open Go.ConcN (upd upd_same upd_ne)
theorem ac_low {cl : Nat → List Cl} {an : Nat → List (Int × Int)} {n0 s : Int} {L : List Stp} (h : Ac9 cl an lst n0 L s) : Ac9 cl an (fun s c a s' => lst s c a s' ∧ s ≤ n0) n0 L s ∧ s ≤ n0 := by
  induction h with
  | nil => exact ⟨.nil, Int.le_refl _⟩
  | other h hx ih => exact ⟨.other ih.1 hx, ih.2⟩
  | fin h hn hc ha h4 hs ih =>
    refine ⟨.fin ih.1 hn hc ha h4 ⟨hs, ih.2⟩, ?_⟩
    have := ih.2
    rcases hs with ⟨_, _, _, h⟩ | ⟨_, _, _, h⟩ | ⟨_, _, _, h⟩ <;> omega
theorem wrap_in {x : Int} (h0 : -9223372036854775808 ≤ x) (h1 : x ≤ 9223372036854775807) : wrap64 x = x := by
  unfold wrap64
  omega
theorem ops_of {n : Nat} {cl : Nat → List Cl} {m : Int} (h : ∀ i, i < (scL n cl).length → ∀ k, k < ((scL n cl).getD i []).length → R3.OpIn m (((scL n cl).getD i []).getD k R3.call0)) : ∀ i, i < n → ∀ c ∈ cl i, 1 ≤ c.po ∧ c.po ≤ m := fun i hi c hc => by
  obtain ⟨k, hk, e⟩ := List.mem_iff_getElem.1 hc
  have := h i (by rw [scL_len]; exact hi) k (by rw [scL_get cl hi, List.length_map]; exact hk)
  rw [scL_get cl hi] at this
  have e2 : ((cl i).map toCall).getD k R3.call0 = toCall c := by simp [List.getD_eq_getElem?_getD, hk, e]
  rw [e2] at this
  exact this
theorem lin_of {σ : Type} {N : Nat} {cl : Nat → List Cl} {an : Nat → List (Int × Int)} {st : σ → Cl → Int × Int → σ → Prop} {s0 s : σ} {ob n0 : Int} (f : σ → List Int) (hf : f s0 = firstOf ob n0) (hS : R3.Starts ob n0) (hl : ∀ i, i < N → (an i).length = (cl i).length)
    (hw : ∀ (s : σ) (c : Cl) (a : Int × Int) (s' : σ) (e : His.Ev), st s c a s' → e.op = c.po → e.a = c.ca → e.b = c.cb → e.ans = a → ∃ o, o ∈ refWays ob n0 (f s) e ∧ o.1 = a ∧ o.2 = f s') {L : List Stp} (hF : Fit9 N cl an L) (hA : Ac9 cl an st s0 L s) (h12 : R3.sumL (scL N cl) (scL N cl).length ≤ 12) :
    R3.Alike (scL N cl) (anL N an) ∧ ∀ r, R3.Ofs (scL N cl) (anL N an) 0 (L.map toStep) R3.st0 r → ∃ s, r = some s ∧ R3.Starts ob n0 ∧ s.evs.length ≤ 12 ∧ Hist s.evs ∧ Lin (refWays ob n0) (firstOf ob n0) s.evs := by
  refine ⟨alike_of hl, fun r hr => ?_⟩
  obtain ⟨E, id, ord, hE, hI⟩ := run_lin (ways := refWays ob n0) f hw (run9_of hF s hA)
  refine ⟨_, ofs_is hl hE hF hr, hS, Nat.le_trans (ev_le hE hF) h12, hI.hist, ?_⟩
  rw [← hf]
  exact hI.lin
theorem lat_way {n0 : Int} (hn0 : n0 ≤ 9223372036854775807) (s : Int) (c : Cl) (a : Int × Int) (s' : Int) (e : His.Ev) (h : lst s c a s' ∧ s ≤ n0) (h1 : e.op = c.po) (h2 : e.a = c.ca) (h3 : e.b = c.cb) (h4 : e.ans = a) : ∃ o, o ∈ refWays 4 n0 [s] e ∧ o.1 = a ∧ o.2 = [s'] := by
  obtain ⟨h, hs⟩ := h
  have key : refWays 4 n0 [s] e = if e.op = 1 then (if s > 0 then [((0, 0), [wrap64 (s - 1)])] else [((50, 0), [s])]) else if e.op = 2 then (if s = 0 then [((0, 0), [s])] else []) else [] := rfl
  rw [key, h1]
  clear key
  rcases h with ⟨hp, rfl, h0, rfl⟩ | ⟨hp, rfl, rfl, rfl⟩ | ⟨hp, rfl, rfl, rfl⟩
  · rw [hp, if_pos rfl, if_pos h0]
    exact ⟨_, List.mem_singleton.2 rfl, rfl, by rw [wrap_in (by omega) (by omega)]⟩
  · rw [hp, if_pos rfl, if_neg (by omega)]
    exact ⟨_, List.mem_singleton.2 rfl, rfl, rfl⟩
  · rw [hp, if_neg (by decide), if_pos rfl, if_pos rfl]
    exact ⟨_, List.mem_singleton.2 rfl, rfl, rfl⟩
theorem latch_lin {caps : Array Value} {pk : Nat → Option Obj} {N n : Nat} {cb : Nat} {n0 : Int} (h0 : 0 ≤ n0) (hn0 : n0 ≤ 9223372036854775807) {pc : Nat → Option Addr} {ln cp rb : Nat → Nat} {cl : Nat → List Cl} {wb bk base : Nat} {sc cv : Value} {sched : List Int} {l0 l1 : Nat → Ph} {S1 : TS} {m : Nat} {p' : PSt} (hl0 : ∀ i, l0 i = .done [])
    (hlen : ∀ j, j < n → (cl j).length = ln j ∧ ln j ≤ 64) (hn8 : n ≤ 8)
    (hH : Hires mcLatch 0 (scrs mcLatch 64 caps pk N n [(cb, n0)] pc ln cp rb cl) (nv { cellsS (newS wb bk base sc sched) cv 1 with ran := true }) l0 S1 l1) (hT : Turns mcLatch m ⟨S1, [(cb, n0)], l1⟩ p') {L : List Stp} (hL : p'.S.tr = flat L)
    (hop : ∀ i, i < (scL n cl).length → ∀ k, k < ((scL n cl).getD i []).length → R3.OpIn 2 (((scL n cl).getD i []).getD k R3.call0)) (h12 : R3.sumL (scL n cl) (scL n cl).length ≤ 12) :
    R3.Alike (scL n cl) (anL n fun i => (p'.l i).ans) ∧ ∀ r, R3.Ofs (scL n cl) (anL n fun i => (p'.l i).ans) 0 (L.map toStep) R3.st0 r → ∃ s, r = some s ∧ R3.Starts 4 n0 ∧ s.evs.length ≤ 12 ∧ Hist s.evs ∧ Lin (refWays 4 n0) (firstOf 4 n0) s.evs := by
  obtain ⟨L', c, t1, t2, hF, hA, hl⟩ := latch_calls h0 hn0 hl0 (fun i hi c hc => by have := ops_of hop i hi c hc; omega) hlen hn8 hH hT
  obtain rfl : L' = L := flat_inj (t1.symm.trans hL)
  exact lin_of (fun s => [s]) (by simp [firstOf]) (.inr (.inr (.inr (.inl ⟨rfl, h0⟩)))) hl (lat_way hn0) hF (ac_low hA).1 h12
end Go.Proofs.Ytehingmdmijedaa.Gen
