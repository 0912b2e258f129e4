/- CellAdds returns true, whatever the schedule, the start and the numbers, and leaves what it was given as it was: of the law's statement as given, with no condition of our own. Part 34 of 34. (Joined, by program, of: Law4b, Run4, Opens, AddsRow.) -/
import Derived.Test.YtfjjoohflcchnaaCellAdds30
import Derived.Test.YtfjjoohflcchnaaCellAdds33
import Derived.Test.YtfjjoohflcchnaaRows
import Derived.Conc.LeavingOf
import Derived.ProofKit
import Derived.OpenShut
import Derived.ChangeOld
import Derived.SizedLaws
import Derived.Lib.SmallJoins
import Derived.Deep.SlicePairs
set_option linter.unusedSimpArgs false
set_option linter.unusedVariables false
namespace Go.Proofs.Ytfjjoohflcchnaa
open Go Go.Lift Go.Conc Go.RowKit

set_option maxHeartbeats 4000000 in
set_option maxRecDepth 100000 in
theorem e420_wp {v : World} (p : Option Addr) (cap vb vo : Nat) (xs : List Int) (hp : 0 < xs.length → p = some ⟨vb, vo, none⟩) (hx1 : xs.length ≤ 17592186043904) (hv : ∀ k x, xs[k]? = some x → v.cell? ⟨vb, vo + k, none⟩ = some (I x)) {start sm : Int} {X2 X8 : Value} {a : Act} (hF : Fram 191 [(0, .slice p xs.length cap), (1, I start), (2, X2), (7, .bool true), (8, X8), (9, I sm)] a) :
    e420.wp Try.prog (fun e a w' => e = .normal ∧ ∃ wb bk sc, Fram 191 [(1, I start), (2, X2), (8, X8), (9, I sm), (14, Pt wb 0)] a ∧ IsNew v xs wb bk sc w') a v := by
  have H7 : Hid (Calls Try.prog 18 #[.slice p xs.length cap] v _) := ⟨(body7A p vb vo cap xs hp hx1 hv).calls Try.func18 rfl⟩
  clear hp hx1 hv
  obtain ⟨f0, f1, f2, f7, f8, f9, -⟩ := hF.at_
  obtain ⟨u, rfl, hg⟩ := litN hF.size hF.defers
  have u0 := (hg 0).symm.trans f0
  have u1 := (hg 1).symm.trans f1
  have u2 := (hg 2).symm.trans f2
  have u8 := (hg 8).symm.trans f8
  have u9 := (hg 9).symm.trans f9
  clear hg hF f0 f1 f2 f7 f8 f9
  show Code.wp Try.prog (seq1 (seq2 (seq2 (seq2 (seq2 (seq2 U4)))))) _ _ _
  unfold U4 B4 Try.f4 seq2 seq1
  simp only [Option.getD_some, lis, Nat.reduceAdd, u0, u1, u2, u8, u9]
  clear u0 u1 u2 u8 u9
  go_wp2_with (first
    | (go_at_call 18; refine H7.out.mono ?_; rintro e w1 ⟨_, rfl, wb, bk, sc, rfl, hnew⟩))
  exact ⟨wb, ⟨rfl, rfl, rfl, rfl, rfl, rfl, rfl, trivial⟩, bk, sc, hnew⟩

theorem azOf_le {za : Nat → List Int} {j m : Nat} (h : m ∈ azOf za j) : 0 < m ∧ m ≤ 1024 := by
  unfold azOf at h
  obtain ⟨x, _, rfl⟩ := List.mem_map.1 h
  have := incr_in x
  omega
theorem azOf_len (za : Nat → List Int) (j : Nat) : (azOf za j).length = (za j).length := by unfold azOf; simp

set_option maxHeartbeats 4000000 in
set_option maxRecDepth 100000 in
theorem law4_b {Ch : Nat → Prop} {Stop : Goroutine → World → Prop} {main : Bool} {v w : World} {sp : Option Addr} {scap sb so : Nat} {sched : List Int} (hS : InI v sp sb so sched) {start : Int} (hst : InR start) {p : Option Addr} {b o n cap : Nat} {qa : Nat → Option Addr} {ca ib io : Nat → Nat} {za : Nat → List Int} (hI : InA v p b o n qa ca ib io za) (hvw : Rel zn v w) (hnr : NoRow Ch v)
    (hend : ∀ a' v' w' todo, Rel zn v' w' → Grows v v' → a'.defers = [] → a'.tmps.getD 6 undef = .bool true → GoesI Try.prog main (DT (ScZ zn) Ch) Stop (G { (base 4).at a' todo with mode := .returning } []) w')
    (hk : ∀ (v' w' v5 : World) (wb bk : Nat) (sc : Value) (og ocap : Nat) (pc : Nat → Option Addr) (cp rb : Nat → Nat) (vb : Nat) (bd : Frame) (ad : Act) (od : Array Oper) (qd : Nat) (rd : List Nat) (oe : Oper) (kd : List Item), Rel zn v' w' → NoRow Ch v' → (0 < n ∧ n ≤ 8) → (∀ j, j < n → (za j).length < 64) → Set4 v start (azOf za) n sched wb bk sc og pc cp rb vb v5 v' → od[qd]? = some oe →
      (∀ (Ch : Nat → Prop) (Stop : Goroutine → World → Prop) (v2 w2 : World) (M : Nat), Rel zn v2 w2 → NoRow Ch v2 → Got4 v2 start p b o n qa ca ib io za og pc cp wb M →
        (∀ a' v' w' todo, Rel zn v' w' → Grows v2 v' → a'.defers = [] → a'.tmps.getD 6 undef = .bool true → GoesI Try.prog main (DT (ScZ zn) Ch) Stop (G { (base 4).at a' todo with mode := .returning } []) w') →
        GoesI Try.prog main (DT (ScZ zn) Ch) Stop (G (bd.at (ad.put oe.dst (.tuple #[.slice (some ⟨M, 0, none⟩) n n, I 0])) (.inRegion od rd :: kd)) []) w2) →
      GoesI Try.prog main (DT (ScZ zn) Ch) Stop (G ((base 19).at { tmps := #[Pt wb 0, .slice (some ⟨vb, 0, none⟩) 1 1, .slice (some ⟨og, 0, none⟩) n ocap] ++ Array.replicate 39 undef, defers := [] } [.code B8]) [bd.at ad (.inRegion od (qd :: rd) :: kd)]) w') :
    ∀ a, Fram 191 [(0, .slice sp sched.length scap), (1, I start), (2, .slice p n cap), (7, .bool true)] a → GoesI Try.prog main (DT (ScZ zn) Ch) Stop (G ((base 4).at a [.code R4]) []) w := by
  intro a hF
  refine goesI_seq (dt_idle _ _) ?_
  -- too few, too many
  refine (lift_code (P := Try.prog) (z := zn) (wr := true) (L := LO) (D := DT (ScZ zn) Ch) (I := NoRow Ch) (main := main) (b := base 4) (cs := []) hE fineO noRow_keeps (fun v v' w w' es hi hr ho he => dt_of_z v v' w w' es hi hr ho he) hvw fine42 hF.defers (by simp [base]) hnr
    (Q := fun e a w' => (w'.heap = v.heap ∧ w'.os = v.os ∧ w'.output = v.output) ∧ ((e = .ret ∧ a.tmps.getD 6 undef = .bool true ∧ ¬ (0 < n ∧ n ≤ 8)) ∨ (e = .normal ∧ (0 < n ∧ n ≤ 8) ∧ Fram 191 [(0, .slice sp sched.length scap), (1, I start), (2, .slice p n cap), (7, .bool true)] a))) (fun τ => e42_wp (v := onTape v τ 0) hF) (fun e a w hq => hq.2.elim (fun h => .inr h.1) (fun h => .inl h.1))).then ?_
  rintro g w1 ⟨a1, v1, hr1, hn1, hd1, ⟨⟨⟨e1, o1, u1⟩, hq⟩, rfl⟩ | ⟨⟨⟨e1, o1, u1⟩, hq⟩, todo, rfl⟩⟩
  rotate_left
  · rcases hq with ⟨_, h6, _⟩ | ⟨hq, _⟩
    · exact hend a1 v1 w1 todo hr1 ⟨by rw [e1]; exact Nat.le_refl _, fun b _ => by rw [e1], o1, u1⟩ hd1 h6
    · cases hq
  rcases hq with ⟨hq, _⟩ | ⟨_, hn8, hF1⟩
  · cases hq
  refine goesI_seq (dt_idle _ _) ?_
  refine goesI_plain (z := zn) (wr := true) (L := LO) (I := NoRow Ch) hE fineO noRow_keeps (fun v v' w w' es hi hr ho he => dt_of_z v v' w w' es hi hr ho he) hr1 fine44 hF1.defers (by simp [base]) hn1
    (Q := fun a w' => Fram 191 [(0, .slice sp sched.length scap), (1, I start), (2, .slice p n cap), (7, .bool true), (8, .slice none 0 0)] a ∧ (w'.heap = v1.heap ∧ w'.os = v1.os ∧ w'.output = v1.output)) (fun τ => e44_wp (v := onTape v1 τ 0) hF1) ?_
  rintro a2 v2 w2 ⟨hF2, e2, o2, u2⟩ hr2 hn2 -
  refine goesI_seq (dt_idle _ _) ?_
  refine goesI_plain (z := zn) (wr := true) (L := LO) (I := NoRow Ch) hE fineO noRow_keeps (fun v v' w w' es hi hr ho he => dt_of_z v v' w w' es hi hr ho he) hr2 fine45 hF2.defers (by simp [base]) hn2
    (Q := fun a w' => Fram 191 [(0, .slice sp sched.length scap), (1, I start), (2, .slice p n cap), (7, .bool true), (8, .slice none 0 0), (9, I start)] a ∧ (w'.heap = v2.heap ∧ w'.os = v2.os ∧ w'.output = v2.output)) (fun τ => e45_wp (v := onTape v2 τ 0) hF2) ?_
  rintro a3 v3 w3 ⟨hF3, e3, o3, u3⟩ hr3 hn3 -
  have g3 : Grows v v3 := ⟨by rw [e3, e2, e1]; exact Nat.le_refl _, fun b _ => by rw [e3, e2, e1], by rw [o3, o2, o1], by rw [u3, u2, u1]⟩
  have hI3 := hI.stn (P := fun _ => True) g3
  refine goesI_seq (dt_idle _ _) ?_
  -- the scripts
  refine (lift_code (P := Try.prog) (z := zn) (wr := true) (L := LO) (D := DT (ScZ zn) Ch) (I := NoRow Ch) (main := main) (b := base 4) (cs := []) hE fineO noRow_keeps (fun v v' w w' es hi hr ho he => dt_of_z v v' w w' es hi hr ho he) hr3 fine46 hF3.defers (by simp [base]) hn3
    (Q := fun e a w' => (e = .ret ∧ a.tmps.getD 6 undef = .bool true ∧ Grows v3 w') ∨ (e = .normal ∧ (∀ j, j < n → (za j).length < 64) ∧ ∃ V8 V, Fram 191 [(0, .slice sp sched.length scap), (1, I start), (2, .slice p n cap), (7, .bool true), (8, V8), (9, I (wrap64 (start + total (azOf za) n)))] a ∧ Built v3 (azOf za) n V8 V w')) (fun τ => wp_mono (e46_wp (v := onTape v3 τ 0) (hI3.stn (P := fun _ => True) ⟨Nat.le_refl _, fun _ _ => rfl, rfl, rfl⟩) hn8 hst hF3) (fun e a w' hq => by
      rcases hq with ⟨h1, h2, h3⟩ | ⟨h1, h2, V8, V, h3, h4⟩
      · exact .inl ⟨h1, h2, h3.size, h3.old, h3.os, h3.output⟩
      · exact .inr ⟨h1, h2, V8, V, h3, h4.outer, h4.inner, h4.ap8, h4.ap, ⟨h4.old.size, h4.old.old, h4.old.os, h4.old.output⟩⟩)) (fun e a w hq => hq.elim (fun h => .inr h.1) (fun h => .inl h.1))).then ?_
  rintro g w4 ⟨a4, v4, hr4, hn4, hd4, ⟨hq, rfl⟩ | ⟨hq, todo, rfl⟩⟩
  rotate_left
  · rcases hq with ⟨_, h6, hg⟩ | ⟨hq, _⟩
    · exact hend a4 v4 w4 todo hr4 (g3.trans' hg) hd4 h6
    · cases hq
  rcases hq with ⟨hq, _⟩ | ⟨_, h64, V8, V, hF4, hB⟩
  · cases hq
  have haz : ∀ j, j < n → ∀ m ∈ azOf za j, m ≤ 1024 := fun j _ m hm => (azOf_le hm).2
  have haz64 : ∀ j, j < n → (azOf za j).length < 64 := fun j hj => by rw [azOf_len]; exact h64 j hj
  refine goesI_seq (dt_idle _ _) ?_
  refine goesI_plain (z := zn) (wr := true) (L := LO) (I := NoRow Ch) hE fineO noRow_keeps (fun v v' w w' es hi hr ho he => dt_of_z v v' w w' es hi hr ho he) hr4 fine419 hF4.defers (by simp [base]) hn4
    (Q := fun a w' => ∃ og ocap pc cp rb, Fram 191 [(0, .slice sp sched.length scap), (1, I start), (2, .slice p n cap), (7, .bool true), (8, .slice (some ⟨og, 0, none⟩) n ocap), (9, I (wrap64 (start + total (azOf za) n)))] a ∧ InS w' (some ⟨og, 0, none⟩) og 0 n pc (fun j => (addS start (azOf za) j).length) cp rb (addS start (azOf za)) ∧ Grows v3 w') (fun τ => wp_mono (e419_wp (v := v3) (w := onTape v4 τ 0) ⟨own_stay (fun b _ => rfl) hB.outer, fun j hj => own_stay (fun b _ => rfl) (hB.inner j hj), hB.ap8, hB.ap, ⟨hB.old.size, hB.old.old, hB.old.os, hB.old.output⟩⟩ hn8 hst haz haz64 hF4) (fun e a w' hq => ⟨hq.1, by
      obtain ⟨_, og, ocap, pc, cp, rb, h1, h2, _, h3⟩ := hq
      exact ⟨og, ocap, pc, cp, rb, h1, h2, h3⟩⟩)) ?_
  rintro a5 v5 w5 ⟨og, ocap, pc, cp, rb, hF5, hC5, g5⟩ hr5 hn5 -
  have g05 : Grows v v5 := g3.trans' g5
  have hS5 := hS.grows g05
  refine goesI_seq (dt_idle _ _) ?_
  refine goesI_plain (z := zn) (wr := true) (L := LO) (I := NoRow Ch) hE fineO noRow_keeps (fun v v' w w' es hi hr ho he => dt_of_z v v' w w' es hi hr ho he) hr5 fine420 hF5.defers (by simp [base]) hn5
    (Q := fun a w' => ∃ wb bk sc, Fram 191 [(1, I start), (2, .slice p n cap), (8, .slice (some ⟨og, 0, none⟩) n ocap), (9, I (wrap64 (start + total (azOf za) n))), (14, Pt wb 0)] a ∧ IsNew v5 sched wb bk sc w') (fun τ => wp_mono (e420_wp (v := onTape v5 τ 0) sp scap sb so sched hS5.at_ hS5.len hS5.cell hF5) (fun e a w' hq => ⟨hq.1, by
      obtain ⟨_, wb, bk, sc, h1, h2⟩ := hq
      exact ⟨wb, bk, sc, h1, h2.mem, h2.opn, h2.new, ⟨h2.old.size, h2.old.old, h2.old.os, h2.old.output⟩⟩⟩)) ?_
  rintro a6 v6 w6 ⟨wb, bk, sc, hF6, hnew⟩ hr6 hn6 -
  have hset : Set4 v start (azOf za) n sched wb bk sc og pc cp rb v6.heap.size v5 (v6.alloc (.cells #[I start] 3)) := by
    have hgr : Grows v6 (v6.alloc (.cells #[I start] 3)) := ⟨by show v6.heap.size ≤ (v6.heap.push _).size; simp, fun b hb => by show (v6.heap.push _)[b]? = _; rw [Array.getElem?_push, if_neg (by omega)], rfl, rfl⟩
    refine ⟨g05, ⟨(hnew.mem.grows hgr).mem, ?_, hnew.new, hnew.old.trans' hgr⟩, hC5, ?_, fun h => by have := hnew.mem.lt h; omega⟩
    · obtain ⟨c, m, h⟩ := hnew.opn
      exact ⟨c, m, by rw [hgr.old _ (Array.getElem?_eq_some_iff.1 h).1]; exact h⟩
    · unfold World.cell?
      rw [show (v6.alloc (.cells #[I start] 3)).heap[v6.heap.size]? = some (.cells #[I start] 3) from Array.getElem?_push_size]
      rfl
  obtain ⟨f1, f2, f8, f9, f14, -⟩ := hF6.at_
  obtain ⟨u, rfl, hg⟩ := litN hF6.size hF6.defers
  have x1 := (hg 1).symm.trans f1
  have x2 := (hg 2).symm.trans f2
  have x8 := (hg 8).symm.trans f8
  have x9 := (hg 9).symm.trans f9
  have x14 := (hg 14).symm.trans f14
  clear hg hF6 f1 f2 f8 f9 f14 hF5 hF4 hF3 hF2 hF1 hF hB hC5 hS5 hnew hend hvw hnr hr1 hr2 hr3 hr4 hr5 hn1 hn2 hn3 hn4 hn5 e1 e2 e3 o1 o2 o3 u1 u2 u3 hI3 haz haz64 hS hI g3 g5 g05
  refine goesI_seq (dt_idle _ _) ?_
  generalize hT : P4 = T
  unfold e421 U4 B4 Try.f4 seq1 seq2
  simp only [Option.getD_some, lis, Nat.reduceAdd, x1, x2, x8, x9, x14]
  clear x1 x2 x8 x9 x14
  refine goesI_region (dt_idle _ _) ?_
  simp only [List.size_toArray, List.length_cons, List.length_nil, Nat.reduceAdd, Nat.zero_add, List.range, List.range.loop]
  iterate 2
    (refine goesI_oper rfl rfl (by decide) (fun d K hK => ?_)
     go_simp
     refine hK _ _ ⟨dt_reads (fun e he => ?_), GoesI.at ?_ d⟩
     · have hm := mem_listed he
       simp [go_sem, *] at hm
       try exact ⟨_, _, hm⟩
     clear hK K)
  refine goesI_opZ (L := LO) rfl rfl (by decide) (fineOp_ask callO extT (by kernel_rfl)) hr6 hn6 (v' := v6.alloc (.cells #[I start] 3)) (x := .slice (some ⟨v6.heap.size, 0, none⟩) 1 1) (by go_simp) rfl (fun w7 hr7 hn7 => ?_)
  iterate 1
    (refine goesI_oper rfl rfl (by decide) (fun d K hK => ?_)
     go_simp
     refine hK _ _ ⟨dt_reads (fun e he => ?_), GoesI.at ?_ d⟩
     · have hm := mem_listed he
       simp [go_sem, *] at hm
       try exact ⟨_, _, hm⟩
     clear hK K)
  refine goesI_into (f := 19) (fn := Try.f19) (args := #[Pt wb 0, .slice (some ⟨v6.heap.size, 0, none⟩) 1 1, .slice (some ⟨og, 0, none⟩) n ocap]) (dt_idle _ _) rfl rfl (by decide) rfl (by simp [Act.eval, Act.put]) Try.func19 (by decide) rfl ?_
  refine hk _ w7 v5 wb bk sc og ocap pc cp rb v6.heap.size _ _ _ _ _ _ _ hr7 hn7 hn8 h64 hset rfl (fun Ch Stop vv ww M hvw hn hG hend => ?_)
  clear hk hset hr6 hn6 hr7 hn7
  iterate 5
    (refine goesI_oper rfl rfl (by decide) (fun d K hK => ?_)
     go_simp
     refine hK _ _ ⟨dt_reads (fun e he => ?_), GoesI.at ?_ d⟩
     · have hm := mem_listed he
       simp [go_sem, *] at hm
       try exact ⟨_, _, hm⟩
     clear hK K)
  refine goesI_regionEnd (dt_idle _ _) ?_
  subst hT
  exact law4_c (cap := cap) (ocap := ocap) hn8 hG hvw hn hend ⟨rfl, rfl, rfl, rfl, rfl, rfl, rfl, rfl, rfl, trivial⟩
end Go.Proofs.Ytfjjoohflcchnaa

namespace Go.Proofs.Ytfjjoohflcchnaa
open Go Go.Lift Go.Conc Go.RowKit

def Post4 (W : World) (r : Value) (w' : World) : Prop := r = .bool true ∧ Grows W w'
theorem end4 {a : Act} {todo : List Item} {w : World} (hd : a.defers = []) (h6 : a.tmps.getD 6 undef = .bool true) : stepG Try.prog true (G { (base 4).at a todo with mode := .returning } []) w = .ended (.done (.bool true)) w #[] := by
  have hr : (results Try.f4 a.tmps).run Try.prog w = .ok (.bool true) w := by rw [results_tmp (t := 6) rfl, h6]
  have he : (results Try.f4 a.tmps).events Try.prog w #[] = #[] := by simp [results, go_sem, Try.f4]
  simp [G, stepG, unwind, Frame.at, hd, Try.func4, base, hr, he, doReturn, GStep.after, seen]

theorem sum_mul_le : ∀ (l : List Nat), (∀ m ∈ l, m ≤ 1024) → l.sum ≤ 1024 * l.length
  | [], _ => by simp
  | m :: l, h => by
    have h1 := sum_mul_le l (fun x hx => h x (List.mem_cons_of_mem _ hx))
    have h2 := h m List.mem_cons_self
    rw [List.sum_cons, List.length_cons]
    omega
theorem total_le {az : Nat → List Nat} : ∀ (k : Nat), (∀ j, j < k → (az j).length < 64 ∧ ∀ m ∈ az j, m ≤ 1024) → total az k ≤ 65536 * k
  | 0, _ => by simp [total]
  | k + 1, h => by
    have h1 := total_le k (fun j hj => h j (by omega))
    have h2 := sum_mul_le (az k) (h k (by omega)).2
    have h3 := (h k (by omega)).1
    rw [total_succ]
    omega
theorem seenOf_mem {vals : Nat → List Int} {x : Int} : ∀ {k : Nat}, x ∈ seenOf vals k → ∃ j, j < k ∧ x ∈ vals j := fun {k} h => by
  unfold seenOf at h
  obtain ⟨j, hj, hx⟩ := List.mem_flatMap.1 h
  exact ⟨j, List.mem_range.1 hj, hx⟩
theorem seenOf_pair {vals : Nat → List Int} {n : Nat} (h1 : ∀ j, j < n → (vals j).Pairwise (· ≠ ·)) (h2 : ∀ i j, i < n → j < n → i ≠ j → ∀ x ∈ vals i, ∀ y ∈ vals j, x ≠ y) : ∀ k, k ≤ n → (seenOf vals k).Pairwise (· ≠ ·)
  | 0, _ => by simp [seenOf]
  | k + 1, hk => by
    rw [seenOf_succ, List.pairwise_append]
    refine ⟨seenOf_pair h1 h2 k (by omega), h1 k (by omega), fun x hx y hy => ?_⟩
    obtain ⟨j, hj, hx⟩ := seenOf_mem hx
    exact h2 j k (by omega) (by omega) (by omega) x hx y hy
theorem pair_ne {l : List Int} (h : l.Pairwise (· ≠ ·)) (i k : Nat) (x y : Int) (hk : k < i) (hx : l[i]? = some x) (hy : l[k]? = some y) : x ≠ y := by
  rw [List.pairwise_iff_getElem] at h
  obtain ⟨hi, rfl⟩ := List.getElem?_eq_some_iff.1 hx
  obtain ⟨hk', rfl⟩ := List.getElem?_eq_some_iff.1 hy
  exact fun e => h k i hk' hi hk e.symm

theorem addS_len (start : Int) (az : Nat → List Nat) (j : Nat) : (addS start az j).length ≤ (az j).length + 1 := by
  unfold addS
  rw [List.length_append, List.length_map]
  split <;> simp

set_option maxHeartbeats 4000000 in
theorem run4 (W : World) {sp : Option Addr} {sb so scap : Nat} {sched : List Int} (hS : InI W sp sb so sched) {start : Int} (hst : InR start) {p : Option Addr} {b o n cap : Nat} {qa : Nat → Option Addr} {ca ib io : Nat → Nat} {za : Nat → List Int} (hI : InA W p b o n qa ca ib io za) :
    ∃ M last o w' t', runNT Try.prog (M + 1) (solo (G (Frame.enter Try.prog 4 #[.slice sp sched.length scap, I start, .slice p n cap] .normal) []) W) #[] = (.ended o w', t') ∧
      runN Try.prog M (solo (G (Frame.enter Try.prog 4 #[.slice sp sched.length scap, I start, .slice p n cap] .normal) []) W) = .next last ∧ step Try.prog last = .ended o w' ∧ Go.Conc.Good Try.prog (Post4 W) last o w' t' := by
  have e : Frame.enter Try.prog 4 #[.slice sp sched.length scap, I start, .slice p n cap] .normal = (base 4).at { tmps := #[.slice sp sched.length scap, I start, .slice p n cap] ++ Array.replicate 188 undef, defers := [] } [.code B4] := enter_at (fn := Try.f4) (c := B4) _ Try.func4 (by rfl)
  rw [e, solo_eq_crowd]
  clear e
  have hlaw := @law4_a (fun _ => False) (fun g w' => ∃ (bd : Frame) (ad : Act) (od : Array Oper) (qd : Nat) (rd : List Nat) (oe : Oper) (kd : List Item), (∃ d, w' = W.at d) ∧ od[qd]? = some oe ∧
      (∀ (Ch : Nat → Prop) (Stop : Goroutine → World → Prop) (w1 : World), (∀ a, Fram 191 [(0, .slice sp sched.length scap), (1, I start), (2, .slice p n cap), (7, .bool true)] a → GoesI Try.prog true (DT (ScZ zn) Ch) Stop (G ((base 4).at a [.code R4]) []) w1) → GoesI Try.prog true (DT (ScZ zn) Ch) Stop (G (bd.at (ad.put oe.dst (.bool true)) (.inRegion od rd :: kd)) []) w1) ∧
      g = G ((base 17).at { tmps := Array.replicate 72 undef, defers := [] } [.code B6]) [bd.at ad (.inRegion od (qd :: rd) :: kd)]) true W (.slice sp sched.length scap) (I start) (.slice p n cap)
    (fun w' bd ad od qd rd oe kd hw ho hback => GoesI.stop fun d => ⟨bd, ad, od, qd, rd, oe, kd, by obtain ⟨d0, rfl⟩ := hw; exact ⟨d, rfl⟩, ho, hback, rfl⟩)
  generalize (base 4).at { tmps := #[.slice sp sched.length scap, I start, .slice p n cap] ++ Array.replicate 188 undef, defers := [] } [.code B4] = F0 at hlaw ⊢
  have A : Alone #[G F0 []] W #[] (fun _ => 0) := ⟨leavers_one _ _, 0, Nat.zero_le _, past_nil⟩
  obtain ⟨N1, gs1, a1, w1, sl1, T1, q1, r1, z1, h1, ⟨bd, ad, od, qd, rd, oe, kd, ⟨d1, rfl⟩, hoe, hback, rfl⟩, A1⟩ := alone_goes A rfl none hlaw
  obtain ⟨N2, gs2, w2, sl2, T2, q2, r2, h2, A2, g2⟩ := awake_all hoe sl1 A1 h1
  have g2' : Grows W w2 := ⟨g2.size, g2.old, g2.os, g2.output⟩
  have hS2 := hS.grows g2'
  have hI2 := hI.stn (P := fun _ => True) g2'
  have fin : ∀ (N4 : Nat) (gs4 : Array Goroutine) (w4 : World) (sl4 : Option (Nat × Nat)) (T4 : Trace) (q4 : Nat → Nat) (a4 : Goroutine), runNT Try.prog N4 (crowd gs2 w2 sl2) T2 = (.next (crowd gs4 w4 sl4), T4) → gs4[0]? = some a4 → Alone gs4 w4 T4 q4 → (∃ a' todo, a'.defers = [] ∧ a'.tmps.getD 6 undef = .bool true ∧ Grows W w4 ∧ a4 = G { (base 4).at a' todo with mode := .returning } []) →
      ∃ M last o w' t', runNT Try.prog (M + 1) (crowd #[G F0 []] W none) #[] = (.ended o w', t') ∧ runN Try.prog M (crowd #[G F0 []] W none) = .next last ∧ step Try.prog last = .ended o w' ∧ Go.Conc.Good Try.prog (Post4 W) last o w' t' := by
    intro N4 gs4 w4 sl4 T4 q4 a4 r4 h4 A4 ⟨a', todo, hd, h6, g4, ea⟩
    subst ea
    obtain ⟨M5, last, o, w', t', e1, e2, e3, e4⟩ := alone_ends A4 h4 sl4 (Post := Post4 W) (fun B d => ⟨rfl, .bool true, #[], end4 hd h6, fun e he => by simp at he, rfl, ⟨g4.size, g4.old, g4.os, g4.output⟩⟩)
    have hrun := runNT_then (runNT_then r1 r2) r4
    refine ⟨N1 + N2 + N4 + M5, last, o, w', t', ?_, ?_, e3, e4⟩
    · rw [Nat.add_assoc, runNT_add, hrun]; exact e1
    · rw [runN_add, ← runNT_fst Try.prog _ _ #[], hrun]; exact e2
  -- to Play, or to the end
  obtain ⟨N3, gs3, a3, w3, sl3, T3', q3, r3, z3, h3, hs3, A3⟩ := alone_goes A2 h2 sl2 (hback (fun _ => False) (fun g w' => (∃ a' todo, a'.defers = [] ∧ a'.tmps.getD 6 undef = .bool true ∧ Grows W w' ∧ g = G { (base 4).at a' todo with mode := .returning } []) ∨
      (∃ (v5 : World) (wb bk : Nat) (sc : Value) (og ocap : Nat) (pc : Nat → Option Addr) (cp rb : Nat → Nat) (vb : Nat) (bd : Frame) (ad : Act) (od : Array Oper) (qd : Nat) (rd : List Nat) (oe : Oper) (kd : List Item), (0 < n ∧ n ≤ 8) ∧ (∀ j, j < n → (za j).length < 64) ∧ Set4 w2 start (azOf za) n sched wb bk sc og pc cp rb vb v5 w' ∧ od[qd]? = some oe ∧
        (∀ (Ch : Nat → Prop) (Stop : Goroutine → World → Prop) (v2 w2 : World) (M : Nat), Rel zn v2 w2 → NoRow Ch v2 → Got4 v2 start p b o n qa ca ib io za og pc cp wb M →
          (∀ a' v' w' todo, Rel zn v' w' → Grows v2 v' → a'.defers = [] → a'.tmps.getD 6 undef = .bool true → GoesI Try.prog true (DT (ScZ zn) Ch) Stop (G { (base 4).at a' todo with mode := .returning } []) w') →
          GoesI Try.prog true (DT (ScZ zn) Ch) Stop (G (bd.at (ad.put oe.dst (.tuple #[.slice (some ⟨M, 0, none⟩) n n, I 0])) (.inRegion od rd :: kd)) []) w2) ∧
        g = G ((base 19).at { tmps := #[Pt wb 0, .slice (some ⟨vb, 0, none⟩) 1 1, .slice (some ⟨og, 0, none⟩) n ocap] ++ Array.replicate 39 undef, defers := [] } [.code B8]) [bd.at ad (.inRegion od (qd :: rd) :: kd)])) w2
    (law4_b hS2 hst hI2 (Rel.refl w2) (fun c hc => hc.elim) (fun a' v' w' todo hr hgr hd h6 => GoesI.stop fun d => .inl ⟨a', todo, hd, h6, by
        have e : (w'.at d).heap = v'.heap := hr.eq
        have := g2'.trans' hgr
        exact ⟨by rw [e]; exact this.size, fun b hb => by rw [e]; exact this.old b hb, hr.os.trans this.os, hr.output.trans this.output⟩, rfl⟩)
      (fun v' w' v5 wb bk sc og ocap pc cp rb vb bd ad od qd rd oe kd hr hn hn8 h64 hset ho hend => GoesI.stop fun d => .inr ⟨v5, wb, bk, sc, og, ocap, pc, cp, rb, vb, bd, ad, od, qd, rd, oe, kd, hn8, h64, by
        have e : (w'.at d).heap = v'.heap := hr.eq
        have hgr : Grows v' (w'.at d) := ⟨by rw [e]; exact Nat.le_refl _, fun b _ => by rw [e], hr.os, hr.output⟩
        refine ⟨hset.old, ⟨(hset.new.mem.grows hgr).mem, ?_, hset.new.new, hset.new.old.trans' hgr⟩, hset.scr, hgr.cell hset.val, hset.far⟩
        obtain ⟨c, m, h⟩ := hset.new.opn
        exact ⟨c, m, by rw [e]; exact h⟩, ho, hend, rfl⟩)))
  rcases hs3 with hs3 | ⟨v5, wb, bk, sc, og, ocap, pc, cp, rb, vb, bd, ad, od, qd, rd, oe, kd, hn8, h64, hset, hoe3, hend3, rfl⟩
  · exact fin _ gs3 w3 sl3 T3' q3 a3 r3 h3 A3 hs3
  have hKof : ∀ K : List (Nat × Int), K.map (·.2) = [start] → ∃ cb, K = [(cb, start)] := fun K hK => by
    match K, hK with
    | [], hK => cases hK
    | [x], hK =>
      obtain ⟨a, b⟩ := x
      simp only [List.map_cons, List.map_nil, List.cons.injEq, and_true] at hK
      subst hK
      exact ⟨a, rfl⟩
    | x :: y :: l, hK => simp at hK
  have haz64 : ∀ j, j < n → (azOf za j).length < 64 := fun j hj => by rw [azOf_len]; exact h64 j hj
  have hl64 : ∀ j, j < n → (addS start (azOf za) j).length ≤ 64 := fun j hj => by have := addS_len start (azOf za) j; have := haz64 j hj; omega
  have hlens : ∀ N K, lens (scrs N n (w3.heap.size + 1) w3.heap.size [start].length K pc (fun j => (addS start (azOf za) j).length) cp rb (addS start (azOf za))) ≤ 512 := fun N K => Nat.le_trans (lens_scrs _ _ _ _ _ _ _ _ _ _ _ hl64) (by omega)
  obtain ⟨N4, gs4, w4, sl4, T4, q4, N, cv, K, S', S1, l1, m, p', r4, z4, h4, A4, hK, hnv, hH, hT, O⟩ := play8_all (S := newS wb bk v5.heap.size sc sched) (xs := [start]) (n := n) (sb := og) (so := 0) (vb := vb) (vo := 0) (vcap := 1) (cap := ocap) (pc := pc) (ln := fun j => (addS start (azOf za) j).length) (cp := cp) (rb := rb) (cl := addS start (azOf za)) hoe3 sl3 12305 A3 h3 hset.new.mem rfl rfl rfl hset.new.opn (asked_of hset.scr hset.new hl64 hn8.1) hn8 (show 0 < 1 by decide) (show 1 ≤ 17592186043904 by decide) (fun k x hk => by
      match k, hk with
      | 0, hk => cases hk; exact hset.val
      | k + 1, hk => simp at hk) hset.far (fun N K => by
      have := hlens N K
      show 0 + 2 * _ ≤ 1000000
      omega) (by have := hS.len; show sched.length ≤ _; omega) (fun x hx => hS.inr x hx) (fun _ => .done []) (fun N cv K hK S1 l1 hH => play_ends hH rfl (by rw [scrs_len]; exact hn8.2) (hlens N K) rfl)
  obtain ⟨cb, rfl⟩ := hKof K hK
  obtain ⟨hsm, hswb⟩ := play_small hH hT rfl (by rw [scrs_len]; exact hn8.2) (hlens N _) rfl
  have htot : total (azOf za) n ≤ 1000000 := by
    have := total_le (az := azOf za) n (fun j hj => ⟨haz64 j hj, fun m hm => (azOf_le hm).2⟩)
    omega
  obtain ⟨AA, hAA, hdis, L, t1, t2, t3⟩ := play_adds (n := n) (az := azOf za) (cb := cb) hst hH hT rfl hn8.2 (scrs_len _ _ _ _ _ _ _ _ _ _ _) rfl rfl (fun j s hj => by
    have hjn : j < n := by have := (List.getElem?_eq_some_iff.1 hj).1; rw [scrs_len] at this; exact this
    simp only [scrs, List.getElem?_map] at hj
    rw [List.getElem?_range' hjn] at hj
    cases hj
    show addS start (azOf za) (0 + 1 * j) = _ ∧ (List.replicate (addS start (azOf za) (0 + 1 * j)).length _).length = _
    rw [Nat.zero_add, Nat.one_mul]
    exact ⟨rfl, by simp⟩) (fun i _ m hm => (azOf_le hm).1) htot (fun j hj => (O.ans j hj).2.2)
  have hSn : S'.n = L.length := by have := congrArg TS.n hnv; exact this.trans t2
  have hStr : S'.tr = flat L := by have := congrArg TS.tr hnv; exact this.trans t1
  have hSw : S'.wb = wb := (congrArg TS.wb hnv).trans hswb
  have hn1 : S'.n ≤ 1000000 := by
    have : S'.n = p'.S.n := by have := congrArg TS.n hnv; exact this
    omega
  have g54 : Grows v5 w4 := by
    have hs := hset.new.old
    refine ⟨by have := hs.size; have := O.size; omega, fun b hb => ?_, O.os.trans hs.os, O.out.trans hs.output⟩
    rw [(O.old b (by have := hs.size; omega) (fun h => by have := hset.new.new b (.inl h); omega) (fun h => by have := hset.new.new b (.inr h); omega)).1]
    exact hs.old b hb
  have gW : Grows W w4 := g2'.trans' (hset.old.trans' g54)
  have hgot : Got4 w4 start p b o n qa ca ib io za og pc cp wb (N + 1) := by
    have hvals : ∀ j, j < n → (if j < n then (AA j).map fun x : Nat => wrap64 (start + x) else []) = (AA j).map fun x : Nat => wrap64 (start + x) := fun j hj => if_pos hj
    have hlen : ∀ j, j < n → (AA j).length = (za j).length := fun j hj => by
      obtain ⟨ans, _, _, h, _⟩ := hAA j hj
      rw [h, azOf_len]
    have hinj : ∀ j, j < n → ∀ x ∈ AA j, x ≤ 1000000 := fun j hj => by
      obtain ⟨ans, _, _, _, _, h, _⟩ := hAA j hj
      exact h
    refine ⟨hI.stn (P := fun _ => True) gW, ⟨fun j => N + 4 + 3 * j + 2, fun j => if j < n then (AA j).map fun x : Nat => wrap64 (start + x) else [], ⟨O.rows, fun j hj => ?_, fun j hj k x hx => ?_, fun j hj => ?_⟩, fun j hj => ?_, fun j => ?_, pair_ne (seenOf_pair (n := n) (fun j hj => ?_) (fun i j hi hj hne x hx y hy => ?_) n (Nat.le_refl _))⟩, ⟨S', L, hSw, O.mem.rep, hStr, hSn, hn1, t3⟩⟩
    · have := g54.cell (hset.scr.row j hj)
      rw [Nat.zero_add] at this
      exact this
    · rw [hvals j hj] at hx
      obtain ⟨ans, hl, hal, _, hget, _⟩ := hAA j hj
      rw [List.getElem?_map] at hx
      cases hy : (AA j)[k]? with
      | none => rw [hy] at hx; cases hx
      | some y =>
        rw [hy] at hx
        cases hx
        have h0 : 0 < (addS start (azOf za) j).length := by
          have := (List.getElem?_eq_some_iff.1 (hget k y hy)).1
          omega
        have hrow := (O.ans j hj).2.1 h0
        have ea : (p'.l j).ans = ans := by rw [hl]; rfl
        rw [ea] at hrow
        have := (arow_get ans k _ (hget k y hy)).2
        unfold World.cell?
        rw [show w4.heap[N + 4 + 3 * j + 2]? = _ from hrow]
        simpa using this
    · rw [hvals j hj, List.length_map, hlen j hj]
      have h1 := hl64 j hj
      have h2 : (azOf za j).length ≤ (addS start (azOf za) j).length := by unfold addS; simp
      rw [azOf_len] at h2
      exact ⟨h2, h1⟩
    · show (if j < n then (AA j).map fun x : Nat => wrap64 (start + x) else []).length = _
      rw [hvals j hj, List.length_map, hlen j hj]
    · show (if j < n then (AA j).map fun x : Nat => wrap64 (start + x) else []).length ≤ 64
      by_cases hj : j < n
      · rw [if_pos hj, List.length_map, hlen j hj]
        have := h64 j hj
        omega
      · rw [if_neg hj]; exact Nat.zero_le _
    · rw [hvals j hj, List.pairwise_map]
      obtain ⟨ans, _, _, _, _, _, hp⟩ := hAA j hj
      refine (List.Pairwise.and_mem.1 hp).imp (fun {x y} ⟨hx, hy, hne⟩ e => hne (wrap_apart (hinj j hj x hx) (hinj j hj y hy) e))
    · rw [hvals i hi] at hx
      rw [hvals j hj] at hy
      obtain ⟨x', hx', rfl⟩ := List.mem_map.1 hx
      obtain ⟨y', hy', rfl⟩ := List.mem_map.1 hy
      exact fun e => hdis i j hi hj hne x' hx' y' hy' (wrap_apart (hinj i hi x' hx') (hinj j hj y' hy') e)
  obtain ⟨N5, gs5, a5, w5, sl5, T5, q5, r5, z5, h5, hs5, A5⟩ := alone_goes A4 h4 sl4 (hend3 (fun _ => False) (fun g w' => ∃ a' todo, a'.defers = [] ∧ a'.tmps.getD 6 undef = .bool true ∧ Grows W w' ∧ g = G { (base 4).at a' todo with mode := .returning } []) w4 w4 (N + 1) (Rel.refl w4) (fun c hc => hc.elim) hgot (fun a' v' w' todo hr hgr hd h6 => GoesI.stop fun d => ⟨a', todo, hd, h6, by
    have e : (w'.at d).heap = v'.heap := hr.eq
    have := gW.trans' hgr
    exact ⟨by rw [e]; exact this.size, fun b hb => by rw [e]; exact this.old b hb, hr.os.trans this.os, hr.output.trans this.output⟩, rfl⟩))
  exact fin _ gs5 w5 sl5 T5 q5 a5 (runNT_then (runNT_then r3 r4) r5) h5 A5 hs5
end Go.Proofs.Ytfjjoohflcchnaa

namespace Go.Proofs.Ytfjjoohflcchnaa
open Go Go.Lift Go.Conc
open Go.ChangeShapes Go.WideShapes Go.ChangeAt Go.RowKit Go.Joins Go.Deep

theorem op_knob : ownKnob Try.prog.godebug = none := by kernel_rfl
theorem op_cells3 : Try.prog.cellsOf 3 = 1 := by kernel_rfl
theorem op_bytes3 : Try.prog.bytesOf 3 = 8 := by kernel_rfl
theorem inr_of {n : Int} (h : (Lit.int .i64 n).wf = true) : InR n := by
  have := bounds_i64 h
  unfold InR
  omega

section
variable {H : Type} {enc : TypeId × Value → H} {w : World}
set_option maxRecDepth 100000 in
/-- A list of numbers that came in. -/
theorem ints_in {r : Reach} {b0 : Nat} {v : Value} {d : DataW H} {ps : List MemPlace} (hv : Value.okWide Try.prog w r b0 22 v) (h : DataW.Trod enc Try.prog w 0 (fun _ => true) true 22 v d ps) (hsz : ∀ elems spare, d = .slice elems spare → (elems.length + spare.length) * Try.prog.bytesOf 3 ≤ reachBytes) :
    ∃ (p : Option Addr) (cap b o : Nat) (xs : List Int), v = .slice p xs.length cap ∧ InI w p b o xs := by
  obtain ⟨a0, len0, cap0, rfl⟩ := okWide_slice Try.underlying22 hv
  obtain ⟨fuel, hf⟩ := h
  rcases open_ints Try.underlying22 Try.underlying3 op_cells3 hf with ⟨hcs, _⟩ | ⟨x, l, c, zs, hcs, _, hl, hm, hz, hx, hcell, hwf⟩
  · simp [Value.cells] at hcs
    obtain ⟨rfl, rfl, rfl⟩ := hcs
    exact ⟨none, 0, 0, 0, [], rfl, ⟨fun h => by simp at h, fun k x hk => by simp at hk, fun x hx => by simp at hx, Nat.zero_le _⟩⟩
  · simp [Value.cells] at hcs
    obtain ⟨rfl, rfl, rfl⟩ := hcs
    have hz' : zs.length = cap0 := by simpa using hz
    have ht : (zs.take len0).length = len0 := by rw [List.length_take]; omega
    have hb := hsz _ _ (congrArg Prod.fst hx)
    have hlz : ∀ (k : IntKind) (l : List Int), (ChangeShapes.lits (H := H) k l).length = l.length := fun k l => by simp [ChangeShapes.lits]
    rw [op_bytes3, hlz, hlz, ht] at hb
    have hlen : len0 ≤ 17592186043904 := by unfold reachBytes at hb; omega
    obtain ⟨b, off, spot⟩ := x
    by_cases h0 : len0 = 0
    · subst h0
      exact ⟨_, _, 0, 0, [], rfl, ⟨fun h => by simp at h, fun k x hk => by simp at hk, fun x hx => by simp at hx, Nat.zero_le _⟩⟩
    · have hspot : spot = none := by simpa [Addr.add] using World.cell?_spot (hcell 0 (by omega))
      subst hspot
      refine ⟨_, _, b, off, zs.take len0, by rw [ht], ⟨fun _ => rfl, fun i a hi => ?_, fun x hx => inr_of (hwf x (List.mem_of_mem_take hx)), by rw [ht]; exact hlen⟩⟩
      have hil : i < len0 := by have := (List.getElem?_eq_some_iff.1 hi).1; omega
      have hc := hcell i (by omega)
      have hadd : (⟨b, off, none⟩ : Addr).add i = ⟨b, off + i, none⟩ := by unfold Addr.add; split <;> simp_all
      rw [hadd] at hc
      have ha : zs.getD i 0 = a := by
        rw [List.getElem?_take_of_lt hil] at hi
        rw [List.getD_eq_getElem?_getD, hi]
        rfl
      rw [ha] at hc
      exact hc

/-- A script that came in. -/
def Sc (w : World) (v : Value) (q : Option Addr × Nat × Nat × List Cl) : Prop :=
  v = .slice q.1 q.2.2.2.length q.2.1 ∧ (0 < q.2.2.2.length → q.1 = some ⟨q.2.2.1, roOf q.1, none⟩) ∧ (∀ (k : Nat) (c : Cl), q.2.2.2[k]? = some c → w.cell? ⟨q.2.2.1, roOf q.1 + k * 4, none⟩ = some (I c.po) ∧ w.cell? ⟨q.2.2.1, roOf q.1 + k * 4 + 1, none⟩ = some (I c.ca) ∧ w.cell? ⟨q.2.2.1, roOf q.1 + k * 4 + 2, none⟩ = some (I c.cb) ∧ w.cell? ⟨q.2.2.1, roOf q.1 + k * 4 + 3, none⟩ = some (I c.cc)) ∧ ∀ c ∈ q.2.2.2, InR c.ca ∧ c.ok
end

theorem grows_frame {W w' : World} (h : Grows W w') (may : MemPlace → Prop) : W.keptBut w' may := by
  refine ⟨h.os, h.output, fun i hi => ?_⟩
  rw [h.old i hi]
  split <;> simp_all
theorem grows_same {W w' : World} (h : Grows W w') {p : MemPlace} (hp : p.block < W.heap.size) : W.sameAt w' p := by
  cases p with
  | cell b o => exact World.cell?_of_block (w := W) (h.old b hp)
  | map b => exact h.old b hp
theorem op_laid : laidOutB Try.prog = true := by kernel_rfl
theorem grows_trod {H : Type} {enc : TypeId × Value → H} {t : TypeId} (hr : Try.prog.readableRec t = true) (hrow : t < Try.prog.types.size) {W W' : World} {v : Value} {d : DataW H} {ps : List MemPlace}
    (h : DataW.Trod enc Try.prog W 0 (fun _ => true) true t v d ps) (hb : Grows W W') (hlt : ∀ x ∈ ps, x.block < W.heap.size) :
    DataW.Trod enc Try.prog W' 0 (fun b => decide (b < W.heap.size)) true t v d ps :=
  WideElems.Trod_stays op_laid hr hrow h (fun x hx => grows_same hb (hlt x hx)) (fun x hx => by simpa using hlt x hx)
end Go.Proofs.Ytfjjoohflcchnaa

namespace Go.Proofs.Ytfjjoohflcchnaa
open Go Go.Lift Go.Conc
open Go.ChangeShapes Go.WideShapes Go.ChangeAt Go.RowKit Go.Joins Go.Deep

theorem op_cells22 : Try.prog.cellsOf 22 = 1 := by kernel_rfl
section
variable {H : Type} {enc : TypeId × Value → H} {w : World}
/-- A list within a list. -/
def Li (w : World) (v : Value) (q : Option Addr × Nat × Nat × Nat × List Int) : Prop :=
  v = .slice q.1 q.2.2.2.2.length q.2.1 ∧ (0 < q.2.2.2.2.length → q.1 = some ⟨q.2.2.1, q.2.2.2.1, none⟩) ∧ ∀ (k : Nat) (x : Int), q.2.2.2.2[k]? = some x → w.cell? ⟨q.2.2.1, q.2.2.2.1 + k, none⟩ = some (I x)
set_option maxRecDepth 100000 in
theorem list_in {fuel : Nat} {cs : List Value} {y : DataW H × List MemPlace} (h : DataW.trod enc Try.prog w 0 (fun _ => true) true fuel 22 cs = some y) : ∃ v q, cs = [v] ∧ Li w v q := by
  rcases open_ints Try.underlying22 Try.underlying3 op_cells3 h with ⟨hcs, _⟩ | ⟨x, l, c, zs, hcs, _, hl, hm, hz, hx, hcell, hwf⟩
  · exact ⟨_, (none, 0, 0, 0, []), hcs, rfl, (fun h => by simp at h), fun k c h => by simp at h⟩
  · have hz' : zs.length = c := by simpa using hz
    have ht : (zs.take l).length = l := by rw [List.length_take]; omega
    obtain ⟨b, off, spot⟩ := x
    by_cases h0 : l = 0
    · subst h0
      exact ⟨_, (some ⟨b, off, spot⟩, c, 0, 0, []), hcs, rfl, (fun h => by simp at h), fun k c h => by simp at h⟩
    · have hspot : spot = none := by simpa [Addr.add] using World.cell?_spot (hcell 0 (by omega))
      subst hspot
      refine ⟨_, (some ⟨b, off, none⟩, c, b, off, zs.take l), hcs, by show Value.slice _ l c = .slice _ (zs.take l).length c; rw [ht], fun _ => rfl, fun i a hi => ?_⟩
      have hil : i < l := by have := (List.getElem?_eq_some_iff.1 hi).1; simp only at this; omega
      have hc := hcell i (by omega)
      have hadd : (⟨b, off, none⟩ : Addr).add i = ⟨b, off + i, none⟩ := by unfold Addr.add; split <;> simp_all
      rw [hadd] at hc
      have ha : zs.getD i 0 = a := by
        have hi' : (zs.take l)[i]? = some a := hi
        rw [List.getElem?_take_of_lt hil] at hi'
        rw [List.getD_eq_getElem?_getD, hi']
        rfl
      rw [ha] at hc
      exact hc
set_option maxRecDepth 100000 in
/-- Lists of numbers that came in. -/
theorem lists_in {r : Reach} {b0 : Nat} {v : Value} {d : DataW H} {ps : List MemPlace} (hv : Value.okWide Try.prog w r b0 36 v) (h : DataW.Trod enc Try.prog w 0 (fun _ => true) true 36 v d ps) :
    ∃ (p : Option Addr) (b o n cap : Nat) (qa : Nat → Option Addr) (ca ib io : Nat → Nat) (za : Nat → List Int), v = .slice p n cap ∧ InA w p b o n qa ca ib io za := by
  obtain ⟨a0, len0, cap0, rfl⟩ := okWide_slice Try.underlying36 hv
  obtain ⟨fuel, hf⟩ := h
  have nothing : ∀ p cap, ∃ (p' : Option Addr) (b o n cap' : Nat) (qa : Nat → Option Addr) (ca ib io : Nat → Nat) (za : Nat → List Int), (Value.slice p 0 cap) = .slice p' n cap' ∧ InA w p' b o n qa ca ib io za := fun p cap =>
    ⟨p, 0, 0, 0, cap, fun _ => none, fun _ => 0, fun _ => 0, fun _ => 0, fun _ => [], rfl, ⟨fun h => by omega, fun k hk => by omega, fun k hk => by omega, fun k hk => by omega⟩⟩
  rcases open_slice Try.underlying36 hf with ⟨hcs, _⟩ | ⟨ad, len, cap, m, k, D, Pl, hcs, _, hl, hm, hmm, hxe, hx⟩
  · simp [Value.cells] at hcs
    obtain ⟨rfl, rfl, rfl⟩ := hcs
    exact nothing _ _
  · simp [Value.cells] at hcs
    obtain ⟨rfl, rfl, rfl⟩ := hcs
    simp only [if_true] at hmm
    subst hmm
    have each : ∀ i, i < len0 → ∃ q : Option Addr × Nat × Nat × Nat × List Int, ∃ v, w.cell? ((ad.add (i * 1)).add 0) = some v ∧ Li w v q := by
      intro i hi
      obtain ⟨cs', h1, h2⟩ := hx i (by omega)
      rw [op_cells22] at h1
      obtain ⟨_, hlen, hc⟩ := World.cells?_some h1
      obtain ⟨v, q, rfl, hq⟩ := list_in h2
      exact ⟨q, v, hc 0 (by omega), hq⟩
    have ie : Inhabited (Option Addr × Nat × Nat × Nat × List Int) := ⟨(none, 0, 0, 0, [])⟩
    obtain ⟨q, hq⟩ := choose_lt each
    obtain ⟨b, off, spot⟩ := ad
    by_cases h0 : len0 = 0
    · subst h0
      exact nothing _ _
    · obtain ⟨v0, hv0, _⟩ := hq 0 (by omega)
      have hspot : spot = none := by
        have := World.cell?_spot hv0
        simpa [Addr.add] using this
      subst hspot
      have hadd : ∀ (o j : Nat), (⟨b, o, none⟩ : Addr).add j = ⟨b, o + j, none⟩ := by intro o j; unfold Addr.add; split <;> simp_all
      refine ⟨some ⟨b, off, none⟩, b, off, len0, _, fun i => (q i).1, fun i => (q i).2.1, fun i => (q i).2.2.1, fun i => (q i).2.2.2.1, fun i => (q i).2.2.2.2, rfl, ⟨fun _ => rfl, fun i hi => ?_, fun i hi h => ?_, fun i hi k c hc => ?_⟩⟩
      · obtain ⟨v, h1, h2⟩ := hq i hi
        rw [hadd, hadd, Nat.mul_one, h2.1] at h1
        exact h1
      · obtain ⟨v, h1, h2⟩ := hq i hi
        exact h2.2.1 h
      · obtain ⟨v, h1, h2⟩ := hq i hi
        exact h2.2.2 k c hc
end

set_option maxRecDepth 100000 in
theorem adds_lifted (os : Os) (started : os.Started) (H : Type) (enc : TypeId × Value → H) :
    ReturnsInLeavingWide {} Try.checked os 4 .any (Rows.cellAddsSpec.pre6 enc Try.prog Try.f4 Rows.cellAddsRow.domain false) (Rows.cellAddsSpec.post enc Try.prog Try.f4 false true false false) := by
  refine returnsInLeavingWide_of_change_sized (C := Try.checked) op_knob started Try.func4
    (ChangeSpec.witness6 (enc := enc) (C := Try.checked) false ⟨#[], #[.slice none 0 0, .int .i64 0, .slice none 0 0], []⟩ 8 (by kernel_rfl) (by kernel_rfl) (by kernel_rfl) (by kernel_rfl)) ?_
  intro W base args ds gs before hval0 hW _ hsz0 _
  have hval : ∀ (j : Nat) t v, Try.f4.params[j]? = some t → args[j]? = some v → Value.okWide Try.prog W .any base t v := hval0
  have hW' := hW
  obtain ⟨p, q, hA0, hV, rfl, _, _⟩ := hW
  have hA : DataW.TrodAll enc Try.prog W 0 (fun _ => true) true Try.f4.params.toList args.toList ds p := hA0
  have hsz : (DataW.weightsEach Try.prog (Try.f4.params.toList ++ Rows.cellAddsSpec.plain.varTypes Try.prog) (ds ++ gs)).all (· ≤ reachBytes) = true := hsz0
  rw [Try.params4] at hA hval hsz
  obtain ⟨v0, vs0, d0, ds0, p0, q0, hargs, rfl, rfl, h0, r0⟩ := trodAll_cons hA
  obtain ⟨v1, vs1, d1, ds1, p1, q1, rfl, rfl, rfl, h1, r1⟩ := trodAll_cons r0
  obtain ⟨v2, vs2, d2, ds2, p2, q2, rfl, rfl, rfl, h2, r2⟩ := trodAll_cons r1
  obtain ⟨rfl, rfl, rfl⟩ := trodAll_nil r2
  obtain rfl : args = #[v0, v1, v2] := by cases args; simp_all
  obtain ⟨rfl, rfl⟩ := trodVars_none hV
  have k0 := h0
  have k1 := h1
  have k2 := h2
  have lt0 : ∀ x ∈ p0, x.block < W.heap.size := by obtain ⟨m, hm⟩ := k0; exact DataW.trod_lt m _ _ _ hm
  have lt1 : ∀ x ∈ p1, x.block < W.heap.size := by obtain ⟨m, hm⟩ := k1; exact DataW.trod_lt m _ _ _ hm
  have lt2 : ∀ x ∈ p2, x.block < W.heap.size := by obtain ⟨m, hm⟩ := k2; exact DataW.trod_lt m _ _ _ hm
  obtain ⟨sp, scap, sb, so, sched, e0, hS⟩ := ints_in (hval 0 22 v0 rfl rfl) h0 (fun el sp e => sized_slice hsz (j := 0) rfl (by rw [e]; rfl) Try.underlying22)
  obtain ⟨start, e1, _, _, hwf⟩ := open_int Try.underlying3 (hval 1 3 v1 rfl rfl) h1
  obtain ⟨pp, b, o, n, cap, qa, ca, ib, io, za, e2, hI⟩ := lists_in (hval 2 36 v2 rfl rfl) h2
  clear hA0 hval0 hsz0
  subst e0 e1 e2
  simp only [List.append_nil] at hW'
  obtain ⟨M, last, o', w', t', g1, g2, g3, g4⟩ := run4 (scap := scap) (cap := cap) W hS (inr_of hwf) hI
  refine ⟨M, last, o', w', t', g1, g2, g3, g4.mono fun v hF => ?_⟩
  obtain ⟨rfl, bel⟩ : Post4 W v w' := hF
  exact ⟨_, _, _, [], _, [], hW', trodAll_mk1 (shut_bool Try.underlying4 _),
    (trodAll_cons_mk (grows_trod (by kernel_rfl) (of_decide_eq_true (by kernel_rfl)) k0 bel lt0)
    (trodAll_cons_mk (grows_trod (by kernel_rfl) (of_decide_eq_true (by kernel_rfl)) k1 bel lt1)
    (trodAll_cons_mk (grows_trod (by kernel_rfl) (of_decide_eq_true (by kernel_rfl)) k2 bel lt2) trodAll_mk0))), rfl, grows_frame bel _, fun h => by cases h⟩

theorem cellAdds_holds : Rows.CellAddsSaid :=
  OpenClaim.holds_of_wide_leaving 4 Try.f4 rfl rfl rfl rfl rfl rfl rfl ⟨rfl, rfl, rfl, rfl, rfl⟩ rfl rfl rfl rfl rfl (by kernel_rfl) Try.func4 (by kernel_rfl)
    (of_decide_eq_true (by kernel_rfl)) (by unfold Func.isWrapper; first | (rw [if_pos (by decide +kernel)]; kernel_rfl) | (rw [if_neg (by decide +kernel)]; exact ⟨rfl, rfl⟩))
    (fun os started H enc _ => adds_lifted os started H enc)

#print axioms cellAdds_holds
end Go.Proofs.Ytfjjoohflcchnaa
